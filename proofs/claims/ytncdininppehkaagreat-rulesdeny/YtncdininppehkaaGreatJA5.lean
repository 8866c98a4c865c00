/- Texts joined: Qa, Qb, Qc, Qd, Oc, Qe. -/
import Derived.Shelf.SlSortCmp.NoneTotal
import Derived.Laws.EntriesVeiled
import Derived.Deep.QuietTactic
import Derived.BigQuiet
import Derived.Deep.RegionHeld3
import Derived.Test.YtncdininppehkaaGreatJA4
namespace Go.Proofs.YtncdininppehkaaGreat
open Go.RowKit
set_option linter.unusedVariables false
set_option maxRecDepth 100000
set_option maxHeartbeats 16000000
theorem eY (w:World) (a:Addr) (v:Value):w.grownBy (w.setCell a v) (some a.block):=⟨rfl,rfl,rfl,by simp,fun k _ hk=>heap_setCell_other w a k v (fun e=>hk (by simp [e]))⟩
theorem FR.set {w:World} {B:Nat} {u:Value} {fs:List Fl} (h:FR w B u fs) {a:Addr} (ha:a.block<B) (v:Value):FR (w.setCell a v) B u fs:=by
 obtain⟨lo,h1,h2,h3⟩:=h;have hg:=eY w a v;have far:∀y:Value,(∀g,y.ownBlock=some g→B≤g)→y.ownBlock=none∨y.ownBlock≠some a.block:=fun y hy=>by
  cases e:y.ownBlock with
  | none=>exact .inl rfl
  | some b=>exact .inr fun e'=>by have:=hy b e;simp at e';omega
 refine⟨lo,h1,h2.kept hg (far u (aF h2)),fun x hx=>?_⟩
 obtain⟨k0,k1,k2,k3,k4⟩:=h3 x hx
 exact⟨⟨k0.1.kept hg (far _ k3),k0.2.1.kept hg (far _ k4),fun g e=>by simpa using k0.2.2.1 g e,fun g e=>by simpa using k0.2.2.2 g e⟩,k1,k2,k3,k4⟩
theorem fy {B:Nat} {a w:World} (h:Below B a w) {p:Addr} (hp:B≤p.block) (v:Value):Below B a (w.setCell p v):=h.setCell hp v
def But (w w':World) (fb:Nat) (u:Value):Prop:=∀b o,b<w.heap.size→b≠fb→u.ownBlock≠some b→w'.cell? ⟨b,o,none⟩=w.cell? ⟨b,o,none⟩
theorem RowAt.but {α:Type} {C:α→List Value} {sz:Nat} {w w':World} {fb pk n cap:Nat} {u:Value} {l:List α} (h:RowAt C sz w (.slice (some ⟨pk,0,none⟩) n cap) l) (hb:But w w' fb u) (h1:pk≠fb) (h2:u.ownBlock≠some pk):RowAt C sz w' (.slice (some ⟨pk,0,none⟩) n cap) l:=by
 obtain⟨a,c,hv,hn,h0 |⟨b,off,ha,hc,hL⟩⟩:=h
 ·exact⟨a,c,hv,hn,.inl h0⟩
 ·refine⟨a,c,hv,hn,.inr ⟨b,off,ha,hc,fun i x hx j v hj=>?_⟩⟩
  have e:=hL i x hx j v hj;simp only [Value.slice.injEq]at hv;obtain⟨e1,_,_⟩:=hv;rw [ha]at e1;simp only [Option.some.injEq,Addr.mk.injEq]at e1;obtain⟨rfl,_,_⟩:=e1
  exact(hb _ _ (am e) h1 h2).trans e
theorem j9 {u:Value} {H gq n c w0:Nat} (ha:u.ownBlock=some gq∨gq=H) (hH:w0≤H):∀b,b<w0→u.ownBlock≠some b→(Value.slice (some ⟨gq,0,none⟩) n c).ownBlock≠some b:=fun b hb hne e=>by
 have e2:gq=b:=by simpa [Value.ownBlock] using e
 subst e2
 rcases ha with h | h
 ·exact hne h
 ·omega
theorem it (s ip mac ch:Int) (fs:List Fl) (u:Value) (sb cb fb:Nat) (w:World) (hs:w.cell? ⟨sb,0,none⟩=some (.int .i64 s)) (hc:w.cell? ⟨cb,0,none⟩=some (.int .i64 ch)) (hf:w.cell? ⟨fb,0,none⟩=some u) (hz:w.frozen? ⟨fb,0,none⟩=false)
  (h1:sb<fb) (h2:cb<fb) (hR:FR w (fb+1) u fs) (hn:fs.length≤100000):
  Calls Tryz.prog 117 #[.int .i64 ip,.int .i64 mac,.pointer (some ⟨sb,0,none⟩),.pointer (some ⟨fb,0,none⟩),.pointer (some ⟨cb,0,none⟩)] w fun e w'=>(∃v,e= .returned v)∧(∃u',w'.cell? ⟨fb,0,none⟩=some u'∧w'.frozen? ⟨fb,0,none⟩=false∧FR w' (fb+1) u' (fs++ [aP s ip mac ch])∧∀b,b<w.heap.size→u.ownBlock≠some b→u'.ownBlock≠some b)∧But w w' fb u∧Below fb w w':=by
 obtain⟨iM,hiM,zM0,zM1,zM2⟩:=info_parts es;obtain⟨iD,hiD,zD0,zD1,zD2⟩:=info_parts eZ;obtain⟨iF,hiF,zF0,zF1,zF2⟩:=info_parts ez;obtain⟨lo,hlo,hown,hin⟩:=hR;have hfl:=am hf;have HLO:=aa hlo;have hlen:lo.length=fs.length:=by rw [←hlo,List.length_map]
 obtain⟨o,c,rfl⟩:=aD hown;have HUB:=aa (fun g (e:(Value.slice o lo.length c).ownBlock=some g)=>bJ hown e)
 have HOW:=aa hown;have HIN:=aa hin;have hN:lo.length≤100000:=by omega
 obtain⟨N,hNN⟩:∃N,N=lo.length:=⟨_,rfl⟩;rw [←hNN]at HOW hN hf HIN HUB⊢;have HNN:=aa hNN;clear hNN hlen hlo hown hin
 go_enter Tryz.func117,Tryz.ntmps117
 go_wp2_with fail
 have HB:Below w.heap.size w w:=Below.refl _ _
 refine(bk _ _ _).mono ?_
 rintro e W1 ⟨rfl,hbN⟩;replace hz:=zK hbN hf hz;replace hs:=zC hs hbN;replace hc:=zC hc hbN;replace hf:=zC hf hbN;replace HIN:=aa (fun x hx=>(HIN.out x hx).below hbN)
 replace HOW:=zO HOW hbN;replace HB:=zT HB hbN;clear hbN
 go_wp2_with fail
 refine(bk _ _ _).mono ?_
 rintro e W2 ⟨rfl,hbN⟩;replace hz:=zK hbN hf hz;replace hs:=zC hs hbN;replace hc:=zC hc hbN;replace hf:=zC hf hbN;replace HIN:=aa (fun x hx=>(HIN.out x hx).below hbN)
 replace HOW:=zO HOW hbN;replace HB:=zT HB hbN;clear hbN
 go_wp2_with fail
 obtain⟨W3,hW⟩:∃W3,W3=W2.alloc (.cells #[.int .i64 8,.int .i64 65535,.int .i64 s,.int .i64 5,.int .i64 65535,.int .i64 ip] 95):=⟨_,rfl⟩;rw [←hW];obtain⟨gm,hgm⟩:∃gm,gm=W2.heap.size:=⟨_,rfl⟩;have HM:Hid (W3.ownsRow w.heap.size 95 3 (.slice (some ⟨gm,0,none⟩) 2 2) 2 (M [isM 8 s,isM 5 ip])):=by rw [hW,hgm];exact aa (World.ownsRow_lit W2 _ 2 HB.size (by decide) rfl)
 have hbN:Below W2.heap.size W2 W3:=by rw [hW];exact aj _ _
 rw [←hgm];replace hz:=zK hbN hf hz;replace hs:=zC hs hbN;replace hc:=zC hc hbN;replace hf:=zC hf hbN;replace HIN:=aa (fun x hx=>(HIN.out x hx).below hbN)
 replace HOW:=zO HOW hbN;replace HB:=zT HB hbN;clear hbN hW hgm;have hs0_1:=HB.size
 refine wp_region_held_drew (S:=(fun w'=>w'.cell? ⟨sb,0,none⟩=some (.int .i64 s)∧w'.cell? ⟨cb,0,none⟩=some (.int .i64 ch))) (by kernel_rfl) ⟨hs,hc⟩ (fun hHeld=>?_)
 have HDW:Below W3.heap.size W3 W3.drew:=(Below.refl _ _).drew;have hs1:=HDW.size;replace hz:=zK HDW hf hz;replace hs:=zC hs HDW;replace hc:=zC hc HDW;replace hf:=zC hf HDW;replace HIN:=aa (fun x hx=>(HIN.out x hx).below HDW)
 replace HOW:=zO HOW HDW;replace HM:=zO HM HDW;replace HB:=zT HB HDW;clear HDW;generalize W3.drew=V2 at*
 refine tk (i:=1) (d:=15) rfl (by kernel_rfl) (fun _ _ _ h=>h) rfl ‹_› (by intro w h;(try dsimp only at h);go_simp <;>with_reducible rfl) ?_
 simp only [nz]
 refine tk (i:=2) (d:=16) rfl (by kernel_rfl) (fun _ _ _ h=>h) rfl ‹_› (by intro w h;(try dsimp only at h);go_simp <;>with_reducible rfl) ?_
 simp only [nz]
 refine tk (i:=3) (d:=17) rfl (by kernel_rfl) (fun _ _ _ h=>h) rfl ‹_› (by intro w h;(try dsimp only at h);go_simp <;>with_reducible rfl) ?_
 simp only [nz]
 refine tk (i:=4) (d:=18) rfl (by kernel_rfl) (fun _ _ _ h=>h) rfl ‹_› (by intro w h;(try dsimp only at h);go_simp <;>with_reducible rfl) ?_
 simp only [nz]
 refine wpAnyH_ready (rs:=[0,5]) (by kernel_rfl) (by simp) ?_
 refine(AllReadyH.cons (o:=⟨some 14,_,_,_,_,_⟩) rfl (fun K hK=>?_) (AllReadyH.cons (o:=⟨some 19,_,_,_,_,_⟩) rfl (fun K hK=>?_) AllReadyH.nil))
 ·go_simp
  clear hHeld
  refine hK.out _ _ ⟨hs,hc⟩ (fun hHeld=>?_)
  clear hK K
  (try simp only [nz])
  refine rd (i:=5) (o:=⟨some 19,_,_,_,_,_⟩) (by kernel_rfl) rfl (fun K hK=>?_)
  go_simp
  clear hHeld;have HBold:=HB.size
  refine(gn _ _ _ _).mono ?_
  rintro e V3 ⟨u3,rfl,ho3,hb3⟩;have hs4:=hb3.size;replace hz:=zK hb3 hf hz;replace hs:=zC hs hb3;replace hc:=zC hc hb3;replace hf:=zC hf hb3;replace HIN:=aa (fun x hx=>(HIN.out x hx).below hb3)
  replace HOW:=zO HOW hb3;replace HM:=zO HM hb3;replace HB:=zT HB hb3;obtain⟨g5,c5,rfl,hg5,hl5⟩:=aK ho3 (by decide)
  have HD:=aa (aw ho3 (Nat.le_trans HBold zr));clear ho3 HBold;clear hb3
  refine hK.out _ _ ⟨hs,hc⟩ (fun hHeld=>?_)
  clear hK K
  (try simp only [nz])
  refine rd (i:=6) (o:=⟨some 20,_,_,_,_,_⟩) (by kernel_rfl) rfl (fun K hK=>?_)
  go_simp
  clear hHeld
  refine(ax _ _ _ _ _ _ _ _ _).mono ?_
  rintro e V6 ⟨rfl,hb6⟩;have hs7:=hb6.size;replace hz:=zK hb6 hf hz;replace hs:=zC hs hb6;replace hc:=zC hc hb6;replace hf:=zC hf hb6;replace HIN:=aa (fun x hx=>(HIN.out x hx).below hb6)
  replace HOW:=zO HOW hb6;replace HM:=zO HM hb6;replace HD:=zO HD hb6;replace HB:=zT HB hb6;clear hb6
  refine hK.out _ _ ⟨hs,hc⟩ (fun hHeld=>?_)
  clear hK K
  (try simp only [nz])
  refine rd (i:=7) (o:=⟨some 21,_,_,_,_,_⟩) (by kernel_rfl) rfl (fun K hK=>?_)
  go_simp
  clear hHeld
  refine ah (fun V8 g8 hV hg=>?_)
  rw [←hg];have hbN:=zB hV;have hg8:V6.heap.size≤g8:=by omega
  have hl8:=zL hV hg;have HX:Hid (V8.ownsRow w.heap.size 90 4 (.slice (some ⟨g8,0,none⟩) 1 1) 1 (C [⟨aP s ip mac ch,.slice (some ⟨gm,0,none⟩) 2 2,.slice (some ⟨g5,0,none⟩) 7 c5⟩])):=zW hV hg HB.size (by decide) rfl
  have hs9:=hbN.size;replace hz:=zK hbN hf hz;replace hs:=zC hs hbN;replace hc:=zC hc hbN;replace hf:=zC hf hbN;replace HIN:=aa (fun x hx=>(HIN.out x hx).below hbN)
  replace HOW:=zO HOW hbN;replace HM:=zO HM hbN;replace HD:=zO HD hbN;replace HB:=zT HB hbN;clear hV hg hbN
  refine hK.out _ _ ⟨hs,hc⟩ (fun hHeld=>?_)
  clear hK K
  (try simp only [nz])
  refine rd (i:=8) (o:=⟨some 22,_,_,_,_,_⟩) (by kernel_rfl) rfl (fun K hK=>?_)
  clear hHeld;have hsz:=HB.size;have HFV:Hid (FvIn V8 (fb+1) (.slice o N c) (⟨aP s ip mac ch,.slice (some ⟨gm,0,none⟩) 2 2,.slice (some ⟨g5,0,none⟩) 7 c5⟩:Fv)):=aa ((aT (f:=aP s ip mac ch) HM.out HD.out HUB.out).less (by omega))
  refine step_append_lies _ rfl (.tmp 14) (.tmp 21) 31 rfl (fb+1) 90 iF _ 4 64 Tryz.underlying31 hiF zF0 zF1 zF2 rfl (by decide) (.slice o N c) N _ rfl (ag HOW) ⟨g8,0,none⟩ 1 1 _ rfl rfl (HX.out.cells rfl) (me (fun y hy=>by rw [List.mem_singleton.1 hy];exact HFV.out)) (by decide) (by unfold maxLen;omega) (by omega) (by omega) _ rfl ?_
  intro gq cq V10 hoq hgr ha hlq;have hbA:Below (fb+1) V8 V10:=(Below.refl _ _).grown hgr (by omega) (aF HOW.out)
  have HFR:Hid (FR V10 (fb+1) (.slice (some ⟨gq,0,none⟩) (N+1) cq) (fs++ [aP s ip mac ch])):=by
   have:=FR.app (lo2:=[(⟨aP s ip mac ch,.slice (some ⟨gm,0,none⟩) 2 2,.slice (some ⟨g5,0,none⟩) 7 c5⟩:Fv)]) HIN.out (fun y hy=>by rw [List.mem_singleton.1 hy];exact HFV.out) hoq (by rw [HNN.out];rfl) hgr ha
   rw [HLO.out]at this
   exact aa this
  replace hz:=(hbA.frozen (p:=⟨fb,0,none⟩) (show fb<fb+1 by omega)).trans hz
  replace hf:=(hbA.cell (p:=⟨fb,0,none⟩) (show fb<fb+1 by omega)).trans hf
  replace hc:=(hbA.cell (p:=⟨cb,0,none⟩) (show cb<fb+1 by omega)).trans hc
  replace hs:=(hbA.cell (p:=⟨sb,0,none⟩) (show sb<fb+1 by omega)).trans hs
  have HBT:Hid (∀b j,b<w.heap.size→(Value.slice o N c).ownBlock≠some b→V10.cell? ⟨b,j,none⟩=w.cell? ⟨b,j,none⟩):=aa (fun b j hb hne=>(hgr.cell_far ⟨b,j,none⟩ (Nat.lt_of_lt_of_le hb HB.size) (fun e=>hne e.symm)).trans (HB.cell (p:=⟨b,j,none⟩) hb))
  have HUB2:Hid (∀b,b<w.heap.size→(Value.slice o N c).ownBlock≠some b→(Value.slice (some ⟨gq,0,none⟩) (N+1) cq).ownBlock≠some b):=aa (j9 ha HB.size);have HB2:Hid (Below fb w V10):=aa ((HB.mono (by omega)).trans (hbA.mono (by omega)))
  clear hbA hoq hgr ha HOW HIN HX HM HD HFV HB HUB hsz
  refine hK.out _ _ ⟨hs,hc⟩ (fun hHeld=>?_)
  clear hK K
  (try simp only [nz])
  refine rd (i:=9) (o:=⟨none,_,_,_,_,_⟩) (by kernel_rfl) rfl (fun K hK=>?_)
  go_simp
  clear hHeld;obtain⟨V11,hV⟩:∃V11,V11=V10.setCell ⟨fb,0,none⟩ (.slice (some ⟨gq,0,none⟩) (N+1) cq):=⟨_,rfl⟩;rw [←hV];have nf:V11.cell? ⟨fb,0,none⟩=some (.slice (some ⟨gq,0,none⟩) (N+1) cq):=by rw [hV];exact World.cell?_setCell_same _ _ _ hf
  replace hc:V11.cell? ⟨cb,0,none⟩=some (.int .i64 ch):=by rw [hV,World.cell?_setCell_other _ _ _ _ (by simp <;>omega)];exact hc
  replace hs:V11.cell? ⟨sb,0,none⟩=some (.int .i64 s):=by rw [hV,World.cell?_setCell_other _ _ _ _ (by simp <;>omega)];exact hs
  replace hz:V11.frozen? ⟨fb,0,none⟩=false:=by rw [hV,World.frozen?_setCell];exact hz
  replace HFR:Hid (FR V11 (fb+1) (.slice (some ⟨gq,0,none⟩) (N+1) cq) (fs++ [aP s ip mac ch])):=by rw [hV];exact aa (HFR.out.set (by simp) _)
  replace HB2:Hid (Below fb w V11):=by rw [hV];exact aa (fy HB2.out zr _)
  replace HBT:Hid (But w V11 fb (.slice o N c)):=by rw [hV];exact aa (fun b j hb h1 h2=>(World.cell?_setCell_other _ _ _ _ (fun e=>h1 (by simpa using (congrArg Addr.block e).symm))).trans (HBT.out b j hb h2))
  clear hV hf
  refine hK.out _ _ ⟨hs,hc⟩ (fun hHeld=>?_)
  clear hK K
  (try simp only [nz])
  refine wpAnyH_done (by kernel_rfl) ?_ _
  clear hHeld
  (try go_wp2_with fail)
  go_end0
  exact⟨⟨_,rfl⟩,⟨_,nf,hz,HFR.out,HUB2.out⟩,HBT.out,HB2.out⟩
 ·go_simp
  clear hHeld;have HBold:=HB.size
  refine(gn _ _ _ _).mono ?_
  rintro e V3 ⟨u3,rfl,ho3,hb3⟩;have hs4:=hb3.size;replace hz:=zK hb3 hf hz;replace hs:=zC hs hb3;replace hc:=zC hc hb3;replace hf:=zC hf hb3;replace HIN:=aa (fun x hx=>(HIN.out x hx).below hb3)
  replace HOW:=zO HOW hb3;replace HM:=zO HM hb3;replace HB:=zT HB hb3;obtain⟨g5,c5,rfl,hg5,hl5⟩:=aK ho3 (by decide)
  have HD:=aa (aw ho3 (Nat.le_trans HBold zr));clear ho3 HBold;clear hb3
  refine hK.out _ _ ⟨hs,hc⟩ (fun hHeld=>?_)
  clear hK K
  (try simp only [nz])
  refine wpAnyH_ready (rs:=[0,6]) (by kernel_rfl) (by simp) ?_
  refine(AllReadyH.cons (o:=⟨some 14,_,_,_,_,_⟩) rfl (fun K hK=>?_) (AllReadyH.cons (o:=⟨some 20,_,_,_,_,_⟩) rfl (fun K hK=>?_) AllReadyH.nil))
  ·go_simp
   clear hHeld
   refine hK.out _ _ ⟨hs,hc⟩ (fun hHeld=>?_)
   clear hK K
   (try simp only [nz])
   refine rd (i:=6) (o:=⟨some 20,_,_,_,_,_⟩) (by kernel_rfl) rfl (fun K hK=>?_)
   go_simp
   clear hHeld
   refine(ax _ _ _ _ _ _ _ _ _).mono ?_
   rintro e V6 ⟨rfl,hb6⟩;have hs7:=hb6.size;replace hz:=zK hb6 hf hz;replace hs:=zC hs hb6;replace hc:=zC hc hb6;replace hf:=zC hf hb6;replace HIN:=aa (fun x hx=>(HIN.out x hx).below hb6)
   replace HOW:=zO HOW hb6;replace HM:=zO HM hb6;replace HD:=zO HD hb6;replace HB:=zT HB hb6;clear hb6
   refine hK.out _ _ ⟨hs,hc⟩ (fun hHeld=>?_)
   clear hK K
   (try simp only [nz])
   refine rd (i:=7) (o:=⟨some 21,_,_,_,_,_⟩) (by kernel_rfl) rfl (fun K hK=>?_)
   go_simp
   clear hHeld
   refine ah (fun V8 g8 hV hg=>?_)
   rw [←hg];have hbN:=zB hV;have hg8:V6.heap.size≤g8:=by omega
   have hl8:=zL hV hg;have HX:Hid (V8.ownsRow w.heap.size 90 4 (.slice (some ⟨g8,0,none⟩) 1 1) 1 (C [⟨aP s ip mac ch,.slice (some ⟨gm,0,none⟩) 2 2,.slice (some ⟨g5,0,none⟩) 7 c5⟩])):=zW hV hg HB.size (by decide) rfl
   have hs9:=hbN.size;replace hz:=zK hbN hf hz;replace hs:=zC hs hbN;replace hc:=zC hc hbN;replace hf:=zC hf hbN;replace HIN:=aa (fun x hx=>(HIN.out x hx).below hbN)
   replace HOW:=zO HOW hbN;replace HM:=zO HM hbN;replace HD:=zO HD hbN;replace HB:=zT HB hbN;clear hV hg hbN
   refine hK.out _ _ ⟨hs,hc⟩ (fun hHeld=>?_)
   clear hK K
   (try simp only [nz])
   refine rd (i:=8) (o:=⟨some 22,_,_,_,_,_⟩) (by kernel_rfl) rfl (fun K hK=>?_)
   clear hHeld;have hsz:=HB.size;have HFV:Hid (FvIn V8 (fb+1) (.slice o N c) (⟨aP s ip mac ch,.slice (some ⟨gm,0,none⟩) 2 2,.slice (some ⟨g5,0,none⟩) 7 c5⟩:Fv)):=aa ((aT (f:=aP s ip mac ch) HM.out HD.out HUB.out).less (by omega))
   refine step_append_lies _ rfl (.tmp 14) (.tmp 21) 31 rfl (fb+1) 90 iF _ 4 64 Tryz.underlying31 hiF zF0 zF1 zF2 rfl (by decide) (.slice o N c) N _ rfl (ag HOW) ⟨g8,0,none⟩ 1 1 _ rfl rfl (HX.out.cells rfl) (me (fun y hy=>by rw [List.mem_singleton.1 hy];exact HFV.out)) (by decide) (by unfold maxLen;omega) (by omega) (by omega) _ rfl ?_
   intro gq cq V10 hoq hgr ha hlq;have hbA:Below (fb+1) V8 V10:=(Below.refl _ _).grown hgr (by omega) (aF HOW.out)
   have HFR:Hid (FR V10 (fb+1) (.slice (some ⟨gq,0,none⟩) (N+1) cq) (fs++ [aP s ip mac ch])):=by
    have:=FR.app (lo2:=[(⟨aP s ip mac ch,.slice (some ⟨gm,0,none⟩) 2 2,.slice (some ⟨g5,0,none⟩) 7 c5⟩:Fv)]) HIN.out (fun y hy=>by rw [List.mem_singleton.1 hy];exact HFV.out) hoq (by rw [HNN.out];rfl) hgr ha
    rw [HLO.out]at this
    exact aa this
   replace hz:=(hbA.frozen (p:=⟨fb,0,none⟩) (show fb<fb+1 by omega)).trans hz
   replace hf:=(hbA.cell (p:=⟨fb,0,none⟩) (show fb<fb+1 by omega)).trans hf
   replace hc:=(hbA.cell (p:=⟨cb,0,none⟩) (show cb<fb+1 by omega)).trans hc
   replace hs:=(hbA.cell (p:=⟨sb,0,none⟩) (show sb<fb+1 by omega)).trans hs
   have HBT:Hid (∀b j,b<w.heap.size→(Value.slice o N c).ownBlock≠some b→V10.cell? ⟨b,j,none⟩=w.cell? ⟨b,j,none⟩):=aa (fun b j hb hne=>(hgr.cell_far ⟨b,j,none⟩ (Nat.lt_of_lt_of_le hb HB.size) (fun e=>hne e.symm)).trans (HB.cell (p:=⟨b,j,none⟩) hb))
   have HUB2:Hid (∀b,b<w.heap.size→(Value.slice o N c).ownBlock≠some b→(Value.slice (some ⟨gq,0,none⟩) (N+1) cq).ownBlock≠some b):=aa (j9 ha HB.size);have HB2:Hid (Below fb w V10):=aa ((HB.mono (by omega)).trans (hbA.mono (by omega)))
   clear hbA hoq hgr ha HOW HIN HX HM HD HFV HB HUB hsz
   refine hK.out _ _ ⟨hs,hc⟩ (fun hHeld=>?_)
   clear hK K
   (try simp only [nz])
   refine rd (i:=9) (o:=⟨none,_,_,_,_,_⟩) (by kernel_rfl) rfl (fun K hK=>?_)
   go_simp
   clear hHeld;obtain⟨V11,hV⟩:∃V11,V11=V10.setCell ⟨fb,0,none⟩ (.slice (some ⟨gq,0,none⟩) (N+1) cq):=⟨_,rfl⟩;rw [←hV];have nf:V11.cell? ⟨fb,0,none⟩=some (.slice (some ⟨gq,0,none⟩) (N+1) cq):=by rw [hV];exact World.cell?_setCell_same _ _ _ hf
   replace hc:V11.cell? ⟨cb,0,none⟩=some (.int .i64 ch):=by rw [hV,World.cell?_setCell_other _ _ _ _ (by simp <;>omega)];exact hc
   replace hs:V11.cell? ⟨sb,0,none⟩=some (.int .i64 s):=by rw [hV,World.cell?_setCell_other _ _ _ _ (by simp <;>omega)];exact hs
   replace hz:V11.frozen? ⟨fb,0,none⟩=false:=by rw [hV,World.frozen?_setCell];exact hz
   replace HFR:Hid (FR V11 (fb+1) (.slice (some ⟨gq,0,none⟩) (N+1) cq) (fs++ [aP s ip mac ch])):=by rw [hV];exact aa (HFR.out.set (by simp) _)
   replace HB2:Hid (Below fb w V11):=by rw [hV];exact aa (fy HB2.out zr _)
   replace HBT:Hid (But w V11 fb (.slice o N c)):=by rw [hV];exact aa (fun b j hb h1 h2=>(World.cell?_setCell_other _ _ _ _ (fun e=>h1 (by simpa using (congrArg Addr.block e).symm))).trans (HBT.out b j hb h2))
   clear hV hf
   refine hK.out _ _ ⟨hs,hc⟩ (fun hHeld=>?_)
   clear hK K
   (try simp only [nz])
   refine wpAnyH_done (by kernel_rfl) ?_ _
   clear hHeld
   (try go_wp2_with fail)
   go_end0
   exact⟨⟨_,rfl⟩,⟨_,nf,hz,HFR.out,HUB2.out⟩,HBT.out,HB2.out⟩
  ·go_simp
   clear hHeld
   refine(ax _ _ _ _ _ _ _ _ _).mono ?_
   rintro e V6 ⟨rfl,hb6⟩;have hs7:=hb6.size;replace hz:=zK hb6 hf hz;replace hs:=zC hs hb6;replace hc:=zC hc hb6;replace hf:=zC hf hb6;replace HIN:=aa (fun x hx=>(HIN.out x hx).below hb6)
   replace HOW:=zO HOW hb6;replace HM:=zO HM hb6;replace HD:=zO HD hb6;replace HB:=zT HB hb6;clear hb6
   refine hK.out _ _ ⟨hs,hc⟩ (fun hHeld=>?_)
   clear hK K
   (try simp only [nz])
   refine wpAnyH_ready (rs:=[0,7]) (by kernel_rfl) (by simp) ?_
   refine(AllReadyH.cons (o:=⟨some 14,_,_,_,_,_⟩) rfl (fun K hK=>?_) (AllReadyH.cons (o:=⟨some 21,_,_,_,_,_⟩) rfl (fun K hK=>?_) AllReadyH.nil))
   ·go_simp
    clear hHeld
    refine hK.out _ _ ⟨hs,hc⟩ (fun hHeld=>?_)
    clear hK K
    (try simp only [nz])
    refine rd (i:=7) (o:=⟨some 21,_,_,_,_,_⟩) (by kernel_rfl) rfl (fun K hK=>?_)
    go_simp
    clear hHeld
    refine ah (fun V8 g8 hV hg=>?_)
    rw [←hg];have hbN:=zB hV;have hg8:V6.heap.size≤g8:=by omega
    have hl8:=zL hV hg;have HX:Hid (V8.ownsRow w.heap.size 90 4 (.slice (some ⟨g8,0,none⟩) 1 1) 1 (C [⟨aP s ip mac ch,.slice (some ⟨gm,0,none⟩) 2 2,.slice (some ⟨g5,0,none⟩) 7 c5⟩])):=zW hV hg HB.size (by decide) rfl
    have hs9:=hbN.size;replace hz:=zK hbN hf hz;replace hs:=zC hs hbN;replace hc:=zC hc hbN;replace hf:=zC hf hbN;replace HIN:=aa (fun x hx=>(HIN.out x hx).below hbN)
    replace HOW:=zO HOW hbN;replace HM:=zO HM hbN;replace HD:=zO HD hbN;replace HB:=zT HB hbN;clear hV hg hbN
    refine hK.out _ _ ⟨hs,hc⟩ (fun hHeld=>?_)
    clear hK K
    (try simp only [nz])
    refine rd (i:=8) (o:=⟨some 22,_,_,_,_,_⟩) (by kernel_rfl) rfl (fun K hK=>?_)
    clear hHeld;have hsz:=HB.size;have HFV:Hid (FvIn V8 (fb+1) (.slice o N c) (⟨aP s ip mac ch,.slice (some ⟨gm,0,none⟩) 2 2,.slice (some ⟨g5,0,none⟩) 7 c5⟩:Fv)):=aa ((aT (f:=aP s ip mac ch) HM.out HD.out HUB.out).less (by omega))
    refine step_append_lies _ rfl (.tmp 14) (.tmp 21) 31 rfl (fb+1) 90 iF _ 4 64 Tryz.underlying31 hiF zF0 zF1 zF2 rfl (by decide) (.slice o N c) N _ rfl (ag HOW) ⟨g8,0,none⟩ 1 1 _ rfl rfl (HX.out.cells rfl) (me (fun y hy=>by rw [List.mem_singleton.1 hy];exact HFV.out)) (by decide) (by unfold maxLen;omega) (by omega) (by omega) _ rfl ?_
    intro gq cq V10 hoq hgr ha hlq;have hbA:Below (fb+1) V8 V10:=(Below.refl _ _).grown hgr (by omega) (aF HOW.out)
    have HFR:Hid (FR V10 (fb+1) (.slice (some ⟨gq,0,none⟩) (N+1) cq) (fs++ [aP s ip mac ch])):=by
     have:=FR.app (lo2:=[(⟨aP s ip mac ch,.slice (some ⟨gm,0,none⟩) 2 2,.slice (some ⟨g5,0,none⟩) 7 c5⟩:Fv)]) HIN.out (fun y hy=>by rw [List.mem_singleton.1 hy];exact HFV.out) hoq (by rw [HNN.out];rfl) hgr ha
     rw [HLO.out]at this
     exact aa this
    replace hz:=(hbA.frozen (p:=⟨fb,0,none⟩) (show fb<fb+1 by omega)).trans hz
    replace hf:=(hbA.cell (p:=⟨fb,0,none⟩) (show fb<fb+1 by omega)).trans hf
    replace hc:=(hbA.cell (p:=⟨cb,0,none⟩) (show cb<fb+1 by omega)).trans hc
    replace hs:=(hbA.cell (p:=⟨sb,0,none⟩) (show sb<fb+1 by omega)).trans hs
    have HBT:Hid (∀b j,b<w.heap.size→(Value.slice o N c).ownBlock≠some b→V10.cell? ⟨b,j,none⟩=w.cell? ⟨b,j,none⟩):=aa (fun b j hb hne=>(hgr.cell_far ⟨b,j,none⟩ (Nat.lt_of_lt_of_le hb HB.size) (fun e=>hne e.symm)).trans (HB.cell (p:=⟨b,j,none⟩) hb))
    have HUB2:Hid (∀b,b<w.heap.size→(Value.slice o N c).ownBlock≠some b→(Value.slice (some ⟨gq,0,none⟩) (N+1) cq).ownBlock≠some b):=aa (j9 ha HB.size);have HB2:Hid (Below fb w V10):=aa ((HB.mono (by omega)).trans (hbA.mono (by omega)))
    clear hbA hoq hgr ha HOW HIN HX HM HD HFV HB HUB hsz
    refine hK.out _ _ ⟨hs,hc⟩ (fun hHeld=>?_)
    clear hK K
    (try simp only [nz])
    refine rd (i:=9) (o:=⟨none,_,_,_,_,_⟩) (by kernel_rfl) rfl (fun K hK=>?_)
    go_simp
    clear hHeld;obtain⟨V11,hV⟩:∃V11,V11=V10.setCell ⟨fb,0,none⟩ (.slice (some ⟨gq,0,none⟩) (N+1) cq):=⟨_,rfl⟩;rw [←hV];have nf:V11.cell? ⟨fb,0,none⟩=some (.slice (some ⟨gq,0,none⟩) (N+1) cq):=by rw [hV];exact World.cell?_setCell_same _ _ _ hf
    replace hc:V11.cell? ⟨cb,0,none⟩=some (.int .i64 ch):=by rw [hV,World.cell?_setCell_other _ _ _ _ (by simp <;>omega)];exact hc
    replace hs:V11.cell? ⟨sb,0,none⟩=some (.int .i64 s):=by rw [hV,World.cell?_setCell_other _ _ _ _ (by simp <;>omega)];exact hs
    replace hz:V11.frozen? ⟨fb,0,none⟩=false:=by rw [hV,World.frozen?_setCell];exact hz
    replace HFR:Hid (FR V11 (fb+1) (.slice (some ⟨gq,0,none⟩) (N+1) cq) (fs++ [aP s ip mac ch])):=by rw [hV];exact aa (HFR.out.set (by simp) _)
    replace HB2:Hid (Below fb w V11):=by rw [hV];exact aa (fy HB2.out zr _)
    replace HBT:Hid (But w V11 fb (.slice o N c)):=by rw [hV];exact aa (fun b j hb h1 h2=>(World.cell?_setCell_other _ _ _ _ (fun e=>h1 (by simpa using (congrArg Addr.block e).symm))).trans (HBT.out b j hb h2))
    clear hV hf
    refine hK.out _ _ ⟨hs,hc⟩ (fun hHeld=>?_)
    clear hK K
    (try simp only [nz])
    refine wpAnyH_done (by kernel_rfl) ?_ _
    clear hHeld
    (try go_wp2_with fail)
    go_end0
    exact⟨⟨_,rfl⟩,⟨_,nf,hz,HFR.out,HUB2.out⟩,HBT.out,HB2.out⟩
   ·go_simp
    clear hHeld
    refine ah (fun V8 g8 hV hg=>?_)
    rw [←hg];have hbN:=zB hV;have hg8:V6.heap.size≤g8:=by omega
    have hl8:=zL hV hg;have HX:Hid (V8.ownsRow w.heap.size 90 4 (.slice (some ⟨g8,0,none⟩) 1 1) 1 (C [⟨aP s ip mac ch,.slice (some ⟨gm,0,none⟩) 2 2,.slice (some ⟨g5,0,none⟩) 7 c5⟩])):=zW hV hg HB.size (by decide) rfl
    have hs9:=hbN.size;replace hz:=zK hbN hf hz;replace hs:=zC hs hbN;replace hc:=zC hc hbN;replace hf:=zC hf hbN;replace HIN:=aa (fun x hx=>(HIN.out x hx).below hbN)
    replace HOW:=zO HOW hbN;replace HM:=zO HM hbN;replace HD:=zO HD hbN;replace HB:=zT HB hbN;clear hV hg hbN
    refine hK.out _ _ ⟨hs,hc⟩ (fun hHeld=>?_)
    clear hK K
    (try simp only [nz])
    refine rd (i:=0) (o:=⟨some 14,_,_,_,_,_⟩) (by kernel_rfl) rfl (fun K hK=>?_)
    go_simp
    clear hHeld
    refine hK.out _ _ ⟨hs,hc⟩ (fun hHeld=>?_)
    clear hK K
    (try simp only [nz])
    refine rd (i:=8) (o:=⟨some 22,_,_,_,_,_⟩) (by kernel_rfl) rfl (fun K hK=>?_)
    clear hHeld;have hsz:=HB.size;have HFV:Hid (FvIn V8 (fb+1) (.slice o N c) (⟨aP s ip mac ch,.slice (some ⟨gm,0,none⟩) 2 2,.slice (some ⟨g5,0,none⟩) 7 c5⟩:Fv)):=aa ((aT (f:=aP s ip mac ch) HM.out HD.out HUB.out).less (by omega))
    refine step_append_lies _ rfl (.tmp 14) (.tmp 21) 31 rfl (fb+1) 90 iF _ 4 64 Tryz.underlying31 hiF zF0 zF1 zF2 rfl (by decide) (.slice o N c) N _ rfl (ag HOW) ⟨g8,0,none⟩ 1 1 _ rfl rfl (HX.out.cells rfl) (me (fun y hy=>by rw [List.mem_singleton.1 hy];exact HFV.out)) (by decide) (by unfold maxLen;omega) (by omega) (by omega) _ rfl ?_
    intro gq cq V10 hoq hgr ha hlq;have hbA:Below (fb+1) V8 V10:=(Below.refl _ _).grown hgr (by omega) (aF HOW.out)
    have HFR:Hid (FR V10 (fb+1) (.slice (some ⟨gq,0,none⟩) (N+1) cq) (fs++ [aP s ip mac ch])):=by
     have:=FR.app (lo2:=[(⟨aP s ip mac ch,.slice (some ⟨gm,0,none⟩) 2 2,.slice (some ⟨g5,0,none⟩) 7 c5⟩:Fv)]) HIN.out (fun y hy=>by rw [List.mem_singleton.1 hy];exact HFV.out) hoq (by rw [HNN.out];rfl) hgr ha
     rw [HLO.out]at this
     exact aa this
    replace hz:=(hbA.frozen (p:=⟨fb,0,none⟩) (show fb<fb+1 by omega)).trans hz
    replace hf:=(hbA.cell (p:=⟨fb,0,none⟩) (show fb<fb+1 by omega)).trans hf
    replace hc:=(hbA.cell (p:=⟨cb,0,none⟩) (show cb<fb+1 by omega)).trans hc
    replace hs:=(hbA.cell (p:=⟨sb,0,none⟩) (show sb<fb+1 by omega)).trans hs
    have HBT:Hid (∀b j,b<w.heap.size→(Value.slice o N c).ownBlock≠some b→V10.cell? ⟨b,j,none⟩=w.cell? ⟨b,j,none⟩):=aa (fun b j hb hne=>(hgr.cell_far ⟨b,j,none⟩ (Nat.lt_of_lt_of_le hb HB.size) (fun e=>hne e.symm)).trans (HB.cell (p:=⟨b,j,none⟩) hb))
    have HUB2:Hid (∀b,b<w.heap.size→(Value.slice o N c).ownBlock≠some b→(Value.slice (some ⟨gq,0,none⟩) (N+1) cq).ownBlock≠some b):=aa (j9 ha HB.size);have HB2:Hid (Below fb w V10):=aa ((HB.mono (by omega)).trans (hbA.mono (by omega)))
    clear hbA hoq hgr ha HOW HIN HX HM HD HFV HB HUB hsz
    refine hK.out _ _ ⟨hs,hc⟩ (fun hHeld=>?_)
    clear hK K
    (try simp only [nz])
    refine rd (i:=9) (o:=⟨none,_,_,_,_,_⟩) (by kernel_rfl) rfl (fun K hK=>?_)
    go_simp
    clear hHeld;obtain⟨V11,hV⟩:∃V11,V11=V10.setCell ⟨fb,0,none⟩ (.slice (some ⟨gq,0,none⟩) (N+1) cq):=⟨_,rfl⟩;rw [←hV];have nf:V11.cell? ⟨fb,0,none⟩=some (.slice (some ⟨gq,0,none⟩) (N+1) cq):=by rw [hV];exact World.cell?_setCell_same _ _ _ hf
    replace hc:V11.cell? ⟨cb,0,none⟩=some (.int .i64 ch):=by rw [hV,World.cell?_setCell_other _ _ _ _ (by simp <;>omega)];exact hc
    replace hs:V11.cell? ⟨sb,0,none⟩=some (.int .i64 s):=by rw [hV,World.cell?_setCell_other _ _ _ _ (by simp <;>omega)];exact hs
    replace hz:V11.frozen? ⟨fb,0,none⟩=false:=by rw [hV,World.frozen?_setCell];exact hz
    replace HFR:Hid (FR V11 (fb+1) (.slice (some ⟨gq,0,none⟩) (N+1) cq) (fs++ [aP s ip mac ch])):=by rw [hV];exact aa (HFR.out.set (by simp) _)
    replace HB2:Hid (Below fb w V11):=by rw [hV];exact aa (fy HB2.out zr _)
    replace HBT:Hid (But w V11 fb (.slice o N c)):=by rw [hV];exact aa (fun b j hb h1 h2=>(World.cell?_setCell_other _ _ _ _ (fun e=>h1 (by simpa using (congrArg Addr.block e).symm))).trans (HBT.out b j hb h2))
    clear hV hf
    refine hK.out _ _ ⟨hs,hc⟩ (fun hHeld=>?_)
    clear hK K
    (try simp only [nz])
    refine wpAnyH_done (by kernel_rfl) ?_ _
    clear hHeld
    (try go_wp2_with fail)
    go_end0
    exact⟨⟨_,rfl⟩,⟨_,nf,hz,HFR.out,HUB2.out⟩,HBT.out,HB2.out⟩
def eK (Q:List Pr) (s:Sw) (ch:Int) (k:Nat):List Fl:=(if s.g=0 then []else [aP s.i s.g (60000+s.i) ch])++(Q.take k).map fun p=>aP s.i p.p p.m ch
theorem kC {Q:List Pr} {s:Sw} {ch:Int} {k:Nat} (h:k<Q.length):eK Q s ch (k+1)=eK Q s ch k++ [aP s.i (Q.getD k pr0).p (Q.getD k pr0).m ch]:=by
 unfold eK;rw [List.take_succ_eq_append_getElem h,List.map_append, ←List.append_assoc];simp only [List.map_cons,List.map_nil,List.getD,List.getElem?_eq_getElem h,Option.getD_some]
theorem mq (Q:List Pr) (s:Sw) (ch:Int) (k:Nat):(eK Q s ch k).length≤k+1:=by
 have h:(Q.take k).length≤k:=by rw [List.length_take];omega
 unfold eK
 split
 ·rw [List.nil_append,List.length_map];omega
 ·rw [List.length_append,List.length_map,List.length_singleton];omega
def rk (W wr:World) (Q:List Pr) (x:Sw) (ch:Int) (sb hb_ fb:Nat) (o:Option Addr) (c:Nat) (k:Nat):Prop:=
 ∃u,wr.cell? ⟨fb,0,none⟩=some u∧wr.frozen? ⟨fb,0,none⟩=false∧FR wr (fb+1) u (eK Q x ch k)∧wr.cell? ⟨sb,0,none⟩=some (.int .i64 x.i)∧wr.cell? ⟨hb_,0,none⟩=some (.int .i64 ch)∧dH wr (.slice o Q.length c) Q∧(∀ad,o=some ad→ad.block≠fb∧ad.block<wr.heap.size∧u.ownBlock≠some ad.block)∧Below fb W wr
theorem qF {w:World} {B e sz n m c:Nat} {o:Option Addr} {xs:List Value} (h:w.ownsRow B e sz (.slice o m c) n xs):∀ad,o=some ad→B≤ad.block∧ad.block<w.heap.size:=fun ad e=>by
 subst e
 exact⟨aF h _ rfl,bJ h rfl⟩
theorem RowAt.but2 {α:Type} {C:α→List Value} {sz:Nat} {w w':World} {fb n cap:Nat} {u:Value} {o:Option Addr} {l:List α} (h:RowAt C sz w (.slice o n cap) l) (hb:But w w' fb u) (h1:∀ad,o=some ad→ad.block≠fb∧u.ownBlock≠some ad.block):RowAt C sz w' (.slice o n cap) l:=by
 obtain⟨a,c,hv,hn,h0 |⟨b,off,ha,hc,hL⟩⟩:=h
 ·exact⟨a,c,hv,hn,.inl h0⟩
 ·refine⟨a,c,hv,hn,.inr ⟨b,off,ha,hc,fun i x hx j v hj=>?_⟩⟩
  have e:=hL i x hx j v hj;simp only [Value.slice.injEq]at hv;obtain⟨e1,_,_⟩:=hv;have h2:=h1 _ (e1.trans ha)
  exact(hb _ _ (am e) h2.1 h2.2).trans e
theorem ng (S:List Sw) (P:List Pr) (A:List Ac) (s1 p1 a1:Option Addr) (s2 p2 a2:Nat) (x:Sw) (ch:Int) (w:World) (hC:CfAt w (.slice s1 S.length s2) (.slice p1 P.length p2) (.slice a1 A.length a2) S P A) (hl:P.length≤1000) (hx0:0≤x.i) (hx1:x.i≤100000):
  Calls Tryz.prog 66 #[.agg #[.slice s1 S.length s2,.slice p1 P.length p2,.slice a1 A.length a2],.agg #[.int .i64 x.i,.int .i64 x.t,.int .i64 x.g],.int .i64 ch] w fun e w'=>∃u,e= .returned u∧FR w' w.heap.size u (dR P x ch)∧Below w.heap.size w w':=by
 have HP:=aa hC.2.1;clear hC;obtain⟨Q,hQ⟩:∃Q,Q=P.filter (bN x.i):=⟨_,rfl⟩;have HQL:Q.length≤1000:=by rw [hQ];exact Nat.le_trans (List.length_filter_le _ _) hl
 have HAQ:Hid (dR P x ch=eK Q x ch Q.length):=by
  refine aa ?_
  unfold dR eK;rw [List.take_length,hQ]
 have HQ:=aa hQ;clear hQ
 go_enter Tryz.func66,Tryz.ntmps66
 by_cases hg0:x.g=0
 ·have hgc:(x.g != 0)=false:=by simp [hg0]
  have HG0:=aa hg0;clear hg0
  go_wp2_with fail
  obtain⟨W0,hW⟩:∃W0,W0=w.alloc (.cells #[.slice s1 S.length s2,.slice p1 P.length p2,.slice a1 A.length a2] 29):=⟨_,rfl⟩;rw [←hW];obtain⟨cb,hblk⟩:∃cb,cb=w.heap.size:=⟨_,rfl⟩;have k0:W0.cell? ⟨cb,0,none⟩=some (.slice s1 S.length s2):=zN2 hW hblk rfl;have k1:W0.cell? ⟨cb,1,none⟩=some (.slice p1 P.length p2):=zN2 hW hblk rfl;have k2:W0.cell? ⟨cb,2,none⟩=some (.slice a1 A.length a2):=zN2 hW hblk rfl;have hbN:Below w.heap.size w W0:=by rw [hW];exact aj _ _
  have hzW0:W0.heap.size=cb+1:=by rw [hW,hblk];simp
  have hcbl:w.heap.size≤cb:=by omega
  rw [←hblk];clear hW hblk;have HB:=hbN;clear hbN;obtain⟨W1,hW⟩:∃W1,W1=W0.alloc (.cells #[.int .i64 x.i,.int .i64 x.t,.int .i64 x.g] 59):=⟨_,rfl⟩;rw [←hW];obtain⟨sb,hblk⟩:∃sb,sb=cb+1:=⟨_,rfl⟩;have d0:W1.cell? ⟨sb,0,none⟩=some (.int .i64 x.i):=zN2 hW (hblk.trans hzW0.symm) rfl;have d1:W1.cell? ⟨sb,1,none⟩=some (.int .i64 x.t):=zN2 hW (hblk.trans hzW0.symm) rfl;have d2:W1.cell? ⟨sb,2,none⟩=some (.int .i64 x.g):=zN2 hW (hblk.trans hzW0.symm) rfl;have hbN:Below W0.heap.size W0 W1:=by rw [hW];exact aj _ _
  have hzW1:W1.heap.size=sb+1:=by rw [hW,hblk];simp [hzW0]
  have hsbl:cb<sb:=by omega
  rw [←hblk];clear hW hblk hzW0;replace k0:=zC k0 hbN;replace k1:=zC k1 hbN;replace k2:=zC k2 hbN;replace HB:=zT HB hbN;clear hbN;obtain⟨W2,hW⟩:∃W2,W2=W1.alloc (.cells #[.int .i64 ch] 3):=⟨_,rfl⟩;rw [←hW];obtain⟨hb_,hblk⟩:∃hb_,hb_=sb+1:=⟨_,rfl⟩;have h0:W2.cell? ⟨hb_,0,none⟩=some (.int .i64 ch):=zN2 hW (hblk.trans hzW1.symm) rfl;have hbN:Below W1.heap.size W1 W2:=by rw [hW];exact aj _ _
  have hzW2:W2.heap.size=hb_+1:=by rw [hW,hblk];simp [hzW1]
  have hhb_l:sb<hb_:=by omega
  rw [←hblk];clear hW hblk hzW1;replace k0:=zC k0 hbN;replace k1:=zC k1 hbN;replace k2:=zC k2 hbN;replace d0:=zC d0 hbN;replace d1:=zC d1 hbN;replace d2:=zC d2 hbN;replace HB:=zT HB hbN;clear hbN;obtain⟨W3,hW⟩:∃W3,W3=W2.alloc (.cells #[.slice none 0 0] 31):=⟨_,rfl⟩;rw [←hW];obtain⟨fb,hblk⟩:∃fb,fb=hb_+1:=⟨_,rfl⟩;have f0:W3.cell? ⟨fb,0,none⟩=some (.slice none 0 0):=zN2 hW (hblk.trans hzW2.symm) rfl;have zf:W3.frozen? ⟨fb,0,none⟩=false:=by rw [hW,hblk];exact ev W2 _ hzW2 _ _ _
  have hbN:Below W2.heap.size W2 W3:=by rw [hW];exact aj _ _
  have hzW3:W3.heap.size=fb+1:=by rw [hW,hblk];simp [hzW2]
  have hfbl:hb_<fb:=by omega
  rw [←hblk];clear hW hblk hzW2;replace k0:=zC k0 hbN;replace k1:=zC k1 hbN;replace k2:=zC k2 hbN;replace d0:=zC d0 hbN;replace d1:=zC d1 hbN;replace d2:=zC d2 hbN;replace h0:=zC h0 hbN;replace HB:=zT HB hbN;clear hbN;have hs3:w.heap.size≤cb:=by omega
  have hq1:cb<fb:=by omega
  have hq2:sb<fb:=by omega
  have hq3:hb_<fb:=by omega
  have hq4:fb<W3.heap.size:=by omega
  clear hzW3;have HF0:Hid (FR W3 (fb+1) (.slice none 0 0) (eK Q x ch 0)):=by
   have:eK Q x ch 0= []:=by simp [eK,HG0.out]
   rw [this];exact aa (FR.nil _ _)
  have HUL:Hid (∀g,(Value.slice none 0 0).ownBlock=some g→g<W3.heap.size):=aa (by simp [Value.ownBlock])
  clear hgc;have hs0_5:=HB.size
  refine wp_region_held_drew (S:=(fun w'=>w'.cell? ⟨cb,0,none⟩=some (.slice s1 S.length s2)∧w'.cell? ⟨cb,1,none⟩=some (.slice p1 P.length p2)∧w'.cell? ⟨cb,2,none⟩=some (.slice a1 A.length a2)∧w'.cell? ⟨sb,0,none⟩=some (.int .i64 x.i)∧w'.cell? ⟨sb,1,none⟩=some (.int .i64 x.t)∧w'.cell? ⟨sb,2,none⟩=some (.int .i64 x.g))) (by kernel_rfl) ⟨k0,k1,k2,d0,d1,d2⟩ (fun hHeld=>?_)
  have HDW:Below W3.heap.size W3 W3.drew:=(Below.refl _ _).drew;have hs1:=HDW.size;replace zf:=zK HDW f0 zf;replace k0:=zC k0 HDW;replace k1:=zC k1 HDW;replace k2:=zC k2 HDW;replace d0:=zC d0 HDW;replace d1:=zC d1 HDW;replace d2:=zC d2 HDW;replace h0:=zC h0 HDW;replace f0:=zC f0 HDW;replace HF0:=aa (HF0.out.below HDW zr);replace HB:=zT HB HDW;clear HDW;generalize W3.drew=V2 at*
  refine tk (i:=0) (d:=22) rfl (by kernel_rfl) (fun _ _ _ h=>h) rfl ‹_› (by intro w h;(try dsimp only at h);go_simp <;>with_reducible rfl) ?_
  simp only [nz]
  refine tk (i:=1) (d:=23) rfl (by kernel_rfl) (fun _ _ _ h=>h) rfl ‹_› (by intro w h;(try dsimp only at h);go_simp <;>with_reducible rfl) ?_
  simp only [nz]
  refine tk (i:=2) (d:=24) rfl (by kernel_rfl) (fun _ _ _ h=>h) rfl ‹_› (by intro w h;(try dsimp only at h);go_simp <;>with_reducible rfl) ?_
  simp only [nz]
  refine tk (i:=6) (d:=28) rfl (by kernel_rfl) (fun _ _ _ h=>h) rfl ‹_› (by intro w h;(try dsimp only at h);go_simp <;>with_reducible rfl) ?_
  simp only [nz]
  refine rd (i:=3) (o:=⟨some 25,_,_,_,_,_⟩) (by kernel_rfl) rfl (fun K hK=>?_)
  go_simp
  clear hHeld
  refine(gJ x _).mono ?_
  rintro e V3 ⟨ob,rfl,hc1,hb3⟩;have hs4:=hb3.size;replace zf:=zK hb3 f0 zf;replace k0:=zC k0 hb3;replace k1:=zC k1 hb3;replace k2:=zC k2 hb3;replace d0:=zC d0 hb3;replace d1:=zC d1 hb3;replace d2:=zC d2 hb3;replace h0:=zC h0 hb3;replace f0:=zC f0 hb3;replace HF0:=aa (HF0.out.below hb3 zr);replace HB:=zT HB hb3;have c0:=hc1;clear hc1;clear hb3
  refine hK.out _ _ ⟨k0,k1,k2,d0,d1,d2⟩ (fun hHeld=>?_)
  clear hK K
  (try simp only [nz])
  refine rd (i:=4) (o:=⟨some 26,_,_,_,_,_⟩) (by kernel_rfl) rfl (fun K hK=>?_)
  go_simp
  clear hHeld
  refine(cJ P (bN x.i) _ _ _ _ (RowAt.below HP.out HB zr) (fL c0) iW hl).mono ?_
  rintro e V5 ⟨u,rfl,hor,hb5⟩;have hs6:=hb5.size;replace zf:=zK hb5 f0 zf;replace k0:=zC k0 hb5;replace k1:=zC k1 hb5;replace k2:=zC k2 hb5;replace d0:=zC d0 hb5;replace d1:=zC d1 hb5;replace d2:=zC d2 hb5;replace h0:=zC h0 hb5;replace f0:=zC f0 hb5;replace c0:=zC c0 hb5;replace HF0:=aa (HF0.out.below hb5 zr);replace HB:=zT HB hb5;obtain⟨o,c,rfl⟩:=aD hor;have HRL:=aa (qF hor);have HR:=aa hor;clear hor;clear hb5
  refine hK.out _ _ ⟨k0,k1,k2,d0,d1,d2⟩ (fun hHeld=>?_)
  clear hK K
  (try simp only [nz])
  refine tk (i:=5) (d:=27) rfl (by kernel_rfl) (fun _ _ _ h=>h) rfl ‹_› (by intro w h;(try dsimp only at h);go_simp <;>with_reducible rfl) ?_
  simp only [nz]
  refine wpAnyH_done (by kernel_rfl) ?_ _
  clear hHeld;rw [←HQ.out]at HR⊢;have HQP:=aa (RowAt.of_own dE (by decide) HR.out)
  have HAR:Hid (rk V5 V5 Q x ch sb hb_ fb o c 0):=by
   refine aa ⟨_,f0,zf,HF0.out,d0,h0,HQP.out,fun ad had=>?_,Below.refl _ _⟩
   obtain⟨h1,h2⟩:=HRL.out ad had
   refine⟨by omega,h2,fun e=>?_⟩
   have h3:=HUL.out _ e
   omega
  have HRB:Hid (Below w.heap.size w V5):=aa HB;clear HB HP HQ HR HRL HQP HUL HF0 zf k0 k1 k2 d0 d1 d2 h0 f0 c0
  go_wp2_with fail
  go_loopw [28] (fun i wr=>∃k:Nat,k≤Q.length∧i= .int .i64 k∧Hid (rk V5 wr Q x ch sb hb_ fb o c k)) (fun i _=>Q.length-(intOf i).toNat)
  case atStart=>exact⟨0,by omega,rfl,HAR⟩
  case round=>
   clear HAR;obtain⟨k,hk,rfl,HA⟩:=hrel;obtain⟨uu,f0,z0,hFR,d0,h0,hQP,hpk,hbr⟩:=HA.out;have HFR:=aa hFR;have HPK:=aa hpk;clear hFR hpk HA
   by_cases hlt:k<Q.length
   ·obtain⟨pk,off,cap,e1,hcap, -,g0,g1,g2,g3,g4⟩:=fX hQP hlt
    simp only [Value.slice.injEq,true_and]at e1;obtain⟨rfl,rfl⟩:=e1;have HQP:=aa hQP;clear hQP;have HNX:=aa (kC (s:=x) (ch:=ch) hlt);have HLN:=aa (mq Q x ch k);generalize (Q.getD k pr0).i=y0 at*
    generalize (Q.getD k pr0).s=y1 at*
    generalize (Q.getD k pr0).m=y2 at*
    generalize (Q.getD k pr0).p=y3 at*
    generalize (Q.getD k pr0).c=y4 at*
    have q1:(0:Int)≤(k:Int):=by omega
    have q2:(k:Int)<(Q.length:Int):=by omega
    obtain⟨W9,hW9⟩:∃W9,W9=wr.alloc (.cells #[.int .i64 y0,.int .i64 y1,.int .i64 y2,.int .i64 y3,.int .i64 y4] 71):=⟨_,rfl⟩;have hbW:Below wr.heap.size wr W9:=by rw [hW9];exact aj _ _
    have hfl:=am f0
    go_wp2_with fail
    rw [←hW9];clear hW9;replace z0:=(hbW.frozen (p:=⟨fb,0,none⟩) hfl).trans z0;replace f0:=zC f0 hbW;replace d0:=zC d0 hbW;replace h0:=zC h0 hbW;replace HFR:=aa (HFR.out.below hbW zr);replace HQP:=aa (RowAt.below HQP.out hbW zr);have hbr2:=hbr.trans (hbW.mono (Nat.le_of_lt hfl));have hsz:=hbW.size;clear g0 g1 g2 g3 g4
    refine(it _ _ _ _ _ _ _ _ _ _ d0 h0 f0 z0 hq2 hq3 HFR.out (by have:=HLN.out;omega)).mono ?_
    rintro e w1 ⟨⟨v,rfl⟩,⟨u1,f1,z1,hF1,hub⟩,hbut,hbF⟩;have HE:Hid (rk V5 w1 Q x ch sb hb_ fb (some ⟨pk,off,none⟩) c (k+1)):=by
     refine aa ⟨u1,f1,z1,by rw [HNX.out];exact hF1,(hbF.cell (p:=⟨sb,0,none⟩) hq2).trans d0,(hbF.cell (p:=⟨hb_,0,none⟩) hq3).trans h0,?_,?_,hbr2.trans hbF⟩
     ·exact RowAt.but2 HQP.out hbut (fun ad e=>⟨(HPK.out ad e).1,(HPK.out ad e).2.2⟩)
     ·intro ad e2
      obtain⟨n1,n2,n3⟩:=HPK.out ad e2;have n4:=hbF.size
      exact⟨n1,by omega,hub ad.block (by omega) n3⟩
    clear hF1 hub hbut hbF d0 h0 f0 z0 f1 z1 HFR HQP HPK hbr hbr2 hbW
    go_wp2_with fail
    go_roundw
    case rel=>exact⟨k+1,by omega,by go_num,HE⟩
    case measure=>simp [intOf];omega
   ·obtain rfl:k=Q.length:=by omega
    rw [←HAQ.out]at HFR;have HB2:=aa (HRB.out.trans (hbr.mono (by omega)))
    have HF2:=aa (HFR.out.less (B':=w.heap.size) (by omega))
    obtain⟨uo,uc,rfl⟩:=HFR.out.slc;clear hQP HPK
    go_wp2_with fail
    go_ret
    exact⟨_,rfl,HF2.out,HB2.out⟩
 ·have hgc:(x.g != 0)=true:=by simp [hg0]
  have HG0:=aa hg0;clear hg0
  go_wp2_with fail
  obtain⟨W0,hW⟩:∃W0,W0=w.alloc (.cells #[.slice s1 S.length s2,.slice p1 P.length p2,.slice a1 A.length a2] 29):=⟨_,rfl⟩;rw [←hW];obtain⟨cb,hblk⟩:∃cb,cb=w.heap.size:=⟨_,rfl⟩;have k0:W0.cell? ⟨cb,0,none⟩=some (.slice s1 S.length s2):=zN2 hW hblk rfl;have k1:W0.cell? ⟨cb,1,none⟩=some (.slice p1 P.length p2):=zN2 hW hblk rfl;have k2:W0.cell? ⟨cb,2,none⟩=some (.slice a1 A.length a2):=zN2 hW hblk rfl;have hbN:Below w.heap.size w W0:=by rw [hW];exact aj _ _
  have hzW0:W0.heap.size=cb+1:=by rw [hW,hblk];simp
  have hcbl:w.heap.size≤cb:=by omega
  rw [←hblk];clear hW hblk;have HB:=hbN;clear hbN;obtain⟨W1,hW⟩:∃W1,W1=W0.alloc (.cells #[.int .i64 x.i,.int .i64 x.t,.int .i64 x.g] 59):=⟨_,rfl⟩;rw [←hW];obtain⟨sb,hblk⟩:∃sb,sb=cb+1:=⟨_,rfl⟩;have d0:W1.cell? ⟨sb,0,none⟩=some (.int .i64 x.i):=zN2 hW (hblk.trans hzW0.symm) rfl;have d1:W1.cell? ⟨sb,1,none⟩=some (.int .i64 x.t):=zN2 hW (hblk.trans hzW0.symm) rfl;have d2:W1.cell? ⟨sb,2,none⟩=some (.int .i64 x.g):=zN2 hW (hblk.trans hzW0.symm) rfl;have hbN:Below W0.heap.size W0 W1:=by rw [hW];exact aj _ _
  have hzW1:W1.heap.size=sb+1:=by rw [hW,hblk];simp [hzW0]
  have hsbl:cb<sb:=by omega
  rw [←hblk];clear hW hblk hzW0;replace k0:=zC k0 hbN;replace k1:=zC k1 hbN;replace k2:=zC k2 hbN;replace HB:=zT HB hbN;clear hbN;obtain⟨W2,hW⟩:∃W2,W2=W1.alloc (.cells #[.int .i64 ch] 3):=⟨_,rfl⟩;rw [←hW];obtain⟨hb_,hblk⟩:∃hb_,hb_=sb+1:=⟨_,rfl⟩;have h0:W2.cell? ⟨hb_,0,none⟩=some (.int .i64 ch):=zN2 hW (hblk.trans hzW1.symm) rfl;have hbN:Below W1.heap.size W1 W2:=by rw [hW];exact aj _ _
  have hzW2:W2.heap.size=hb_+1:=by rw [hW,hblk];simp [hzW1]
  have hhb_l:sb<hb_:=by omega
  rw [←hblk];clear hW hblk hzW1;replace k0:=zC k0 hbN;replace k1:=zC k1 hbN;replace k2:=zC k2 hbN;replace d0:=zC d0 hbN;replace d1:=zC d1 hbN;replace d2:=zC d2 hbN;replace HB:=zT HB hbN;clear hbN;obtain⟨W3,hW⟩:∃W3,W3=W2.alloc (.cells #[.slice none 0 0] 31):=⟨_,rfl⟩;rw [←hW];obtain⟨fb,hblk⟩:∃fb,fb=hb_+1:=⟨_,rfl⟩;have f0:W3.cell? ⟨fb,0,none⟩=some (.slice none 0 0):=zN2 hW (hblk.trans hzW2.symm) rfl;have zf:W3.frozen? ⟨fb,0,none⟩=false:=by rw [hW,hblk];exact ev W2 _ hzW2 _ _ _
  have hbN:Below W2.heap.size W2 W3:=by rw [hW];exact aj _ _
  have hzW3:W3.heap.size=fb+1:=by rw [hW,hblk];simp [hzW2]
  have hfbl:hb_<fb:=by omega
  rw [←hblk];clear hW hblk hzW2;replace k0:=zC k0 hbN;replace k1:=zC k1 hbN;replace k2:=zC k2 hbN;replace d0:=zC d0 hbN;replace d1:=zC d1 hbN;replace d2:=zC d2 hbN;replace h0:=zC h0 hbN;replace HB:=zT HB hbN;clear hbN;have hs3:w.heap.size≤cb:=by omega
  have hq1:cb<fb:=by omega
  have hq2:sb<fb:=by omega
  have hq3:hb_<fb:=by omega
  have hq4:fb<W3.heap.size:=by omega
  clear hzW3;clear hgc;have hs0_4:=HB.size
  refine wp_region_held_drew (S:=(fun w'=>w'.cell? ⟨sb,0,none⟩=some (.int .i64 x.i)∧w'.cell? ⟨sb,1,none⟩=some (.int .i64 x.t)∧w'.cell? ⟨sb,2,none⟩=some (.int .i64 x.g))) (by kernel_rfl) ⟨d0,d1,d2⟩ (fun hHeld=>?_)
  have HDW:Below W3.heap.size W3 W3.drew:=(Below.refl _ _).drew;have hs1:=HDW.size;replace zf:=zK HDW f0 zf;replace k0:=zC k0 HDW;replace k1:=zC k1 HDW;replace k2:=zC k2 HDW;replace d0:=zC d0 HDW;replace d1:=zC d1 HDW;replace d2:=zC d2 HDW;replace h0:=zC h0 HDW;replace f0:=zC f0 HDW;replace HB:=zT HB HDW;clear HDW;generalize W3.drew=V2 at*
  refine tk (i:=0) (d:=15) rfl (by kernel_rfl) (fun _ _ _ h=>h) rfl ‹_› (by intro w h;(try dsimp only at h);go_simp <;>with_reducible rfl) ?_
  simp only [nz]
  refine tk (i:=1) (d:=16) rfl (by kernel_rfl) (fun _ _ _ h=>h) rfl ‹_› (by intro w h;(try dsimp only at h);go_simp <;>with_reducible rfl) ?_
  simp only [nz]
  refine tk (i:=2) (d:=17) rfl (by kernel_rfl) (fun _ _ _ h=>h) rfl ‹_› (by intro w h;(try dsimp only at h);go_simp <;>with_reducible rfl) ?_
  simp only [nz]
  refine tk (i:=3) (d:=18) rfl (by kernel_rfl) (fun _ _ _ h=>h) rfl ‹_› (by intro w h;(try dsimp only at h);go_simp <;>with_reducible rfl) ?_
  simp only [nz]
  refine tk (i:=4) (d:=19) rfl (by kernel_rfl) (fun _ _ _ h=>h) rfl ‹_› (by intro w h;(try dsimp only at h);go_simp <;>with_reducible rfl) ?_
  simp only [nz]
  refine rd (i:=5) (o:=⟨some 20,_,_,_,_,_⟩) (by kernel_rfl) rfl (fun K hK=>?_)
  go_simp
  clear hHeld
  refine(fT _ _ hx0 hx1).mono ?_
  rintro e VR ⟨rfl,hVV⟩;rw [hVV];clear hVV
  refine hK.out _ _ ⟨d0,d1,d2⟩ (fun hHeld=>?_)
  clear hK K
  (try simp only [nz])
  refine rd (i:=6) (o:=⟨some 21,_,_,_,_,_⟩) (by kernel_rfl) rfl (fun K hK=>?_)
  go_simp
  clear hHeld
  refine(it _ _ _ _ [] _ _ _ _ _ d0 h0 f0 zf hq2 hq3 (FR.nil _ _) (by simp)).mono ?_
  rintro e W4 ⟨⟨v,rfl⟩,⟨u1,f1,z1,hF1,hub⟩,hbut,hbF⟩;clear hub hbut;replace k0:=(hbF.cell (p:=⟨cb,0,none⟩) (show cb<fb by omega)).trans k0
  replace k1:=(hbF.cell (p:=⟨cb,1,none⟩) (show cb<fb by omega)).trans k1
  replace k2:=(hbF.cell (p:=⟨cb,2,none⟩) (show cb<fb by omega)).trans k2
  replace d0:=(hbF.cell (p:=⟨sb,0,none⟩) (show sb<fb by omega)).trans d0
  replace d1:=(hbF.cell (p:=⟨sb,1,none⟩) (show sb<fb by omega)).trans d1
  replace d2:=(hbF.cell (p:=⟨sb,2,none⟩) (show sb<fb by omega)).trans d2
  replace h0:=(hbF.cell (p:=⟨hb_,0,none⟩) (show hb_<fb by omega)).trans h0
  replace HB:=HB.trans (hbF.mono (by omega))
  have zf:=z1;clear z1 hbF f0;have hq5:=am f1
  refine hK.out _ _ ⟨d0,d1,d2⟩ (fun hHeld=>?_)
  clear hK K
  (try simp only [nz])
  refine wpAnyH_done (by kernel_rfl) ?_ _
  clear hHeld;have HF1:Hid (FR W4 (fb+1) u1 (eK Q x ch 0)):=by
   have:eK Q x ch 0= []++ [aP x.i x.g (60000+x.i) ch]:=by simp [eK,HG0.out]
   rw [this];exact aa hF1
  have HUL:Hid (∀g,u1.ownBlock=some g→g<W4.heap.size):=aa HF1.out.lt;clear hF1;obtain⟨uo,uc,rfl⟩:=HF1.out.slc
  go_wp2_with fail
  have hs0_5:=HB.size
  refine wp_region_held_drew (S:=(fun w'=>w'.cell? ⟨cb,0,none⟩=some (.slice s1 S.length s2)∧w'.cell? ⟨cb,1,none⟩=some (.slice p1 P.length p2)∧w'.cell? ⟨cb,2,none⟩=some (.slice a1 A.length a2)∧w'.cell? ⟨sb,0,none⟩=some (.int .i64 x.i)∧w'.cell? ⟨sb,1,none⟩=some (.int .i64 x.t)∧w'.cell? ⟨sb,2,none⟩=some (.int .i64 x.g))) (by kernel_rfl) ⟨k0,k1,k2,d0,d1,d2⟩ (fun hHeld=>?_)
  have HDW:Below W4.heap.size W4 W4.drew:=(Below.refl _ _).drew;have hs1:=HDW.size;replace zf:=zK HDW f1 zf;replace k0:=zC k0 HDW;replace k1:=zC k1 HDW;replace k2:=zC k2 HDW;replace d0:=zC d0 HDW;replace d1:=zC d1 HDW;replace d2:=zC d2 HDW;replace h0:=zC h0 HDW;replace f1:=zC f1 HDW;replace HF1:=aa (HF1.out.below HDW zr);replace HB:=zT HB HDW;clear HDW;generalize W4.drew=V2 at*
  refine tk (i:=0) (d:=22) rfl (by kernel_rfl) (fun _ _ _ h=>h) rfl ‹_› (by intro w h;(try dsimp only at h);go_simp <;>with_reducible rfl) ?_
  simp only [nz]
  refine tk (i:=1) (d:=23) rfl (by kernel_rfl) (fun _ _ _ h=>h) rfl ‹_› (by intro w h;(try dsimp only at h);go_simp <;>with_reducible rfl) ?_
  simp only [nz]
  refine tk (i:=2) (d:=24) rfl (by kernel_rfl) (fun _ _ _ h=>h) rfl ‹_› (by intro w h;(try dsimp only at h);go_simp <;>with_reducible rfl) ?_
  simp only [nz]
  refine tk (i:=6) (d:=28) rfl (by kernel_rfl) (fun _ _ _ h=>h) rfl ‹_› (by intro w h;(try dsimp only at h);go_simp <;>with_reducible rfl) ?_
  simp only [nz]
  refine rd (i:=3) (o:=⟨some 25,_,_,_,_,_⟩) (by kernel_rfl) rfl (fun K hK=>?_)
  go_simp
  clear hHeld
  refine(gJ x _).mono ?_
  rintro e V3 ⟨ob,rfl,hc1,hb3⟩;have hs4:=hb3.size;replace zf:=zK hb3 f1 zf;replace k0:=zC k0 hb3;replace k1:=zC k1 hb3;replace k2:=zC k2 hb3;replace d0:=zC d0 hb3;replace d1:=zC d1 hb3;replace d2:=zC d2 hb3;replace h0:=zC h0 hb3;replace f1:=zC f1 hb3;replace HF1:=aa (HF1.out.below hb3 zr);replace HB:=zT HB hb3;have c0:=hc1;clear hc1;clear hb3
  refine hK.out _ _ ⟨k0,k1,k2,d0,d1,d2⟩ (fun hHeld=>?_)
  clear hK K
  (try simp only [nz])
  refine rd (i:=4) (o:=⟨some 26,_,_,_,_,_⟩) (by kernel_rfl) rfl (fun K hK=>?_)
  go_simp
  clear hHeld
  refine(cJ P (bN x.i) _ _ _ _ (RowAt.below HP.out HB zr) (fL c0) iW hl).mono ?_
  rintro e V5 ⟨u,rfl,hor,hb5⟩;have hs6:=hb5.size;replace zf:=zK hb5 f1 zf;replace k0:=zC k0 hb5;replace k1:=zC k1 hb5;replace k2:=zC k2 hb5;replace d0:=zC d0 hb5;replace d1:=zC d1 hb5;replace d2:=zC d2 hb5;replace h0:=zC h0 hb5;replace f1:=zC f1 hb5;replace c0:=zC c0 hb5;replace HF1:=aa (HF1.out.below hb5 zr);replace HB:=zT HB hb5;obtain⟨o,c,rfl⟩:=aD hor;have HRL:=aa (qF hor);have HR:=aa hor;clear hor;clear hb5
  refine hK.out _ _ ⟨k0,k1,k2,d0,d1,d2⟩ (fun hHeld=>?_)
  clear hK K
  (try simp only [nz])
  refine tk (i:=5) (d:=27) rfl (by kernel_rfl) (fun _ _ _ h=>h) rfl ‹_› (by intro w h;(try dsimp only at h);go_simp <;>with_reducible rfl) ?_
  simp only [nz]
  refine wpAnyH_done (by kernel_rfl) ?_ _
  clear hHeld;rw [←HQ.out]at HR⊢;have HQP:=aa (RowAt.of_own dE (by decide) HR.out)
  have HAR:Hid (rk V5 V5 Q x ch sb hb_ fb o c 0):=by
   refine aa ⟨_,f1,zf,HF1.out,d0,h0,HQP.out,fun ad had=>?_,Below.refl _ _⟩
   obtain⟨h1,h2⟩:=HRL.out ad had
   refine⟨by omega,h2,fun e=>?_⟩
   have h3:=HUL.out _ e
   omega
  have HRB:Hid (Below w.heap.size w V5):=aa HB;clear HB HP HQ HR HRL HQP HUL HF1 zf k0 k1 k2 d0 d1 d2 h0 f1 c0
  go_wp2_with fail
  go_loopw [28] (fun i wr=>∃k:Nat,k≤Q.length∧i= .int .i64 k∧Hid (rk V5 wr Q x ch sb hb_ fb o c k)) (fun i _=>Q.length-(intOf i).toNat)
  case atStart=>exact⟨0,by omega,rfl,HAR⟩
  case round=>
   clear HAR;obtain⟨k,hk,rfl,HA⟩:=hrel;obtain⟨uu,f0,z0,hFR,d0,h0,hQP,hpk,hbr⟩:=HA.out;have HFR:=aa hFR;have HPK:=aa hpk;clear hFR hpk HA
   by_cases hlt:k<Q.length
   ·obtain⟨pk,off,cap,e1,hcap, -,g0,g1,g2,g3,g4⟩:=fX hQP hlt
    simp only [Value.slice.injEq,true_and]at e1;obtain⟨rfl,rfl⟩:=e1;have HQP:=aa hQP;clear hQP;have HNX:=aa (kC (s:=x) (ch:=ch) hlt);have HLN:=aa (mq Q x ch k);generalize (Q.getD k pr0).i=y0 at*
    generalize (Q.getD k pr0).s=y1 at*
    generalize (Q.getD k pr0).m=y2 at*
    generalize (Q.getD k pr0).p=y3 at*
    generalize (Q.getD k pr0).c=y4 at*
    have q1:(0:Int)≤(k:Int):=by omega
    have q2:(k:Int)<(Q.length:Int):=by omega
    obtain⟨W9,hW9⟩:∃W9,W9=wr.alloc (.cells #[.int .i64 y0,.int .i64 y1,.int .i64 y2,.int .i64 y3,.int .i64 y4] 71):=⟨_,rfl⟩;have hbW:Below wr.heap.size wr W9:=by rw [hW9];exact aj _ _
    have hfl:=am f0
    go_wp2_with fail
    rw [←hW9];clear hW9;replace z0:=(hbW.frozen (p:=⟨fb,0,none⟩) hfl).trans z0;replace f0:=zC f0 hbW;replace d0:=zC d0 hbW;replace h0:=zC h0 hbW;replace HFR:=aa (HFR.out.below hbW zr);replace HQP:=aa (RowAt.below HQP.out hbW zr);have hbr2:=hbr.trans (hbW.mono (Nat.le_of_lt hfl));have hsz:=hbW.size;clear g0 g1 g2 g3 g4
    refine(it _ _ _ _ _ _ _ _ _ _ d0 h0 f0 z0 hq2 hq3 HFR.out (by have:=HLN.out;omega)).mono ?_
    rintro e w1 ⟨⟨v,rfl⟩,⟨u1,f1,z1,hF1,hub⟩,hbut,hbF⟩;have HE:Hid (rk V5 w1 Q x ch sb hb_ fb (some ⟨pk,off,none⟩) c (k+1)):=by
     refine aa ⟨u1,f1,z1,by rw [HNX.out];exact hF1,(hbF.cell (p:=⟨sb,0,none⟩) hq2).trans d0,(hbF.cell (p:=⟨hb_,0,none⟩) hq3).trans h0,?_,?_,hbr2.trans hbF⟩
     ·exact RowAt.but2 HQP.out hbut (fun ad e=>⟨(HPK.out ad e).1,(HPK.out ad e).2.2⟩)
     ·intro ad e2
      obtain⟨n1,n2,n3⟩:=HPK.out ad e2;have n4:=hbF.size
      exact⟨n1,by omega,hub ad.block (by omega) n3⟩
    clear hF1 hub hbut hbF d0 h0 f0 z0 f1 z1 HFR HQP HPK hbr hbr2 hbW
    go_wp2_with fail
    go_roundw
    case rel=>exact⟨k+1,by omega,by go_num,HE⟩
    case measure=>simp [intOf];omega
   ·obtain rfl:k=Q.length:=by omega
    rw [←HAQ.out]at HFR;have HB2:=aa (HRB.out.trans (hbr.mono (by omega)))
    have HF2:=aa (HFR.out.less (B':=w.heap.size) (by omega))
    obtain⟨uo,uc,rfl⟩:=HFR.out.slc;clear hQP HPK
    go_wp2_with fail
    go_ret
    exact⟨_,rfl,HF2.out,HB2.out⟩
theorem FR.ge {w:World} {B:Nat} {u:Value} {fs:List Fl} (h:FR w B u fs):∀g,u.ownBlock=some g→B≤g:=by
 obtain⟨lo,h1,h2,h3⟩:=h
 exact aF h2
theorem nY {o:Oper} {a:Act} {K:Act→World→Prop} {Q:Exit→Act→World→Prop} {w:World} (s x:Operand)
  (ho:o.op= .call {callee:=.builtin .append,args:= #[s,x],argTypes:= #[31,31]}) (B:Nat) (v:Value) (fs:List Fl) (hs:a.eval s=v) (hF:FR w B v fs) (ad:Addr) (m c:Nat) (lo2:List Fv)
  (hx:a.eval x= .slice (some ad) m c) (hm:lo2.length=m) (hnews:∀j u,(C lo2)[j]?=some u→w.cell? (ad.add j)=some u) (ok2:∀y∈lo2,FvIn w B v y) (hm0:0<m) (hlen:fs.length+m≤1000000) (hB:B≤w.heap.size)
  (h:∀g cap w',FR w' B (.slice (some ⟨g,0,none⟩) (fs.length+m) cap) (fs++lo2.map Fv.f)→w.grownBy w' v.ownBlock→(v.ownBlock=some g∨g=w.heap.size)→K (a.put o.dst (.slice (some ⟨g,0,none⟩) (fs.length+m) cap)) w'):o.wp Tryz.prog a w K Q:=by
 obtain⟨iF,hiF,zF0,zF1,zF2⟩:=info_parts ez;obtain⟨lo,h1,h2,h3⟩:=hF;have hl:lo.length=fs.length:=by rw [←h1,List.length_map]
 rw [hl]at h2
 refine wp_append_lies w s x 31 ho B 90 iF _ 4 64 Tryz.underlying31 hiF zF0 zF1 zF2 rfl (by decide) v fs.length (C lo) hs h2 ad m c (C lo2) hx (by rw [qX,hm]) hnews (me ok2) hm0 (by unfold maxLen;omega) (by omega) hB _ rfl ?_
 intro g cap w' ho' hg ha _
 refine h g cap w' ?_ hg ha
 have:=FR.app h3 ok2 ho' (by omega) hg ha
 rw [h1]at this
 exact this
theorem cZ {ops:Array Oper} {rest:List Oper} {o:Oper} {a:Act} {Q:Exit→Act→World→Prop} {w:World} (hgd:o.guard=none) (s x:Operand)
  (ho:o.op= .call {callee:=.builtin .append,args:= #[s,x],argTypes:= #[31,31]}) (B:Nat) (v:Value) (fs:List Fl) (hs:a.eval s=v) (hF:FR w B v fs) (ad:Addr) (m c:Nat) (lo2:List Fv)
  (hx:a.eval x= .slice (some ad) m c) (hm:lo2.length=m) (hnews:∀j u,(C lo2)[j]?=some u→w.cell? (ad.add j)=some u) (ok2:∀y∈lo2,FvIn w B v y) (hm0:0<m) (hlen:fs.length+m≤1000000) (hB:B≤w.heap.size)
  (h:∀g cap w',FR w' B (.slice (some ⟨g,0,none⟩) (fs.length+m) cap) (fs++lo2.map Fv.f)→w.grownBy w' v.ownBlock→(v.ownBlock=some g∨g=w.heap.size)→wpList Tryz.prog ops Q rest (a.put o.dst (.slice (some ⟨g,0,none⟩) (fs.length+m) cap)) w'):wpList Tryz.prog ops Q (o::rest) a w:=
 wpList_plain hgd fun _ hK=>nY s x ho B v fs hs hF ad m c lo2 hx hm hnews ok2 hm0 hlen hB fun g cap w' h1 h2 h3=>hK _ _ (h g cap w' h1 h2 h3)
theorem pT {ops:Array Oper} {o:Oper} {a:Act} {K:Act→World→Prop} {Q:Exit→Act→World→Prop} {E:Prop} {w:World} (hgd:o.guard=none) (s x:Operand)
  (ho:o.op= .call {callee:=.builtin .append,args:= #[s,x],argTypes:= #[31,31]}) (B:Nat) (v:Value) (fs:List Fl) (hs:a.eval s=v) (hF:FR w B v fs) (ad:Addr) (m c:Nat) (lo2:List Fv)
  (hx:a.eval x= .slice (some ad) m c) (hm:lo2.length=m) (hnews:∀j u,(C lo2)[j]?=some u→w.cell? (ad.add j)=some u) (ok2:∀y∈lo2,FvIn w B v y) (hm0:0<m) (hlen:fs.length+m≤1000000) (hB:B≤w.heap.size)
  (h:∀g cap w',FR w' B (.slice (some ⟨g,0,none⟩) (fs.length+m) cap) (fs++lo2.map Fv.f)→w.grownBy w' v.ownBlock→(v.ownBlock=some g∨g=w.heap.size)→K (a.put o.dst (.slice (some ⟨g,0,none⟩) (fs.length+m) cap)) w'):
  if Region.wanted o (yielded ops a.tmps)=true then Oper.wp Tryz.prog o a w K Q else E:=by
 have hw:Region.wanted o (yielded ops a.tmps)=true:=by simp [Region.wanted,hgd]
 rw [if_pos hw]
 exact nY s x ho B v fs hs hF ad m c lo2 hx hm hnews ok2 hm0 hlen hB h
def cO (Q:List Pr) (s:Int) (k:Nat):List Fl:=(Q.take k).map fun p=>⟨3,0,[isM 8 s,isM 1 p.m],ar p⟩
theorem lN {Q:List Pr} {s:Int} {k:Nat} (h:k<Q.length):cO Q s (k+1)=cO Q s k++ [⟨3,0,[isM 8 s,isM 1 (Q.getD k pr0).m],ar (Q.getD k pr0)⟩]:=by
 unfold cO;rw [List.take_succ_eq_append_getElem h,List.map_append];simp only [List.map_cons,List.map_nil,List.getD,List.getElem?_eq_getElem h,Option.getD_some]
theorem mF (Q:List Pr) (s:Int) (k:Nat):(cO Q s k).length≤k:=by
 unfold cO;rw [List.length_map,List.length_take];omega
theorem j4 (S:List Sw) (P:List Pr) (A:List Ac) (s1 p1 a1:Option Addr) (s2 p2 a2:Nat) (x:Sw) (w:World) (hC:CfAt w (.slice s1 S.length s2) (.slice p1 P.length p2) (.slice a1 A.length a2) S P A) (hl:P.length≤1000) (hx0:0≤x.i) (hx1:x.i≤100000):
  Calls Tryz.prog 69 #[.agg #[.slice s1 S.length s2,.slice p1 P.length p2,.slice a1 A.length a2],.agg #[.int .i64 x.i,.int .i64 x.t,.int .i64 x.g]] w fun e w'=>∃u,e= .returned u∧FR w' w.heap.size u (bz P x)∧Below w.heap.size w w':=by
 have HP:=aa hC.2.1;clear hC;obtain⟨Q,hQ⟩:∃Q,Q=P.filter fun p=>bN x.i p&&aC p:=⟨_,rfl⟩
 have HQL:Q.length≤1000:=by rw [hQ];exact Nat.le_trans (List.length_filter_le _ _) hl
 have HAQ:Hid (bz P x=cO Q x.i Q.length):=by
  refine aa ?_
  unfold bz cO;rw [List.take_length,hQ]
 have HQ:=aa hQ;clear hQ
 go_enter Tryz.func69,Tryz.ntmps69
 go_wp2_with fail
 obtain⟨W0,hW⟩:∃W0,W0=w.alloc (.cells #[.slice s1 S.length s2,.slice p1 P.length p2,.slice a1 A.length a2] 29):=⟨_,rfl⟩;rw [←hW];obtain⟨cb,hblk⟩:∃cb,cb=w.heap.size:=⟨_,rfl⟩;have k0:W0.cell? ⟨cb,0,none⟩=some (.slice s1 S.length s2):=zN2 hW hblk rfl;have k1:W0.cell? ⟨cb,1,none⟩=some (.slice p1 P.length p2):=zN2 hW hblk rfl;have k2:W0.cell? ⟨cb,2,none⟩=some (.slice a1 A.length a2):=zN2 hW hblk rfl;have hbN:Below w.heap.size w W0:=by rw [hW];exact aj _ _
 have hzW0:W0.heap.size=cb+1:=by rw [hW,hblk];simp
 have hcbl:w.heap.size≤cb:=by omega
 rw [←hblk];clear hW hblk;have HB:=hbN;clear hbN;obtain⟨W1,hW⟩:∃W1,W1=W0.alloc (.cells #[.int .i64 x.i,.int .i64 x.t,.int .i64 x.g] 59):=⟨_,rfl⟩;rw [←hW];obtain⟨sb,hblk⟩:∃sb,sb=cb+1:=⟨_,rfl⟩;have d0:W1.cell? ⟨sb,0,none⟩=some (.int .i64 x.i):=zN2 hW (hblk.trans hzW0.symm) rfl;have d1:W1.cell? ⟨sb,1,none⟩=some (.int .i64 x.t):=zN2 hW (hblk.trans hzW0.symm) rfl;have d2:W1.cell? ⟨sb,2,none⟩=some (.int .i64 x.g):=zN2 hW (hblk.trans hzW0.symm) rfl;have hbN:Below W0.heap.size W0 W1:=by rw [hW];exact aj _ _
 have hzW1:W1.heap.size=sb+1:=by rw [hW,hblk];simp [hzW0]
 have hsbl:cb<sb:=by omega
 rw [←hblk];clear hW hblk hzW0;replace k0:=zC k0 hbN;replace k1:=zC k1 hbN;replace k2:=zC k2 hbN;replace HB:=zT HB hbN;clear hbN;have hsb:=am d0;clear hzW1;have hs0_2:=HB.size
 refine wp_region_held_drew (S:=(fun w'=>w'.cell? ⟨cb,0,none⟩=some (.slice s1 S.length s2)∧w'.cell? ⟨cb,1,none⟩=some (.slice p1 P.length p2)∧w'.cell? ⟨cb,2,none⟩=some (.slice a1 A.length a2)∧w'.cell? ⟨sb,0,none⟩=some (.int .i64 x.i)∧w'.cell? ⟨sb,1,none⟩=some (.int .i64 x.t)∧w'.cell? ⟨sb,2,none⟩=some (.int .i64 x.g))) (by kernel_rfl) ⟨k0,k1,k2,d0,d1,d2⟩ (fun hHeld=>?_)
 have HDW:Below W1.heap.size W1 W1.drew:=(Below.refl _ _).drew;have hs1:=HDW.size;replace k0:=zC k0 HDW;replace k1:=zC k1 HDW;replace k2:=zC k2 HDW;replace d0:=zC d0 HDW;replace d1:=zC d1 HDW;replace d2:=zC d2 HDW;replace HB:=zT HB HDW;clear HDW;generalize W1.drew=V2 at*
 refine tk (i:=0) (d:=9) rfl (by kernel_rfl) (fun _ _ _ h=>h) rfl ‹_› (by intro w h;(try dsimp only at h);go_simp <;>with_reducible rfl) ?_
 simp only [nz]
 refine tk (i:=1) (d:=10) rfl (by kernel_rfl) (fun _ _ _ h=>h) rfl ‹_› (by intro w h;(try dsimp only at h);go_simp <;>with_reducible rfl) ?_
 simp only [nz]
 refine tk (i:=2) (d:=11) rfl (by kernel_rfl) (fun _ _ _ h=>h) rfl ‹_› (by intro w h;(try dsimp only at h);go_simp <;>with_reducible rfl) ?_
 simp only [nz]
 refine tk (i:=7) (d:=16) rfl (by kernel_rfl) (fun _ _ _ h=>h) rfl ‹_› (by intro w h;(try dsimp only at h);go_simp <;>with_reducible rfl) ?_
 simp only [nz]
 refine rd (i:=3) (o:=⟨some 12,_,_,_,_,_⟩) (by kernel_rfl) rfl (fun K hK=>?_)
 go_simp
 clear hHeld
 refine(gJ x _).mono ?_
 rintro e V3 ⟨ob,rfl,hc1,hb3⟩;have hs4:=hb3.size;replace k0:=zC k0 hb3;replace k1:=zC k1 hb3;replace k2:=zC k2 hb3;replace d0:=zC d0 hb3;replace d1:=zC d1 hb3;replace d2:=zC d2 hb3;replace HB:=zT HB hb3;have c0:=hc1;clear hc1;clear hb3
 refine hK.out _ _ ⟨k0,k1,k2,d0,d1,d2⟩ (fun hHeld=>?_)
 clear hK K
 (try simp only [nz])
 refine rd (i:=4) (o:=⟨some 13,_,_,_,_,_⟩) (by kernel_rfl) rfl (fun K hK=>?_)
 go_simp
 clear hHeld
 refine(kH _ _ _ _ _).mono ?_
 rintro e V5 ⟨bb,bc,rfl,hc1,hc2,hb5⟩;have hs6:=hb5.size;replace k0:=zC k0 hb5;replace k1:=zC k1 hb5;replace k2:=zC k2 hb5;replace d0:=zC d0 hb5;replace d1:=zC d1 hb5;replace d2:=zC d2 hb5;replace c0:=zC c0 hb5;replace HB:=zT HB hb5;have b0:=hc1;have b1:=hc2;clear hc1 hc2;clear hb5
 refine hK.out _ _ ⟨k0,k1,k2,d0,d1,d2⟩ (fun hHeld=>?_)
 clear hK K
 (try simp only [nz])
 refine rd (i:=5) (o:=⟨some 14,_,_,_,_,_⟩) (by kernel_rfl) rfl (fun K hK=>?_)
 go_simp
 clear hHeld
 refine(cJ P (fun p=>bN x.i p&&aC p) _ _ _ _ (RowAt.below HP.out HB zr) (ix b0 b1 (fL c0) (ik _) iW kw) lb hl).mono ?_
 rintro e V7 ⟨u,rfl,hor,hb7⟩;have hs8:=hb7.size;replace k0:=zC k0 hb7;replace k1:=zC k1 hb7;replace k2:=zC k2 hb7;replace d0:=zC d0 hb7;replace d1:=zC d1 hb7;replace d2:=zC d2 hb7;replace c0:=zC c0 hb7;replace b0:=zC b0 hb7;replace b1:=zC b1 hb7;replace HB:=zT HB hb7;obtain⟨o,c,rfl⟩:=aD hor;have HR:=aa hor;clear hor;clear hb7
 refine hK.out _ _ ⟨k0,k1,k2,d0,d1,d2⟩ (fun hHeld=>?_)
 clear hK K
 (try simp only [nz])
 refine tk (i:=6) (d:=15) rfl (by kernel_rfl) (fun _ _ _ h=>h) rfl ‹_› (by intro w h;(try dsimp only at h);go_simp <;>with_reducible rfl) ?_
 simp only [nz]
 refine wpAnyH_done (by kernel_rfl) ?_ _
 clear hHeld;rw [←HQ.out]at HR⊢;have HRB:Hid (Below w.heap.size w V7):=aa HB;have hs9:=HB.size;clear HB HP HQ k0 k1 k2 c0 b0 b1
 go_wp2_with fail
 go_loopw [5,16] (fun v i wr=>∃k:Nat,k≤Q.length∧i= .int .i64 k∧Hid (FR wr V7.heap.size v (cO Q x.i k))∧Below V7.heap.size V7 wr) (fun _ i _=>Q.length-(intOf i).toNat)
 case atStart=>exact⟨0,by omega,rfl,aa (FR.nil _ _),Below.refl _ _⟩
 case round=>
  obtain⟨k,hk,rfl,HF,hbr⟩:=hrel
  by_cases hlt:k<Q.length
  ·obtain⟨b,off,cap,e1,hcap, -,g0,g1,g2,g3,g4⟩:=fX (RowAt.below (RowAt.of_own dE (by decide) HR.out) hbr zr) hlt
   simp only [Value.slice.injEq,true_and]at e1;obtain⟨rfl,rfl⟩:=e1;have HNX:=aa (lN (s:=x.i) hlt);have hln:=mF Q x.i k;obtain⟨vo,vc,rfl⟩:=HF.out.slc;have HTD:Hid (ar (Q.getD k pr0)=ar ⟨(Q.getD k pr0).i,(Q.getD k pr0).s,(Q.getD k pr0).m,(Q.getD k pr0).p,(Q.getD k pr0).c⟩):=rfl;rw [HTD.out]at HNX;clear HTD;generalize (Q.getD k pr0).i=y0 at*
   generalize (Q.getD k pr0).s=y1 at*
   generalize (Q.getD k pr0).m=y2 at*
   generalize (Q.getD k pr0).p=y3 at*
   generalize (Q.getD k pr0).c=y4 at*
   generalize hFK:cO Q x.i k=FK at*
   have HFK:=aa hFK;clear hFK;obtain⟨N,hN⟩:∃N,N=FK.length:=⟨_,rfl⟩;rw [←hN]at HF hln⊢;have HNN:=aa hN;clear hN;have q1:(0:Int)≤(k:Int):=by omega
   have q2:(k:Int)<(Q.length:Int):=by omega
   have e0:=zC d0 hbr;have e1:=zC d1 hbr;have e2:=zC d2 hbr;have hx3:=am e0;have hx4:¬sb=wr.heap.size:=by omega
   go_wp2_with fail
   clear hx4;obtain⟨W9,hW9⟩:∃W9,W9=wr.alloc (.cells #[.int .i64 y0,.int .i64 y1,.int .i64 y2,.int .i64 y3,.int .i64 y4] 71):=⟨_,rfl⟩;rw [←hW9];obtain⟨pb,hpb⟩:∃pb,pb=wr.heap.size:=⟨_,rfl⟩;have p0:W9.cell? ⟨pb,0,none⟩=some (.int .i64 y0):=zN2 hW9 hpb rfl;have p1:W9.cell? ⟨pb,1,none⟩=some (.int .i64 y1):=zN2 hW9 hpb rfl;have p2:W9.cell? ⟨pb,2,none⟩=some (.int .i64 y2):=zN2 hW9 hpb rfl;have p3:W9.cell? ⟨pb,3,none⟩=some (.int .i64 y3):=zN2 hW9 hpb rfl;have p4:W9.cell? ⟨pb,4,none⟩=some (.int .i64 y4):=zN2 hW9 hpb rfl;have HB:Below wr.heap.size wr W9:=by rw [hW9];exact aj _ _
   replace e0:=zC e0 HB;replace e1:=zC e1 HB;replace e2:=zC e2 HB;have HFv:=aa (HF.out.below HB zr);have HUB:=aa HF.out.lt;rw [←hpb];clear hW9 hpb HF g0 g1 g2 g3 g4;have hs0_5:=HB.size
   refine wp_region_held_drew (S:=(fun w'=>w'.cell? ⟨sb,0,none⟩=some (.int .i64 x.i)∧w'.cell? ⟨sb,1,none⟩=some (.int .i64 x.t)∧w'.cell? ⟨sb,2,none⟩=some (.int .i64 x.g)∧w'.cell? ⟨pb,0,none⟩=some (.int .i64 y0)∧w'.cell? ⟨pb,1,none⟩=some (.int .i64 y1)∧w'.cell? ⟨pb,2,none⟩=some (.int .i64 y2)∧w'.cell? ⟨pb,3,none⟩=some (.int .i64 y3)∧w'.cell? ⟨pb,4,none⟩=some (.int .i64 y4))) (by kernel_rfl) ⟨e0,e1,e2,p0,p1,p2,p3,p4⟩ (fun hHeld=>?_)
   have HDW:Below W9.heap.size W9 W9.drew:=(Below.refl _ _).drew;have hs101:=HDW.size;replace e0:=zC e0 HDW;replace e1:=zC e1 HDW;replace e2:=zC e2 HDW;replace p0:=zC p0 HDW;replace p1:=zC p1 HDW;replace p2:=zC p2 HDW;replace p3:=zC p3 HDW;replace p4:=zC p4 HDW;replace HFv:=aa (HFv.out.below HDW zr);replace HB:=zT HB HDW;clear HDW;generalize W9.drew=V102 at*
   refine tk (i:=0) (d:=20) rfl (by kernel_rfl) (fun _ _ _ h=>h) rfl ‹_› (by intro w h;(try dsimp only at h);go_simp <;>with_reducible rfl) ?_
   simp only [nz]
   refine tk (i:=1) (d:=21) rfl (by kernel_rfl) (fun _ _ _ h=>h) rfl ‹_› (by intro w h;(try dsimp only at h);go_simp <;>with_reducible rfl) ?_
   simp only [nz]
   refine tk (i:=3) (d:=23) rfl (by kernel_rfl) (fun _ _ _ h=>h) rfl ‹_› (by intro w h;(try dsimp only at h);go_simp <;>with_reducible rfl) ?_
   simp only [nz]
   refine tk (i:=4) (d:=24) rfl (by kernel_rfl) (fun _ _ _ h=>h) rfl ‹_› (by intro w h;(try dsimp only at h);go_simp <;>with_reducible rfl) ?_
   simp only [nz]
   refine rd (i:=2) (o:=⟨some 22,_,_,_,_,_⟩) (by kernel_rfl) rfl (fun K hK=>?_)
   go_simp
   clear hHeld
   refine(bk _ _ _).mono ?_
   rintro e V103 ⟨rfl,hb103⟩;have hs104:=hb103.size;replace e0:=zC e0 hb103;replace e1:=zC e1 hb103;replace e2:=zC e2 hb103;replace p0:=zC p0 hb103;replace p1:=zC p1 hb103;replace p2:=zC p2 hb103;replace p3:=zC p3 hb103;replace p4:=zC p4 hb103;replace HFv:=aa (HFv.out.below hb103 zr);replace HB:=zT HB hb103;clear hb103
   refine hK.out _ _ ⟨e0,e1,e2,p0,p1,p2,p3,p4⟩ (fun hHeld=>?_)
   clear hK K
   (try simp only [nz])
   refine rd (i:=5) (o:=⟨some 25,_,_,_,_,_⟩) (by kernel_rfl) rfl (fun K hK=>?_)
   go_simp
   clear hHeld
   refine(bk _ _ _).mono ?_
   rintro e V105 ⟨rfl,hb105⟩;have hs106:=hb105.size;replace e0:=zC e0 hb105;replace e1:=zC e1 hb105;replace e2:=zC e2 hb105;replace p0:=zC p0 hb105;replace p1:=zC p1 hb105;replace p2:=zC p2 hb105;replace p3:=zC p3 hb105;replace p4:=zC p4 hb105;replace HFv:=aa (HFv.out.below hb105 zr);replace HB:=zT HB hb105;clear hb105
   refine hK.out _ _ ⟨e0,e1,e2,p0,p1,p2,p3,p4⟩ (fun hHeld=>?_)
   clear hK K
   (try simp only [nz])
   refine rd (i:=6) (o:=⟨some 26,_,_,_,_,_⟩) (by kernel_rfl) rfl (fun K hK=>?_)
   go_simp
   clear hHeld
   refine ah (fun V107 g107 hV hg=>?_)
   rw [←hg];have hbN:=zB hV;have hg107:V105.heap.size≤g107:=by omega
   have hl107:=zL hV hg;have HM:Hid (V107.ownsRow wr.heap.size 95 3 (.slice (some ⟨g107,0,none⟩) 2 2) 2 (M [isM 8 x.i,isM 1 y2])):=zW hV hg HB.size (by decide) rfl
   have hs108:=hbN.size;replace e0:=zC e0 hbN;replace e1:=zC e1 hbN;replace e2:=zC e2 hbN;replace p0:=zC p0 hbN;replace p1:=zC p1 hbN;replace p2:=zC p2 hbN;replace p3:=zC p3 hbN;replace p4:=zC p4 hbN;replace HFv:=aa (HFv.out.below hbN zr);replace HB:=zT HB hbN;clear hV hg hbN
   refine hK.out _ _ ⟨e0,e1,e2,p0,p1,p2,p3,p4⟩ (fun hHeld=>?_)
   clear hK K
   (try simp only [nz])
   refine tk (i:=7) (d:=8) rfl (by kernel_rfl) (fun _ _ _ h=>h) rfl ‹_› (by intro w h;(try dsimp only at h);go_simp <;>with_reducible rfl) ?_
   simp only [nz]
   refine wpAnyH_done (by kernel_rfl) ?_ _
   clear hHeld
   go_wp2_with fail
   have HBold:=HB.size
   refine(ir _ _ _ _ _ _).mono ?_
   rintro e V109 ⟨u109,rfl,ho109,hb109⟩;have hs110:=hb109.size;replace e0:=zC e0 hb109;replace e1:=zC e1 hb109;replace e2:=zC e2 hb109;replace p0:=zC p0 hb109;replace p1:=zC p1 hb109;replace p2:=zC p2 hb109;replace p3:=zC p3 hb109;replace p4:=zC p4 hb109;replace HM:=zO HM hb109;replace HFv:=aa (HFv.out.below hb109 zr);replace HB:=zT HB hb109;obtain⟨g111,c111,rfl,hg111,hl111⟩:=aK ho109 (by decide)
   have HD:=aa (aw ho109 (Nat.le_trans HBold zr));clear ho109 HBold;clear hb109
   go_wp2_with fail
   refine(ax _ _ _ _ _ _ _ _ _).mono ?_
   rintro e V112 ⟨rfl,hb112⟩;have hs113:=hb112.size;replace e0:=zC e0 hb112;replace e1:=zC e1 hb112;replace e2:=zC e2 hb112;replace p0:=zC p0 hb112;replace p1:=zC p1 hb112;replace p2:=zC p2 hb112;replace p3:=zC p3 hb112;replace p4:=zC p4 hb112;replace HM:=zO HM hb112;replace HD:=zO HD hb112;replace HFv:=aa (HFv.out.below hb112 zr);replace HB:=zT HB hb112;clear hb112;obtain⟨WA,hWA⟩:∃WA,WA=V112.alloc (.cells #[.int .i64 3,.int .i64 0,.slice (some ⟨g107,0,none⟩) 2 2,.slice (some ⟨g111,0,none⟩) 2 c111] 90):=⟨_,rfl⟩;have hbN:Below V112.heap.size V112 WA:=by rw [hWA];exact aj _ _
   have NEWS:Hid (∀j u,(C [(⟨⟨3,0,[isM 8 x.i,isM 1 y2],ar ⟨y0,y1,y2,y3,y4⟩⟩,.slice (some ⟨g107,0,none⟩) 2 2,.slice (some ⟨g111,0,none⟩) 2 c111⟩:Fv)])[j]?=some u→WA.cell? ((⟨V112.heap.size,0,none⟩:Addr).add j)=some u):=by rw [hWA];exact aa (dM V112 _ _)
   have HFV:Hid (FvIn WA V7.heap.size (.slice vo N vc) (⟨⟨3,0,[isM 8 x.i,isM 1 y2],ar ⟨y0,y1,y2,y3,y4⟩⟩,.slice (some ⟨g107,0,none⟩) 2 2,.slice (some ⟨g111,0,none⟩) 2 c111⟩:Fv)):=aa (((aT (f:=⟨3,0,[isM 8 x.i,isM 1 y2],ar ⟨y0,y1,y2,y3,y4⟩⟩) HM.out HD.out HUB.out).below hbN).less hbr.size);replace HFv:=aa (HFv.out.below hbN zr);replace HB:=zT HB hbN;have hsA:V7.heap.size≤WA.heap.size:=Nat.le_trans hbr.size HB.size;have HWA:Hid (V112.alloc (.cells #[.int .i64 3,.int .i64 0,.slice (some ⟨g107,0,none⟩) 2 2,.slice (some ⟨g111,0,none⟩) 2 c111] 90)=WA):=hWA.symm;clear hWA hbN
   go_wp2_with (at_builtin;rw [ag HWA];refine cZ rfl _ _ rfl V7.heap.size (.slice vo N vc) FK rfl (ag HFv) ⟨V112.heap.size,0,none⟩ 1 1 [(⟨⟨3,0,[isM 8 x.i,isM 1 y2],ar ⟨y0,y1,y2,y3,y4⟩⟩,.slice (some ⟨g107,0,none⟩) 2 2,.slice (some ⟨g111,0,none⟩) 2 c111⟩:Fv)] rfl rfl (ag NEWS) (fun y hy=>by rw [List.mem_singleton.1 hy];exact HFV.out) (by decide) (by rw [←HNN.out];omega) hsA ?_)
   intro gq cq wq hfq hgq _;have hb3:Below V7.heap.size V7 wq:=(hbr.trans (HB.mono hbr.size)).grown hgq hsA HFv.out.ge;have HE:Hid (FR wq V7.heap.size (.slice (some ⟨gq,0,none⟩) (FK.length+1) cq) (cO Q x.i (k+1))):=by rw [HNX.out];exact aa hfq
   clear hfq hgq HFv NEWS HFV HWA HUB HNX HB hbr e0 e1 e2 p0 p1 p2 p3 p4 HM HD;rw [←HNN.out]at HE⊢
   go_wp2_with fail
   go_roundw
   case rel=>exact⟨k+1,by omega,by go_num,HE,hb3⟩
   case measure=>simp [intOf];omega
  ·obtain rfl:k=Q.length:=by omega
   rw [←HAQ.out]at HF;have HB2:=aa (HRB.out.trans (hbr.mono hs9));have HF2:=aa (HF.out.less (B':=w.heap.size) hs9);obtain⟨uo,uc,rfl⟩:=HF.out.slc
   go_wp2_with fail
   go_ret
   exact⟨_,rfl,HF2.out,HB2.out⟩
theorem mM {a b c:World} {g:Nat} {v:Value} (h1:a.grownBy b (some g)) (h2:b.grownBy c v.ownBlock) (hv:∀k,v.ownBlock=some k→k=g∨a.heap.size≤k):a.grownBy c (some g):=
 ⟨h2.os.trans h1.os,h2.tape.trans h1.tape,h2.output.trans h1.output,Nat.le_trans h1.size h2.size,fun k hk hne=>(h2.block k (Nat.lt_of_lt_of_le hk h1.size) (fun e=>by
  rcases hv k e.symm with h | h
  ·exact hne (by rw [h])
  ·omega)).trans (h1.block k hk hne)⟩
theorem cv {a b c:World} {g:Nat} (h1:a.grownBy b (some g)) (h2:Below b.heap.size b c):a.grownBy c (some g):=
 ⟨h2.os.trans h1.os,h2.tape.trans h1.tape,h2.output.trans h1.output,Nat.le_trans h1.size h2.size,fun k hk hne=>(h2.block k (Nat.lt_of_lt_of_le hk h1.size)).trans (h1.block k hk hne)⟩
def dj (Q:List Pr) (s:Sw) (k:Nat):List Fl:=⟨3,1,aR s++ [⟨6,65534,0⟩],[]⟩::(Q.take k).map fun p=>⟨3,0,aR s++ [isM 5 p.p],bX p++ar p⟩
theorem mX {Q:List Pr} {s:Sw} {k:Nat} (h:k<Q.length):dj Q s (k+1)=dj Q s k++ [⟨3,0,aR s++ [isM 5 (Q.getD k pr0).p],bX (Q.getD k pr0)++ar (Q.getD k pr0)⟩]:=by
 unfold dj;rw [List.take_succ_eq_append_getElem h,List.map_append];simp only [List.map_cons,List.map_nil,List.getD,List.getElem?_eq_getElem h,Option.getD_some,List.cons_append]
theorem nG (Q:List Pr) (s:Sw) (k:Nat):(dj Q s k).length≤k+1:=by
 unfold dj;rw [List.length_cons,List.length_map,List.length_take];omega
theorem lw (S:List Sw) (P:List Pr) (A:List Ac) (s1 p1 a1:Option Addr) (s2 p2 a2:Nat) (x:Sw) (w:World) (hC:CfAt w (.slice s1 S.length s2) (.slice p1 P.length p2) (.slice a1 A.length a2) S P A) (hl:P.length≤1000) (hx0:0≤x.i) (hx1:x.i≤100000) (hP:∀p∈P,0≤p.s∧p.s≤100000) (hS:S.length≤1000):
  Calls Tryz.prog 70 #[.agg #[.slice s1 S.length s2,.slice p1 P.length p2,.slice a1 A.length a2],.agg #[.int .i64 x.i,.int .i64 x.t,.int .i64 x.g]] w fun e w'=>∃u,e= .returned u∧FR w' w.heap.size u (br S P x)∧Below w.heap.size w w':=by
 have HP:=aa hC.2.1;have HSW:=aa hC.1;have HPB:=aa hP;clear hC hP;obtain⟨Q,hQ⟩:∃Q,Q=P.filter fun p=>bV S x.t p&&aC p:=⟨_,rfl⟩
 have HQL:Q.length≤1000:=by rw [hQ];exact Nat.le_trans (List.length_filter_le _ _) hl
 have HQB:Hid (∀p∈Q,0≤p.s∧p.s≤100000):=aa (fun p hp=>HPB.out p (by rw [hQ]at hp;exact(List.mem_filter.1 hp).1))
 have HAQ:Hid (¬x.g=0→br S P x=dj Q x Q.length):=by
  refine aa (fun h=>?_)
  unfold br dj;rw [if_neg h,List.take_length,hQ]
 have HQ:=aa hQ;clear hQ HPB
 go_enter Tryz.func70,Tryz.ntmps70
 by_cases hg0:x.g=0
 ·have hgc:(x.g==0)=true:=by simp [hg0]
  have HG0:Hid (br S P x= []):=by
   refine aa ?_
   unfold br;rw [if_pos hg0]
  clear hg0
  go_wp2_with fail
  go_ret
  exact⟨_,rfl,by rw [HG0.out];exact FR.nil _ _,((Below.refl _ _).alloc zr _).alloc (by simp) _⟩
 ·have hgc:(x.g==0)=false:=by simp [hg0]
  replace HAQ:=aa (HAQ.out hg0);clear hg0
  go_wp2_with fail
  obtain⟨W0,hW⟩:∃W0,W0=w.alloc (.cells #[.slice s1 S.length s2,.slice p1 P.length p2,.slice a1 A.length a2] 29):=⟨_,rfl⟩;rw [←hW];obtain⟨cb,hblk⟩:∃cb,cb=w.heap.size:=⟨_,rfl⟩;have k0:W0.cell? ⟨cb,0,none⟩=some (.slice s1 S.length s2):=zN2 hW hblk rfl;have k1:W0.cell? ⟨cb,1,none⟩=some (.slice p1 P.length p2):=zN2 hW hblk rfl;have k2:W0.cell? ⟨cb,2,none⟩=some (.slice a1 A.length a2):=zN2 hW hblk rfl;have hbN:Below w.heap.size w W0:=by rw [hW];exact aj _ _
  have hzW0:W0.heap.size=cb+1:=by rw [hW,hblk];simp
  have hcbl:w.heap.size≤cb:=by omega
  rw [←hblk];clear hW hblk;have HB:=hbN;clear hbN;obtain⟨W1,hW⟩:∃W1,W1=W0.alloc (.cells #[.int .i64 x.i,.int .i64 x.t,.int .i64 x.g] 59):=⟨_,rfl⟩;rw [←hW];obtain⟨sb,hblk⟩:∃sb,sb=cb+1:=⟨_,rfl⟩;have d0:W1.cell? ⟨sb,0,none⟩=some (.int .i64 x.i):=zN2 hW (hblk.trans hzW0.symm) rfl;have d1:W1.cell? ⟨sb,1,none⟩=some (.int .i64 x.t):=zN2 hW (hblk.trans hzW0.symm) rfl;have d2:W1.cell? ⟨sb,2,none⟩=some (.int .i64 x.g):=zN2 hW (hblk.trans hzW0.symm) rfl;have hbN:Below W0.heap.size W0 W1:=by rw [hW];exact aj _ _
  have hzW1:W1.heap.size=sb+1:=by rw [hW,hblk];simp [hzW0]
  have hsbl:cb<sb:=by omega
  rw [←hblk];clear hW hblk hzW0;replace k0:=zC k0 hbN;replace k1:=zC k1 hbN;replace k2:=zC k2 hbN;replace HB:=zT HB hbN;clear hbN;have hsb:=am d0;clear hzW1;clear hgc;have hs0_3:=HB.size
  refine wp_region_held_drew (S:=(fun w'=>w'.cell? ⟨sb,0,none⟩=some (.int .i64 x.i)∧w'.cell? ⟨sb,1,none⟩=some (.int .i64 x.t)∧w'.cell? ⟨sb,2,none⟩=some (.int .i64 x.g))) (by kernel_rfl) ⟨d0,d1,d2⟩ (fun hHeld=>?_)
  have HDW:Below W1.heap.size W1 W1.drew:=(Below.refl _ _).drew;have hs1:=HDW.size;replace k0:=zC k0 HDW;replace k1:=zC k1 HDW;replace k2:=zC k2 HDW;replace d0:=zC d0 HDW;replace d1:=zC d1 HDW;replace d2:=zC d2 HDW;replace HB:=zT HB HDW;clear HDW;generalize W1.drew=V2 at*
  refine tk (i:=0) (d:=14) rfl (by kernel_rfl) (fun _ _ _ h=>h) rfl ‹_› (by intro w h;(try dsimp only at h);go_simp <;>with_reducible rfl) ?_
  simp only [nz]
  refine tk (i:=1) (d:=15) rfl (by kernel_rfl) (fun _ _ _ h=>h) rfl ‹_› (by intro w h;(try dsimp only at h);go_simp <;>with_reducible rfl) ?_
  simp only [nz]
  refine tk (i:=3) (d:=17) rfl (by kernel_rfl) (fun _ _ _ h=>h) rfl ‹_› (by intro w h;(try dsimp only at h);go_simp <;>with_reducible rfl) ?_
  simp only [nz]
  refine tk (i:=4) (d:=18) rfl (by kernel_rfl) (fun _ _ _ h=>h) rfl ‹_› (by intro w h;(try dsimp only at h);go_simp <;>with_reducible rfl) ?_
  simp only [nz]
  refine rd (i:=2) (o:=⟨some 16,_,_,_,_,_⟩) (by kernel_rfl) rfl (fun K hK=>?_)
  go_simp
  clear hHeld
  refine(bk _ _ _).mono ?_
  rintro e V3 ⟨rfl,hb3⟩;have hs4:=hb3.size;replace k0:=zC k0 hb3;replace k1:=zC k1 hb3;replace k2:=zC k2 hb3;replace d0:=zC d0 hb3;replace d1:=zC d1 hb3;replace d2:=zC d2 hb3;replace HB:=zT HB hb3;clear hb3
  refine hK.out _ _ ⟨d0,d1,d2⟩ (fun hHeld=>?_)
  clear hK K
  (try simp only [nz])
  refine rd (i:=5) (o:=⟨some 19,_,_,_,_,_⟩) (by kernel_rfl) rfl (fun K hK=>?_)
  go_simp
  clear hHeld
  refine(fT _ _ hx0 hx1).mono ?_
  rintro e VR ⟨rfl,hVV⟩;rw [hVV];clear hVV
  refine hK.out _ _ ⟨d0,d1,d2⟩ (fun hHeld=>?_)
  clear hK K
  (try simp only [nz])
  refine rd (i:=6) (o:=⟨some 20,_,_,_,_,_⟩) (by kernel_rfl) rfl (fun K hK=>?_)
  go_simp
  clear hHeld
  refine(bk _ _ _).mono ?_
  rintro e V5 ⟨rfl,hb5⟩;have hs6:=hb5.size;replace k0:=zC k0 hb5;replace k1:=zC k1 hb5;replace k2:=zC k2 hb5;replace d0:=zC d0 hb5;replace d1:=zC d1 hb5;replace d2:=zC d2 hb5;replace HB:=zT HB hb5;clear hb5
  refine hK.out _ _ ⟨d0,d1,d2⟩ (fun hHeld=>?_)
  clear hK K
  (try simp only [nz])
  refine rd (i:=7) (o:=⟨some 21,_,_,_,_,_⟩) (by kernel_rfl) rfl (fun K hK=>?_)
  go_simp
  clear hHeld
  refine ah (fun V7 g7 hV hg=>?_)
  rw [←hg];have hbN:=zB hV;have hg7:V5.heap.size≤g7:=by omega
  have hl7:=zL hV hg;have HT:Hid (V7.ownsRow w.heap.size 95 3 (.slice (some ⟨g7,0,none⟩) 2 2) 2 (M [isM 8 x.i,isM 1 (60000+x.i)])):=zW hV hg HB.size (by decide) rfl
  have hs8:=hbN.size;replace k0:=zC k0 hbN;replace k1:=zC k1 hbN;replace k2:=zC k2 hbN;replace d0:=zC d0 hbN;replace d1:=zC d1 hbN;replace d2:=zC d2 hbN;replace HB:=zT HB hbN;clear hV hg hbN
  refine hK.out _ _ ⟨d0,d1,d2⟩ (fun hHeld=>?_)
  clear hK K
  (try simp only [nz])
  refine tk (i:=8) (d:=5) rfl (by kernel_rfl) (fun _ _ _ h=>h) rfl ‹_› (by intro w h;(try dsimp only at h);go_simp <;>with_reducible rfl) ?_
  simp only [nz]
  refine wpAnyH_done (by kernel_rfl) ?_ _
  clear hHeld
  go_wp2_with fail
  obtain⟨V9,hV⟩:∃V9,V9=V7.alloc (.cells #[.int .i64 6,.int .i64 65534,.int .i64 0] 95):=⟨_,rfl⟩;rw [←hV];obtain⟨g9,hg'⟩:∃g9,g9=V7.heap.size:=⟨_,rfl⟩;have hg:g9=V7.heap.size:=hg';rw [←hg'];have hbN:=zB hV;have hg9:V7.heap.size≤g9:=by omega
  have hl9:=zL hV hg;have hzV9:V9.heap.size=g9+1:=by rw [hV,hg];simp
  have t0:V9.cell? ⟨g9,0,none⟩=some (.int .i64 6):=zN2 hV hg rfl;have t1:V9.cell? ⟨g9,1,none⟩=some (.int .i64 65534):=zN2 hV hg rfl;have t2:V9.cell? ⟨g9,2,none⟩=some (.int .i64 0):=zN2 hV hg rfl;have hs10:=hbN.size;replace k0:=zC k0 hbN;replace k1:=zC k1 hbN;replace k2:=zC k2 hbN;replace d0:=zC d0 hbN;replace d1:=zC d1 hbN;replace d2:=zC d2 hbN;replace HT:=zO HT hbN;replace HB:=zT HB hbN;clear hV hg hg' hbN;obtain⟨V11,hV⟩:∃V11,V11=V9.alloc (.cells #[.int .i64 6,.int .i64 65534,.int .i64 0] 95):=⟨_,rfl⟩;rw [←hV];obtain⟨g11,hg'⟩:∃g11,g11=g9+1:=⟨_,rfl⟩;have hg:g11=V9.heap.size:=hg'.trans hzV9.symm;rw [←hg'];have hbN:=zB hV;have hg11:V9.heap.size≤g11:=by omega
  have hl11:=zL hV hg;have hzV11:V11.heap.size=g11+1:=by rw [hV,hg];simp
  have HL1:Hid (V11.ownsRow w.heap.size 95 3 (.slice (some ⟨g11,0,none⟩) 1 1) 1 (M [⟨6,65534,0⟩])):=zW hV hg HB.size (by decide) rfl
  have hs12:=hbN.size;replace k0:=zC k0 hbN;replace k1:=zC k1 hbN;replace k2:=zC k2 hbN;replace d0:=zC d0 hbN;replace d1:=zC d1 hbN;replace d2:=zC d2 hbN;replace t0:=zC t0 hbN;replace t1:=zC t1 hbN;replace t2:=zC t2 hbN;replace HT:=zO HT hbN;replace HB:=zT HB hbN;clear hV hg hg' hbN hzV9;obtain⟨V13,hV⟩:∃V13,V13=V11.alloc (.cells #[.slice (some ⟨g7,0,none⟩) 2 2,.slice (some ⟨g11,0,none⟩) 1 1] 87):=⟨_,rfl⟩;rw [←hV];obtain⟨g13,hg'⟩:∃g13,g13=g11+1:=⟨_,rfl⟩;have hg:g13=V11.heap.size:=hg'.trans hzV11.symm;rw [←hg'];have hbN:=zB hV;have hg13:V11.heap.size≤g13:=by omega
  have hl13:=zL hV hg;have hzV13:V13.heap.size=g13+1:=by rw [hV,hg];simp
  have q0:V13.cell? ⟨g13,0,none⟩=some (.slice (some ⟨g7,0,none⟩) 2 2):=zN2 hV hg rfl;have q1:V13.cell? ⟨g13,1,none⟩=some (.slice (some ⟨g11,0,none⟩) 1 1):=zN2 hV hg rfl;have hs14:=hbN.size;replace k0:=zC k0 hbN;replace k1:=zC k1 hbN;replace k2:=zC k2 hbN;replace d0:=zC d0 hbN;replace d1:=zC d1 hbN;replace d2:=zC d2 hbN;replace t0:=zC t0 hbN;replace t1:=zC t1 hbN;replace t2:=zC t2 hbN;replace HT:=zO HT hbN;replace HL1:=zO HL1 hbN;replace HB:=zT HB hbN;clear hV hg hg' hbN hzV11;clear hzV13;have HBold:=HB.size
  refine(dX [((.slice (some ⟨g7,0,none⟩) 2 2:Value),2,M [isM 8 x.i,isM 1 (60000+x.i)]),((.slice (some ⟨g11,0,none⟩) 1 1:Value),1,M [⟨6,65534,0⟩])] g13 2 V13 (fun j hj=>match j,hj with | 0,_=>q0 | 1,_=>q1 | j+2,h=>absurd h (by simp)) (in2 (SrcAt.of_own HT.out (cU _)) (SrcAt.of_own HL1.out (cU _))) (by exact(show(2:Nat)≤10 by decide)) (by exact(show(2:Nat)≤2 by decide)) (in2 (by exact(show(2:Nat)≤100000 by decide)) (by exact(show(1:Nat)≤100000 by decide)))).mono ?_
  rintro e V15 ⟨u15,rfl,ho15,hb15⟩;have hs16:=hb15.size;replace k0:=zC k0 hb15;replace k1:=zC k1 hb15;replace k2:=zC k2 hb15;replace d0:=zC d0 hb15;replace d1:=zC d1 hb15;replace d2:=zC d2 hb15;replace t0:=zC t0 hb15;replace t1:=zC t1 hb15;replace t2:=zC t2 hb15;replace q0:=zC q0 hb15;replace q1:=zC q1 hb15;replace HT:=zO HT hb15;replace HL1:=zO HL1 hb15;replace HB:=zT HB hb15;obtain⟨g17,c17,rfl,hg17,hl17⟩:=aK (n:=3) ho15 (by decide)
  have HM:Hid (V15.ownsRow w.heap.size 95 3 (.slice (some ⟨g17,0,none⟩) 3 c17) 3 (M (aR x++ [⟨6,65534,0⟩]))):=aa (aw ho15 HBold);clear ho15 HBold HL1 q0 q1;clear hb15
  go_wp2_with fail
  refine(ax _ _ _ _ _ _ _ _ _).mono ?_
  rintro e V18 ⟨rfl,hb18⟩;have hs19:=hb18.size;replace k0:=zC k0 hb18;replace k1:=zC k1 hb18;replace k2:=zC k2 hb18;replace d0:=zC d0 hb18;replace d1:=zC d1 hb18;replace d2:=zC d2 hb18;replace t0:=zC t0 hb18;replace t1:=zC t1 hb18;replace t2:=zC t2 hb18;replace HT:=zO HT hb18;replace HM:=zO HM hb18;replace HB:=zT HB hb18;clear hb18
  go_wp2_with fail
  obtain⟨V20,hV⟩:∃V20,V20=V18.alloc (.cells #[.int .i64 3,.int .i64 1,.slice (some ⟨g17,0,none⟩) 3 c17,.slice none 0 0] 90):=⟨_,rfl⟩;rw [←hV];obtain⟨g20,hg'⟩:∃g20,g20=V18.heap.size:=⟨_,rfl⟩;have hg:g20=V18.heap.size:=hg';rw [←hg'];have hbN:=zB hV;have hg20:V18.heap.size≤g20:=by omega
  have hl20:=zL hV hg;have hzV20:V20.heap.size=g20+1:=by rw [hV,hg];simp
  have HF0:Hid (FR V20 w.heap.size (.slice (some ⟨g20,0,none⟩) 1 1) (dj Q x 0)):=by
   rw [hV,hg]
   refine aa (FR.lit (lo:=[⟨⟨3,1,aR x++ [(⟨6,65534,0⟩:Mt)],[]⟩,.slice (some ⟨g17,0,none⟩) 3 c17,.slice none 0 0⟩]) rfl rfl HB.size (by decide) (fun x hx=>?_))
   simp only [List.mem_cons,List.not_mem_nil,or_false]at hx
   rcases hx with rfl
   ·exact aT HM.out (World.ownsRow_nil _ _ _ _) (by simp [Value.ownBlock])
  have hs21:=hbN.size;replace k0:=zC k0 hbN;replace k1:=zC k1 hbN;replace k2:=zC k2 hbN;replace d0:=zC d0 hbN;replace d1:=zC d1 hbN;replace d2:=zC d2 hbN;replace t0:=zC t0 hbN;replace t1:=zC t1 hbN;replace t2:=zC t2 hbN;replace HT:=zO HT hbN;replace HM:=zO HM hbN;replace HB:=zT HB hbN;clear hV hg hg' hbN;clear hzV20;have hs0_6:=HB.size
  refine wp_region_held_drew (S:=(fun w'=>w'.cell? ⟨cb,0,none⟩=some (.slice s1 S.length s2)∧w'.cell? ⟨cb,1,none⟩=some (.slice p1 P.length p2)∧w'.cell? ⟨cb,2,none⟩=some (.slice a1 A.length a2)∧w'.cell? ⟨sb,0,none⟩=some (.int .i64 x.i)∧w'.cell? ⟨sb,1,none⟩=some (.int .i64 x.t)∧w'.cell? ⟨sb,2,none⟩=some (.int .i64 x.g))) (by kernel_rfl) ⟨k0,k1,k2,d0,d1,d2⟩ (fun hHeld=>?_)
  have HDW:Below V20.heap.size V20 V20.drew:=(Below.refl _ _).drew;have hs22:=HDW.size;replace k0:=zC k0 HDW;replace k1:=zC k1 HDW;replace k2:=zC k2 HDW;replace d0:=zC d0 HDW;replace d1:=zC d1 HDW;replace d2:=zC d2 HDW;replace t0:=zC t0 HDW;replace t1:=zC t1 HDW;replace t2:=zC t2 HDW;replace HT:=zO HT HDW;replace HF0:=aa (HF0.out.below HDW zr);replace HB:=zT HB HDW;clear HDW;generalize V20.drew=V23 at*
  refine tk (i:=0) (d:=30) rfl (by kernel_rfl) (fun _ _ _ h=>h) rfl ‹_› (by intro w h;(try dsimp only at h);go_simp <;>with_reducible rfl) ?_
  simp only [nz]
  refine tk (i:=1) (d:=31) rfl (by kernel_rfl) (fun _ _ _ h=>h) rfl ‹_› (by intro w h;(try dsimp only at h);go_simp <;>with_reducible rfl) ?_
  simp only [nz]
  refine tk (i:=2) (d:=32) rfl (by kernel_rfl) (fun _ _ _ h=>h) rfl ‹_› (by intro w h;(try dsimp only at h);go_simp <;>with_reducible rfl) ?_
  simp only [nz]
  refine tk (i:=3) (d:=33) rfl (by kernel_rfl) (fun _ _ _ h=>h) rfl ‹_› (by intro w h;(try dsimp only at h);go_simp <;>with_reducible rfl) ?_
  simp only [nz]
  refine tk (i:=4) (d:=34) rfl (by kernel_rfl) (fun _ _ _ h=>h) rfl ‹_› (by intro w h;(try dsimp only at h);go_simp <;>with_reducible rfl) ?_
  simp only [nz]
  refine tk (i:=9) (d:=39) rfl (by kernel_rfl) (fun _ _ _ h=>h) rfl ‹_› (by intro w h;(try dsimp only at h);go_simp <;>with_reducible rfl) ?_
  simp only [nz]
  refine rd (i:=5) (o:=⟨some 35,_,_,_,_,_⟩) (by kernel_rfl) rfl (fun K hK=>?_)
  go_simp
  clear hHeld
  refine(m7 _ _ _ _ _ _ _ _ _ _ _).mono ?_
  rintro e V24 ⟨rb,rc,rfl,hc1,hc2,hb24⟩;have hs25:=hb24.size;replace k0:=zC k0 hb24;replace k1:=zC k1 hb24;replace k2:=zC k2 hb24;replace d0:=zC d0 hb24;replace d1:=zC d1 hb24;replace d2:=zC d2 hb24;replace t0:=zC t0 hb24;replace t1:=zC t1 hb24;replace t2:=zC t2 hb24;replace HT:=zO HT hb24;replace HF0:=aa (HF0.out.below hb24 zr);replace HB:=zT HB hb24;have r0:=hc1;have r1:=hc2;clear hc1 hc2;clear hb24
  refine hK.out _ _ ⟨k0,k1,k2,d0,d1,d2⟩ (fun hHeld=>?_)
  clear hK K
  (try simp only [nz])
  refine rd (i:=6) (o:=⟨some 36,_,_,_,_,_⟩) (by kernel_rfl) rfl (fun K hK=>?_)
  go_simp
  clear hHeld
  refine(kH _ _ _ _ _).mono ?_
  rintro e V26 ⟨bb,bc,rfl,hc1,hc2,hb26⟩;have hs27:=hb26.size;replace k0:=zC k0 hb26;replace k1:=zC k1 hb26;replace k2:=zC k2 hb26;replace d0:=zC d0 hb26;replace d1:=zC d1 hb26;replace d2:=zC d2 hb26;replace t0:=zC t0 hb26;replace t1:=zC t1 hb26;replace t2:=zC t2 hb26;replace r0:=zC r0 hb26;replace r1:=zC r1 hb26;replace HT:=zO HT hb26;replace HF0:=aa (HF0.out.below hb26 zr);replace HB:=zT HB hb26;have b0:=hc1;have b1:=hc2;clear hc1 hc2;clear hb26
  refine hK.out _ _ ⟨k0,k1,k2,d0,d1,d2⟩ (fun hHeld=>?_)
  clear hK K
  (try simp only [nz])
  refine rd (i:=7) (o:=⟨some 37,_,_,_,_,_⟩) (by kernel_rfl) rfl (fun K hK=>?_)
  go_simp
  clear hHeld
  refine(cJ P (fun p=>bV S x.t p&&aC p) _ _ _ _ (RowAt.below HP.out HB zr) (ix b0 b1 (mS r0 r1 (RowAt.below HSW.out HB zr) (by omega)) (ik _) pK kw) lb hl).mono ?_
  rintro e V28 ⟨u,rfl,hor,hb28⟩;have hs29:=hb28.size;replace k0:=zC k0 hb28;replace k1:=zC k1 hb28;replace k2:=zC k2 hb28;replace d0:=zC d0 hb28;replace d1:=zC d1 hb28;replace d2:=zC d2 hb28;replace t0:=zC t0 hb28;replace t1:=zC t1 hb28;replace t2:=zC t2 hb28;replace r0:=zC r0 hb28;replace r1:=zC r1 hb28;replace b0:=zC b0 hb28;replace b1:=zC b1 hb28;replace HT:=zO HT hb28;replace HF0:=aa (HF0.out.below hb28 zr);replace HB:=zT HB hb28;obtain⟨o,c,rfl⟩:=aD hor;have HRN:Hid (∀m g,(Value.slice o m c).ownBlock=some g→g20<g):=aa (fun m g e=>by have:=aF hor g (by cases o <;>exact e);omega)
  have HR:=aa hor;clear hor;clear hb28
  refine hK.out _ _ ⟨k0,k1,k2,d0,d1,d2⟩ (fun hHeld=>?_)
  clear hK K
  (try simp only [nz])
  refine tk (i:=8) (d:=38) rfl (by kernel_rfl) (fun _ _ _ h=>h) rfl ‹_› (by intro w h;(try dsimp only at h);go_simp <;>with_reducible rfl) ?_
  simp only [nz]
  refine wpAnyH_done (by kernel_rfl) ?_ _
  clear hHeld;rw [←HQ.out]at HR⊢;have HRB:Hid (Below w.heap.size w V28):=aa HB;have hs9:=HB.size;have hz1:w.heap.size≤g20:=by omega
  have hz2:g20<V28.heap.size:=by omega
  have hz3:sb<g20:=by omega
  have hz4:g7<g20:=by omega
  have HTT:=HT;clear HT HB HP HQ HSW k0 k1 k2 t0 t1 t2 r0 r1 b0 b1
  go_wp2_with fail
  go_loopw [7,39] (fun v i wr=>∃k:Nat,k≤Q.length∧i= .int .i64 k∧Hid (FR wr w.heap.size v (dj Q x k))∧Hid (∀g,v.ownBlock=some g→g=g20∨V28.heap.size≤g)∧Hid (V28.grownBy wr (some g20))) (fun _ i _=>Q.length-(intOf i).toNat)
  case atStart=>exact⟨0,by omega,rfl,HF0,aa (by simp [Value.ownBlock]),aa ⟨rfl,rfl,rfl,Nat.le_refl _,fun _ _ _=>rfl⟩⟩
  case round=>
   clear HF0;obtain⟨k,hk,rfl,HF,HVB,HGR⟩:=hrel;have hgs:V28.heap.size≤wr.heap.size:=HGR.out.size
   by_cases hlt:k<Q.length
   ·have HR1:=aa (HR.out.kept HGR.out (.inr (fun e=>absurd (HRN.out _ _ e) (by omega))))
    have HT:=aa (aX HGR.out HTT.out (by omega))
    obtain⟨b,off,cap,e1,hcap, -,g0,g1,g2,g3,g4⟩:=fX (RowAt.of_own dE (by decide) HR1.out) hlt
    simp only [Value.slice.injEq,true_and]at e1;obtain⟨rfl,rfl⟩:=e1;have hyb:=HQB.out (Q.getD k pr0) (by rw [List.getD_eq_getElem?_getD,List.getElem?_eq_getElem hlt];exact List.getElem_mem _)
    have HNX:=aa (mX (s:=x) hlt);have hln:=nG Q x k;obtain⟨vo,vc,rfl⟩:=HF.out.slc;have HTD:Hid (ar (Q.getD k pr0)=ar ⟨(Q.getD k pr0).i,(Q.getD k pr0).s,(Q.getD k pr0).m,(Q.getD k pr0).p,(Q.getD k pr0).c⟩):=rfl;have HTR:Hid (bX (Q.getD k pr0)=bX ⟨(Q.getD k pr0).i,(Q.getD k pr0).s,(Q.getD k pr0).m,(Q.getD k pr0).p,(Q.getD k pr0).c⟩):=rfl;rw [HTD.out,HTR.out]at HNX;clear HTD HTR HR1;generalize (Q.getD k pr0).i=y0 at*
    generalize (Q.getD k pr0).s=y1 at*
    generalize (Q.getD k pr0).m=y2 at*
    generalize (Q.getD k pr0).p=y3 at*
    generalize (Q.getD k pr0).c=y4 at*
    generalize hFK:dj Q x k=FK at*
    have HFK:=aa hFK;clear hFK;obtain⟨N,hN⟩:∃N,N=FK.length:=⟨_,rfl⟩;rw [←hN]at HF hln HVB⊢;have HNN:=aa hN;clear hN;obtain⟨hy0,hy1⟩:=hyb;have q1:(0:Int)≤(k:Int):=by omega
    have q2:(k:Int)<(Q.length:Int):=by omega
    have HUB:=aa HF.out.lt;have HFv:=HF;clear HF
    go_wp2_with fail
    obtain⟨W9,hW9⟩:∃W9,W9=wr.alloc (.cells #[.int .i64 y0,.int .i64 y1,.int .i64 y2,.int .i64 y3,.int .i64 y4] 71):=⟨_,rfl⟩;rw [←hW9];obtain⟨pb,hpb⟩:∃pb,pb=wr.heap.size:=⟨_,rfl⟩;have p0:W9.cell? ⟨pb,0,none⟩=some (.int .i64 y0):=zN2 hW9 hpb rfl;have p1:W9.cell? ⟨pb,1,none⟩=some (.int .i64 y1):=zN2 hW9 hpb rfl;have p2:W9.cell? ⟨pb,2,none⟩=some (.int .i64 y2):=zN2 hW9 hpb rfl;have p3:W9.cell? ⟨pb,3,none⟩=some (.int .i64 y3):=zN2 hW9 hpb rfl;have p4:W9.cell? ⟨pb,4,none⟩=some (.int .i64 y4):=zN2 hW9 hpb rfl;have hpb0:wr.heap.size≤pb:=by omega
    have HB:Below wr.heap.size wr W9:=by rw [hW9];exact aj _ _
    have hs10:=HB.size;replace HFv:=aa (HFv.out.below HB zr);replace HT:=zO HT HB;rw [←hpb];clear hW9 hpb g0 g1 g2 g3 g4
    refine(bk _ _ _).mono ?_
    rintro e V101 ⟨rfl,hb101⟩;have hs102:=hb101.size;replace p0:=zC p0 hb101;replace p1:=zC p1 hb101;replace p2:=zC p2 hb101;replace p3:=zC p3 hb101;replace p4:=zC p4 hb101;replace HT:=zO HT hb101;replace HFv:=aa (HFv.out.below hb101 zr);replace HB:=zT HB hb101;clear hb101
    go_wp2_with fail
    obtain⟨V103,hV⟩:∃V103,V103=V101.alloc (.cells #[.int .i64 5,.int .i64 65535,.int .i64 y3] 95):=⟨_,rfl⟩;rw [←hV];obtain⟨g103,hg'⟩:∃g103,g103=V101.heap.size:=⟨_,rfl⟩;have hg:g103=V101.heap.size:=hg';rw [←hg'];have hbN:=zB hV;have hg103:V101.heap.size≤g103:=by omega
    have hl103:=zL hV hg;have hzV103:V103.heap.size=g103+1:=by rw [hV,hg];simp
    have HL1:Hid (V103.ownsRow wr.heap.size 95 3 (.slice (some ⟨g103,0,none⟩) 1 1) 1 (M [isM 5 y3])):=zW hV hg HB.size (by decide) rfl
    have hs104:=hbN.size;replace p0:=zC p0 hbN;replace p1:=zC p1 hbN;replace p2:=zC p2 hbN;replace p3:=zC p3 hbN;replace p4:=zC p4 hbN;replace HT:=zO HT hbN;replace HFv:=aa (HFv.out.below hbN zr);replace HB:=zT HB hbN;clear hV hg hg' hbN;obtain⟨V105,hV⟩:∃V105,V105=V103.alloc (.cells #[.slice (some ⟨g7,0,none⟩) 2 2,.slice (some ⟨g103,0,none⟩) 1 1] 87):=⟨_,rfl⟩;rw [←hV];obtain⟨g105,hg'⟩:∃g105,g105=g103+1:=⟨_,rfl⟩;have hg:g105=V103.heap.size:=hg'.trans hzV103.symm;rw [←hg'];have hbN:=zB hV;have hg105:V103.heap.size≤g105:=by omega
    have hl105:=zL hV hg;have hzV105:V105.heap.size=g105+1:=by rw [hV,hg];simp
    have q0:V105.cell? ⟨g105,0,none⟩=some (.slice (some ⟨g7,0,none⟩) 2 2):=zN2 hV hg rfl;have q1:V105.cell? ⟨g105,1,none⟩=some (.slice (some ⟨g103,0,none⟩) 1 1):=zN2 hV hg rfl;have hs106:=hbN.size;replace p0:=zC p0 hbN;replace p1:=zC p1 hbN;replace p2:=zC p2 hbN;replace p3:=zC p3 hbN;replace p4:=zC p4 hbN;replace HT:=zO HT hbN;replace HL1:=zO HL1 hbN;replace HFv:=aa (HFv.out.below hbN zr);replace HB:=zT HB hbN;clear hV hg hg' hbN hzV103;clear hzV105;have HBold:=HB.size
    refine(dX [((.slice (some ⟨g7,0,none⟩) 2 2:Value),2,M [isM 8 x.i,isM 1 (60000+x.i)]),((.slice (some ⟨g103,0,none⟩) 1 1:Value),1,M [isM 5 y3])] g105 2 V105 (fun j hj=>match j,hj with | 0,_=>q0 | 1,_=>q1 | j+2,h=>absurd h (by simp)) (in2 (SrcAt.of_own HT.out (cU _)) (SrcAt.of_own HL1.out (cU _))) (by exact(show(2:Nat)≤10 by decide)) (by exact(show(2:Nat)≤2 by decide)) (in2 (by exact(show(2:Nat)≤100000 by decide)) (by exact(show(1:Nat)≤100000 by decide)))).mono ?_
    rintro e V107 ⟨u107,rfl,ho107,hb107⟩;have hs108:=hb107.size;replace p0:=zC p0 hb107;replace p1:=zC p1 hb107;replace p2:=zC p2 hb107;replace p3:=zC p3 hb107;replace p4:=zC p4 hb107;replace q0:=zC q0 hb107;replace q1:=zC q1 hb107;replace HT:=zO HT hb107;replace HL1:=zO HL1 hb107;replace HFv:=aa (HFv.out.below hb107 zr);replace HB:=zT HB hb107;obtain⟨g109,c109,rfl,hg109,hl109⟩:=aK (n:=3) ho107 (by decide)
    have HM:Hid (V107.ownsRow wr.heap.size 95 3 (.slice (some ⟨g109,0,none⟩) 3 c109) 3 (M (aR x++ [isM 5 y3]))):=aa (aw ho107 HBold);clear ho107 HBold HT HL1 q0 q1;clear hb107
    go_wp2_with fail
    have hs0_10:=HB.size
    refine wp_region_held_drew (S:=(fun w'=>w'.cell? ⟨pb,0,none⟩=some (.int .i64 y0)∧w'.cell? ⟨pb,1,none⟩=some (.int .i64 y1)∧w'.cell? ⟨pb,2,none⟩=some (.int .i64 y2)∧w'.cell? ⟨pb,3,none⟩=some (.int .i64 y3)∧w'.cell? ⟨pb,4,none⟩=some (.int .i64 y4))) (by kernel_rfl) ⟨p0,p1,p2,p3,p4⟩ (fun hHeld=>?_)
    have HDW:Below V107.heap.size V107 V107.drew:=(Below.refl _ _).drew;have hs110:=HDW.size;replace p0:=zC p0 HDW;replace p1:=zC p1 HDW;replace p2:=zC p2 HDW;replace p3:=zC p3 HDW;replace p4:=zC p4 HDW;replace HM:=zO HM HDW;replace HFv:=aa (HFv.out.below HDW zr);replace HB:=zT HB HDW;clear HDW;generalize V107.drew=V111 at*
    refine tk (i:=0) (d:=50) rfl (by kernel_rfl) (fun _ _ _ h=>h) rfl ‹_› (by intro w h;(try dsimp only at h);go_simp <;>with_reducible rfl) ?_
    simp only [nz]
    refine tk (i:=1) (d:=51) rfl (by kernel_rfl) (fun _ _ _ h=>h) rfl ‹_› (by intro w h;(try dsimp only at h);go_simp <;>with_reducible rfl) ?_
    simp only [nz]
    refine tk (i:=2) (d:=52) rfl (by kernel_rfl) (fun _ _ _ h=>h) rfl ‹_› (by intro w h;(try dsimp only at h);go_simp <;>with_reducible rfl) ?_
    simp only [nz]
    refine tk (i:=4) (d:=54) rfl (by kernel_rfl) (fun _ _ _ h=>h) rfl ‹_› (by intro w h;(try dsimp only at h);go_simp <;>with_reducible rfl) ?_
    simp only [nz]
    refine rd (i:=3) (o:=⟨some 53,_,_,_,_,_⟩) (by kernel_rfl) rfl (fun K hK=>?_)
    go_simp
    clear hHeld;have HBold:=HB.size
    refine(lC _ _ _ _ _ _ hy0 hy1).mono ?_
    rintro e V112 ⟨u112,rfl,ho112,hb112⟩;have hs113:=hb112.size;replace p0:=zC p0 hb112;replace p1:=zC p1 hb112;replace p2:=zC p2 hb112;replace p3:=zC p3 hb112;replace p4:=zC p4 hb112;replace HM:=zO HM hb112;replace HFv:=aa (HFv.out.below hb112 zr);replace HB:=zT HB hb112;obtain⟨g114,c114,rfl,hg114,hl114⟩:=aK ho112 (by decide)
    have HRD:=aa (aw ho112 (Nat.le_trans HBold zr));clear ho112 HBold;clear hb112
    refine hK.out _ _ ⟨p0,p1,p2,p3,p4⟩ (fun hHeld=>?_)
    clear hK K
    (try simp only [nz])
    refine rd (i:=5) (o:=⟨some 55,_,_,_,_,_⟩) (by kernel_rfl) rfl (fun K hK=>?_)
    go_simp
    clear hHeld;have HBold:=HB.size
    refine(ir _ _ _ _ _ _).mono ?_
    rintro e V115 ⟨u115,rfl,ho115,hb115⟩;have hs116:=hb115.size;replace p0:=zC p0 hb115;replace p1:=zC p1 hb115;replace p2:=zC p2 hb115;replace p3:=zC p3 hb115;replace p4:=zC p4 hb115;replace HM:=zO HM hb115;replace HRD:=zO HRD hb115;replace HFv:=aa (HFv.out.below hb115 zr);replace HB:=zT HB hb115;obtain⟨g117,c117,rfl,hg117,hl117⟩:=aK ho115 (by decide)
    have HTP:=aa (aw ho115 (Nat.le_trans HBold zr));clear ho115 HBold;clear hb115
    refine hK.out _ _ ⟨p0,p1,p2,p3,p4⟩ (fun hHeld=>?_)
    clear hK K
    (try simp only [nz])
    refine rd (i:=6) (o:=⟨some 56,_,_,_,_,_⟩) (by kernel_rfl) rfl (fun K hK=>?_)
    go_simp
    clear hHeld
    refine ah (fun V118 g118 hV hg=>?_)
    rw [←hg];have hbN:=zB hV;have hg118:V115.heap.size≤g118:=by omega
    have hl118:=zL hV hg;have s0:V118.cell? ⟨g118,0,none⟩=some (.slice (some ⟨g114,0,none⟩) 4 c114):=zN2 hV hg rfl;have s1:V118.cell? ⟨g118,1,none⟩=some (.slice (some ⟨g117,0,none⟩) 2 c117):=zN2 hV hg rfl;have hs119:=hbN.size;replace p0:=zC p0 hbN;replace p1:=zC p1 hbN;replace p2:=zC p2 hbN;replace p3:=zC p3 hbN;replace p4:=zC p4 hbN;replace HM:=zO HM hbN;replace HRD:=zO HRD hbN;replace HTP:=zO HTP hbN;replace HFv:=aa (HFv.out.below hbN zr);replace HB:=zT HB hbN;clear hV hg hbN
    refine hK.out _ _ ⟨p0,p1,p2,p3,p4⟩ (fun hHeld=>?_)
    clear hK K
    (try simp only [nz])
    refine rd (i:=7) (o:=⟨some 57,_,_,_,_,_⟩) (by kernel_rfl) rfl (fun K hK=>?_)
    go_simp
    clear hHeld;have HBold:=HB.size
    refine(nm [((.slice (some ⟨g114,0,none⟩) 4 c114:Value),4,D (bX ⟨y0,y1,y2,y3,y4⟩)),((.slice (some ⟨g117,0,none⟩) 2 c117:Value),2,D (ar ⟨y0,y1,y2,y3,y4⟩))] g118 2 V118 (fun j hj=>match j,hj with | 0,_=>s0 | 1,_=>s1 | j+2,h=>absurd h (by simp)) (in2 (SrcAt.of_own HRD.out (qv _)) (SrcAt.of_own HTP.out (qv _))) (by exact(show(2:Nat)≤10 by decide)) (by exact(show(2:Nat)≤2 by decide)) (in2 (by exact(show(4:Nat)≤100000 by decide)) (by exact(show(2:Nat)≤100000 by decide)))).mono ?_
    rintro e V120 ⟨u120,rfl,ho120,hb120⟩;have hs121:=hb120.size;replace p0:=zC p0 hb120;replace p1:=zC p1 hb120;replace p2:=zC p2 hb120;replace p3:=zC p3 hb120;replace p4:=zC p4 hb120;replace s0:=zC s0 hb120;replace s1:=zC s1 hb120;replace HM:=zO HM hb120;replace HRD:=zO HRD hb120;replace HTP:=zO HTP hb120;replace HFv:=aa (HFv.out.below hb120 zr);replace HB:=zT HB hb120;obtain⟨g122,c122,rfl,hg122,hl122⟩:=aK (n:=6) ho120 (by decide)
    have HD:Hid (V120.ownsRow wr.heap.size 98 3 (.slice (some ⟨g122,0,none⟩) 6 c122) 6 (D (bX ⟨y0,y1,y2,y3,y4⟩++ar ⟨y0,y1,y2,y3,y4⟩))):=aa (aw ho120 HBold);clear ho120 HBold HRD HTP s0 s1;clear hb120
    refine hK.out _ _ ⟨p0,p1,p2,p3,p4⟩ (fun hHeld=>?_)
    clear hK K
    (try simp only [nz])
    refine rd (i:=8) (o:=⟨some 58,_,_,_,_,_⟩) (by kernel_rfl) rfl (fun K hK=>?_)
    go_simp
    clear hHeld
    refine(ax _ _ _ _ _ _ _ _ _).mono ?_
    rintro e V123 ⟨rfl,hb123⟩;have hs124:=hb123.size;replace p0:=zC p0 hb123;replace p1:=zC p1 hb123;replace p2:=zC p2 hb123;replace p3:=zC p3 hb123;replace p4:=zC p4 hb123;replace HM:=zO HM hb123;replace HD:=zO HD hb123;replace HFv:=aa (HFv.out.below hb123 zr);replace HB:=zT HB hb123;clear hb123
    refine hK.out _ _ ⟨p0,p1,p2,p3,p4⟩ (fun hHeld=>?_)
    clear hK K
    (try simp only [nz])
    refine rd (i:=9) (o:=⟨some 59,_,_,_,_,_⟩) (by kernel_rfl) rfl (fun K hK=>?_)
    go_simp
    clear hHeld
    refine ah (fun V125 g125 hV hg=>?_)
    rw [←hg];have hbN:=zB hV;have hg125:V123.heap.size≤g125:=by omega
    have hl125:=zL hV hg;have HX:Hid (V125.ownsRow wr.heap.size 90 4 (.slice (some ⟨g125,0,none⟩) 1 1) 1 (C [(⟨⟨3,0,aR x++ [isM 5 y3],bX ⟨y0,y1,y2,y3,y4⟩++ar ⟨y0,y1,y2,y3,y4⟩⟩,.slice (some ⟨g109,0,none⟩) 3 c109,.slice (some ⟨g122,0,none⟩) 6 c122⟩:Fv)])):=zW hV hg HB.size (by decide) rfl
    have hs126:=hbN.size;replace p0:=zC p0 hbN;replace p1:=zC p1 hbN;replace p2:=zC p2 hbN;replace p3:=zC p3 hbN;replace p4:=zC p4 hbN;replace HM:=zO HM hbN;replace HD:=zO HD hbN;replace HFv:=aa (HFv.out.below hbN zr);replace HB:=zT HB hbN;clear hV hg hbN
    refine hK.out _ _ ⟨p0,p1,p2,p3,p4⟩ (fun hHeld=>?_)
    clear hK K
    (try simp only [nz])
    refine rd (i:=10) (o:=⟨some 60,_,_,_,_,_⟩) (by kernel_rfl) rfl (fun K hK=>?_)
    clear hHeld;have hsz:=HB.size;have HFV:Hid (FvIn V125 w.heap.size (.slice vo N vc) (⟨⟨3,0,aR x++ [isM 5 y3],bX ⟨y0,y1,y2,y3,y4⟩++ar ⟨y0,y1,y2,y3,y4⟩⟩,.slice (some ⟨g109,0,none⟩) 3 c109,.slice (some ⟨g122,0,none⟩) 6 c122⟩:Fv)):=aa ((aT (f:=⟨3,0,aR x++ [isM 5 y3],bX ⟨y0,y1,y2,y3,y4⟩++ar ⟨y0,y1,y2,y3,y4⟩⟩) HM.out HD.out HUB.out).less (by omega))
    refine pT rfl (.tmp 50) (.tmp 59) rfl w.heap.size (.slice vo N vc) FK rfl (ag HFv) ⟨g125,0,none⟩ 1 1 [(⟨⟨3,0,aR x++ [isM 5 y3],bX ⟨y0,y1,y2,y3,y4⟩++ar ⟨y0,y1,y2,y3,y4⟩⟩,.slice (some ⟨g109,0,none⟩) 3 c109,.slice (some ⟨g122,0,none⟩) 6 c122⟩:Fv)] rfl rfl (HX.out.cells rfl) (fun y hy=>by rw [List.mem_singleton.1 hy];exact HFV.out) (by decide) (by rw [←HNN.out];omega) (by omega) ?_
    intro gq cq Vq hfq hgq haq;replace p0:=(hgq.cell_far ⟨pb,0,none⟩ (am p0) (fun e=>by have:=HUB.out pb e.symm;omega)).trans p0
    replace p1:=(hgq.cell_far ⟨pb,1,none⟩ (am p1) (fun e=>by have:=HUB.out pb e.symm;omega)).trans p1
    replace p2:=(hgq.cell_far ⟨pb,2,none⟩ (am p2) (fun e=>by have:=HUB.out pb e.symm;omega)).trans p2
    replace p3:=(hgq.cell_far ⟨pb,3,none⟩ (am p3) (fun e=>by have:=HUB.out pb e.symm;omega)).trans p3
    replace p4:=(hgq.cell_far ⟨pb,4,none⟩ (am p4) (fun e=>by have:=HUB.out pb e.symm;omega)).trans p4
    have HGR2:Hid (V28.grownBy Vq (some g20)):=aa (mM (cv HGR.out HB) hgq HVB.out);have HVB2:Hid (∀g,(Value.slice (some ⟨gq,0,none⟩) (FK.length+1) cq).ownBlock=some g→g=g20∨V28.heap.size≤g):=aa (fun g e=>by
     have e2:gq=g:=by simpa [Value.ownBlock] using e
     subst e2
     rcases haq with h | h
     ·exact HVB.out _ h
     ·exact .inr (by omega))
    have HE:Hid (FR Vq w.heap.size (.slice (some ⟨gq,0,none⟩) (FK.length+1) cq) (dj Q x (k+1))):=by rw [HNX.out];exact aa hfq
    clear hfq hgq haq HFv HX HFV HUB HNX HB HM HD HVB HGR hsz
    refine hK.out _ _ ⟨p0,p1,p2,p3,p4⟩ (fun hHeld=>?_)
    clear hK K
    (try simp only [nz])
    refine tk (i:=11) (d:=7) rfl (by kernel_rfl) (fun _ _ _ h=>h) rfl ‹_› (by intro w h;(try dsimp only at h);go_simp <;>with_reducible rfl) ?_
    simp only [nz]
    refine wpAnyH_done (by kernel_rfl) ?_ _
    clear hHeld;rw [←HNN.out]at HE HVB2⊢
    go_wp2_with fail
    go_roundw
    case rel=>exact⟨k+1,by omega,by go_num,HE,HVB2,HGR2⟩
    case measure=>simp [intOf];omega
   ·obtain rfl:k=Q.length:=by omega
    rw [←HAQ.out]at HF;have HB2:=aa (HRB.out.grown HGR.out hs9 (fun k e=>by cases e;omega))
    have HF2:=HF;obtain⟨uo,uc,rfl⟩:=HF.out.slc;clear HF
    go_wp2_with fail
    go_ret
    exact⟨_,rfl,HF2.out,HB2.out⟩
section
open Go.Sort (grow grow_grow alloc_eq_grow heap_grow_old)
def Grw (W w':World):Prop:=∃q os,w'=grow (W.drewN q) os
theorem Grw.refl (W:World):Grw W W:=⟨0, #[],by rw [Go.Sort.grow_empty];rfl⟩
theorem Grw.trans {a b c:World} (h:Grw a b) (k:Grw b c):Grw a c:=by
 obtain⟨q,os,rfl⟩:=h;obtain⟨q',os',rfl⟩:=k
 refine⟨q+q',os++os',?_⟩
 show grow (grow ((a.drewN q).drewN q') os) os'=_
 rw [grow_grow]
 congr 1
 simp [World.drewN,Nat.add_assoc]
theorem Grw.alloc {a b:World} (h:Grw a b) (o:Obj):Grw a (b.alloc o):=h.trans ⟨0, #[o],by rw [alloc_eq_grow];rfl⟩
theorem Grw.drewN {a b:World} (h:Grw a b) (n:Nat):Grw a (b.drewN n):=h.trans ⟨n, #[],by rw [Go.Sort.grow_empty]⟩
theorem Grw.drew {a b:World} (h:Grw a b):Grw a b.drew:=h.drewN 1
theorem Grw.below {a b:World} (h:Grw a b):Below a.heap.size a b:=by
 obtain⟨q,os,rfl⟩:=h
 refine⟨rfl,rfl,rfl,by simp,fun k hk=>?_⟩
 rw [heap_grow_old _ _ (by simpa using hk)]
 rfl
def aL (x y:Int):Int:=if x<y then-1 else if y<x then 1 else 0
theorem cu (x y:Int) (w:World):Calls Tryz.prog 81 #[.int .i64 x,.int .i64 y] w fun e w'=>e= .returned (.int .i64 (aL x y))∧w'=w:=by
 have hN:Hid (∀(z:Int) (W:World),Calls Tryz.prog 133 #[.int .i64 z] W fun e w'=>e= .returned (.bool false)∧w'=W):=by
  intro z W
  go_enter Tryz.func133,Tryz.ntmps133
  go_wp2
  all_goals go_ret
  all_goals exact⟨by simp,rfl⟩
 have HC:Hid (aL x y=if x<y then-1 else if y<x then 1 else 0):=rfl
 generalize aL x y=R at HC⊢
 go_enter Tryz.func81,Tryz.ntmps81
 go_wp2_with (go_at_call 133;refine(ag hN _ _).mono ?_;rintro e w' ⟨rfl,rfl⟩)
 all_goals go_ret
 all_goals refine⟨ap ?_,rfl⟩
 all_goals (rw [HC.out];first |(rw [if_pos (by omega)]) |(rw [if_neg (by omega),if_pos (by omega)]) |(rw [if_neg (by omega),if_neg (by omega)]))
theorem rS (W:World) (n:Nat) (hn:W.heap.size=n) (a b c:Value) (t:TypeId):(W.alloc (.cells #[a,b,c] t)).cell? ⟨n,0,none⟩=some a∧(W.alloc (.cells #[a,b,c] t)).cell? ⟨n,1,none⟩=some b∧(W.alloc (.cells #[a,b,c] t)).cell? ⟨n,2,none⟩=some c:=by
 subst hn
 simp
def or3 (a b c:Int):Int:=if a≠0 then a else if b≠0 then b else c
theorem qx (g:Nat) (a b c:Int) (w:World) (h0:w.cell? ⟨g,0,none⟩=some (.int .i64 a)) (h1:w.cell? ⟨g,1,none⟩=some (.int .i64 b)) (h2:w.cell? ⟨g,2,none⟩=some (.int .i64 c)):
  Calls Tryz.prog 134 #[.slice (some ⟨g,0,none⟩) 3 3] w fun e w'=>e= .returned (.int .i64 (or3 a b c))∧w'=w:=by
 have HR:Hid (or3 a b c=if a≠0 then a else if b≠0 then b else c):=rfl
 generalize or3 a b c=R at HR⊢
 go_enter Tryz.func134,Tryz.ntmps134
 go_wp2_with fail
 refine wp_loop_rounds 4 ?_
 rw [rounds_succ]
 by_cases ha:a=0
 ·subst ha
  go_wp2_with fail
  rw [rounds_succ]
  by_cases hb:b=0
  ·subst hb
   go_wp2_with fail
   rw [rounds_succ]
   by_cases hc:c=0
   ·subst hc
    go_wp2_with fail
    rw [rounds_succ]
    go_wp2_with fail
    go_ret
    exact⟨ap (by rw [HR.out];simp),rfl⟩
   ·go_wp2_with fail
    go_ret
    exact⟨ap (by rw [HR.out];simp),rfl⟩
  ·go_wp2_with fail
   go_ret
   exact⟨ap (by rw [HR.out];simp [hb]),rfl⟩
 ·go_wp2_with fail
  go_ret
  exact⟨ap (by rw [HR.out];simp [ha]),rfl⟩
theorem lS (x0 x1 x2 y0 y1 y2:Int) (w:World):
  Calls Tryz.prog 87 #[.agg #[.int .i64 x0,.int .i64 x1,.int .i64 x2],.agg #[.int .i64 y0,.int .i64 y1,.int .i64 y2]] w fun e w'=>e= .returned (.int .i64 (or3 (aL x0 y0) (aL x1 y1) (aL x2 y2)))∧Grw w w':=by
 go_enter Tryz.func87,Tryz.ntmps87
 go_wp2_with fail
 go_region_held3 (fun w'=>w'.cell? ⟨w.heap.size,0,none⟩=some (.int .i64 x0)∧w'.cell? ⟨w.heap.size,1,none⟩=some (.int .i64 x1)∧w'.cell? ⟨w.heap.size,2,none⟩=some (.int .i64 x2)∧w'.cell? ⟨w.heap.size+1,0,none⟩=some (.int .i64 y0)∧w'.cell? ⟨w.heap.size+1,1,none⟩=some (.int .i64 y1)∧w'.cell? ⟨w.heap.size+1,2,none⟩=some (.int .i64 y2)) (go_keep)
  (first |(go_at_call 81;refine(cu _ _ _).mono ?_;rintro e w' ⟨rfl,rfl⟩) |(go_at_call 134;refine(qx _ (aL x0 y0) (aL x1 y1) (aL x2 y2) _ ?_ ?_ ?_).mono ?_;exact(rS _ _ (by simp) _ _ _ _).1;exact(rS _ _ (by simp) _ _ _ _).2.1;exact(rS _ _ (by simp) _ _ _ _).2.2;rintro e w' ⟨rfl,rfl⟩))
 all_goals go_wp2
 all_goals go_ret
 all_goals exact⟨rfl,((((Grw.refl w).alloc _).alloc _).alloc _).drew⟩
theorem lE (x0 x1 x2 y0 y1 y2:Int) (w:World):
  Calls Tryz.prog 90 #[.agg #[.int .i64 x0,.int .i64 x1,.int .i64 x2],.agg #[.int .i64 y0,.int .i64 y1,.int .i64 y2]] w fun e w'=>e= .returned (.int .i64 (or3 (aL x0 y0) (aL x1 y1) (aL x2 y2)))∧Grw w w':=by
 go_enter Tryz.func90,Tryz.ntmps90
 go_wp2_with fail
 go_region_held3 (fun w'=>w'.cell? ⟨w.heap.size,0,none⟩=some (.int .i64 x0)∧w'.cell? ⟨w.heap.size,1,none⟩=some (.int .i64 x1)∧w'.cell? ⟨w.heap.size,2,none⟩=some (.int .i64 x2)∧w'.cell? ⟨w.heap.size+1,0,none⟩=some (.int .i64 y0)∧w'.cell? ⟨w.heap.size+1,1,none⟩=some (.int .i64 y1)∧w'.cell? ⟨w.heap.size+1,2,none⟩=some (.int .i64 y2)) (go_keep)
  (first |(go_at_call 81;refine(cu _ _ _).mono ?_;rintro e w' ⟨rfl,rfl⟩) |(go_at_call 134;refine(qx _ (aL x0 y0) (aL x1 y1) (aL x2 y2) _ ?_ ?_ ?_).mono ?_;exact(rS _ _ (by simp) _ _ _ _).1;exact(rS _ _ (by simp) _ _ _ _).2.1;exact(rS _ _ (by simp) _ _ _ _).2.2;rintro e w' ⟨rfl,rfl⟩))
 all_goals go_wp2
 all_goals go_ret
 all_goals exact⟨rfl,((((Grw.refl w).alloc _).alloc _).alloc _).drew⟩
def ee:List Mt→List Mt→Int
 | [],[]=>0
 | [],_::_=> -1
 | _::_,[]=>1
 | x::xs,y::ys=>if or3 (aL x.f y.f) (aL x.m y.m) (aL x.v y.v)≠0 then or3 (aL x.f y.f) (aL x.m y.m) (aL x.v y.v)else ee xs ys
def cM (x y:Mt):Int:=or3 (aL x.f y.f) (aL x.m y.m) (aL x.v y.v)
theorem mj:∀(xs ys:List Mt) (k:Nat),k<xs.length→k<ys.length→(∀j,j<k→cM (xs.getD j mt0) (ys.getD j mt0)=0)→cM (xs.getD k mt0) (ys.getD k mt0)≠0→ee xs ys=cM (xs.getD k mt0) (ys.getD k mt0)
 | [],_,_,h,_,_,_=>by simp at h
 | _::_,[],_,_,h,_,_=>by simp at h
 | x::xs,y::ys,0,_,_,_,hn=>by
  simp only [List.getD_cons_zero]at hn⊢
  show(if cM x y≠0 then cM x y else ee xs ys)=_
  rw [if_pos hn]
 | x::xs,y::ys,k+1,h1,h2,ha,hn=>by
  simp only [List.getD_cons_succ]at hn⊢
  show(if cM x y≠0 then cM x y else ee xs ys)=_
  have h0:=ha 0 (by omega)
  simp only [List.getD_cons_zero]at h0;rw [if_neg (fun h=>h h0)]
  exact mj xs ys k (by simpa using h1) (by simpa using h2) (fun j hj=>by simpa using ha (j+1) (by omega)) hn
theorem my:∀(xs ys:List Mt),ys.length<xs.length→(∀j,j<ys.length→cM (xs.getD j mt0) (ys.getD j mt0)=0)→ee xs ys=1
 | [],ys,h,_=>by simp at h
 | x::xs,[],_,_=>rfl
 | x::xs,y::ys,h,ha=>by
  show(if cM x y≠0 then cM x y else ee xs ys)=_
  have h0:=ha 0 (by simp)
  simp only [List.getD_cons_zero]at h0;rw [if_neg (fun h=>h h0)]
  exact my xs ys (by simpa using h) (fun j hj=>by simpa using ha (j+1) (by simpa using hj))
theorem oj:∀(xs ys:List Mt),xs.length≤ys.length→(∀j,j<xs.length→cM (xs.getD j mt0) (ys.getD j mt0)=0)→ee xs ys=if xs.length<ys.length then-1 else 0
 | [],[],_,_=>rfl
 | [],y::ys,_,_=>by simp [ee]
 | x::xs,[],h,_=>by simp at h
 | x::xs,y::ys,h,ha=>by
  show(if cM x y≠0 then cM x y else ee xs ys)=_
  have h0:=ha 0 (by simp)
  simp only [List.getD_cons_zero]at h0;rw [if_neg (fun h=>h h0),oj xs ys (by simpa using h) (fun j hj=>by simpa using ha (j+1) (by simpa using hj))]
  simp
def fZ:List Do→List Do→Int
 | [],[]=>0
 | [],_::_=> -1
 | _::_,[]=>1
 | x::xs,y::ys=>if or3 (aL x.k y.k) (aL x.a y.a) (aL x.n y.n)≠0 then or3 (aL x.k y.k) (aL x.a y.a) (aL x.n y.n)else fZ xs ys
def cD (x y:Do):Int:=or3 (aL x.k y.k) (aL x.a y.a) (aL x.n y.n)
theorem lW:∀(xs ys:List Do) (k:Nat),k<xs.length→k<ys.length→(∀j,j<k→cD (xs.getD j do0) (ys.getD j do0)=0)→cD (xs.getD k do0) (ys.getD k do0)≠0→fZ xs ys=cD (xs.getD k do0) (ys.getD k do0)
 | [],_,_,h,_,_,_=>by simp at h
 | _::_,[],_,_,h,_,_=>by simp at h
 | x::xs,y::ys,0,_,_,_,hn=>by
  simp only [List.getD_cons_zero]at hn⊢
  show(if cD x y≠0 then cD x y else fZ xs ys)=_
  rw [if_pos hn]
 | x::xs,y::ys,k+1,h1,h2,ha,hn=>by
  simp only [List.getD_cons_succ]at hn⊢
  show(if cD x y≠0 then cD x y else fZ xs ys)=_
  have h0:=ha 0 (by omega)
  simp only [List.getD_cons_zero]at h0;rw [if_neg (fun h=>h h0)]
  exact lW xs ys k (by simpa using h1) (by simpa using h2) (fun j hj=>by simpa using ha (j+1) (by omega)) hn
theorem mr:∀(xs ys:List Do),ys.length<xs.length→(∀j,j<ys.length→cD (xs.getD j do0) (ys.getD j do0)=0)→fZ xs ys=1
 | [],ys,h,_=>by simp at h
 | x::xs,[],_,_=>rfl
 | x::xs,y::ys,h,ha=>by
  show(if cD x y≠0 then cD x y else fZ xs ys)=_
  have h0:=ha 0 (by simp)
  simp only [List.getD_cons_zero]at h0;rw [if_neg (fun h=>h h0)]
  exact mr xs ys (by simpa using h) (fun j hj=>by simpa using ha (j+1) (by simpa using hj))
theorem n9:∀(xs ys:List Do),xs.length≤ys.length→(∀j,j<xs.length→cD (xs.getD j do0) (ys.getD j do0)=0)→fZ xs ys=if xs.length<ys.length then-1 else 0
 | [],[],_,_=>rfl
 | [],y::ys,_,_=>by simp [fZ]
 | x::xs,[],h,_=>by simp at h
 | x::xs,y::ys,h,ha=>by
  show(if cD x y≠0 then cD x y else fZ xs ys)=_
  have h0:=ha 0 (by simp)
  simp only [List.getD_cons_zero]at h0;rw [if_neg (fun h=>h h0),n9 xs ys (by simpa using h) (fun j hj=>by simpa using ha (j+1) (by simpa using hj))]
  simp
theorem jc (u v:Value) (xs ys:List Mt) (w:World) (hu:MsAt w u xs) (hv:MsAt w v ys) (hl:xs.length≤2000000) (hl2:ys.length≤2000000):
  Calls Tryz.prog 86 #[u,v,.func (.func 87) #[] #[]] w fun e w'=>e= .returned (.int .i64 (ee xs ys))∧Grw w w':=by
 obtain⟨ua,uc,rfl,hun,huL⟩:=hu;obtain⟨va,vc,rfl,hvn,hvL⟩:=hv
 go_enter Tryz.func86,Tryz.ntmps86
 go_wp2_with fail
 go_loopw [13] (fun i wr=>∃k:Nat,k≤xs.length∧k≤ys.length∧i= .int .i64 k∧(∀j,j<k→cM (xs.getD j mt0) (ys.getD j mt0)=0)∧Grw w wr) (fun i _=>xs.length-(intOf i).toNat)
 case atStart=>exact⟨0,by omega,by omega,rfl,fun j h=>absurd h (by omega),Grw.refl _⟩
 case round=>
  obtain⟨k,hk,hk2,rfl,hall,hgr⟩:=hrel;have HALL:=aa hall;clear hall;have hbel:=hgr.below;have hsz:=hbel.size
  by_cases hlt:k<xs.length
  ·obtain⟨b,off,rfl,hcap,hcell⟩:∃b off,ua=some ⟨b,off,none⟩∧xs.length≤uc∧∀i,i<xs.length→w.cell? ⟨b,off+i*3,none⟩=some (.int .i64 (xs.getD i mt0).f)∧w.cell? ⟨b,off+i*3+1,none⟩=some (.int .i64 (xs.getD i mt0).m)∧w.cell? ⟨b,off+i*3+2,none⟩=some (.int .i64 (xs.getD i mt0).v):=by
    rcases huL with h0 | h
    ·omega
    ·exact h
   obtain⟨g0,g1,g2⟩:=hcell k hlt;have m0:=ae g0 hbel zr;have m1:=ae g1 hbel zr;have m2:=ae g2 hbel zr;clear g0 g1 g2 hcell huL
   by_cases hlt2:k<ys.length
   ·obtain⟨b2,off2,rfl,hcap2,hcell⟩:∃b off,va=some ⟨b,off,none⟩∧ys.length≤vc∧∀i,i<ys.length→w.cell? ⟨b,off+i*3,none⟩=some (.int .i64 (ys.getD i mt0).f)∧w.cell? ⟨b,off+i*3+1,none⟩=some (.int .i64 (ys.getD i mt0).m)∧w.cell? ⟨b,off+i*3+2,none⟩=some (.int .i64 (ys.getD i mt0).v):=by
     rcases hvL with h0 | h
     ·omega
     ·exact h
    obtain⟨g0,g1,g2⟩:=hcell k hlt2;have n0:=ae g0 hbel zr;have n1:=ae g1 hbel zr;have n2:=ae g2 hbel zr;clear g0 g1 g2 hcell hvL;have hnb2:=bn n0;have HX:Hid (cM (xs.getD k mt0) (ys.getD k mt0)=0→∀j,j<k+1→cM (xs.getD j mt0) (ys.getD j mt0)=0):=fun h j hj=>by
     by_cases e:j=k
     ·subst e;exact h
     ·exact HALL.out j (by omega)
    have HV:Hid (cM (xs.getD k mt0) (ys.getD k mt0)≠0→ee xs ys=cM (xs.getD k mt0) (ys.getD k mt0)):=fun h=>mj xs ys k hlt hlt2 HALL.out h
    have HC:Hid (∀W:World,Calls Tryz.prog 87 #[.agg #[.int .i64 (xs.getD k mt0).f,.int .i64 (xs.getD k mt0).m,.int .i64 (xs.getD k mt0).v],.agg #[.int .i64 (ys.getD k mt0).f,.int .i64 (ys.getD k mt0).m,.int .i64 (ys.getD k mt0).v]] W fun e w'=>e= .returned (.int .i64 (cM (xs.getD k mt0) (ys.getD k mt0)))∧Grw W w'):=fun W=>lS _ _ _ _ _ _ W
    generalize cM (xs.getD k mt0) (ys.getD k mt0)=R at*
    generalize xs.getD k mt0=X at*
    generalize ys.getD k mt0=Y at*
    have hgA:=(hgr.alloc (.cells #[.int .i64 X.f,.int .i64 X.m,.int .i64 X.v] 95)).alloc (.cells #[.int .i64 Y.f,.int .i64 Y.m,.int .i64 Y.v] 95)
    go_wp2_with fail
    refine(ag HC _).mono ?_
    rintro e w1 ⟨rfl,hg1⟩;have hg2:=hgA.trans hg1;clear m0 m1 m2 n0 n1 n2 hg1 HC
    by_cases hR:R=0
    ·have HR:=aa (HX.out hR)
     subst hR;clear HX HV
     go_wp2_with fail
     go_roundw
     case rel=>exact⟨k+1,by omega,by omega,by go_num,HR.out,hg2⟩
     case measure=>simp [intOf];omega
    ·have HR:=aa (HV.out hR)
     clear HX HV
     go_wp2_with fail
     go_ret
     exact⟨ap HR.out.symm,hg2⟩
   ·have hge:(ys.length:Int)≤(k:Int):=by omega
    have HR:=aa (my xs ys (by omega) (fun j hj=>HALL.out j (by omega)))
    clear HALL hvL;generalize xs.getD k mt0=X at*
    go_wp2_with fail
    go_ret
    exact⟨ap HR.out.symm,hgr.alloc _⟩
  ·have hke:k=xs.length:=by omega
   have HR:=aa (oj xs ys (by omega) (fun j hj=>HALL.out j (by omega)))
   clear HALL huL hvL
   by_cases hlt2:xs.length<ys.length
   ·rw [if_pos hlt2]at HR
    go_wp2_with fail
    go_ret
    exact⟨ap HR.out.symm,hgr⟩
   ·rw [if_neg hlt2]at HR
    go_wp2_with fail
    go_ret
    exact⟨ap HR.out.symm,hgr⟩
theorem ja (u v:Value) (xs ys:List Do) (w:World) (hu:DsAt w u xs) (hv:DsAt w v ys) (hl:xs.length≤2000000) (hl2:ys.length≤2000000):
  Calls Tryz.prog 89 #[u,v,.func (.func 90) #[] #[]] w fun e w'=>e= .returned (.int .i64 (fZ xs ys))∧Grw w w':=by
 obtain⟨ua,uc,rfl,hun,huL⟩:=hu;obtain⟨va,vc,rfl,hvn,hvL⟩:=hv
 go_enter Tryz.func89,Tryz.ntmps89
 go_wp2_with fail
 go_loopw [13] (fun i wr=>∃k:Nat,k≤xs.length∧k≤ys.length∧i= .int .i64 k∧(∀j,j<k→cD (xs.getD j do0) (ys.getD j do0)=0)∧Grw w wr) (fun i _=>xs.length-(intOf i).toNat)
 case atStart=>exact⟨0,by omega,by omega,rfl,fun j h=>absurd h (by omega),Grw.refl _⟩
 case round=>
  obtain⟨k,hk,hk2,rfl,hall,hgr⟩:=hrel;have HALL:=aa hall;clear hall;have hbel:=hgr.below;have hsz:=hbel.size
  by_cases hlt:k<xs.length
  ·obtain⟨b,off,rfl,hcap,hcell⟩:∃b off,ua=some ⟨b,off,none⟩∧xs.length≤uc∧∀i,i<xs.length→w.cell? ⟨b,off+i*3,none⟩=some (.int .i64 (xs.getD i do0).k)∧w.cell? ⟨b,off+i*3+1,none⟩=some (.int .i64 (xs.getD i do0).a)∧w.cell? ⟨b,off+i*3+2,none⟩=some (.int .i64 (xs.getD i do0).n):=by
    rcases huL with h0 | h
    ·omega
    ·exact h
   obtain⟨g0,g1,g2⟩:=hcell k hlt;have m0:=ae g0 hbel zr;have m1:=ae g1 hbel zr;have m2:=ae g2 hbel zr;clear g0 g1 g2 hcell huL
   by_cases hlt2:k<ys.length
   ·obtain⟨b2,off2,rfl,hcap2,hcell⟩:∃b off,va=some ⟨b,off,none⟩∧ys.length≤vc∧∀i,i<ys.length→w.cell? ⟨b,off+i*3,none⟩=some (.int .i64 (ys.getD i do0).k)∧w.cell? ⟨b,off+i*3+1,none⟩=some (.int .i64 (ys.getD i do0).a)∧w.cell? ⟨b,off+i*3+2,none⟩=some (.int .i64 (ys.getD i do0).n):=by
     rcases hvL with h0 | h
     ·omega
     ·exact h
    obtain⟨g0,g1,g2⟩:=hcell k hlt2;have n0:=ae g0 hbel zr;have n1:=ae g1 hbel zr;have n2:=ae g2 hbel zr;clear g0 g1 g2 hcell hvL;have hnb2:=bn n0;have HX:Hid (cD (xs.getD k do0) (ys.getD k do0)=0→∀j,j<k+1→cD (xs.getD j do0) (ys.getD j do0)=0):=fun h j hj=>by
     by_cases e:j=k
     ·subst e;exact h
     ·exact HALL.out j (by omega)
    have HV:Hid (cD (xs.getD k do0) (ys.getD k do0)≠0→fZ xs ys=cD (xs.getD k do0) (ys.getD k do0)):=fun h=>lW xs ys k hlt hlt2 HALL.out h
    have HC:Hid (∀W:World,Calls Tryz.prog 90 #[.agg #[.int .i64 (xs.getD k do0).k,.int .i64 (xs.getD k do0).a,.int .i64 (xs.getD k do0).n],.agg #[.int .i64 (ys.getD k do0).k,.int .i64 (ys.getD k do0).a,.int .i64 (ys.getD k do0).n]] W fun e w'=>e= .returned (.int .i64 (cD (xs.getD k do0) (ys.getD k do0)))∧Grw W w'):=fun W=>lE _ _ _ _ _ _ W
    generalize cD (xs.getD k do0) (ys.getD k do0)=R at*
    generalize xs.getD k do0=X at*
    generalize ys.getD k do0=Y at*
    have hgA:=(hgr.alloc (.cells #[.int .i64 X.k,.int .i64 X.a,.int .i64 X.n] 98)).alloc (.cells #[.int .i64 Y.k,.int .i64 Y.a,.int .i64 Y.n] 98)
    go_wp2_with fail
    refine(ag HC _).mono ?_
    rintro e w1 ⟨rfl,hg1⟩;have hg2:=hgA.trans hg1;clear m0 m1 m2 n0 n1 n2 hg1 HC
    by_cases hR:R=0
    ·have HR:=aa (HX.out hR)
     subst hR;clear HX HV
     go_wp2_with fail
     go_roundw
     case rel=>exact⟨k+1,by omega,by omega,by go_num,HR.out,hg2⟩
     case measure=>simp [intOf];omega
    ·have HR:=aa (HV.out hR)
     clear HX HV
     go_wp2_with fail
     go_ret
     exact⟨ap HR.out.symm,hg2⟩
   ·have hge:(ys.length:Int)≤(k:Int):=by omega
    have HR:=aa (mr xs ys (by omega) (fun j hj=>HALL.out j (by omega)))
    clear HALL hvL;generalize xs.getD k do0=X at*
    go_wp2_with fail
    go_ret
    exact⟨ap HR.out.symm,hgr.alloc _⟩
  ·have hke:k=xs.length:=by omega
   have HR:=aa (n9 xs ys (by omega) (fun j hj=>HALL.out j (by omega)))
   clear HALL huL hvL
   by_cases hlt2:xs.length<ys.length
   ·rw [if_pos hlt2]at HR
    go_wp2_with fail
    go_ret
    exact⟨ap HR.out.symm,hgr⟩
   ·rw [if_neg hlt2]at HR
    go_wp2_with fail
    go_ret
    exact⟨ap HR.out.symm,hgr⟩
end
theorem b7 (x:Ac) (w:World) (h0:0≤x.sb) (h1:x.sb≤16) (h2:0≤x.db) (h3:x.db≤16):Calls Tryz.prog 122 #[.agg #[.int .i64 x.s,.int .i64 x.p,.bool x.n,.int .i64 x.src,.int .i64 x.sb,.int .i64 x.dst,.int .i64 x.db,.int .i64 x.o,.bool x.d]] w fun e w'=>∃u,e= .returned u∧w'.ownsRow w.heap.size 95 3 u (aY x).length (M (aY x))∧Below w.heap.size w w':=by
 obtain⟨iM,inM,zM0,zM1,zM2⟩:=info_parts es
 go_enter Tryz.func122,Tryz.ntmps122
 go_wp2_with fail
 obtain⟨W0,hW⟩:∃W0,W0=w.alloc (.cells #[.int .i64 x.s,.int .i64 x.p,.bool x.n,.int .i64 x.src,.int .i64 x.sb,.int .i64 x.dst,.int .i64 x.db,.int .i64 x.o,.bool x.d] 65):=⟨_,rfl⟩;rw [←hW];obtain⟨kb,hblk⟩:∃kb,kb=w.heap.size:=⟨_,rfl⟩;have k0:W0.cell? ⟨kb,0,none⟩=some (.int .i64 x.s):=zN2 hW hblk rfl;have k1:W0.cell? ⟨kb,1,none⟩=some (.int .i64 x.p):=zN2 hW hblk rfl;have k2:W0.cell? ⟨kb,2,none⟩=some (.bool x.n):=zN2 hW hblk rfl;have k3:W0.cell? ⟨kb,3,none⟩=some (.int .i64 x.src):=zN2 hW hblk rfl;have k4:W0.cell? ⟨kb,4,none⟩=some (.int .i64 x.sb):=zN2 hW hblk rfl;have k5:W0.cell? ⟨kb,5,none⟩=some (.int .i64 x.dst):=zN2 hW hblk rfl;have k6:W0.cell? ⟨kb,6,none⟩=some (.int .i64 x.db):=zN2 hW hblk rfl;have k7:W0.cell? ⟨kb,7,none⟩=some (.int .i64 x.o):=zN2 hW hblk rfl;have k8:W0.cell? ⟨kb,8,none⟩=some (.bool x.d):=zN2 hW hblk rfl;have hbN:Below w.heap.size w W0:=by rw [hW];exact aj _ _
 have hzW0:W0.heap.size=kb+1:=by rw [hW,hblk];simp
 have hkbl:w.heap.size≤kb:=by omega
 rw [←hblk];clear hW hblk;have HB:=hbN;clear hbN hzW0;have hs0_1:=HB.size
 refine wp_region_held_drew (S:=(fun w'=>w'.cell? ⟨kb,0,none⟩=some (.int .i64 x.s)∧w'.cell? ⟨kb,1,none⟩=some (.int .i64 x.p)∧w'.cell? ⟨kb,2,none⟩=some (.bool x.n)∧w'.cell? ⟨kb,3,none⟩=some (.int .i64 x.src)∧w'.cell? ⟨kb,4,none⟩=some (.int .i64 x.sb)∧w'.cell? ⟨kb,5,none⟩=some (.int .i64 x.dst)∧w'.cell? ⟨kb,6,none⟩=some (.int .i64 x.db)∧w'.cell? ⟨kb,7,none⟩=some (.int .i64 x.o)∧w'.cell? ⟨kb,8,none⟩=some (.bool x.d))) (by kernel_rfl) ⟨k0,k1,k2,k3,k4,k5,k6,k7,k8⟩ (fun hHeld=>?_)
 have HDW:Below W0.heap.size W0 W0.drew:=(Below.refl _ _).drew;have hs1:=HDW.size;replace k0:=zC k0 HDW;replace k1:=zC k1 HDW;replace k2:=zC k2 HDW;replace k3:=zC k3 HDW;replace k4:=zC k4 HDW;replace k5:=zC k5 HDW;replace k6:=zC k6 HDW;replace k7:=zC k7 HDW;replace k8:=zC k8 HDW;replace HB:=zT HB HDW;clear HDW;generalize W0.drew=V2 at*
 refine tk (i:=0) (d:=4) rfl (by kernel_rfl) (fun _ _ _ h=>h) rfl ‹_› (by intro w h;(try dsimp only at h);go_simp <;>with_reducible rfl) ?_
 simp only [nz]
 refine tk (i:=1) (d:=5) rfl (by kernel_rfl) (fun _ _ _ h=>h) rfl ‹_› (by intro w h;(try dsimp only at h);go_simp <;>with_reducible rfl) ?_
 simp only [nz]
 refine tk (i:=2) (d:=6) rfl (by kernel_rfl) (fun _ _ _ h=>h) rfl ‹_› (by intro w h;(try dsimp only at h);go_simp <;>with_reducible rfl) ?_
 simp only [nz]
 refine tk (i:=3) (d:=7) rfl (by kernel_rfl) (fun _ _ _ h=>h) rfl ‹_› (by intro w h;(try dsimp only at h);go_simp <;>with_reducible rfl) ?_
 simp only [nz]
 refine tk (i:=5) (d:=9) rfl (by kernel_rfl) (fun _ _ _ h=>h) rfl ‹_› (by intro w h;(try dsimp only at h);go_simp <;>with_reducible rfl) ?_
 simp only [nz]
 refine tk (i:=6) (d:=10) rfl (by kernel_rfl) (fun _ _ _ h=>h) rfl ‹_› (by intro w h;(try dsimp only at h);go_simp <;>with_reducible rfl) ?_
 simp only [nz]
 refine tk (i:=7) (d:=11) rfl (by kernel_rfl) (fun _ _ _ h=>h) rfl ‹_› (by intro w h;(try dsimp only at h);go_simp <;>with_reducible rfl) ?_
 simp only [nz]
 refine tk (i:=8) (d:=12) rfl (by kernel_rfl) (fun _ _ _ h=>h) rfl ‹_› (by intro w h;(try dsimp only at h);go_simp <;>with_reducible rfl) ?_
 simp only [nz]
 refine rd (i:=4) (o:=⟨some 8,_,_,_,_,_⟩) (by kernel_rfl) rfl (fun K hK=>?_)
 go_simp
 clear hHeld
 refine(jH _ _ _ _ h0 h1).mono ?_
 rintro e V3 ⟨rfl,hb3⟩;have hs4:=hb3.size;replace k0:=zC k0 hb3;replace k1:=zC k1 hb3;replace k2:=zC k2 hb3;replace k3:=zC k3 hb3;replace k4:=zC k4 hb3;replace k5:=zC k5 hb3;replace k6:=zC k6 hb3;replace k7:=zC k7 hb3;replace k8:=zC k8 hb3;replace HB:=zT HB hb3;clear hb3
 refine hK.out _ _ ⟨k0,k1,k2,k3,k4,k5,k6,k7,k8⟩ (fun hHeld=>?_)
 clear hK K
 (try simp only [nz])
 refine rd (i:=9) (o:=⟨some 13,_,_,_,_,_⟩) (by kernel_rfl) rfl (fun K hK=>?_)
 go_simp
 clear hHeld
 refine(jH _ _ _ _ h2 h3).mono ?_
 rintro e V5 ⟨rfl,hb5⟩;have hs6:=hb5.size;replace k0:=zC k0 hb5;replace k1:=zC k1 hb5;replace k2:=zC k2 hb5;replace k3:=zC k3 hb5;replace k4:=zC k4 hb5;replace k5:=zC k5 hb5;replace k6:=zC k6 hb5;replace k7:=zC k7 hb5;replace k8:=zC k8 hb5;replace HB:=zT HB hb5;clear hb5
 refine hK.out _ _ ⟨k0,k1,k2,k3,k4,k5,k6,k7,k8⟩ (fun hHeld=>?_)
 clear hK K
 (try simp only [nz])
 refine rd (i:=10) (o:=⟨some 14,_,_,_,_,_⟩) (by kernel_rfl) rfl (fun K hK=>?_)
 go_simp
 clear hHeld
 refine ah (fun V7 g7 hV hg=>?_)
 rw [←hg];have hbN:=zB hV;have hg7:V5.heap.size≤g7:=by omega
 have hl7:=zL hV hg;have HM:Hid (V7.ownsRow w.heap.size 95 3 (.slice (some ⟨g7,0,none⟩) 2 2) 2 (M [hiM 4 x.src x.sb,hiM 5 x.dst x.db])):=zW hV hg HB.size (by decide) rfl
 have hs8:=hbN.size;replace k0:=zC k0 hbN;replace k1:=zC k1 hbN;replace k2:=zC k2 hbN;replace k3:=zC k3 hbN;replace k4:=zC k4 hbN;replace k5:=zC k5 hbN;replace k6:=zC k6 hbN;replace k7:=zC k7 hbN;replace k8:=zC k8 hbN;replace HB:=zT HB hbN;clear hV hg hbN
 refine hK.out _ _ ⟨k0,k1,k2,k3,k4,k5,k6,k7,k8⟩ (fun hHeld=>?_)
 clear hK K
 (try simp only [nz])
 refine tk (i:=11) (d:=3) rfl (by kernel_rfl) (fun _ _ _ h=>h) rfl ‹_› (by intro w h;(try dsimp only at h);go_simp <;>with_reducible rfl) ?_
 simp only [nz]
 refine wpAnyH_done (by kernel_rfl) ?_ _
 clear hHeld
 by_cases ho:x.o= -1
 ·have HRM:Hid (aY x= [hiM 4 x.src x.sb,hiM 5 x.dst x.db]):=by
   refine aa ?_
   unfold aY;rw [if_pos ho]
   rfl
  have hoc:(x.o != -1)=false:=by simp [ho]
  clear ho
  go_wp2_with fail
  go_ret
  exact⟨_,rfl,by rw [HRM.out];exact HM.out,HB⟩
 ·have HRM:Hid (aY x= [hiM 4 x.src x.sb,hiM 5 x.dst x.db]++ [isM 7 x.o]):=by
   refine aa ?_
   unfold aY;rw [if_neg ho]
  have hoc:(x.o != -1)=true:=by simp [ho]
  clear ho
  go_wp2_with fail
  refine(bk _ _ _).mono ?_
  rintro e V9 ⟨rfl,hb9⟩;have hs10:=hb9.size;replace k0:=zC k0 hb9;replace k1:=zC k1 hb9;replace k2:=zC k2 hb9;replace k3:=zC k3 hb9;replace k4:=zC k4 hb9;replace k5:=zC k5 hb9;replace k6:=zC k6 hb9;replace k7:=zC k7 hb9;replace k8:=zC k8 hb9;replace HM:=zO HM hb9;replace HB:=zT HB hb9;clear hb9;obtain⟨WA,hWA⟩:∃WA,WA=V9.alloc (.cells #[.int .i64 7,.int .i64 65535,.int .i64 x.o] 95):=⟨_,rfl⟩;have hbN:Below V9.heap.size V9 WA:=by rw [hWA];exact aj _ _
  have NEWS:Hid (∀j u,(M [isM 7 x.o])[j]?=some u→WA.cell? ((⟨V9.heap.size,0,none⟩:Addr).add j)=some u):=by rw [hWA];exact aa (dM V9 _ _)
  replace HM:=zO HM hbN;replace HB:=zT HB hbN;have hsA:=HB.size;have HWA:Hid (V9.alloc (.cells #[.int .i64 7,.int .i64 65535,.int .i64 x.o] 95)=WA):=hWA.symm;clear hWA hbN
  go_wp2_with (at_builtin;rw [ag HWA];refine wpList_append_own _ rfl _ _ 87 rfl w.heap.size 95 iM _ 3 24 Tryz.underlying87 inM zM0 zM1 zM2 rfl (by decide) _ _ _ rfl (ag HM) ⟨V9.heap.size,0,none⟩ 1 1 (M [isM 7 x.o]) rfl rfl (ag NEWS) (cU _) (by decide) (by decide) hsA ?_)
  intro v3 w3 ho3 hg3 _;have hb3:Below w.heap.size w w3:=HB.grown hg3 hsA (aF HM.out);have HE:Hid (w3.ownsRow w.heap.size 95 3 v3 (aY x).length (M (aY x))):=by rw [HRM.out];exact aa ho3
  obtain⟨o3,c3,rfl⟩:=aD ho3;clear ho3 hg3 HM NEWS HWA
  go_wp2_with fail
  go_ret
  exact⟨_,rfl,HE.out,hb3⟩
theorem jM (S:List Sw) (P:List Pr) (A:List Ac) (s1 p1 a1:Option Addr) (s2 p2 a2:Nat) (x:Sw) (inn:Bool) (w:World) (hC:CfAt w (.slice s1 S.length s2) (.slice p1 P.length p2) (.slice a1 A.length a2) S P A) (hl:A.length≤1000):
  Calls Tryz.prog 68 #[.agg #[.slice s1 S.length s2,.slice p1 P.length p2,.slice a1 A.length a2],.agg #[.int .i64 x.i,.int .i64 x.t,.int .i64 x.g],.bool inn] w fun e w'=>∃u,e= .returned u∧w'.ownsRow w.heap.size 65 9 u (aJ A x.i inn).length ((aJ A x.i inn).flatMap acC)∧Below w.heap.size w w':=by
 have HA:=aa hC.2.2;clear hC;have HR:Hid (aJ A x.i inn=A.filter fun r=>r.s==x.i&&r.n==inn):=rfl
 go_enter Tryz.func68,Tryz.ntmps68
 go_wp2_with fail
 obtain⟨W0,hW⟩:∃W0,W0=w.alloc (.cells #[.slice s1 S.length s2,.slice p1 P.length p2,.slice a1 A.length a2] 29):=⟨_,rfl⟩;rw [←hW];obtain⟨cb,hblk⟩:∃cb,cb=w.heap.size:=⟨_,rfl⟩;have k0:W0.cell? ⟨cb,0,none⟩=some (.slice s1 S.length s2):=zN2 hW hblk rfl;have k1:W0.cell? ⟨cb,1,none⟩=some (.slice p1 P.length p2):=zN2 hW hblk rfl;have k2:W0.cell? ⟨cb,2,none⟩=some (.slice a1 A.length a2):=zN2 hW hblk rfl;have hbN:Below w.heap.size w W0:=by rw [hW];exact aj _ _
 have hzW0:W0.heap.size=cb+1:=by rw [hW,hblk];simp
 have hcbl:w.heap.size≤cb:=by omega
 rw [←hblk];clear hW hblk;have HB:=hbN;clear hbN;obtain⟨W1,hW⟩:∃W1,W1=W0.alloc (.cells #[.int .i64 x.i,.int .i64 x.t,.int .i64 x.g] 59):=⟨_,rfl⟩;rw [←hW];obtain⟨sb,hblk⟩:∃sb,sb=cb+1:=⟨_,rfl⟩;have d0:W1.cell? ⟨sb,0,none⟩=some (.int .i64 x.i):=zN2 hW (hblk.trans hzW0.symm) rfl;have d1:W1.cell? ⟨sb,1,none⟩=some (.int .i64 x.t):=zN2 hW (hblk.trans hzW0.symm) rfl;have d2:W1.cell? ⟨sb,2,none⟩=some (.int .i64 x.g):=zN2 hW (hblk.trans hzW0.symm) rfl;have hbN:Below W0.heap.size W0 W1:=by rw [hW];exact aj _ _
 have hzW1:W1.heap.size=sb+1:=by rw [hW,hblk];simp [hzW0]
 have hsbl:cb<sb:=by omega
 rw [←hblk];clear hW hblk hzW0;replace k0:=zC k0 hbN;replace k1:=zC k1 hbN;replace k2:=zC k2 hbN;replace HB:=zT HB hbN;clear hbN;obtain⟨W2,hW⟩:∃W2,W2=W1.alloc (.cells #[.bool inn] 4):=⟨_,rfl⟩;rw [←hW];obtain⟨ib,hblk⟩:∃ib,ib=sb+1:=⟨_,rfl⟩;have i0:W2.cell? ⟨ib,0,none⟩=some (.bool inn):=zN2 hW (hblk.trans hzW1.symm) rfl;have hbN:Below W1.heap.size W1 W2:=by rw [hW];exact aj _ _
 have hzW2:W2.heap.size=ib+1:=by rw [hW,hblk];simp [hzW1]
 have hibl:sb<ib:=by omega
 rw [←hblk];clear hW hblk hzW1;replace k0:=zC k0 hbN;replace k1:=zC k1 hbN;replace k2:=zC k2 hbN;replace d0:=zC d0 hbN;replace d1:=zC d1 hbN;replace d2:=zC d2 hbN;replace HB:=zT HB hbN;clear hbN hzW2
 refine(m8 A _ _ _ _ _ (RowAt.below HA.out HB zr) (oW d0 i0) rO hl).mono ?_
 rintro e w1 ⟨u,rfl,ho,hb⟩;rw [←HR.out]at ho;have HE:=aa (aw ho HB.size);have HB2:=aa (HB.trans (hb.mono HB.size));obtain⟨o,c,rfl⟩:=aD ho;clear ho hb HB HA
 go_wp2_with fail
 go_ret
 exact⟨_,rfl,HE.out,HB2.out⟩
theorem oq (x y:Ac) (w:World):Calls Tryz.prog 121 #[.agg #[.int .i64 x.s,.int .i64 x.p,.bool x.n,.int .i64 x.src,.int .i64 x.sb,.int .i64 x.dst,.int .i64 x.db,.int .i64 x.o,.bool x.d],.agg #[.int .i64 y.s,.int .i64 y.p,.bool y.n,.int .i64 y.src,.int .i64 y.sb,.int .i64 y.dst,.int .i64 y.db,.int .i64 y.o,.bool y.d]] w fun e w'=>e= .returned (.int .i64 (aL y.p x.p))∧Below w.heap.size w w':=by
 go_enter Tryz.func121,Tryz.ntmps121
 go_wp2_with fail
 refine(cu _ _ _).mono ?_
 rintro e w1 ⟨rfl,hw1⟩;have hb:Below w.heap.size w w1:=by rw [hw1];exact((Below.refl _ _).alloc zr _).alloc (by simp) _
 clear hw1
 go_wp2_with fail
 go_ret
 exact⟨rfl,hb⟩
def dY (L:List Ac):Prop:=∀(u:Value) (B:Nat) (w:World),w.ownsRow B 65 9 u L.length (L.flatMap acC)→B≤w.heap.size→Calls Tryz.prog 120 #[u,.func (.func 121) #[] #[]] w fun e w'=>e= .returned (.tuple #[])∧w'.ownsRow B 65 9 u L.length ((aI L).flatMap acC)∧w.grownBy w' u.ownBlock
end Go.Proofs.YtncdininppehkaaGreat
