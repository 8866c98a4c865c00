/- Texts joined: Pc, Px, Pg, Ph, Pi, Pj. -/
import Derived.Lib.AppendZeros
import Derived.Laws.EntriesVeiled
import Derived.Test.YtncdininppehkaaGreatJA3
namespace Go.Proofs.YtncdininppehkaaGreat
open Go.RowKit
set_option linter.unusedVariables false
set_option maxRecDepth 100000
set_option maxHeartbeats 16000000
theorem ah {K:Act→World→Prop} {a:Act} {cur:World} {o:Obj} (h:∀V g,V=cur.alloc o→g=cur.heap.size→K a V):K a (cur.alloc o):=h _ _ rfl rfl
theorem bw (k:Int) (w:World):Calls Tryz.prog 59 #[.int .i64 k] w fun e w'=>∃u,e= .returned u∧w'.ownsRow w.heap.size 95 3 u 3 (M (bB k))∧Below w.heap.size w w':=by
 have HB:Below w.heap.size w w:=Below.refl _ _
 go_enter Tryz.func59,Tryz.ntmps59
 go_wp2_with fail
 refine(bk _ _ _).mono ?_
 rintro e V0 ⟨rfl,hb⟩;replace HB:=zT HB hb;clear hb
 go_wp2_with fail
 refine(bk _ _ _).mono ?_
 rintro e V1 ⟨rfl,hb⟩;replace HB:=zT HB hb;clear hb
 go_wp2_with fail
 refine(bk _ _ _).mono ?_
 rintro e V2 ⟨rfl,hb⟩;replace HB:=zT HB hb;clear hb
 go_wp2_with fail
 go_ret
 exact⟨_,rfl,World.ownsRow_lit _ _ 3 HB.size (by decide) rfl,HB.alloc HB.size _⟩
theorem gn (ip mac ch:Int) (w:World):Calls Tryz.prog 118 #[.int .i64 ip,.int .i64 mac,.int .i64 ch] w fun e w'=>∃u,e= .returned u∧w'.ownsRow w.heap.size 98 3 u 7 (D (fD ip mac ch))∧Below w.heap.size w w':=by
 have HB:Below w.heap.size w w:=Below.refl _ _
 go_enter Tryz.func118,Tryz.ntmps118
 go_wp2_with fail
 refine(aQ _ _ _ _).mono ?_
 rintro e V0 ⟨rfl,hb⟩;replace HB:=zT HB hb;clear hb
 go_wp2_with fail
 refine(aQ _ _ _ _).mono ?_
 rintro e V1 ⟨rfl,hb⟩;replace HB:=zT HB hb;clear hb
 go_wp2_with fail
 refine(aQ _ _ _ _).mono ?_
 rintro e V2 ⟨rfl,hb⟩;replace HB:=zT HB hb;clear hb
 go_wp2_with fail
 refine(aQ _ _ _ _).mono ?_
 rintro e V3 ⟨rfl,hb⟩;replace HB:=zT HB hb;clear hb
 go_wp2_with fail
 refine(aQ _ _ _ _).mono ?_
 rintro e V4 ⟨rfl,hb⟩;replace HB:=zT HB hb;clear hb
 go_wp2_with fail
 refine(aQ _ _ _ _).mono ?_
 rintro e V5 ⟨rfl,hb⟩;replace HB:=zT HB hb;clear hb
 go_wp2_with fail
 refine(aQ _ _ _ _).mono ?_
 rintro e V6 ⟨rfl,hb⟩;replace HB:=zT HB hb;clear hb
 go_wp2_with fail
 go_ret
 exact⟨_,rfl,World.ownsRow_lit _ _ 7 HB.size (by decide) rfl,HB.alloc HB.size _⟩
theorem ir (i s m p c:Int) (w:World):Calls Tryz.prog 115 #[.agg #[.int .i64 i,.int .i64 s,.int .i64 m,.int .i64 p,.int .i64 c]] w fun e w'=>∃u,e= .returned u∧w'.ownsRow w.heap.size 98 3 u 2 (D (ar ⟨i,s,m,p,c⟩))∧Below w.heap.size w w':=by
 go_enter Tryz.func115,Tryz.ntmps115
 go_wp2_with fail
 obtain⟨W,hW⟩:∃W,W=w.alloc (.cells #[.int .i64 i,.int .i64 s,.int .i64 m,.int .i64 p,.int .i64 c] 71):=⟨_,rfl⟩;rw [←hW];have k0:W.cell? ⟨w.heap.size,0,none⟩=some (.int .i64 i):=zN1 hW rfl;have k1:W.cell? ⟨w.heap.size,1,none⟩=some (.int .i64 s):=zN1 hW rfl;have k2:W.cell? ⟨w.heap.size,2,none⟩=some (.int .i64 m):=zN1 hW rfl;have k3:W.cell? ⟨w.heap.size,3,none⟩=some (.int .i64 p):=zN1 hW rfl;have k4:W.cell? ⟨w.heap.size,4,none⟩=some (.int .i64 c):=zN1 hW rfl;have HB:Below w.heap.size w W:=by rw [hW];exact aj _ _
 clear hW
 refine wp_region_held_drew (S:=(fun w'=>w'.cell? ⟨w.heap.size,0,none⟩=some (.int .i64 i)∧w'.cell? ⟨w.heap.size,1,none⟩=some (.int .i64 s)∧w'.cell? ⟨w.heap.size,2,none⟩=some (.int .i64 m)∧w'.cell? ⟨w.heap.size,3,none⟩=some (.int .i64 p)∧w'.cell? ⟨w.heap.size,4,none⟩=some (.int .i64 c))) (by kernel_rfl) ⟨k0,k1,k2,k3,k4⟩ (fun hHeld=>?_)
 have HDW:Below W.heap.size W W.drew:=(Below.refl _ _).drew;replace k0:=zC k0 HDW;replace k1:=zC k1 HDW;replace k2:=zC k2 HDW;replace k3:=zC k3 HDW;replace k4:=zC k4 HDW;replace HB:=zT HB HDW;clear HDW;generalize W.drew=V1 at*
 refine tk (i:=0) (d:=3) rfl (by kernel_rfl) (fun _ _ _ h=>h) rfl ‹_› (by intro w h;(try dsimp only at h);go_simp <;>with_reducible rfl) ?_
 simp only [nz]
 refine tk (i:=1) (d:=4) rfl (by kernel_rfl) (fun _ _ _ h=>h) rfl ‹_› (by intro w h;(try dsimp only at h);go_simp <;>with_reducible rfl) ?_
 simp only [nz]
 refine tk (i:=3) (d:=6) rfl (by kernel_rfl) (fun _ _ _ h=>h) rfl ‹_› (by intro w h;(try dsimp only at h);go_simp <;>with_reducible rfl) ?_
 simp only [nz]
 refine tk (i:=4) (d:=7) rfl (by kernel_rfl) (fun _ _ _ h=>h) rfl ‹_› (by intro w h;(try dsimp only at h);go_simp <;>with_reducible rfl) ?_
 simp only [nz]
 refine rd (i:=2) (o:=⟨some 5,_,_,_,_,_⟩) (by kernel_rfl) rfl (fun K hK=>?_)
 go_simp
 clear hHeld
 refine(aQ _ _ _ _).mono ?_
 rintro e V2 ⟨rfl,hb2⟩;replace k0:=zC k0 hb2;replace k1:=zC k1 hb2;replace k2:=zC k2 hb2;replace k3:=zC k3 hb2;replace k4:=zC k4 hb2;replace HB:=zT HB hb2;clear hb2
 refine hK.out _ _ ⟨k0,k1,k2,k3,k4⟩ (fun hHeld=>?_)
 clear hK K
 (try simp only [nz])
 refine rd (i:=5) (o:=⟨some 8,_,_,_,_,_⟩) (by kernel_rfl) rfl (fun K hK=>?_)
 go_simp
 clear hHeld
 refine(aQ _ _ _ _).mono ?_
 rintro e V3 ⟨rfl,hb3⟩;replace k0:=zC k0 hb3;replace k1:=zC k1 hb3;replace k2:=zC k2 hb3;replace k3:=zC k3 hb3;replace k4:=zC k4 hb3;replace HB:=zT HB hb3;clear hb3
 refine hK.out _ _ ⟨k0,k1,k2,k3,k4⟩ (fun hHeld=>?_)
 clear hK K
 (try simp only [nz])
 refine rd (i:=6) (o:=⟨some 9,_,_,_,_,_⟩) (by kernel_rfl) rfl (fun K hK=>?_)
 go_simp
 clear hHeld
 refine ah (fun V4 g4 hV hg=>?_)
 rw [←hg];have hbN:=zB hV;have HO:Hid (V4.ownsRow w.heap.size 98 3 (.slice (some ⟨g4,0,none⟩) 2 2) 2 (D (ar ⟨i,s,m,p,c⟩))):=zW hV hg HB.size (by decide) rfl
 replace k0:=zC k0 hbN;replace k1:=zC k1 hbN;replace k2:=zC k2 hbN;replace k3:=zC k3 hbN;replace k4:=zC k4 hbN;replace HB:=zT HB hbN;clear hV hg hbN
 refine hK.out _ _ ⟨k0,k1,k2,k3,k4⟩ (fun hHeld=>?_)
 clear hK K
 (try simp only [nz])
 refine tk (i:=7) (d:=2) rfl (by kernel_rfl) (fun _ _ _ h=>h) rfl ‹_› (by intro w h;(try dsimp only at h);go_simp <;>with_reducible rfl) ?_
 simp only [nz]
 refine wpAnyH_done (by kernel_rfl) ?_ _
 clear hHeld
 go_wp2_with fail
 go_ret
 exact⟨_,rfl,HO.out,HB⟩
theorem lC (i s m p c:Int) (w:World) (h0:0≤s) (h1:s≤100000):Calls Tryz.prog 127 #[.agg #[.int .i64 i,.int .i64 s,.int .i64 m,.int .i64 p,.int .i64 c]] w fun e w'=>∃u,e= .returned u∧w'.ownsRow w.heap.size 98 3 u 4 (D (bX ⟨i,s,m,p,c⟩))∧Below w.heap.size w w':=by
 go_enter Tryz.func127,Tryz.ntmps127
 go_wp2_with fail
 obtain⟨W,hW⟩:∃W,W=w.alloc (.cells #[.int .i64 i,.int .i64 s,.int .i64 m,.int .i64 p,.int .i64 c] 71):=⟨_,rfl⟩;rw [←hW];have k0:W.cell? ⟨w.heap.size,0,none⟩=some (.int .i64 i):=zN1 hW rfl;have k1:W.cell? ⟨w.heap.size,1,none⟩=some (.int .i64 s):=zN1 hW rfl;have k2:W.cell? ⟨w.heap.size,2,none⟩=some (.int .i64 m):=zN1 hW rfl;have k3:W.cell? ⟨w.heap.size,3,none⟩=some (.int .i64 p):=zN1 hW rfl;have k4:W.cell? ⟨w.heap.size,4,none⟩=some (.int .i64 c):=zN1 hW rfl;have HB:Below w.heap.size w W:=by rw [hW];exact aj _ _
 clear hW
 refine wp_region_held_drew (S:=(fun w'=>w'.cell? ⟨w.heap.size,0,none⟩=some (.int .i64 i)∧w'.cell? ⟨w.heap.size,1,none⟩=some (.int .i64 s)∧w'.cell? ⟨w.heap.size,2,none⟩=some (.int .i64 m)∧w'.cell? ⟨w.heap.size,3,none⟩=some (.int .i64 p)∧w'.cell? ⟨w.heap.size,4,none⟩=some (.int .i64 c))) (by kernel_rfl) ⟨k0,k1,k2,k3,k4⟩ (fun hHeld=>?_)
 have HDW:Below W.heap.size W W.drew:=(Below.refl _ _).drew;replace k0:=zC k0 HDW;replace k1:=zC k1 HDW;replace k2:=zC k2 HDW;replace k3:=zC k3 HDW;replace k4:=zC k4 HDW;replace HB:=zT HB HDW;clear HDW;generalize W.drew=V1 at*
 refine tk (i:=0) (d:=3) rfl (by kernel_rfl) (fun _ _ _ h=>h) rfl ‹_› (by intro w h;(try dsimp only at h);go_simp <;>with_reducible rfl) ?_
 simp only [nz]
 refine tk (i:=1) (d:=4) rfl (by kernel_rfl) (fun _ _ _ h=>h) rfl ‹_› (by intro w h;(try dsimp only at h);go_simp <;>with_reducible rfl) ?_
 simp only [nz]
 refine tk (i:=3) (d:=6) rfl (by kernel_rfl) (fun _ _ _ h=>h) rfl ‹_› (by intro w h;(try dsimp only at h);go_simp <;>with_reducible rfl) ?_
 simp only [nz]
 refine tk (i:=4) (d:=7) rfl (by kernel_rfl) (fun _ _ _ h=>h) rfl ‹_› (by intro w h;(try dsimp only at h);go_simp <;>with_reducible rfl) ?_
 simp only [nz]
 refine tk (i:=8) (d:=11) rfl (by kernel_rfl) (fun _ _ _ h=>h) rfl ‹_› (by intro w h;(try dsimp only at h);go_simp <;>with_reducible rfl) ?_
 simp only [nz]
 refine tk (i:=9) (d:=12) rfl (by kernel_rfl) (fun _ _ _ h=>h) rfl ‹_› (by intro w h;(try dsimp only at h);go_simp <;>with_reducible rfl) ?_
 simp only [nz]
 refine rd (i:=2) (o:=⟨some 5,_,_,_,_,_⟩) (by kernel_rfl) rfl (fun K hK=>?_)
 go_simp
 clear hHeld
 refine(aQ _ _ _ _).mono ?_
 rintro e V2 ⟨rfl,hb2⟩;replace k0:=zC k0 hb2;replace k1:=zC k1 hb2;replace k2:=zC k2 hb2;replace k3:=zC k3 hb2;replace k4:=zC k4 hb2;replace HB:=zT HB hb2;clear hb2
 refine hK.out _ _ ⟨k0,k1,k2,k3,k4⟩ (fun hHeld=>?_)
 clear hK K
 (try simp only [nz])
 refine rd (i:=5) (o:=⟨some 8,_,_,_,_,_⟩) (by kernel_rfl) rfl (fun K hK=>?_)
 go_simp
 clear hHeld
 refine(fT _ _ (by assumption) (by assumption)).mono ?_
 rintro e V3 ⟨rfl,hVV⟩;rw [hVV];clear hVV
 refine hK.out _ _ ⟨k0,k1,k2,k3,k4⟩ (fun hHeld=>?_)
 clear hK K
 (try simp only [nz])
 refine rd (i:=6) (o:=⟨some 9,_,_,_,_,_⟩) (by kernel_rfl) rfl (fun K hK=>?_)
 go_simp
 clear hHeld
 refine(aQ _ _ _ _).mono ?_
 rintro e V4 ⟨rfl,hb4⟩;replace k0:=zC k0 hb4;replace k1:=zC k1 hb4;replace k2:=zC k2 hb4;replace k3:=zC k3 hb4;replace k4:=zC k4 hb4;replace HB:=zT HB hb4;clear hb4
 refine hK.out _ _ ⟨k0,k1,k2,k3,k4⟩ (fun hHeld=>?_)
 clear hK K
 (try simp only [nz])
 refine rd (i:=7) (o:=⟨some 10,_,_,_,_,_⟩) (by kernel_rfl) rfl (fun K hK=>?_)
 go_simp
 clear hHeld
 refine(aQ _ _ _ _).mono ?_
 rintro e V5 ⟨rfl,hb5⟩;replace k0:=zC k0 hb5;replace k1:=zC k1 hb5;replace k2:=zC k2 hb5;replace k3:=zC k3 hb5;replace k4:=zC k4 hb5;replace HB:=zT HB hb5;clear hb5
 refine hK.out _ _ ⟨k0,k1,k2,k3,k4⟩ (fun hHeld=>?_)
 clear hK K
 (try simp only [nz])
 refine rd (i:=10) (o:=⟨some 13,_,_,_,_,_⟩) (by kernel_rfl) rfl (fun K hK=>?_)
 go_simp
 clear hHeld
 refine(aQ _ _ _ _).mono ?_
 rintro e V6 ⟨rfl,hb6⟩;replace k0:=zC k0 hb6;replace k1:=zC k1 hb6;replace k2:=zC k2 hb6;replace k3:=zC k3 hb6;replace k4:=zC k4 hb6;replace HB:=zT HB hb6;clear hb6
 refine hK.out _ _ ⟨k0,k1,k2,k3,k4⟩ (fun hHeld=>?_)
 clear hK K
 (try simp only [nz])
 refine rd (i:=11) (o:=⟨some 14,_,_,_,_,_⟩) (by kernel_rfl) rfl (fun K hK=>?_)
 go_simp
 clear hHeld
 refine ah (fun V7 g7 hV hg=>?_)
 rw [←hg];have hbN:=zB hV;have HO:Hid (V7.ownsRow w.heap.size 98 3 (.slice (some ⟨g7,0,none⟩) 4 4) 4 (D (bX ⟨i,s,m,p,c⟩))):=zW hV hg HB.size (by decide) rfl
 replace k0:=zC k0 hbN;replace k1:=zC k1 hbN;replace k2:=zC k2 hbN;replace k3:=zC k3 hbN;replace k4:=zC k4 hbN;replace HB:=zT HB hbN;clear hV hg hbN
 refine hK.out _ _ ⟨k0,k1,k2,k3,k4⟩ (fun hHeld=>?_)
 clear hK K
 (try simp only [nz])
 refine tk (i:=12) (d:=2) rfl (by kernel_rfl) (fun _ _ _ h=>h) rfl ‹_› (by intro w h;(try dsimp only at h);go_simp <;>with_reducible rfl) ?_
 simp only [nz]
 refine wpAnyH_done (by kernel_rfl) ?_ _
 clear hHeld
 go_wp2_with fail
 go_ret
 exact⟨_,rfl,HO.out,HB⟩
theorem fW (i s m p c:Int) (w:World):Calls Tryz.prog 61 #[.agg #[.int .i64 i,.int .i64 s,.int .i64 m,.int .i64 p,.int .i64 c]] w fun e w'=>∃u,e= .returned u∧w'.ownsRow w.heap.size 95 3 u 5 (M (aU ⟨i,s,m,p,c⟩))∧Below w.heap.size w w':=by
 go_enter Tryz.func61,Tryz.ntmps61
 go_wp2_with fail
 obtain⟨W,hW⟩:∃W,W=w.alloc (.cells #[.int .i64 i,.int .i64 s,.int .i64 m,.int .i64 p,.int .i64 c] 71):=⟨_,rfl⟩;rw [←hW];have k0:W.cell? ⟨w.heap.size,0,none⟩=some (.int .i64 i):=zN1 hW rfl;have k1:W.cell? ⟨w.heap.size,1,none⟩=some (.int .i64 s):=zN1 hW rfl;have k2:W.cell? ⟨w.heap.size,2,none⟩=some (.int .i64 m):=zN1 hW rfl;have k3:W.cell? ⟨w.heap.size,3,none⟩=some (.int .i64 p):=zN1 hW rfl;have k4:W.cell? ⟨w.heap.size,4,none⟩=some (.int .i64 c):=zN1 hW rfl;have HB:Below w.heap.size w W:=by rw [hW];exact aj _ _
 clear hW
 refine wp_region_held_drew (S:=(fun w'=>w'.cell? ⟨w.heap.size,0,none⟩=some (.int .i64 i)∧w'.cell? ⟨w.heap.size,1,none⟩=some (.int .i64 s)∧w'.cell? ⟨w.heap.size,2,none⟩=some (.int .i64 m)∧w'.cell? ⟨w.heap.size,3,none⟩=some (.int .i64 p)∧w'.cell? ⟨w.heap.size,4,none⟩=some (.int .i64 c))) (by kernel_rfl) ⟨k0,k1,k2,k3,k4⟩ (fun hHeld=>?_)
 have HDW:Below W.heap.size W W.drew:=(Below.refl _ _).drew;replace k0:=zC k0 HDW;replace k1:=zC k1 HDW;replace k2:=zC k2 HDW;replace k3:=zC k3 HDW;replace k4:=zC k4 HDW;replace HB:=zT HB HDW;clear HDW;generalize W.drew=V1 at*
 refine tk (i:=0) (d:=3) rfl (by kernel_rfl) (fun _ _ _ h=>h) rfl ‹_› (by intro w h;(try dsimp only at h);go_simp <;>with_reducible rfl) ?_
 simp only [nz]
 refine tk (i:=1) (d:=4) rfl (by kernel_rfl) (fun _ _ _ h=>h) rfl ‹_› (by intro w h;(try dsimp only at h);go_simp <;>with_reducible rfl) ?_
 simp only [nz]
 refine tk (i:=5) (d:=8) rfl (by kernel_rfl) (fun _ _ _ h=>h) rfl ‹_› (by intro w h;(try dsimp only at h);go_simp <;>with_reducible rfl) ?_
 simp only [nz]
 refine tk (i:=6) (d:=9) rfl (by kernel_rfl) (fun _ _ _ h=>h) rfl ‹_› (by intro w h;(try dsimp only at h);go_simp <;>with_reducible rfl) ?_
 simp only [nz]
 refine tk (i:=8) (d:=11) rfl (by kernel_rfl) (fun _ _ _ h=>h) rfl ‹_› (by intro w h;(try dsimp only at h);go_simp <;>with_reducible rfl) ?_
 simp only [nz]
 refine tk (i:=9) (d:=12) rfl (by kernel_rfl) (fun _ _ _ h=>h) rfl ‹_› (by intro w h;(try dsimp only at h);go_simp <;>with_reducible rfl) ?_
 simp only [nz]
 refine rd (i:=2) (o:=⟨some 5,_,_,_,_,_⟩) (by kernel_rfl) rfl (fun K hK=>?_)
 go_simp
 clear hHeld
 refine(bk _ _ _).mono ?_
 rintro e V2 ⟨rfl,hb2⟩;replace k0:=zC k0 hb2;replace k1:=zC k1 hb2;replace k2:=zC k2 hb2;replace k3:=zC k3 hb2;replace k4:=zC k4 hb2;replace HB:=zT HB hb2;clear hb2
 refine hK.out _ _ ⟨k0,k1,k2,k3,k4⟩ (fun hHeld=>?_)
 clear hK K
 (try simp only [nz])
 refine rd (i:=3) (o:=⟨some 6,_,_,_,_,_⟩) (by kernel_rfl) rfl (fun K hK=>?_)
 go_simp
 clear hHeld
 refine(bk _ _ _).mono ?_
 rintro e V3 ⟨rfl,hb3⟩;replace k0:=zC k0 hb3;replace k1:=zC k1 hb3;replace k2:=zC k2 hb3;replace k3:=zC k3 hb3;replace k4:=zC k4 hb3;replace HB:=zT HB hb3;clear hb3
 refine hK.out _ _ ⟨k0,k1,k2,k3,k4⟩ (fun hHeld=>?_)
 clear hK K
 (try simp only [nz])
 refine rd (i:=4) (o:=⟨some 7,_,_,_,_,_⟩) (by kernel_rfl) rfl (fun K hK=>?_)
 go_simp
 clear hHeld
 refine(bk _ _ _).mono ?_
 rintro e V4 ⟨rfl,hb4⟩;replace k0:=zC k0 hb4;replace k1:=zC k1 hb4;replace k2:=zC k2 hb4;replace k3:=zC k3 hb4;replace k4:=zC k4 hb4;replace HB:=zT HB hb4;clear hb4
 refine hK.out _ _ ⟨k0,k1,k2,k3,k4⟩ (fun hHeld=>?_)
 clear hK K
 (try simp only [nz])
 refine rd (i:=7) (o:=⟨some 10,_,_,_,_,_⟩) (by kernel_rfl) rfl (fun K hK=>?_)
 go_simp
 clear hHeld
 refine(bk _ _ _).mono ?_
 rintro e V5 ⟨rfl,hb5⟩;replace k0:=zC k0 hb5;replace k1:=zC k1 hb5;replace k2:=zC k2 hb5;replace k3:=zC k3 hb5;replace k4:=zC k4 hb5;replace HB:=zT HB hb5;clear hb5
 refine hK.out _ _ ⟨k0,k1,k2,k3,k4⟩ (fun hHeld=>?_)
 clear hK K
 (try simp only [nz])
 refine rd (i:=10) (o:=⟨some 13,_,_,_,_,_⟩) (by kernel_rfl) rfl (fun K hK=>?_)
 go_simp
 clear hHeld
 refine(bk _ _ _).mono ?_
 rintro e V6 ⟨rfl,hb6⟩;replace k0:=zC k0 hb6;replace k1:=zC k1 hb6;replace k2:=zC k2 hb6;replace k3:=zC k3 hb6;replace k4:=zC k4 hb6;replace HB:=zT HB hb6;clear hb6
 refine hK.out _ _ ⟨k0,k1,k2,k3,k4⟩ (fun hHeld=>?_)
 clear hK K
 (try simp only [nz])
 refine rd (i:=11) (o:=⟨some 14,_,_,_,_,_⟩) (by kernel_rfl) rfl (fun K hK=>?_)
 go_simp
 clear hHeld
 refine ah (fun V7 g7 hV hg=>?_)
 rw [←hg];have hbN:=zB hV;have HO:Hid (V7.ownsRow w.heap.size 95 3 (.slice (some ⟨g7,0,none⟩) 5 5) 5 (M (aU ⟨i,s,m,p,c⟩))):=zW hV hg HB.size (by decide) rfl
 replace k0:=zC k0 hbN;replace k1:=zC k1 hbN;replace k2:=zC k2 hbN;replace k3:=zC k3 hbN;replace k4:=zC k4 hbN;replace HB:=zT HB hbN;clear hV hg hbN
 refine hK.out _ _ ⟨k0,k1,k2,k3,k4⟩ (fun hHeld=>?_)
 clear hK K
 (try simp only [nz])
 refine tk (i:=12) (d:=2) rfl (by kernel_rfl) (fun _ _ _ h=>h) rfl ‹_› (by intro w h;(try dsimp only at h);go_simp <;>with_reducible rfl) ?_
 simp only [nz]
 refine wpAnyH_done (by kernel_rfl) ?_ _
 clear hHeld
 go_wp2_with fail
 go_ret
 exact⟨_,rfl,HO.out,HB⟩
def SrcAt (w:World) (sz:Nat) (u:Value) (n:Nat) (xs:List Value):Prop:=(u= .slice none 0 0∧n=0∧xs= [])∨∃ad c,u= .slice (some ad) n c∧xs.length=n*sz∧(∀j v,xs[j]?=some v→w.cell? (ad.add j)=some v)∧∀v∈xs,v.oneCell'=true
theorem SrcAt.below {w w':World} {sz n:Nat} {u:Value} {xs:List Value} (h:SrcAt w sz u n xs) (hb:Below w.heap.size w w'):SrcAt w' sz u n xs:=by
 rcases h with h |⟨ad,c,rfl,hl,hc,h1⟩
 ·exact .inl h
 ·refine .inr ⟨ad,c,rfl,hl,fun j v hj=>?_,h1⟩
  have h:=hc j v hj;have hsp:(ad.add j).spot=none:=World.cell?_spot h
  rcases hq:ad.add j with⟨bb,oo,ss⟩
  rw [hq]at h hsp;simp only at hsp;subst hsp
  exact zC h hb
theorem SrcAt.below' {w w':World} {sz n:Nat} {u:Value} {xs:List Value} (h:SrcAt w sz u n xs) (hb:Below w.heap.size w w'):SrcAt w' sz u n xs:=h.below hb
theorem bW (cs:Array Value) (n:Nat):(Builtin.zeroCells cs n).size=n*cs.size:=by
 unfold Builtin.zeroCells
 simp
theorem SrcAt.of_own {w:World} {B e sz n:Nat} {u:Value} {xs:List Value} (h:w.ownsRow B e sz u n xs) (h1:∀v∈xs,v.oneCell'=true):SrcAt w sz u n xs:=by
 have hh:=h;obtain⟨hl,⟨rfl,h0⟩ |⟨g,cap,cur,rfl,_⟩⟩:=h
 ·exact .inl ⟨rfl,h0,List.eq_nil_of_length_eq_zero (by rw [hl,h0];simp)⟩
 ·exact .inr ⟨⟨g,0,none⟩,cap,rfl,hl,hh.cells rfl,h1⟩
def cnt (L:List (Value×Nat×List Value)):Nat:=(L.map fun x=>x.2.1).sum
def cat (L:List (Value×Nat×List Value)):List Value:=L.flatMap fun x=>x.2.2
def z3:Value×Nat×List Value:=(.slice none 0 0,0,[])
theorem eE {L:List (Value×Nat×List Value)} {k:Nat} (h:k<L.length):cnt (L.take (k+1))=cnt (L.take k)+(L.getD k z3).2.1:=by
 unfold cnt;rw [List.take_succ_eq_append_getElem h,List.map_append,List.sum_append]
 simp [List.getD,List.getElem?_eq_getElem h]
theorem kP {L:List (Value×Nat×List Value)} {k:Nat} (h:k<L.length):cat (L.take (k+1))=cat (L.take k)++(L.getD k z3).2.2:=by
 unfold cat;rw [List.take_succ_eq_append_getElem h,List.flatMap_append]
 simp [List.getD,List.getElem?_eq_getElem h]
theorem mH {L:List (Value×Nat×List Value)} {m:Nat} (h:∀x∈L,x.2.1≤m):∀k,k≤L.length→cnt (L.take k)≤k*m
 | 0,_=>by simp [cnt]
 | k+1,hk=>by
  rw [eE (by omega),Nat.add_mul]
  have h1:=mH h k (by omega)
  have h2:=h (L.getD k z3) (by
   rw [List.getD_eq_getElem?_getD,List.getElem?_eq_getElem (by omega:k<L.length)]
   exact List.getElem_mem _)
  omega
theorem dP {L:List (Value×Nat×List Value)} {k:Nat} (h:k<L.length):L.getD k z3∈L:=by
 rw [List.getD_eq_getElem?_getD,List.getElem?_eq_getElem h]
 exact List.getElem_mem _
theorem ql (n:Nat) (w:World) (hn:n≤10000000):Calls Tryz.prog 111 #[.slice none 0 0,.int .i64 n] w fun e w'=>∃u,e= .returned u∧w'.ownsRow w.heap.size 95 3 u 0 []∧Below w.heap.size w w':=by
 obtain⟨i0,hi,hz0,hz1,hz2⟩:=info_parts es;have h1:¬((n:Int)<0):=by omega
 by_cases h0:n=0
 ·subst h0
  clear hi hz0 hz1 hz2
  go_enter Tryz.func111,Tryz.ntmps111
  go_wp2
  go_ret
  exact⟨_,rfl,World.ownsRow_nil _ _ _ _,Below.refl _ _⟩
 ·have h4:(0:Int)<(n:Int):=by omega
  have hr:=fun ty=>Lib.run_append_nil_zeros (P:=Tryz.prog) w 87 3 ty 95 i0 _ .i64 .i64 Tryz.underlying87 Tryz.underlying3 hi hz0 n (by omega) (by rw [hz1];decide) (by omega) (by rw [hz2];omega)
  have HR:=aa hr;have hG0:=grownCap_ge w n 0 95;have hG1:=grownCap_le_maxLen w n 0 95 (by unfold maxLen;omega)
  generalize grownCap w n 0 95=G at*
  clear hr;have hG2:G≤9223372036854775807:=by unfold maxLen at hG1;omega
  have hO:((w.drew).alloc (.cells (Builtin.zeroCells (Value.cells (.agg #[.int .i64 0,.int .i64 0,.int .i64 0])) n++Builtin.zeroCells (Value.cells (.agg #[.int .i64 0,.int .i64 0,.int .i64 0])) (G-n)) 95)).ownsRow w.heap.size 95 3 (.slice (some ⟨w.heap.size,0,none⟩) 0 G) 0 []:=by
   refine World.ownsRow_made w.drew _ G zr hG1 ?_
   rw [Array.size_append,bW,bW];rw [←Nat.add_mul]
   congr 1
   omega
  have HO:=aa hO;clear hO
  go_enter Tryz.func111,Tryz.ntmps111
  go_wp2_with (at_builtin;refine Lib.wpList_append_run _ rfl _ _ _ _ rfl _ _ rfl rfl _ _ ((ag HR) _) ?_)
  go_ret
  exact⟨_,rfl,HO.out,(Below.refl _ _).drew.alloc zr _⟩
theorem dX (L:List (Value×Nat×List Value)) (g cap:Nat) (w:World) (hc:∀j,j<L.length→w.cell? ⟨g,j,none⟩=some (L.getD j z3).1) (hs:∀x∈L,SrcAt w 3 x.1 x.2.1 x.2.2) (hl:L.length≤10) (hcap:L.length≤cap) (hn:∀x∈L,x.2.1≤100000):
  Calls Tryz.prog 60 #[.slice (some ⟨g,0,none⟩) L.length cap] w fun e w'=>∃u,e= .returned u∧w'.ownsRow w.heap.size 95 3 u (cnt L) (cat L)∧Below w.heap.size w w':=by
 obtain⟨i0,hi,hz0,hz1,hz2⟩:=info_parts es;have HC:=aa hc;have HS:=aa hs;have HN:=aa (fun k hk=>mH hn k hk)
 have HM:=aa hn;clear hc hs hn
 go_enter Tryz.func60,Tryz.ntmps60
 go_wp2_with fail
 go_loopw [3,11] (fun s i wr=>∃k:Nat,k≤L.length∧i= .int .i64 k∧s= .int .i64 (cnt (L.take k):Nat)∧Below w.heap.size w wr) (fun _ i _=>L.length-(intOf i).toNat)
 case atStart=>exact⟨0,by omega,rfl,rfl,Below.refl _ _⟩
 case round=>
  obtain⟨k,hk,rfl,rfl,hbr⟩:=hrel
  by_cases hlt:k<L.length
  ·have hx:=(HS.out _ (dP hlt))
   have hcell:=(hbr.cell (p:=⟨g,k,none⟩) (am (HC.out k hlt))).trans (HC.out k hlt);obtain⟨o,c,hu⟩:∃o c,(L.getD k z3).1= .slice o (L.getD k z3).2.1 c:=by
    rcases hx with⟨h,h0,_⟩ |⟨ad,c,h,_⟩
    ·exact⟨_,_,by rw [h,h0]⟩
    ·exact⟨_,_,h⟩
   rw [hu]at hcell;have HX:=aa (eE hlt);have hb1:=HN.out k hk;have hb2:=HM.out _ (dP hlt);clear hx hu;generalize (L.getD k z3).2.1=m at*
   generalize hcn:cnt (L.take k)=C0 at*
   clear hcn;have hb3:C0≤1000000:=Nat.le_trans hb1 (by omega)
   have hb4:¬((C0:Int)+(m:Int)<0):=by omega
   have q1:(0:Int)≤(k:Int):=by omega
   have q2:(k:Int)<(L.length:Int):=by omega
   clear hb1
   go_wp2_with fail
   go_roundw
   case rel=>exact⟨k+1,by omega,by go_num,by rw [HX.out];go_num,hbr⟩
   case measure=>simp [intOf];omega
  ·obtain rfl:k=L.length:=by omega
   have hb1:=HN.out _ zr;rw [List.take_length]at hb1⊢;have hb3:cnt L≤1000000:=Nat.le_trans hb1 (by omega)
   have HG:=aa (ql (cnt L) wr (by omega))
   obtain⟨C1,hC1⟩:∃C1,C1=cnt L:=⟨_,rfl⟩;have HC1:=aa hC1;rw [←hC1]at HG hb3⊢;clear hC1 hb1
   go_wp2_with fail
   refine(ag HG).mono ?_
   rintro e w1 ⟨u,rfl,ho,hb⟩;have hb01:=hbr.trans (hb.mono hbr.size);have HO:=aa (aw ho hbr.size);obtain⟨o,c,rfl⟩:=aD ho;clear ho hb hbr HG
   go_wp2_with fail
   go_loopw [6,27] (fun v i wq=>∃k:Nat,k≤L.length∧i= .int .i64 k∧Hid (wq.ownsRow w.heap.size 95 3 v (cnt (L.take k)) (cat (L.take k)))∧Below w.heap.size w wq) (fun _ i _=>L.length-(intOf i).toNat)
   case atStart=>exact⟨0,by omega,rfl,aa (by simpa [cnt,cat] using HO.out),hb01⟩
   case round=>
    clear HO hb01;obtain⟨k,hk,rfl,HO,hbr⟩:=hrel
    by_cases hlt:k<L.length
    ·have hx:=(HS.out _ (dP hlt))
     have hcell:=(hbr.cell (p:=⟨g,k,none⟩) (am (HC.out k hlt))).trans (HC.out k hlt);have HX:=aa (eE hlt);have HY:=aa (kP hlt);have hb1:=HN.out k hk;have hb2:=HM.out _ (dP hlt);obtain⟨o1,c1,rfl⟩:=aD HO.out;have hb4:cnt (L.take k)≤1000000:=Nat.le_trans hb1 (by omega)
     have q1:(0:Int)≤(k:Int):=by omega
     have q2:(k:Int)<(L.length:Int):=by omega
     clear hb1;have hsz:=hbr.size;have HS2:=aa (hx.below' hbr);clear hx;obtain⟨C2,hC2⟩:∃C2,C2=cnt (L.take k):=⟨_,rfl⟩;rw [←hC2]at HO HX hb4⊢;clear hC2;obtain⟨XS,hXS⟩:∃XS,XS=cat (L.take k):=⟨_,rfl⟩;rw [←hXS]at HO HY;clear hXS
     rcases HS2.out with⟨hu,h0,hnil⟩ |⟨ad,c2,hu,hln,hcs,hone⟩
     ·rw [hu]at hcell
      rw [h0,Nat.add_zero]at HX;rw [hnil,List.append_nil]at HY;clear hu h0 hnil HS2 hb2
      go_wp2_with (at_builtin;refine wpList_append_own_none rfl _ _ 87 rfl w.heap.size 95 i0 3 Tryz.underlying87 hi _ _ _ rfl (ag HO) rfl ?_)
      go_roundw
      case rel=>exact⟨k+1,by omega,by go_num,by rw [HX.out,HY.out];exact HO,hbr⟩
      case measure=>simp [intOf];omega
     ·rw [hu]at hcell
      have HLN:=aa hln;have HCS:=aa hcs;have HONE:=aa hone;clear hu hln hcs hone HS2;generalize (L.getD k z3).2.1=m at*
      generalize (L.getD k z3).2.2=ys at*
      go_wp2_with (at_builtin;refine wpList_append_own _ rfl _ _ 87 rfl w.heap.size 95 i0 _ 3 24 Tryz.underlying87 hi hz0 hz1 hz2 rfl (by decide) _ _ _ rfl (ag HO) ad m c2 ys rfl (ag HLN) (ag HCS) (ag HONE) ?a1 ?a2 ?a3 ?_)
      case a1=>unfold maxLen;omega
      case a2=>omega
      case a3=>exact hsz
      intro v3 w3 ho3 hg3 _;have hb3:Below w.heap.size w w3:=hbr.grown hg3 hsz (aF HO.out);have HE:=aa ho3;obtain⟨o3,c3,rfl⟩:=aD ho3;clear ho3 hg3 HO HCS hcell
      go_wp2_with fail
      go_roundw
      case rel=>exact⟨k+1,by omega,by go_num,by rw [HX.out,HY.out];exact HE,hb3⟩
      case measure=>simp [intOf];omega
    ·obtain rfl:k=L.length:=by omega
     rw [List.take_length]at HO;obtain⟨o1,c1,rfl⟩:=aD HO.out;have HX:=aa HO.out;clear HO
     go_wp2_with fail
     go_ret
     exact⟨_,rfl,HX.out,hbr⟩
theorem py (n:Nat) (w:World) (hn:n≤10000000):Calls Tryz.prog 162 #[.slice none 0 0,.int .i64 n] w fun e w'=>∃u,e= .returned u∧w'.ownsRow w.heap.size 98 3 u 0 []∧Below w.heap.size w w':=by
 obtain⟨i0,hi,hz0,hz1,hz2⟩:=info_parts eZ;have h1:¬((n:Int)<0):=by omega
 by_cases h0:n=0
 ·subst h0
  clear hi hz0 hz1 hz2
  go_enter Tryz.func162,Tryz.ntmps162
  go_wp2
  go_ret
  exact⟨_,rfl,World.ownsRow_nil _ _ _ _,Below.refl _ _⟩
 ·have h4:(0:Int)<(n:Int):=by omega
  have hr:=fun ty=>Lib.run_append_nil_zeros (P:=Tryz.prog) w 88 3 ty 98 i0 _ .i64 .i64 Tryz.underlying88 Tryz.underlying3 hi hz0 n (by omega) (by rw [hz1];decide) (by omega) (by rw [hz2];omega)
  have HR:=aa hr;have hG0:=grownCap_ge w n 0 98;have hG1:=grownCap_le_maxLen w n 0 98 (by unfold maxLen;omega)
  generalize grownCap w n 0 98=G at*
  clear hr;have hG2:G≤9223372036854775807:=by unfold maxLen at hG1;omega
  have hO:((w.drew).alloc (.cells (Builtin.zeroCells (Value.cells (.agg #[.int .i64 0,.int .i64 0,.int .i64 0])) n++Builtin.zeroCells (Value.cells (.agg #[.int .i64 0,.int .i64 0,.int .i64 0])) (G-n)) 98)).ownsRow w.heap.size 98 3 (.slice (some ⟨w.heap.size,0,none⟩) 0 G) 0 []:=by
   refine World.ownsRow_made w.drew _ G zr hG1 ?_
   rw [Array.size_append,bW,bW];rw [←Nat.add_mul]
   congr 1
   omega
  have HO:=aa hO;clear hO
  go_enter Tryz.func162,Tryz.ntmps162
  go_wp2_with (at_builtin;refine Lib.wpList_append_run _ rfl _ _ _ _ rfl _ _ rfl rfl _ _ ((ag HR) _) ?_)
  go_ret
  exact⟨_,rfl,HO.out,(Below.refl _ _).drew.alloc zr _⟩
theorem nm (L:List (Value×Nat×List Value)) (g cap:Nat) (w:World) (hc:∀j,j<L.length→w.cell? ⟨g,j,none⟩=some (L.getD j z3).1) (hs:∀x∈L,SrcAt w 3 x.1 x.2.1 x.2.2) (hl:L.length≤10) (hcap:L.length≤cap) (hn:∀x∈L,x.2.1≤100000):
  Calls Tryz.prog 126 #[.slice (some ⟨g,0,none⟩) L.length cap] w fun e w'=>∃u,e= .returned u∧w'.ownsRow w.heap.size 98 3 u (cnt L) (cat L)∧Below w.heap.size w w':=by
 obtain⟨i0,hi,hz0,hz1,hz2⟩:=info_parts eZ;have HC:=aa hc;have HS:=aa hs;have HN:=aa (fun k hk=>mH hn k hk)
 have HM:=aa hn;clear hc hs hn
 go_enter Tryz.func126,Tryz.ntmps126
 go_wp2_with fail
 go_loopw [3,11] (fun s i wr=>∃k:Nat,k≤L.length∧i= .int .i64 k∧s= .int .i64 (cnt (L.take k):Nat)∧Below w.heap.size w wr) (fun _ i _=>L.length-(intOf i).toNat)
 case atStart=>exact⟨0,by omega,rfl,rfl,Below.refl _ _⟩
 case round=>
  obtain⟨k,hk,rfl,rfl,hbr⟩:=hrel
  by_cases hlt:k<L.length
  ·have hx:=(HS.out _ (dP hlt))
   have hcell:=(hbr.cell (p:=⟨g,k,none⟩) (am (HC.out k hlt))).trans (HC.out k hlt);obtain⟨o,c,hu⟩:∃o c,(L.getD k z3).1= .slice o (L.getD k z3).2.1 c:=by
    rcases hx with⟨h,h0,_⟩ |⟨ad,c,h,_⟩
    ·exact⟨_,_,by rw [h,h0]⟩
    ·exact⟨_,_,h⟩
   rw [hu]at hcell;have HX:=aa (eE hlt);have hb1:=HN.out k hk;have hb2:=HM.out _ (dP hlt);clear hx hu;generalize (L.getD k z3).2.1=m at*
   generalize hcn:cnt (L.take k)=C0 at*
   clear hcn;have hb3:C0≤1000000:=Nat.le_trans hb1 (by omega)
   have hb4:¬((C0:Int)+(m:Int)<0):=by omega
   have q1:(0:Int)≤(k:Int):=by omega
   have q2:(k:Int)<(L.length:Int):=by omega
   clear hb1
   go_wp2_with fail
   go_roundw
   case rel=>exact⟨k+1,by omega,by go_num,by rw [HX.out];go_num,hbr⟩
   case measure=>simp [intOf];omega
  ·obtain rfl:k=L.length:=by omega
   have hb1:=HN.out _ zr;rw [List.take_length]at hb1⊢;have hb3:cnt L≤1000000:=Nat.le_trans hb1 (by omega)
   have HG:=aa (py (cnt L) wr (by omega))
   obtain⟨C1,hC1⟩:∃C1,C1=cnt L:=⟨_,rfl⟩;have HC1:=aa hC1;rw [←hC1]at HG hb3⊢;clear hC1 hb1
   go_wp2_with fail
   refine(ag HG).mono ?_
   rintro e w1 ⟨u,rfl,ho,hb⟩;have hb01:=hbr.trans (hb.mono hbr.size);have HO:=aa (aw ho hbr.size);obtain⟨o,c,rfl⟩:=aD ho;clear ho hb hbr HG
   go_wp2_with fail
   go_loopw [6,27] (fun v i wq=>∃k:Nat,k≤L.length∧i= .int .i64 k∧Hid (wq.ownsRow w.heap.size 98 3 v (cnt (L.take k)) (cat (L.take k)))∧Below w.heap.size w wq) (fun _ i _=>L.length-(intOf i).toNat)
   case atStart=>exact⟨0,by omega,rfl,aa (by simpa [cnt,cat] using HO.out),hb01⟩
   case round=>
    clear HO hb01;obtain⟨k,hk,rfl,HO,hbr⟩:=hrel
    by_cases hlt:k<L.length
    ·have hx:=(HS.out _ (dP hlt))
     have hcell:=(hbr.cell (p:=⟨g,k,none⟩) (am (HC.out k hlt))).trans (HC.out k hlt);have HX:=aa (eE hlt);have HY:=aa (kP hlt);have hb1:=HN.out k hk;have hb2:=HM.out _ (dP hlt);obtain⟨o1,c1,rfl⟩:=aD HO.out;have hb4:cnt (L.take k)≤1000000:=Nat.le_trans hb1 (by omega)
     have q1:(0:Int)≤(k:Int):=by omega
     have q2:(k:Int)<(L.length:Int):=by omega
     clear hb1;have hsz:=hbr.size;have HS2:=aa (hx.below' hbr);clear hx;obtain⟨C2,hC2⟩:∃C2,C2=cnt (L.take k):=⟨_,rfl⟩;rw [←hC2]at HO HX hb4⊢;clear hC2;obtain⟨XS,hXS⟩:∃XS,XS=cat (L.take k):=⟨_,rfl⟩;rw [←hXS]at HO HY;clear hXS
     rcases HS2.out with⟨hu,h0,hnil⟩ |⟨ad,c2,hu,hln,hcs,hone⟩
     ·rw [hu]at hcell
      rw [h0,Nat.add_zero]at HX;rw [hnil,List.append_nil]at HY;clear hu h0 hnil HS2 hb2
      go_wp2_with (at_builtin;refine wpList_append_own_none rfl _ _ 88 rfl w.heap.size 98 i0 3 Tryz.underlying88 hi _ _ _ rfl (ag HO) rfl ?_)
      go_roundw
      case rel=>exact⟨k+1,by omega,by go_num,by rw [HX.out,HY.out];exact HO,hbr⟩
      case measure=>simp [intOf];omega
     ·rw [hu]at hcell
      have HLN:=aa hln;have HCS:=aa hcs;have HONE:=aa hone;clear hu hln hcs hone HS2;generalize (L.getD k z3).2.1=m at*
      generalize (L.getD k z3).2.2=ys at*
      go_wp2_with (at_builtin;refine wpList_append_own _ rfl _ _ 88 rfl w.heap.size 98 i0 _ 3 24 Tryz.underlying88 hi hz0 hz1 hz2 rfl (by decide) _ _ _ rfl (ag HO) ad m c2 ys rfl (ag HLN) (ag HCS) (ag HONE) ?a1 ?a2 ?a3 ?_)
      case a1=>unfold maxLen;omega
      case a2=>omega
      case a3=>exact hsz
      intro v3 w3 ho3 hg3 _;have hb3:Below w.heap.size w w3:=hbr.grown hg3 hsz (aF HO.out);have HE:=aa ho3;obtain⟨o3,c3,rfl⟩:=aD ho3;clear ho3 hg3 HO HCS hcell
      go_wp2_with fail
      go_roundw
      case rel=>exact⟨k+1,by omega,by go_num,by rw [HX.out,HY.out];exact HE,hb3⟩
      case measure=>simp [intOf];omega
    ·obtain rfl:k=L.length:=by omega
     rw [List.take_length]at HO;obtain⟨o1,c1,rfl⟩:=aD HO.out;have HX:=aa HO.out;clear HO
     go_wp2_with fail
     go_ret
     exact⟨_,rfl,HX.out,hbr⟩
theorem pS (n:Nat) (w:World) (hn:n≤10000000):Calls Tryz.prog 116 #[.slice none 0 0,.int .i64 n] w fun e w'=>∃u,e= .returned u∧w'.ownsRow w.heap.size 90 4 u 0 []∧Below w.heap.size w w':=by
 obtain⟨i0,hi,hz0,hz1,hz2⟩:=info_parts ez;have h1:¬((n:Int)<0):=by omega
 by_cases h0:n=0
 ·subst h0
  clear hi hz0 hz1 hz2
  go_enter Tryz.func116,Tryz.ntmps116
  go_wp2
  go_ret
  exact⟨_,rfl,World.ownsRow_nil _ _ _ _,Below.refl _ _⟩
 ·have h4:(0:Int)<(n:Int):=by omega
  have hr:=fun ty=>Lib.run_append_nil_zeros (P:=Tryz.prog) w 31 3 ty 90 i0 _ .i64 .i64 Tryz.underlying31 Tryz.underlying3 hi hz0 n (by omega) (by rw [hz1];decide) (by omega) (by rw [hz2];omega)
  have HR:=aa hr;have hG0:=grownCap_ge w n 0 90;have hG1:=grownCap_le_maxLen w n 0 90 (by unfold maxLen;omega)
  generalize grownCap w n 0 90=G at*
  clear hr;have hG2:G≤9223372036854775807:=by unfold maxLen at hG1;omega
  have hO:((w.drew).alloc (.cells (Builtin.zeroCells (Value.cells (.agg #[.int .i64 0,.int .i64 0,.slice none 0 0,.slice none 0 0])) n++Builtin.zeroCells (Value.cells (.agg #[.int .i64 0,.int .i64 0,.slice none 0 0,.slice none 0 0])) (G-n)) 90)).ownsRow w.heap.size 90 4 (.slice (some ⟨w.heap.size,0,none⟩) 0 G) 0 []:=by
   refine World.ownsRow_made w.drew _ G zr hG1 ?_
   rw [Array.size_append,bW,bW];rw [←Nat.add_mul]
   congr 1
   omega
  have HO:=aa hO;clear hO
  go_enter Tryz.func116,Tryz.ntmps116
  go_wp2_with (at_builtin;refine Lib.wpList_append_run _ rfl _ _ _ _ rfl _ _ rfl rfl _ _ ((ag HR) _) ?_)
  go_ret
  exact⟨_,rfl,HO.out,(Below.refl _ _).drew.alloc zr _⟩
theorem nc (L:List (Value×Nat×List Value)) (g cap:Nat) (w:World) (hc:∀j,j<L.length→w.cell? ⟨g,j,none⟩=some (L.getD j z3).1) (hs:∀x∈L,SrcAt w 4 x.1 x.2.1 x.2.2) (hl:L.length≤10) (hcap:L.length≤cap) (hn:∀x∈L,x.2.1≤100000):
  Calls Tryz.prog 65 #[.slice (some ⟨g,0,none⟩) L.length cap] w fun e w'=>∃u,e= .returned u∧w'.ownsRow w.heap.size 90 4 u (cnt L) (cat L)∧Below w.heap.size w w':=by
 obtain⟨i0,hi,hz0,hz1,hz2⟩:=info_parts ez;have HC:=aa hc;have HS:=aa hs;have HN:=aa (fun k hk=>mH hn k hk)
 have HM:=aa hn;clear hc hs hn
 go_enter Tryz.func65,Tryz.ntmps65
 go_wp2_with fail
 go_loopw [3,11] (fun s i wr=>∃k:Nat,k≤L.length∧i= .int .i64 k∧s= .int .i64 (cnt (L.take k):Nat)∧Below w.heap.size w wr) (fun _ i _=>L.length-(intOf i).toNat)
 case atStart=>exact⟨0,by omega,rfl,rfl,Below.refl _ _⟩
 case round=>
  obtain⟨k,hk,rfl,rfl,hbr⟩:=hrel
  by_cases hlt:k<L.length
  ·have hx:=(HS.out _ (dP hlt))
   have hcell:=(hbr.cell (p:=⟨g,k,none⟩) (am (HC.out k hlt))).trans (HC.out k hlt);obtain⟨o,c,hu⟩:∃o c,(L.getD k z3).1= .slice o (L.getD k z3).2.1 c:=by
    rcases hx with⟨h,h0,_⟩ |⟨ad,c,h,_⟩
    ·exact⟨_,_,by rw [h,h0]⟩
    ·exact⟨_,_,h⟩
   rw [hu]at hcell;have HX:=aa (eE hlt);have hb1:=HN.out k hk;have hb2:=HM.out _ (dP hlt);clear hx hu;generalize (L.getD k z3).2.1=m at*
   generalize hcn:cnt (L.take k)=C0 at*
   clear hcn;have hb3:C0≤1000000:=Nat.le_trans hb1 (by omega)
   have hb4:¬((C0:Int)+(m:Int)<0):=by omega
   have q1:(0:Int)≤(k:Int):=by omega
   have q2:(k:Int)<(L.length:Int):=by omega
   clear hb1
   go_wp2_with fail
   go_roundw
   case rel=>exact⟨k+1,by omega,by go_num,by rw [HX.out];go_num,hbr⟩
   case measure=>simp [intOf];omega
  ·obtain rfl:k=L.length:=by omega
   have hb1:=HN.out _ zr;rw [List.take_length]at hb1⊢;have hb3:cnt L≤1000000:=Nat.le_trans hb1 (by omega)
   have HG:=aa (pS (cnt L) wr (by omega))
   obtain⟨C1,hC1⟩:∃C1,C1=cnt L:=⟨_,rfl⟩;have HC1:=aa hC1;rw [←hC1]at HG hb3⊢;clear hC1 hb1
   go_wp2_with fail
   refine(ag HG).mono ?_
   rintro e w1 ⟨u,rfl,ho,hb⟩;have hb01:=hbr.trans (hb.mono hbr.size);have HO:=aa (aw ho hbr.size);obtain⟨o,c,rfl⟩:=aD ho;clear ho hb hbr HG
   go_wp2_with fail
   go_loopw [6,27] (fun v i wq=>∃k:Nat,k≤L.length∧i= .int .i64 k∧Hid (wq.ownsRow w.heap.size 90 4 v (cnt (L.take k)) (cat (L.take k)))∧Below w.heap.size w wq) (fun _ i _=>L.length-(intOf i).toNat)
   case atStart=>exact⟨0,by omega,rfl,aa (by simpa [cnt,cat] using HO.out),hb01⟩
   case round=>
    clear HO hb01;obtain⟨k,hk,rfl,HO,hbr⟩:=hrel
    by_cases hlt:k<L.length
    ·have hx:=(HS.out _ (dP hlt))
     have hcell:=(hbr.cell (p:=⟨g,k,none⟩) (am (HC.out k hlt))).trans (HC.out k hlt);have HX:=aa (eE hlt);have HY:=aa (kP hlt);have hb1:=HN.out k hk;have hb2:=HM.out _ (dP hlt);obtain⟨o1,c1,rfl⟩:=aD HO.out;have hb4:cnt (L.take k)≤1000000:=Nat.le_trans hb1 (by omega)
     have q1:(0:Int)≤(k:Int):=by omega
     have q2:(k:Int)<(L.length:Int):=by omega
     clear hb1;have hsz:=hbr.size;have HS2:=aa (hx.below' hbr);clear hx;obtain⟨C2,hC2⟩:∃C2,C2=cnt (L.take k):=⟨_,rfl⟩;rw [←hC2]at HO HX hb4⊢;clear hC2;obtain⟨XS,hXS⟩:∃XS,XS=cat (L.take k):=⟨_,rfl⟩;rw [←hXS]at HO HY;clear hXS
     rcases HS2.out with⟨hu,h0,hnil⟩ |⟨ad,c2,hu,hln,hcs,hone⟩
     ·rw [hu]at hcell
      rw [h0,Nat.add_zero]at HX;rw [hnil,List.append_nil]at HY;clear hu h0 hnil HS2 hb2
      go_wp2_with (at_builtin;refine wpList_append_own_none rfl _ _ 31 rfl w.heap.size 90 i0 4 Tryz.underlying31 hi _ _ _ rfl (ag HO) rfl ?_)
      go_roundw
      case rel=>exact⟨k+1,by omega,by go_num,by rw [HX.out,HY.out];exact HO,hbr⟩
      case measure=>simp [intOf];omega
     ·rw [hu]at hcell
      have HLN:=aa hln;have HCS:=aa hcs;have HONE:=aa hone;clear hu hln hcs hone HS2;generalize (L.getD k z3).2.1=m at*
      generalize (L.getD k z3).2.2=ys at*
      go_wp2_with (at_builtin;refine wpList_append_own _ rfl _ _ 31 rfl w.heap.size 90 i0 _ 4 64 Tryz.underlying31 hi hz0 hz1 hz2 rfl (by decide) _ _ _ rfl (ag HO) ad m c2 ys rfl (ag HLN) (ag HCS) (ag HONE) ?a1 ?a2 ?a3 ?_)
      case a1=>unfold maxLen;omega
      case a2=>omega
      case a3=>exact hsz
      intro v3 w3 ho3 hg3 _;have hb3:Below w.heap.size w w3:=hbr.grown hg3 hsz (aF HO.out);have HE:=aa ho3;obtain⟨o3,c3,rfl⟩:=aD ho3;clear ho3 hg3 HO HCS hcell
      go_wp2_with fail
      go_roundw
      case rel=>exact⟨k+1,by omega,by go_num,by rw [HX.out,HY.out];exact HE,hb3⟩
      case measure=>simp [intOf];omega
    ·obtain rfl:k=L.length:=by omega
     rw [List.take_length]at HO;obtain⟨o1,c1,rfl⟩:=aD HO.out;have HX:=aa HO.out;clear HO
     go_wp2_with fail
     go_ret
     exact⟨_,rfl,HX.out,hbr⟩
def FvIn (w:World) (B:Nat) (u:Value) (x:Fv):Prop:=FvOk w x∧Apart x.mv u∧Apart x.dv u∧(∀g,x.mv.ownBlock=some g→B≤g)∧∀g,x.dv.ownBlock=some g→B≤g
theorem FvIn.below {w w':World} {B:Nat} {u:Value} {x:Fv} (h:FvIn w B u x) (hb:Below w.heap.size w w'):FvIn w' B u x:=⟨h.1.below hb,h.2⟩
theorem FvIn.less {w:World} {B B':Nat} {u:Value} {x:Fv} (h:FvIn w B u x) (hB:B'≤B):FvIn w B' u x:=⟨h.1,h.2.1,h.2.2.1,fun g e=>Nat.le_trans hB (h.2.2.2.1 g e),fun g e=>Nat.le_trans hB (h.2.2.2.2 g e)⟩
theorem FvIn.far {w:World} {B:Nat} {u v:Value} {x:Fv} (h:FvIn w B u x) (hv:∀g,v.ownBlock=some g→g<B):FvIn w B v x:=by
 refine⟨h.1,?_,?_,h.2.2.2⟩
 ·cases e:x.mv.ownBlock with
  | none=>exact .inl e
  | some b=>exact .inr fun e'=>by have h1:=h.2.2.2.1 b e;have h2:=hv b (by rw [←e',e]);omega
 ·cases e:x.dv.ownBlock with
  | none=>exact .inl e
  | some b=>exact .inr fun e'=>by have h1:=h.2.2.2.2 b e;have h2:=hv b (by rw [←e',e]);omega
def FR (w:World) (B:Nat) (u:Value) (fs:List Fl):Prop:=∃lo:List Fv,lo.map Fv.f=fs∧w.ownsRow B 90 4 u lo.length (C lo)∧∀x∈lo,FvIn w B u x
theorem FR.below {w w':World} {B B':Nat} {u:Value} {fs:List Fl} (h:FR w B u fs) (hb:Below B' w w') (hB:w.heap.size≤B'):FR w' B u fs:=by
 obtain⟨lo,h1,h2,h3⟩:=h;have hb':=hb.mono hB
 exact⟨lo,h1,az h2 hb',fun x hx=>(h3 x hx).below hb'⟩
theorem FR.less {w:World} {B B':Nat} {u:Value} {fs:List Fl} (h:FR w B u fs) (hB:B'≤B):FR w B' u fs:=by
 obtain⟨lo,h1,h2,h3⟩:=h
 exact⟨lo,h1,aw h2 hB,fun x hx=>(h3 x hx).less hB⟩
theorem FR.nil (w:World) (B:Nat):FR w B (.slice none 0 0) []:=⟨[],rfl,World.ownsRow_nil _ _ _ _,by simp⟩
theorem FR.slc {w:World} {B:Nat} {u:Value} {fs:List Fl} (h:FR w B u fs):∃o c,u= .slice o fs.length c:=by
 obtain⟨lo,h1,h2,h3⟩:=h;obtain⟨o,c,h⟩:=aD h2
 exact⟨o,c,by rw [h, ←h1,List.length_map]⟩
theorem FR.lt {w:World} {B:Nat} {u:Value} {fs:List Fl} (h:FR w B u fs):∀g,u.ownBlock=some g→g<w.heap.size:=by
 obtain⟨lo,h1,h2,h3⟩:=h;intro g e
 exact bJ h2 e
theorem qX (l:List Fv):(C l).length=l.length*4:=by
 induction l with
 | nil=>rfl
 | cons x r ih=>simp [C]at ih⊢;omega
theorem FvIn.held {w:World} {B:Nat} {u:Value} {x:Fv} (h:FvIn w B u x):MsAt w x.mv x.f.ms∧DsAt w x.dv x.f.ds:=⟨h.1.1,h.1.2.1⟩
theorem me {w:World} {B:Nat} {u:Value}:∀{lo:List Fv},(∀x∈lo,FvIn w B u x)→∀v∈C lo,v.oneCell'=true:=by
 intro lo h v hv;unfold C at hv;rw [List.mem_flatMap]at hv;obtain⟨x,hx,hv⟩:=hv
 exact(h x hx).1.one v (by simpa [C] using hv)
theorem FR.src {w:World} {B:Nat} {u:Value} {fs:List Fl} (h:FR w B u fs):∃lo:List Fv,lo.map Fv.f=fs∧lo.length=fs.length∧SrcAt w 4 u lo.length (C lo)∧∀x∈lo,FvIn w B u x:=by
 obtain⟨lo,h1,h2,h3⟩:=h
 exact⟨lo,h1,by rw [←h1,List.length_map],SrcAt.of_own h2 (me h3),h3⟩
theorem FR.app {w w':World} {B g n cap:Nat} {u:Value} {lo lo2:List Fv} (ok1:∀x∈lo,FvIn w B u x) (ok2:∀x∈lo2,FvIn w B u x)
  (ho:w'.ownsRow B 90 4 (.slice (some ⟨g,0,none⟩) n cap) n (C lo++C lo2)) (hn:n=lo.length+lo2.length) (hg:w.grownBy w' u.ownBlock) (ha:u.ownBlock=some g∨g=w.heap.size):
  FR w' B (.slice (some ⟨g,0,none⟩) n cap) (lo.map Fv.f++lo2.map Fv.f):=by
 refine⟨lo++lo2,by simp,by rw [gi,List.length_append, ←hn];exact ho,fun x hx=>?_⟩
 have hx':FvIn w B u x:=by
  rcases List.mem_append.1 hx with h | h
  ·exact ok1 x h
  ·exact ok2 x h
 obtain⟨k0,k1,k2,k3,k4⟩:=hx'
 refine⟨k0.kept hg k1 k2,?_,?_,k3,k4⟩
 ·exact Apart.app (w:=w) k1 (fun g e=>k0.2.2.1 g e) ha
 ·exact Apart.app (w:=w) k2 (fun g e=>k0.2.2.2 g e) ha
theorem aT {w:World} {B:Nat} {f:Fl} {mv dv u:Value} (h1:w.ownsRow B 95 3 mv f.ms.length (M f.ms)) (h2:w.ownsRow B 98 3 dv f.ds.length (D f.ds)) (hu:∀g,u.ownBlock=some g→g<B):FvIn w B u ⟨f,mv,dv⟩:=by
 refine FvIn.far (u:=.slice none 0 0) ⟨⟨MsAt.of_own h1,DsAt.of_own h2,fun g e=>bJ h1 e,fun g e=>bJ h2 e⟩,?_,?_,aF h1,aF h2⟩ hu
 ·exact en _
 ·exact en _
theorem FR.lit {cur:World} {B n:Nat} {lo:List Fv} {cs:Array Value} (hcs:cs.toList=C lo) (hn:lo.length=n) (hB:B≤cur.heap.size) (hm:n≤maxLen) (ok:∀x∈lo,FvIn cur B (.slice none 0 0) x):
  FR (cur.alloc (.cells cs 90)) B (.slice (some ⟨cur.heap.size,0,none⟩) n n) (lo.map Fv.f):=by
 have hs:cs.size=n*4:=by rw [←Array.length_toList,hcs,qX,hn]
 have ho:=World.ownsRow_lit (base:=B) (e:=90) (size:=4) cur cs n hB hm hs;rw [hcs]at ho
 refine⟨lo,rfl,by rw [hn];exact ho,fun x hx=>?_⟩
 have hb:=aj cur (.cells cs 90);obtain⟨k0,_,_,k3,k4⟩:=ok x hx
 refine⟨k0.below hb,?_,?_,k3,k4⟩
 ·cases e:x.mv.ownBlock with
  | none=>exact .inl e
  | some b=>exact .inr fun e'=>by have h1:=k0.2.2.1 b e;rw [e]at e';simp [Value.ownBlock]at e';omega
 ·cases e:x.dv.ownBlock with
  | none=>exact .inl e
  | some b=>exact .inr fun e'=>by have h1:=k0.2.2.2 b e;rw [e]at e';simp [Value.ownBlock]at e';omega
theorem FR.fsAt {w:World} {B:Nat} {u:Value} {fs:List Fl} (h:FR w B u fs):FsAt w u fs:=by
 obtain⟨lo,h1,h2,h3⟩:=h;subst h1;obtain⟨o,c,rfl,hc,hg⟩:=je h2
 by_cases hz:lo.length=0
 ·refine⟨o,c,by simp,?_,.inl (by simpa using hz)⟩
  intro ho;subst ho;obtain⟨_,⟨hv,_⟩ |⟨g',cap',cur,hv,_⟩⟩:=h2
  ·simp only [Value.slice.injEq]at hv;exact hv.2.2
  ·simp at hv
 ·obtain⟨g,rfl⟩:=hg (by omega)
  refine⟨_,c,by simp,by simp,.inr ⟨g,0,rfl,by simpa using hc,fun i hi=>?_⟩⟩
  have hi':i<lo.length:=by simpa using hi
  obtain⟨c0,c1,c2,c3⟩:=uy lo i hi';have e:(lo.map Fv.f).getD i fl0=(lo.getD i fv0).f:=by simp [List.getD,List.getElem?_eq_getElem hi']
  rw [e,Nat.zero_add];have hh:=(h3 (lo.getD i fv0) (by rw [List.getD_eq_getElem?_getD,List.getElem?_eq_getElem hi'];exact List.getElem_mem _)).held
  exact⟨(h2.cellAt _ (by omega)).trans c0,(h2.cellAt _ (by omega)).trans c1,_,_,(h2.cellAt _ (by omega)).trans c2,(h2.cellAt _ (by omega)).trans c3,hh.1,hh.2⟩
theorem aK {w:World} {B e sz n:Nat} {u:Value} {xs:List Value} (h:w.ownsRow B e sz u n xs) (hn:0<n):∃g c,u= .slice (some ⟨g,0,none⟩) n c∧B≤g∧g<w.heap.size:=by
 have h':=h;obtain⟨_,⟨_,h0⟩ |⟨g,cap,cur,rfl,hB,_⟩⟩:=h
 ·omega
 ·exact⟨g,cap,rfl,hB,bJ h' rfl⟩
theorem ab {w w':World} {b o gA:Nat} {v:Value} (hg:w.grownBy w' (some gA)) (h:w.cell? ⟨b,o,none⟩=some v) (hne:b≠gA):w'.cell? ⟨b,o,none⟩=some v:=
 (hg.cell_far _ (am h) (by simpa using hne)).trans h
theorem aX {w w':World} {b gA B e sz n m c:Nat} {xs:List Value} (hg:w.grownBy w' (some gA)) (h:w.ownsRow B e sz (.slice (some ⟨b,0,none⟩) m c) n xs) (hne:b≠gA):w'.ownsRow B e sz (.slice (some ⟨b,0,none⟩) m c) n xs:=
 h.kept hg (.inr (by simpa [Value.ownBlock] using hne))
theorem wZ (a b:List Mt):M (a++b)=M a++M b:=by simp [M]
theorem ww (a b:List Do):D (a++b)=D a++D b:=by simp [D]
theorem cU (l:List Mt):∀u∈M l,u.oneCell'=true:=by
 intro u hu;unfold M at hu;rw [List.mem_flatMap]at hu;obtain⟨x,_,hu⟩:=hu
 exact wW _ _ _ u hu
theorem qv (l:List Do):∀u∈D l,u.oneCell'=true:=by
 intro u hu;unfold D at hu;rw [List.mem_flatMap]at hu;obtain⟨x,_,hu⟩:=hu
 exact wW _ _ _ u hu
theorem oF {P:Program} {md:Region.Mode} {ops:Array Oper} {Q:Exit→Act→World→Prop} {S:World→Prop} {fuel fuel2:Nat} {listed listed2:Array Bool} {a:Act} {w:World} (F:Nat→Nat→Nat→World→Prop) {A1:Nat→Nat→Nat→Act}
  (h:(∀x0 x1 x2 w',F x0 x1 x2 w'→S w'→wpAnyH P md ops Q S fuel2 listed2 (A1 x0 x1 x2) w')→wpAnyH P md ops Q S fuel listed a w) (hk:∀x0 x1 x2 w',F x0 x1 x2 w'→S w'→wpAnyH P md ops Q S fuel2 listed2 (A1 x0 x1 x2) w'):wpAnyH P md ops Q S fuel listed a w:=h hk
theorem nV {P:Program} {md:Region.Mode} {ops:Array Oper} {Q:Exit→Act→World→Prop} {S:World→Prop} {fuel fuel2:Nat} {listed listed2:Array Bool} {a:Act} {w:World} (F:Nat→Nat→Nat→Nat→World→Prop) {A1:Nat→Nat→Nat→Nat→Act}
  (h:(∀x0 x1 x2 x3 w',F x0 x1 x2 x3 w'→S w'→wpAnyH P md ops Q S fuel2 listed2 (A1 x0 x1 x2 x3) w')→wpAnyH P md ops Q S fuel listed a w) (hk:∀x0 x1 x2 x3 w',F x0 x1 x2 x3 w'→S w'→wpAnyH P md ops Q S fuel2 listed2 (A1 x0 x1 x2 x3) w'):wpAnyH P md ops Q S fuel listed a w:=h hk
theorem oJ {P:Program} {md:Region.Mode} {ops:Array Oper} {Q:Exit→Act→World→Prop} {S:World→Prop} {fuel fuel2:Nat} {listed listed2:Array Bool} {a:Act} {w:World} (F:Nat→Nat→Nat→Nat→Nat→Nat→Nat→Nat→Nat→World→Prop) {A1:Nat→Nat→Nat→Nat→Nat→Nat→Nat→Nat→Nat→Act}
  (h:(∀x0 x1 x2 x3 x4 x5 x6 x7 x8 w',F x0 x1 x2 x3 x4 x5 x6 x7 x8 w'→S w'→wpAnyH P md ops Q S fuel2 listed2 (A1 x0 x1 x2 x3 x4 x5 x6 x7 x8) w')→wpAnyH P md ops Q S fuel listed a w) (hk:∀x0 x1 x2 x3 x4 x5 x6 x7 x8 w',F x0 x1 x2 x3 x4 x5 x6 x7 x8 w'→S w'→wpAnyH P md ops Q S fuel2 listed2 (A1 x0 x1 x2 x3 x4 x5 x6 x7 x8) w'):wpAnyH P md ops Q S fuel listed a w:=h hk
theorem jV (w:World):Calls Tryz.prog 27 #[] w fun e w'=>∃u,e= .returned u∧FR w' w.heap.size u tunnelFl∧Below w.heap.size w w':=by
 obtain⟨iM,hiM,zM0,zM1,zM2⟩:=info_parts es;obtain⟨iD,hiD,zD0,zD1,zD2⟩:=info_parts eZ;obtain⟨iF,hiF,zF0,zF1,zF2⟩:=info_parts ez
 go_enter Tryz.func27,Tryz.ntmps27
 go_wp2_with fail
 refine(bk _ _ _).mono ?_
 rintro e V0 ⟨rfl,hb0⟩
 go_wp2_with fail
 obtain⟨W,hW⟩:∃W,W=V0.alloc (.cells #[.int .i64 0,.int .i64 65535,.int .i64 0] 95):=⟨_,rfl⟩;rw [←hW];obtain⟨tb,htb⟩:∃tb,tb=V0.heap.size:=⟨_,rfl⟩;have k0:W.cell? ⟨tb,0,none⟩=some (.int .i64 0):=zN2 hW htb rfl;have k1:W.cell? ⟨tb,1,none⟩=some (.int .i64 65535):=zN2 hW htb rfl;have k2:W.cell? ⟨tb,2,none⟩=some (.int .i64 0):=zN2 hW htb rfl;have htl:tb<W.heap.size:=by rw [hW,htb];simp
 have HB:Below w.heap.size w W:=by rw [hW];exact hb0.alloc hb0.size _
 rw [←htb];clear hW htb hb0;have hs0_2:=HB.size
 refine wp_region_held_drew (S:=(fun w'=>w'.cell? ⟨tb,0,none⟩=some (.int .i64 0)∧w'.cell? ⟨tb,1,none⟩=some (.int .i64 65535)∧w'.cell? ⟨tb,2,none⟩=some (.int .i64 0))) (by kernel_rfl) ⟨k0,k1,k2⟩ (fun hHeld=>?_)
 have HDW:Below W.heap.size W W.drew:=(Below.refl _ _).drew;have hs1:=HDW.size;replace k0:=zC k0 HDW;replace k1:=zC k1 HDW;replace k2:=zC k2 HDW;replace HB:=zT HB HDW;clear HDW;generalize W.drew=V2 at*
 refine tk (i:=1) (d:=4) rfl (by kernel_rfl) (fun _ _ _ h=>h) rfl ‹_› (by intro w h;(try dsimp only at h);go_simp <;>with_reducible rfl) ?_
 simp only [nz]
 refine tk (i:=8) (d:=11) rfl (by kernel_rfl) (fun _ _ _ h=>h) rfl ‹_› (by intro w h;(try dsimp only at h);go_simp <;>with_reducible rfl) ?_
 simp only [nz]
 apply oJ (fun gA cA gL gB cB gD gE cE gM w'=>(w'.cell? ⟨tb,0,none⟩=some (.int .i64 0)∧w'.cell? ⟨tb,1,none⟩=some (.int .i64 65535)∧w'.cell? ⟨tb,2,none⟩=some (.int .i64 0))∧w'.ownsRow w.heap.size 95 3 (.slice (some ⟨gB,0,none⟩) 3 cB) 3 (M bp++M [isM 0 0])∧w'.ownsRow w.heap.size 98 3 (.slice (some ⟨gD,0,none⟩) 1 1) 1 (D [aG 4])∧w'.ownsRow w.heap.size 95 3 (.slice (some ⟨gE,0,none⟩) 3 cE) 3 (M (bB 2))∧w'.ownsRow w.heap.size 95 3 (.slice (some ⟨gM,0,none⟩) 1 1) 1 (M [isM 0 0])∧Below w.heap.size w w'∧tb≠gB∧tb≠gD∧tb≠gE∧tb≠gM∧gB≠gD∧gB≠gE∧gB≠gM∧gD≠gE∧gD≠gM∧gE≠gM)
 ·intro HK2
  apply nV (fun gA cA gL gM w'=>(w'.cell? ⟨tb,0,none⟩=some (.int .i64 0)∧w'.cell? ⟨tb,1,none⟩=some (.int .i64 65535)∧w'.cell? ⟨tb,2,none⟩=some (.int .i64 0))∧w'.ownsRow w.heap.size 95 3 (.slice (some ⟨gA,0,none⟩) 2 cA) 2 (M bp)∧w'.ownsRow w.heap.size 95 3 (.slice (some ⟨gL,0,none⟩) 1 1) 1 (M [isM 0 0])∧w'.ownsRow w.heap.size 95 3 (.slice (some ⟨gM,0,none⟩) 1 1) 1 (M [isM 0 0])∧Below w.heap.size w w'∧tb≠gA∧tb≠gL∧tb≠gM∧gA≠gL∧gA≠gM∧gL≠gM)
  ·intro HK3
   apply oF (fun gA cA gL w'=>(w'.cell? ⟨tb,0,none⟩=some (.int .i64 0)∧w'.cell? ⟨tb,1,none⟩=some (.int .i64 65535)∧w'.cell? ⟨tb,2,none⟩=some (.int .i64 0))∧w'.ownsRow w.heap.size 95 3 (.slice (some ⟨gA,0,none⟩) 2 cA) 2 (M bp)∧w'.ownsRow w.heap.size 95 3 (.slice (some ⟨gL,0,none⟩) 1 1) 1 (M [isM 0 0])∧Below w.heap.size w w'∧tb≠gA∧tb≠gL∧gA≠gL)
   ·intro HK1
    have hHeld:=hHeld
    refine wpAnyH_ready (rs:=[0,2,9]) (by kernel_rfl) (by simp) ?_
    refine(AllReadyH.cons (o:=⟨some 3,_,_,_,_,_⟩) rfl (fun K hK=>?_) (AllReadyH.cons (o:=⟨some 5,_,_,_,_,_⟩) rfl (fun K hK=>?_) (AllReadyH.cons (o:=⟨some 12,_,_,_,_,_⟩) rfl (fun K hK=>?_) AllReadyH.nil)))
    ·go_simp
     clear hHeld;have HBold:=HB.size
     refine(bP _).mono ?_
     rintro e V3 ⟨u3,rfl,ho3,hb3⟩;have hs4:=hb3.size;replace k0:=zC k0 hb3;replace k1:=zC k1 hb3;replace k2:=zC k2 hb3;replace HB:=zT HB hb3;obtain⟨g5,c5,rfl,hg5,hl5⟩:=aK ho3 (by decide)
     have HA:=aa (aw ho3 (Nat.le_trans HBold zr));clear ho3 HBold;clear hb3
     refine hK.out _ _ ⟨k0,k1,k2⟩ (fun hHeld=>?_)
     clear hK K
     (try simp only [nz])
     refine wpAnyH_ready (rs:=[2,9]) (by kernel_rfl) (by simp) ?_
     refine(AllReadyH.cons (o:=⟨some 5,_,_,_,_,_⟩) rfl (fun K hK=>?_) (AllReadyH.cons (o:=⟨some 12,_,_,_,_,_⟩) rfl (fun K hK=>?_) AllReadyH.nil))
     ·go_simp
      clear hHeld
      refine ah (fun V6 g6 hV hg=>?_)
      rw [←hg];have hbN:=zB hV;have hg6:V3.heap.size≤g6:=by omega
      have hl6:=zL hV hg;have HL1:Hid (V6.ownsRow w.heap.size 95 3 (.slice (some ⟨g6,0,none⟩) 1 1) 1 (M [isM 0 0])):=zW hV hg HB.size (by decide) rfl
      have hs7:=hbN.size;replace k0:=zC k0 hbN;replace k1:=zC k1 hbN;replace k2:=zC k2 hbN;replace HA:=zO HA hbN;replace HB:=zT HB hbN;clear hV hg hbN
      refine hK.out _ _ ⟨k0,k1,k2⟩ (fun hHeld=>?_)
      clear hK K
      (try simp only [nz])
      exact HK1 g5 c5 g6 _ ⟨⟨k0,k1,k2⟩,HA.out,HL1.out,HB,by omega,by omega,by omega⟩ hHeld
     ·go_simp
      clear hHeld
      refine ah (fun V6 g6 hV hg=>?_)
      rw [←hg];have hbN:=zB hV;have hg6:V3.heap.size≤g6:=by omega
      have hl6:=zL hV hg;have HL2:Hid (V6.ownsRow w.heap.size 95 3 (.slice (some ⟨g6,0,none⟩) 1 1) 1 (M [isM 0 0])):=zW hV hg HB.size (by decide) rfl
      have hs7:=hbN.size;replace k0:=zC k0 hbN;replace k1:=zC k1 hbN;replace k2:=zC k2 hbN;replace HA:=zO HA hbN;replace HB:=zT HB hbN;clear hV hg hbN
      refine hK.out _ _ ⟨k0,k1,k2⟩ (fun hHeld=>?_)
      clear hK K
      (try simp only [nz])
      refine rd (i:=2) (o:=⟨some 5,_,_,_,_,_⟩) (by kernel_rfl) rfl (fun K hK=>?_)
      go_simp
      clear hHeld
      refine ah (fun V8 g8 hV hg=>?_)
      rw [←hg];have hbN:=zB hV;have hg8:V6.heap.size≤g8:=by omega
      have hl8:=zL hV hg;have HL1:Hid (V8.ownsRow w.heap.size 95 3 (.slice (some ⟨g8,0,none⟩) 1 1) 1 (M [isM 0 0])):=zW hV hg HB.size (by decide) rfl
      have hs9:=hbN.size;replace k0:=zC k0 hbN;replace k1:=zC k1 hbN;replace k2:=zC k2 hbN;replace HA:=zO HA hbN;replace HL2:=zO HL2 hbN;replace HB:=zT HB hbN;clear hV hg hbN
      refine hK.out _ _ ⟨k0,k1,k2⟩ (fun hHeld=>?_)
      clear hK K
      (try simp only [nz])
      exact HK3 g5 c5 g8 g6 _ ⟨⟨k0,k1,k2⟩,HA.out,HL1.out,HL2.out,HB,by omega,by omega,by omega,by omega,by omega,by omega⟩ hHeld
    ·go_simp
     clear hHeld
     refine ah (fun V3 g3 hV hg=>?_)
     rw [←hg];have hbN:=zB hV;have hg3:V2.heap.size≤g3:=by omega
     have hl3:=zL hV hg;have HL1:Hid (V3.ownsRow w.heap.size 95 3 (.slice (some ⟨g3,0,none⟩) 1 1) 1 (M [isM 0 0])):=zW hV hg HB.size (by decide) rfl
     have hs4:=hbN.size;replace k0:=zC k0 hbN;replace k1:=zC k1 hbN;replace k2:=zC k2 hbN;replace HB:=zT HB hbN;clear hV hg hbN
     refine hK.out _ _ ⟨k0,k1,k2⟩ (fun hHeld=>?_)
     clear hK K
     (try simp only [nz])
     refine wpAnyH_ready (rs:=[0,9]) (by kernel_rfl) (by simp) ?_
     refine(AllReadyH.cons (o:=⟨some 3,_,_,_,_,_⟩) rfl (fun K hK=>?_) (AllReadyH.cons (o:=⟨some 12,_,_,_,_,_⟩) rfl (fun K hK=>?_) AllReadyH.nil))
     ·go_simp
      clear hHeld;have HBold:=HB.size
      refine(bP _).mono ?_
      rintro e V5 ⟨u5,rfl,ho5,hb5⟩;have hs6:=hb5.size;replace k0:=zC k0 hb5;replace k1:=zC k1 hb5;replace k2:=zC k2 hb5;replace HL1:=zO HL1 hb5;replace HB:=zT HB hb5;obtain⟨g7,c7,rfl,hg7,hl7⟩:=aK ho5 (by decide)
      have HA:=aa (aw ho5 (Nat.le_trans HBold zr));clear ho5 HBold;clear hb5
      refine hK.out _ _ ⟨k0,k1,k2⟩ (fun hHeld=>?_)
      clear hK K
      (try simp only [nz])
      exact HK1 g7 c7 g3 _ ⟨⟨k0,k1,k2⟩,HA.out,HL1.out,HB,by omega,by omega,by omega⟩ hHeld
     ·go_simp
      clear hHeld
      refine ah (fun V5 g5 hV hg=>?_)
      rw [←hg];have hbN:=zB hV;have hg5:V3.heap.size≤g5:=by omega
      have hl5:=zL hV hg;have HL2:Hid (V5.ownsRow w.heap.size 95 3 (.slice (some ⟨g5,0,none⟩) 1 1) 1 (M [isM 0 0])):=zW hV hg HB.size (by decide) rfl
      have hs6:=hbN.size;replace k0:=zC k0 hbN;replace k1:=zC k1 hbN;replace k2:=zC k2 hbN;replace HL1:=zO HL1 hbN;replace HB:=zT HB hbN;clear hV hg hbN
      refine hK.out _ _ ⟨k0,k1,k2⟩ (fun hHeld=>?_)
      clear hK K
      (try simp only [nz])
      refine rd (i:=0) (o:=⟨some 3,_,_,_,_,_⟩) (by kernel_rfl) rfl (fun K hK=>?_)
      go_simp
      clear hHeld;have HBold:=HB.size
      refine(bP _).mono ?_
      rintro e V7 ⟨u7,rfl,ho7,hb7⟩;have hs8:=hb7.size;replace k0:=zC k0 hb7;replace k1:=zC k1 hb7;replace k2:=zC k2 hb7;replace HL1:=zO HL1 hb7;replace HL2:=zO HL2 hb7;replace HB:=zT HB hb7;obtain⟨g9,c9,rfl,hg9,hl9⟩:=aK ho7 (by decide)
      have HA:=aa (aw ho7 (Nat.le_trans HBold zr));clear ho7 HBold;clear hb7
      refine hK.out _ _ ⟨k0,k1,k2⟩ (fun hHeld=>?_)
      clear hK K
      (try simp only [nz])
      exact HK3 g9 c9 g3 g5 _ ⟨⟨k0,k1,k2⟩,HA.out,HL1.out,HL2.out,HB,by omega,by omega,by omega,by omega,by omega,by omega⟩ hHeld
    ·go_simp
     clear hHeld
     refine ah (fun V3 g3 hV hg=>?_)
     rw [←hg];have hbN:=zB hV;have hg3:V2.heap.size≤g3:=by omega
     have hl3:=zL hV hg;have HL2:Hid (V3.ownsRow w.heap.size 95 3 (.slice (some ⟨g3,0,none⟩) 1 1) 1 (M [isM 0 0])):=zW hV hg HB.size (by decide) rfl
     have hs4:=hbN.size;replace k0:=zC k0 hbN;replace k1:=zC k1 hbN;replace k2:=zC k2 hbN;replace HB:=zT HB hbN;clear hV hg hbN
     refine hK.out _ _ ⟨k0,k1,k2⟩ (fun hHeld=>?_)
     clear hK K
     (try simp only [nz])
     refine wpAnyH_ready (rs:=[0,2]) (by kernel_rfl) (by simp) ?_
     refine(AllReadyH.cons (o:=⟨some 3,_,_,_,_,_⟩) rfl (fun K hK=>?_) (AllReadyH.cons (o:=⟨some 5,_,_,_,_,_⟩) rfl (fun K hK=>?_) AllReadyH.nil))
     ·go_simp
      clear hHeld;have HBold:=HB.size
      refine(bP _).mono ?_
      rintro e V5 ⟨u5,rfl,ho5,hb5⟩;have hs6:=hb5.size;replace k0:=zC k0 hb5;replace k1:=zC k1 hb5;replace k2:=zC k2 hb5;replace HL2:=zO HL2 hb5;replace HB:=zT HB hb5;obtain⟨g7,c7,rfl,hg7,hl7⟩:=aK ho5 (by decide)
      have HA:=aa (aw ho5 (Nat.le_trans HBold zr));clear ho5 HBold;clear hb5
      refine hK.out _ _ ⟨k0,k1,k2⟩ (fun hHeld=>?_)
      clear hK K
      (try simp only [nz])
      refine rd (i:=2) (o:=⟨some 5,_,_,_,_,_⟩) (by kernel_rfl) rfl (fun K hK=>?_)
      go_simp
      clear hHeld
      refine ah (fun V8 g8 hV hg=>?_)
      rw [←hg];have hbN:=zB hV;have hg8:V5.heap.size≤g8:=by omega
      have hl8:=zL hV hg;have HL1:Hid (V8.ownsRow w.heap.size 95 3 (.slice (some ⟨g8,0,none⟩) 1 1) 1 (M [isM 0 0])):=zW hV hg HB.size (by decide) rfl
      have hs9:=hbN.size;replace k0:=zC k0 hbN;replace k1:=zC k1 hbN;replace k2:=zC k2 hbN;replace HL2:=zO HL2 hbN;replace HA:=zO HA hbN;replace HB:=zT HB hbN;clear hV hg hbN
      refine hK.out _ _ ⟨k0,k1,k2⟩ (fun hHeld=>?_)
      clear hK K
      (try simp only [nz])
      exact HK3 g7 c7 g8 g3 _ ⟨⟨k0,k1,k2⟩,HA.out,HL1.out,HL2.out,HB,by omega,by omega,by omega,by omega,by omega,by omega⟩ hHeld
     ·go_simp
      clear hHeld
      refine ah (fun V5 g5 hV hg=>?_)
      rw [←hg];have hbN:=zB hV;have hg5:V3.heap.size≤g5:=by omega
      have hl5:=zL hV hg;have HL1:Hid (V5.ownsRow w.heap.size 95 3 (.slice (some ⟨g5,0,none⟩) 1 1) 1 (M [isM 0 0])):=zW hV hg HB.size (by decide) rfl
      have hs6:=hbN.size;replace k0:=zC k0 hbN;replace k1:=zC k1 hbN;replace k2:=zC k2 hbN;replace HL2:=zO HL2 hbN;replace HB:=zT HB hbN;clear hV hg hbN
      refine hK.out _ _ ⟨k0,k1,k2⟩ (fun hHeld=>?_)
      clear hK K
      (try simp only [nz])
      refine rd (i:=0) (o:=⟨some 3,_,_,_,_,_⟩) (by kernel_rfl) rfl (fun K hK=>?_)
      go_simp
      clear hHeld;have HBold:=HB.size
      refine(bP _).mono ?_
      rintro e V7 ⟨u7,rfl,ho7,hb7⟩;have hs8:=hb7.size;replace k0:=zC k0 hb7;replace k1:=zC k1 hb7;replace k2:=zC k2 hb7;replace HL2:=zO HL2 hb7;replace HL1:=zO HL1 hb7;replace HB:=zT HB hb7;obtain⟨g9,c9,rfl,hg9,hl9⟩:=aK ho7 (by decide)
      have HA:=aa (aw ho7 (Nat.le_trans HBold zr));clear ho7 HBold;clear hb7
      refine hK.out _ _ ⟨k0,k1,k2⟩ (fun hHeld=>?_)
      clear hK K
      (try simp only [nz])
      exact HK3 g9 c9 g5 g3 _ ⟨⟨k0,k1,k2⟩,HA.out,HL1.out,HL2.out,HB,by omega,by omega,by omega,by omega,by omega,by omega⟩ hHeld
   ·intro gA cA gL V200 hF hHeld
    obtain⟨⟨k0,k1,k2⟩,hHA,hHL1,HB,ne0,ne1,ne2⟩:=hF;have HA:=aa hHA;have HL1:=aa hHL1;have lHA:gA<V200.heap.size:=bJ hHA rfl;have lHL1:gL<V200.heap.size:=bJ hHL1 rfl;have gHA:w.heap.size≤gA:=aF hHA _ rfl;have gHL1:w.heap.size≤gL:=aF hHL1 _ rfl;clear hHA hHL1;have lk:=am k0;have hsz:=HB.size;have hHeld:=hHeld
    refine wpAnyH_ready (rs:=[3,9]) (by kernel_rfl) (by simp) ?_
    refine(AllReadyH.cons (o:=⟨some 6,_,_,_,_,_⟩) rfl (fun K hK=>?_) (AllReadyH.cons (o:=⟨some 12,_,_,_,_,_⟩) rfl (fun K hK=>?_) AllReadyH.nil))
    ·clear hHeld
     refine step_append_lies _ rfl (.tmp 3) (.tmp 5) 87 rfl w.heap.size 95 iM _ 3 24 Tryz.underlying87 hiM zM0 zM1 zM2 rfl (by decide) (.slice (some ⟨gA,0,none⟩) 2 cA) 2 _ rfl (ag HA) ⟨gL,0,none⟩ 1 1 _ rfl rfl (HL1.out.cells rfl) (cU _) (by decide) (by decide) (by decide) HB.size _ rfl ?_
     intro g201 c201 V201 ho201 hgr ha hl201;replace hgr:V200.grownBy V201 (some gA):=hgr;replace ha:some gA=some g201∨g201=V200.heap.size:=ha;have hs201:=hgr.size;have hge201:g201=gA∨g201=V200.heap.size:=by rcases ha with h | h;exact .inl (Option.some.inj h).symm;exact .inr h
     replace k0:=ab hgr k0 (by omega)
     replace k1:=ab hgr k1 (by omega)
     replace k2:=ab hgr k2 (by omega)
     replace HB:=HB.grown hgr HB.size (fun k hk=>by cases hk;omega)
     clear HA HL1;have HA:=aa ho201;clear ho201 hgr ha
     refine hK.out _ _ ⟨k0,k1,k2⟩ (fun hHeld=>?_)
     clear hK K
     (try simp only [nz])
     refine wpAnyH_ready (rs:=[4,9]) (by kernel_rfl) (by simp) ?_
     refine(AllReadyH.cons (o:=⟨some 7,_,_,_,_,_⟩) rfl (fun K hK=>?_) (AllReadyH.cons (o:=⟨some 12,_,_,_,_,_⟩) rfl (fun K hK=>?_) AllReadyH.nil))
     ·go_simp
      clear hHeld
      refine(aQ _ _ _ _).mono ?_
      rintro e V202 ⟨rfl,hb202⟩;have hs203:=hb202.size;replace k0:=zC k0 hb202;replace k1:=zC k1 hb202;replace k2:=zC k2 hb202;replace HA:=zO HA hb202;replace HB:=zT HB hb202;clear hb202
      refine hK.out _ _ ⟨k0,k1,k2⟩ (fun hHeld=>?_)
      clear hK K
      (try simp only [nz])
      refine wpAnyH_ready (rs:=[5,9]) (by kernel_rfl) (by simp) ?_
      refine(AllReadyH.cons (o:=⟨some 8,_,_,_,_,_⟩) rfl (fun K hK=>?_) (AllReadyH.cons (o:=⟨some 12,_,_,_,_,_⟩) rfl (fun K hK=>?_) AllReadyH.nil))
      ·go_simp
       clear hHeld
       refine ah (fun V204 g204 hV hg=>?_)
       rw [←hg];have hbN:=zB hV;have hg204:V202.heap.size≤g204:=by omega
       have hl204:=zL hV hg;have HD1:Hid (V204.ownsRow w.heap.size 98 3 (.slice (some ⟨g204,0,none⟩) 1 1) 1 (D [aG 4])):=zW hV hg HB.size (by decide) rfl
       have hs205:=hbN.size;replace k0:=zC k0 hbN;replace k1:=zC k1 hbN;replace k2:=zC k2 hbN;replace HA:=zO HA hbN;replace HB:=zT HB hbN;clear hV hg hbN
       refine hK.out _ _ ⟨k0,k1,k2⟩ (fun hHeld=>?_)
       clear hK K
       (try simp only [nz])
       refine wpAnyH_ready (rs:=[6,9]) (by kernel_rfl) (by simp) ?_
       refine(AllReadyH.cons (o:=⟨some 9,_,_,_,_,_⟩) rfl (fun K hK=>?_) (AllReadyH.cons (o:=⟨some 12,_,_,_,_,_⟩) rfl (fun K hK=>?_) AllReadyH.nil))
       ·go_simp
        clear hHeld
        refine(ax _ _ _ _ _ _ _ _ _).mono ?_
        rintro e V206 ⟨rfl,hb206⟩;have hs207:=hb206.size;replace k0:=zC k0 hb206;replace k1:=zC k1 hb206;replace k2:=zC k2 hb206;replace HA:=zO HA hb206;replace HD1:=zO HD1 hb206;replace HB:=zT HB hb206;clear hb206
        refine hK.out _ _ ⟨k0,k1,k2⟩ (fun hHeld=>?_)
        clear hK K
        (try simp only [nz])
        refine wpAnyH_ready (rs:=[7,9]) (by kernel_rfl) (by simp) ?_
        refine(AllReadyH.cons (o:=⟨some 10,_,_,_,_,_⟩) rfl (fun K hK=>?_) (AllReadyH.cons (o:=⟨some 12,_,_,_,_,_⟩) rfl (fun K hK=>?_) AllReadyH.nil))
        ·go_simp
         clear hHeld;have HBold:=HB.size
         refine(bw _ _).mono ?_
         rintro e V208 ⟨u208,rfl,ho208,hb208⟩;have hs209:=hb208.size;replace k0:=zC k0 hb208;replace k1:=zC k1 hb208;replace k2:=zC k2 hb208;replace HA:=zO HA hb208;replace HD1:=zO HD1 hb208;replace HB:=zT HB hb208;obtain⟨g210,c210,rfl,hg210,hl210⟩:=aK ho208 (by decide)
         have HE:=aa (aw ho208 (Nat.le_trans HBold zr));clear ho208 HBold;clear hb208
         refine hK.out _ _ ⟨k0,k1,k2⟩ (fun hHeld=>?_)
         clear hK K
         (try simp only [nz])
         refine rd (i:=9) (o:=⟨some 12,_,_,_,_,_⟩) (by kernel_rfl) rfl (fun K hK=>?_)
         go_simp
         clear hHeld
         refine ah (fun V211 g211 hV hg=>?_)
         rw [←hg];have hbN:=zB hV;have hg211:V208.heap.size≤g211:=by omega
         have hl211:=zL hV hg;have HL2:Hid (V211.ownsRow w.heap.size 95 3 (.slice (some ⟨g211,0,none⟩) 1 1) 1 (M [isM 0 0])):=zW hV hg HB.size (by decide) rfl
         have hs212:=hbN.size;replace k0:=zC k0 hbN;replace k1:=zC k1 hbN;replace k2:=zC k2 hbN;replace HA:=zO HA hbN;replace HD1:=zO HD1 hbN;replace HE:=zO HE hbN;replace HB:=zT HB hbN;clear hV hg hbN
         refine hK.out _ _ ⟨k0,k1,k2⟩ (fun hHeld=>?_)
         clear hK K
         (try simp only [nz])
         exact HK2 gA cA gL g201 c201 g204 g210 c210 g211 _ ⟨⟨k0,k1,k2⟩,HA.out,HD1.out,HE.out,HL2.out,HB,by omega,by omega,by omega,by omega,by omega,by omega,by omega,by omega,by omega,by omega⟩ hHeld
        ·go_simp
         clear hHeld
         refine ah (fun V208 g208 hV hg=>?_)
         rw [←hg];have hbN:=zB hV;have hg208:V206.heap.size≤g208:=by omega
         have hl208:=zL hV hg;have HL2:Hid (V208.ownsRow w.heap.size 95 3 (.slice (some ⟨g208,0,none⟩) 1 1) 1 (M [isM 0 0])):=zW hV hg HB.size (by decide) rfl
         have hs209:=hbN.size;replace k0:=zC k0 hbN;replace k1:=zC k1 hbN;replace k2:=zC k2 hbN;replace HA:=zO HA hbN;replace HD1:=zO HD1 hbN;replace HB:=zT HB hbN;clear hV hg hbN
         refine hK.out _ _ ⟨k0,k1,k2⟩ (fun hHeld=>?_)
         clear hK K
         (try simp only [nz])
         refine rd (i:=7) (o:=⟨some 10,_,_,_,_,_⟩) (by kernel_rfl) rfl (fun K hK=>?_)
         go_simp
         clear hHeld;have HBold:=HB.size
         refine(bw _ _).mono ?_
         rintro e V210 ⟨u210,rfl,ho210,hb210⟩;have hs211:=hb210.size;replace k0:=zC k0 hb210;replace k1:=zC k1 hb210;replace k2:=zC k2 hb210;replace HA:=zO HA hb210;replace HD1:=zO HD1 hb210;replace HL2:=zO HL2 hb210;replace HB:=zT HB hb210;obtain⟨g212,c212,rfl,hg212,hl212⟩:=aK ho210 (by decide)
         have HE:=aa (aw ho210 (Nat.le_trans HBold zr));clear ho210 HBold;clear hb210
         refine hK.out _ _ ⟨k0,k1,k2⟩ (fun hHeld=>?_)
         clear hK K
         (try simp only [nz])
         exact HK2 gA cA gL g201 c201 g204 g212 c212 g208 _ ⟨⟨k0,k1,k2⟩,HA.out,HD1.out,HE.out,HL2.out,HB,by omega,by omega,by omega,by omega,by omega,by omega,by omega,by omega,by omega,by omega⟩ hHeld
       ·go_simp
        clear hHeld
        refine ah (fun V206 g206 hV hg=>?_)
        rw [←hg];have hbN:=zB hV;have hg206:V204.heap.size≤g206:=by omega
        have hl206:=zL hV hg;have HL2:Hid (V206.ownsRow w.heap.size 95 3 (.slice (some ⟨g206,0,none⟩) 1 1) 1 (M [isM 0 0])):=zW hV hg HB.size (by decide) rfl
        have hs207:=hbN.size;replace k0:=zC k0 hbN;replace k1:=zC k1 hbN;replace k2:=zC k2 hbN;replace HA:=zO HA hbN;replace HD1:=zO HD1 hbN;replace HB:=zT HB hbN;clear hV hg hbN
        refine hK.out _ _ ⟨k0,k1,k2⟩ (fun hHeld=>?_)
        clear hK K
        (try simp only [nz])
        refine rd (i:=6) (o:=⟨some 9,_,_,_,_,_⟩) (by kernel_rfl) rfl (fun K hK=>?_)
        go_simp
        clear hHeld
        refine(ax _ _ _ _ _ _ _ _ _).mono ?_
        rintro e V208 ⟨rfl,hb208⟩;have hs209:=hb208.size;replace k0:=zC k0 hb208;replace k1:=zC k1 hb208;replace k2:=zC k2 hb208;replace HA:=zO HA hb208;replace HD1:=zO HD1 hb208;replace HL2:=zO HL2 hb208;replace HB:=zT HB hb208;clear hb208
        refine hK.out _ _ ⟨k0,k1,k2⟩ (fun hHeld=>?_)
        clear hK K
        (try simp only [nz])
        refine rd (i:=7) (o:=⟨some 10,_,_,_,_,_⟩) (by kernel_rfl) rfl (fun K hK=>?_)
        go_simp
        clear hHeld;have HBold:=HB.size
        refine(bw _ _).mono ?_
        rintro e V210 ⟨u210,rfl,ho210,hb210⟩;have hs211:=hb210.size;replace k0:=zC k0 hb210;replace k1:=zC k1 hb210;replace k2:=zC k2 hb210;replace HA:=zO HA hb210;replace HD1:=zO HD1 hb210;replace HL2:=zO HL2 hb210;replace HB:=zT HB hb210;obtain⟨g212,c212,rfl,hg212,hl212⟩:=aK ho210 (by decide)
        have HE:=aa (aw ho210 (Nat.le_trans HBold zr));clear ho210 HBold;clear hb210
        refine hK.out _ _ ⟨k0,k1,k2⟩ (fun hHeld=>?_)
        clear hK K
        (try simp only [nz])
        exact HK2 gA cA gL g201 c201 g204 g212 c212 g206 _ ⟨⟨k0,k1,k2⟩,HA.out,HD1.out,HE.out,HL2.out,HB,by omega,by omega,by omega,by omega,by omega,by omega,by omega,by omega,by omega,by omega⟩ hHeld
      ·go_simp
       clear hHeld
       refine ah (fun V204 g204 hV hg=>?_)
       rw [←hg];have hbN:=zB hV;have hg204:V202.heap.size≤g204:=by omega
       have hl204:=zL hV hg;have HL2:Hid (V204.ownsRow w.heap.size 95 3 (.slice (some ⟨g204,0,none⟩) 1 1) 1 (M [isM 0 0])):=zW hV hg HB.size (by decide) rfl
       have hs205:=hbN.size;replace k0:=zC k0 hbN;replace k1:=zC k1 hbN;replace k2:=zC k2 hbN;replace HA:=zO HA hbN;replace HB:=zT HB hbN;clear hV hg hbN
       refine hK.out _ _ ⟨k0,k1,k2⟩ (fun hHeld=>?_)
       clear hK K
       (try simp only [nz])
       refine rd (i:=5) (o:=⟨some 8,_,_,_,_,_⟩) (by kernel_rfl) rfl (fun K hK=>?_)
       go_simp
       clear hHeld
       refine ah (fun V206 g206 hV hg=>?_)
       rw [←hg];have hbN:=zB hV;have hg206:V204.heap.size≤g206:=by omega
       have hl206:=zL hV hg;have HD1:Hid (V206.ownsRow w.heap.size 98 3 (.slice (some ⟨g206,0,none⟩) 1 1) 1 (D [aG 4])):=zW hV hg HB.size (by decide) rfl
       have hs207:=hbN.size;replace k0:=zC k0 hbN;replace k1:=zC k1 hbN;replace k2:=zC k2 hbN;replace HA:=zO HA hbN;replace HL2:=zO HL2 hbN;replace HB:=zT HB hbN;clear hV hg hbN
       refine hK.out _ _ ⟨k0,k1,k2⟩ (fun hHeld=>?_)
       clear hK K
       (try simp only [nz])
       refine rd (i:=6) (o:=⟨some 9,_,_,_,_,_⟩) (by kernel_rfl) rfl (fun K hK=>?_)
       go_simp
       clear hHeld
       refine(ax _ _ _ _ _ _ _ _ _).mono ?_
       rintro e V208 ⟨rfl,hb208⟩;have hs209:=hb208.size;replace k0:=zC k0 hb208;replace k1:=zC k1 hb208;replace k2:=zC k2 hb208;replace HA:=zO HA hb208;replace HL2:=zO HL2 hb208;replace HD1:=zO HD1 hb208;replace HB:=zT HB hb208;clear hb208
       refine hK.out _ _ ⟨k0,k1,k2⟩ (fun hHeld=>?_)
       clear hK K
       (try simp only [nz])
       refine rd (i:=7) (o:=⟨some 10,_,_,_,_,_⟩) (by kernel_rfl) rfl (fun K hK=>?_)
       go_simp
       clear hHeld;have HBold:=HB.size
       refine(bw _ _).mono ?_
       rintro e V210 ⟨u210,rfl,ho210,hb210⟩;have hs211:=hb210.size;replace k0:=zC k0 hb210;replace k1:=zC k1 hb210;replace k2:=zC k2 hb210;replace HA:=zO HA hb210;replace HL2:=zO HL2 hb210;replace HD1:=zO HD1 hb210;replace HB:=zT HB hb210;obtain⟨g212,c212,rfl,hg212,hl212⟩:=aK ho210 (by decide)
       have HE:=aa (aw ho210 (Nat.le_trans HBold zr));clear ho210 HBold;clear hb210
       refine hK.out _ _ ⟨k0,k1,k2⟩ (fun hHeld=>?_)
       clear hK K
       (try simp only [nz])
       exact HK2 gA cA gL g201 c201 g206 g212 c212 g204 _ ⟨⟨k0,k1,k2⟩,HA.out,HD1.out,HE.out,HL2.out,HB,by omega,by omega,by omega,by omega,by omega,by omega,by omega,by omega,by omega,by omega⟩ hHeld
     ·go_simp
      clear hHeld
      refine ah (fun V202 g202 hV hg=>?_)
      rw [←hg];have hbN:=zB hV;have hg202:V201.heap.size≤g202:=by omega
      have hl202:=zL hV hg;have HL2:Hid (V202.ownsRow w.heap.size 95 3 (.slice (some ⟨g202,0,none⟩) 1 1) 1 (M [isM 0 0])):=zW hV hg HB.size (by decide) rfl
      have hs203:=hbN.size;replace k0:=zC k0 hbN;replace k1:=zC k1 hbN;replace k2:=zC k2 hbN;replace HA:=zO HA hbN;replace HB:=zT HB hbN;clear hV hg hbN
      refine hK.out _ _ ⟨k0,k1,k2⟩ (fun hHeld=>?_)
      clear hK K
      (try simp only [nz])
      refine rd (i:=4) (o:=⟨some 7,_,_,_,_,_⟩) (by kernel_rfl) rfl (fun K hK=>?_)
      go_simp
      clear hHeld
      refine(aQ _ _ _ _).mono ?_
      rintro e V204 ⟨rfl,hb204⟩;have hs205:=hb204.size;replace k0:=zC k0 hb204;replace k1:=zC k1 hb204;replace k2:=zC k2 hb204;replace HA:=zO HA hb204;replace HL2:=zO HL2 hb204;replace HB:=zT HB hb204;clear hb204
      refine hK.out _ _ ⟨k0,k1,k2⟩ (fun hHeld=>?_)
      clear hK K
      (try simp only [nz])
      refine rd (i:=5) (o:=⟨some 8,_,_,_,_,_⟩) (by kernel_rfl) rfl (fun K hK=>?_)
      go_simp
      clear hHeld
      refine ah (fun V206 g206 hV hg=>?_)
      rw [←hg];have hbN:=zB hV;have hg206:V204.heap.size≤g206:=by omega
      have hl206:=zL hV hg;have HD1:Hid (V206.ownsRow w.heap.size 98 3 (.slice (some ⟨g206,0,none⟩) 1 1) 1 (D [aG 4])):=zW hV hg HB.size (by decide) rfl
      have hs207:=hbN.size;replace k0:=zC k0 hbN;replace k1:=zC k1 hbN;replace k2:=zC k2 hbN;replace HA:=zO HA hbN;replace HL2:=zO HL2 hbN;replace HB:=zT HB hbN;clear hV hg hbN
      refine hK.out _ _ ⟨k0,k1,k2⟩ (fun hHeld=>?_)
      clear hK K
      (try simp only [nz])
      refine rd (i:=6) (o:=⟨some 9,_,_,_,_,_⟩) (by kernel_rfl) rfl (fun K hK=>?_)
      go_simp
      clear hHeld
      refine(ax _ _ _ _ _ _ _ _ _).mono ?_
      rintro e V208 ⟨rfl,hb208⟩;have hs209:=hb208.size;replace k0:=zC k0 hb208;replace k1:=zC k1 hb208;replace k2:=zC k2 hb208;replace HA:=zO HA hb208;replace HL2:=zO HL2 hb208;replace HD1:=zO HD1 hb208;replace HB:=zT HB hb208;clear hb208
      refine hK.out _ _ ⟨k0,k1,k2⟩ (fun hHeld=>?_)
      clear hK K
      (try simp only [nz])
      refine rd (i:=7) (o:=⟨some 10,_,_,_,_,_⟩) (by kernel_rfl) rfl (fun K hK=>?_)
      go_simp
      clear hHeld;have HBold:=HB.size
      refine(bw _ _).mono ?_
      rintro e V210 ⟨u210,rfl,ho210,hb210⟩;have hs211:=hb210.size;replace k0:=zC k0 hb210;replace k1:=zC k1 hb210;replace k2:=zC k2 hb210;replace HA:=zO HA hb210;replace HL2:=zO HL2 hb210;replace HD1:=zO HD1 hb210;replace HB:=zT HB hb210;obtain⟨g212,c212,rfl,hg212,hl212⟩:=aK ho210 (by decide)
      have HE:=aa (aw ho210 (Nat.le_trans HBold zr));clear ho210 HBold;clear hb210
      refine hK.out _ _ ⟨k0,k1,k2⟩ (fun hHeld=>?_)
      clear hK K
      (try simp only [nz])
      exact HK2 gA cA gL g201 c201 g206 g212 c212 g202 _ ⟨⟨k0,k1,k2⟩,HA.out,HD1.out,HE.out,HL2.out,HB,by omega,by omega,by omega,by omega,by omega,by omega,by omega,by omega,by omega,by omega⟩ hHeld
    ·go_simp
     clear hHeld
     refine ah (fun V201 g201 hV hg=>?_)
     rw [←hg];have hbN:=zB hV;have hg201:V200.heap.size≤g201:=by omega
     have hl201:=zL hV hg;have HL2:Hid (V201.ownsRow w.heap.size 95 3 (.slice (some ⟨g201,0,none⟩) 1 1) 1 (M [isM 0 0])):=zW hV hg HB.size (by decide) rfl
     have hs202:=hbN.size;replace k0:=zC k0 hbN;replace k1:=zC k1 hbN;replace k2:=zC k2 hbN;replace HA:=zO HA hbN;replace HL1:=zO HL1 hbN;replace HB:=zT HB hbN;clear hV hg hbN
     refine hK.out _ _ ⟨k0,k1,k2⟩ (fun hHeld=>?_)
     clear hK K
     (try simp only [nz])
     exact HK3 gA cA gL g201 _ ⟨⟨k0,k1,k2⟩,HA.out,HL1.out,HL2.out,HB,by omega,by omega,by omega,by omega,by omega,by omega⟩ hHeld
  ·intro gA cA gL gM V300 hF hHeld
   obtain⟨⟨k0,k1,k2⟩,hHA,hHL1,hHL2,HB,ne0,ne1,ne2,ne3,ne4,ne5⟩:=hF;have HA:=aa hHA;have HL1:=aa hHL1;have HL2:=aa hHL2;have lHA:gA<V300.heap.size:=bJ hHA rfl;have lHL1:gL<V300.heap.size:=bJ hHL1 rfl;have lHL2:gM<V300.heap.size:=bJ hHL2 rfl;have gHA:w.heap.size≤gA:=aF hHA _ rfl;have gHL1:w.heap.size≤gL:=aF hHL1 _ rfl;have gHL2:w.heap.size≤gM:=aF hHL2 _ rfl;clear hHA hHL1 hHL2;have lk:=am k0;have hsz:=HB.size;have hHeld:=hHeld
   refine rd (i:=3) (o:=⟨some 6,_,_,_,_,_⟩) (by kernel_rfl) rfl (fun K hK=>?_)
   clear hHeld
   refine step_append_lies _ rfl (.tmp 3) (.tmp 5) 87 rfl w.heap.size 95 iM _ 3 24 Tryz.underlying87 hiM zM0 zM1 zM2 rfl (by decide) (.slice (some ⟨gA,0,none⟩) 2 cA) 2 _ rfl (ag HA) ⟨gL,0,none⟩ 1 1 _ rfl rfl (HL1.out.cells rfl) (cU _) (by decide) (by decide) (by decide) HB.size _ rfl ?_
   intro g301 c301 V301 ho301 hgr ha hl301;replace hgr:V300.grownBy V301 (some gA):=hgr;replace ha:some gA=some g301∨g301=V300.heap.size:=ha;have hs301:=hgr.size;have hge301:g301=gA∨g301=V300.heap.size:=by rcases ha with h | h;exact .inl (Option.some.inj h).symm;exact .inr h
   replace k0:=ab hgr k0 (by omega)
   replace k1:=ab hgr k1 (by omega)
   replace k2:=ab hgr k2 (by omega)
   replace HL2:=aa (aX hgr HL2.out (by omega))
   replace HB:=HB.grown hgr HB.size (fun k hk=>by cases hk;omega)
   clear HA HL1;have HA:=aa ho301;clear ho301 hgr ha
   refine hK.out _ _ ⟨k0,k1,k2⟩ (fun hHeld=>?_)
   clear hK K
   (try simp only [nz])
   refine rd (i:=4) (o:=⟨some 7,_,_,_,_,_⟩) (by kernel_rfl) rfl (fun K hK=>?_)
   go_simp
   clear hHeld
   refine(aQ _ _ _ _).mono ?_
   rintro e V302 ⟨rfl,hb302⟩;have hs303:=hb302.size;replace k0:=zC k0 hb302;replace k1:=zC k1 hb302;replace k2:=zC k2 hb302;replace HL2:=zO HL2 hb302;replace HA:=zO HA hb302;replace HB:=zT HB hb302;clear hb302
   refine hK.out _ _ ⟨k0,k1,k2⟩ (fun hHeld=>?_)
   clear hK K
   (try simp only [nz])
   refine rd (i:=5) (o:=⟨some 8,_,_,_,_,_⟩) (by kernel_rfl) rfl (fun K hK=>?_)
   go_simp
   clear hHeld
   refine ah (fun V304 g304 hV hg=>?_)
   rw [←hg];have hbN:=zB hV;have hg304:V302.heap.size≤g304:=by omega
   have hl304:=zL hV hg;have HD1:Hid (V304.ownsRow w.heap.size 98 3 (.slice (some ⟨g304,0,none⟩) 1 1) 1 (D [aG 4])):=zW hV hg HB.size (by decide) rfl
   have hs305:=hbN.size;replace k0:=zC k0 hbN;replace k1:=zC k1 hbN;replace k2:=zC k2 hbN;replace HL2:=zO HL2 hbN;replace HA:=zO HA hbN;replace HB:=zT HB hbN;clear hV hg hbN
   refine hK.out _ _ ⟨k0,k1,k2⟩ (fun hHeld=>?_)
   clear hK K
   (try simp only [nz])
   refine rd (i:=6) (o:=⟨some 9,_,_,_,_,_⟩) (by kernel_rfl) rfl (fun K hK=>?_)
   go_simp
   clear hHeld
   refine(ax _ _ _ _ _ _ _ _ _).mono ?_
   rintro e V306 ⟨rfl,hb306⟩;have hs307:=hb306.size;replace k0:=zC k0 hb306;replace k1:=zC k1 hb306;replace k2:=zC k2 hb306;replace HL2:=zO HL2 hb306;replace HA:=zO HA hb306;replace HD1:=zO HD1 hb306;replace HB:=zT HB hb306;clear hb306
   refine hK.out _ _ ⟨k0,k1,k2⟩ (fun hHeld=>?_)
   clear hK K
   (try simp only [nz])
   refine rd (i:=7) (o:=⟨some 10,_,_,_,_,_⟩) (by kernel_rfl) rfl (fun K hK=>?_)
   go_simp
   clear hHeld;have HBold:=HB.size
   refine(bw _ _).mono ?_
   rintro e V308 ⟨u308,rfl,ho308,hb308⟩;have hs309:=hb308.size;replace k0:=zC k0 hb308;replace k1:=zC k1 hb308;replace k2:=zC k2 hb308;replace HL2:=zO HL2 hb308;replace HA:=zO HA hb308;replace HD1:=zO HD1 hb308;replace HB:=zT HB hb308;obtain⟨g310,c310,rfl,hg310,hl310⟩:=aK ho308 (by decide)
   have HE:=aa (aw ho308 (Nat.le_trans HBold zr));clear ho308 HBold;clear hb308
   refine hK.out _ _ ⟨k0,k1,k2⟩ (fun hHeld=>?_)
   clear hK K
   (try simp only [nz])
   exact HK2 gA cA gL g301 c301 g304 g310 c310 gM _ ⟨⟨k0,k1,k2⟩,HA.out,HD1.out,HE.out,HL2.out,HB,by omega,by omega,by omega,by omega,by omega,by omega,by omega,by omega,by omega,by omega⟩ hHeld
 ·intro gA cA gL gB cB gD gE cE gM V400 hF hHeld
  obtain⟨⟨k0,k1,k2⟩,hHA,hHD1,hHE,hHL2,HB,ne0,ne1,ne2,ne3,ne4,ne5,ne6,ne7,ne8,ne9⟩:=hF;have HA:=aa hHA;have HD1:=aa hHD1;have HE:=aa hHE;have HL2:=aa hHL2;have lHA:gB<V400.heap.size:=bJ hHA rfl;have lHD1:gD<V400.heap.size:=bJ hHD1 rfl;have lHE:gE<V400.heap.size:=bJ hHE rfl;have lHL2:gM<V400.heap.size:=bJ hHL2 rfl;have gHA:w.heap.size≤gB:=aF hHA _ rfl;have gHD1:w.heap.size≤gD:=aF hHD1 _ rfl;have gHE:w.heap.size≤gE:=aF hHE _ rfl;have gHL2:w.heap.size≤gM:=aF hHL2 _ rfl;clear hHA hHD1 hHE hHL2;have lk:=am k0;have hsz:=HB.size
  refine rd (i:=10) (o:=⟨some 13,_,_,_,_,_⟩) (by kernel_rfl) rfl (fun K hK=>?_)
  clear hHeld
  refine step_append_lies _ rfl (.tmp 10) (.tmp 12) 87 rfl w.heap.size 95 iM _ 3 24 Tryz.underlying87 hiM zM0 zM1 zM2 rfl (by decide) (.slice (some ⟨gE,0,none⟩) 3 cE) 3 _ rfl (ag HE) ⟨gM,0,none⟩ 1 1 _ rfl rfl (HL2.out.cells rfl) (cU _) (by decide) (by decide) (by decide) HB.size _ rfl ?_
  intro g401 c401 V401 ho401 hgr ha hl401;replace hgr:V400.grownBy V401 (some gE):=hgr;replace ha:some gE=some g401∨g401=V400.heap.size:=ha;have hs401:=hgr.size;have hge401:g401=gE∨g401=V400.heap.size:=by rcases ha with h | h;exact .inl (Option.some.inj h).symm;exact .inr h
  replace k0:=ab hgr k0 (by omega)
  replace k1:=ab hgr k1 (by omega)
  replace k2:=ab hgr k2 (by omega)
  replace HA:=aa (aX hgr HA.out (by omega))
  replace HD1:=aa (aX hgr HD1.out (by omega))
  replace HB:=HB.grown hgr HB.size (fun k hk=>by cases hk;omega)
  clear HE HL2;have HE:=aa ho401;clear ho401 hgr ha
  refine hK.out _ _ ⟨k0,k1,k2⟩ (fun hHeld=>?_)
  clear hK K
  (try simp only [nz])
  refine rd (i:=11) (o:=⟨some 14,_,_,_,_,_⟩) (by kernel_rfl) rfl (fun K hK=>?_)
  go_simp
  clear hHeld
  refine(aQ _ _ _ _).mono ?_
  rintro e V402 ⟨rfl,hb402⟩;have hs403:=hb402.size;replace k0:=zC k0 hb402;replace k1:=zC k1 hb402;replace k2:=zC k2 hb402;replace HA:=zO HA hb402;replace HD1:=zO HD1 hb402;replace HE:=zO HE hb402;replace HB:=zT HB hb402;clear hb402
  refine hK.out _ _ ⟨k0,k1,k2⟩ (fun hHeld=>?_)
  clear hK K
  (try simp only [nz])
  refine rd (i:=12) (o:=⟨some 15,_,_,_,_,_⟩) (by kernel_rfl) rfl (fun K hK=>?_)
  go_simp
  clear hHeld
  refine ah (fun V404 g404 hV hg=>?_)
  rw [←hg];have hbN:=zB hV;have hg404:V402.heap.size≤g404:=by omega
  have hl404:=zL hV hg;have HD2:Hid (V404.ownsRow w.heap.size 98 3 (.slice (some ⟨g404,0,none⟩) 1 1) 1 (D [aG 5])):=zW hV hg HB.size (by decide) rfl
  have hs405:=hbN.size;replace k0:=zC k0 hbN;replace k1:=zC k1 hbN;replace k2:=zC k2 hbN;replace HA:=zO HA hbN;replace HD1:=zO HD1 hbN;replace HE:=zO HE hbN;replace HB:=zT HB hbN;clear hV hg hbN
  refine hK.out _ _ ⟨k0,k1,k2⟩ (fun hHeld=>?_)
  clear hK K
  (try simp only [nz])
  refine rd (i:=13) (o:=⟨some 16,_,_,_,_,_⟩) (by kernel_rfl) rfl (fun K hK=>?_)
  go_simp
  clear hHeld
  refine(ax _ _ _ _ _ _ _ _ _).mono ?_
  rintro e V406 ⟨rfl,hb406⟩;have hs407:=hb406.size;replace k0:=zC k0 hb406;replace k1:=zC k1 hb406;replace k2:=zC k2 hb406;replace HA:=zO HA hb406;replace HD1:=zO HD1 hb406;replace HE:=zO HE hb406;replace HD2:=zO HD2 hb406;replace HB:=zT HB hb406;clear hb406
  refine hK.out _ _ ⟨k0,k1,k2⟩ (fun hHeld=>?_)
  clear hK K
  (try simp only [nz])
  refine rd (i:=14) (o:=⟨some 17,_,_,_,_,_⟩) (by kernel_rfl) rfl (fun K hK=>?_)
  go_simp
  clear hHeld
  refine ah (fun V408 g408 hV hg=>?_)
  rw [←hg];have hbN:=zB hV;have hg408:V406.heap.size≤g408:=by omega
  have hl408:=zL hV hg;have HF:Hid (FR V408 w.heap.size (.slice (some ⟨g408,0,none⟩) 2 2) (tunnelFl)):=by
   rw [hV,hg]
   refine aa (FR.lit (lo:=[⟨⟨0,0,bp++ [isM 0 0],[aG 4]⟩,.slice (some ⟨gB,0,none⟩) 3 cB,.slice (some ⟨gD,0,none⟩) 1 1⟩,⟨⟨0,0,bB 2++ [isM 0 0],[aG 5]⟩,.slice (some ⟨g401,0,none⟩) 4 c401,.slice (some ⟨g404,0,none⟩) 1 1⟩]) rfl rfl HB.size (by decide) (fun x hx=>?_))
   simp only [List.mem_cons,List.not_mem_nil,or_false]at hx
   rcases hx with rfl | rfl
   ·exact aT HA.out HD1.out (by simp [Value.ownBlock])
   ·exact aT HE.out HD2.out (by simp [Value.ownBlock])
  have hs409:=hbN.size;replace k0:=zC k0 hbN;replace k1:=zC k1 hbN;replace k2:=zC k2 hbN;replace HA:=zO HA hbN;replace HD1:=zO HD1 hbN;replace HE:=zO HE hbN;replace HD2:=zO HD2 hbN;replace HB:=zT HB hbN;clear hV hg hbN
  refine hK.out _ _ ⟨k0,k1,k2⟩ (fun hHeld=>?_)
  clear hK K
  (try simp only [nz])
  refine tk (i:=15) (d:=0) rfl (by kernel_rfl) (fun _ _ _ h=>h) rfl ‹_› (by intro w h;(try dsimp only at h);go_simp <;>with_reducible rfl) ?_
  simp only [nz]
  refine wpAnyH_done (by kernel_rfl) ?_ _
  clear hHeld
  go_wp2_with fail
  go_ret
  exact⟨_,rfl,HF.out,HB⟩
theorem kY (l:List Pr) (p:Pr→Bool) (v:Value) (f:Nat) (cs:Array Value) (w:World) (hF:dH w v l) (hT:PicksPr w f cs p) (hE:bm f) (hl:l.length*40≤140737488355328):
  Calls Tryz.prog 63 #[v,.func (.func f) #[] cs] w fun e w'=>e= .returned (.int .i64 (idx p l))∧Below w.heap.size w w':=by
 have HF:=aa hF;have HT:=aa hT;have HEN:=aa hE;obtain⟨a,cap,rfl⟩:=hF.slice;clear hF hT hE
 go_enter Tryz.func63,Tryz.ntmps63
 go_wp2_with fail
 go_loopw [8] (fun i wr=>∃k:Nat,k≤l.length∧i= .int .i64 k∧Hid (∀j,j<k→p (l.getD j pr0)=false)∧Below w.heap.size w wr) (fun i _=>l.length-(intOf i).toNat)
 case atStart=>exact⟨0,by omega,rfl,aa (fun j h=>absurd h (by omega)),Below.refl _ _⟩
 case round=>
  obtain⟨k,hk,rfl,HALL,hbr⟩:=hrel
  by_cases hlt:k<l.length
  ·obtain⟨b,off,cap',e1,hcap, -,g0,g1,g2,g3,g4⟩:=fX (RowAt.below HF.out hbr zr) hlt
   simp only [Value.slice.injEq,true_and]at e1;obtain⟨rfl,rfl⟩:=e1;have HST:Hid (∀W:World,Below w.heap.size w W→Calls Tryz.prog f (#[.agg #[.int .i64 (l.getD k pr0).i,.int .i64 (l.getD k pr0).s,.int .i64 (l.getD k pr0).m,.int .i64 (l.getD k pr0).p,.int .i64 (l.getD k pr0).c]]++cs) W fun e w'=>e= .returned (.bool (p (l.getD k pr0)))∧Below W.heap.size W w'):=fun W hW=>HT.out W _ hW
   have HNX:Hid (p (l.getD k pr0)=false→∀j,j<k+1→p (l.getD j pr0)=false):=fun h j hj=>by
    by_cases e:j=k
    ·subst e;exact h
    ·exact HALL.out j (by omega)
   have HFD:Hid (p (l.getD k pr0)=true→idx p l=k):=fun h=>iq pr0 hlt HALL.out h
   generalize p (l.getD k pr0)=R at*
   generalize (l.getD k pr0).i=y0 at*
   generalize (l.getD k pr0).s=y1 at*
   generalize (l.getD k pr0).m=y2 at*
   generalize (l.getD k pr0).p=y3 at*
   generalize (l.getD k pr0).c=y4 at*
   have q1:(0:Int)≤(k:Int):=by omega
   have q2:(k:Int)<(l.length:Int):=by omega
   clear HALL
   go_wp2_with fail
   rw [ag HEN]
   refine(ag HST _ ?_).mono ?_
   ·first | exact hbr | exact hbr.drew | exact⟨hbr.os,hbr.tape,hbr.output,hbr.size,hbr.block⟩
   rintro e w1 ⟨rfl,hb1⟩;have HB1:Hid (Below w.heap.size w w1):=hbr.trans (hb1.mono hbr.size);clear hb1 hbr HST g0 g1 g2 g3 g4
   cases R
   ·have HN:=aa (HNX.out rfl)
    clear HNX HFD
    go_wp2_with fail
    go_roundw
    case rel=>exact⟨k+1,by omega,by go_num,HN,HB1.out⟩
    case measure=>simp [intOf];omega
   ·have HN:=aa (HFD.out rfl)
    clear HNX HFD
    go_wp2_with fail
    go_ret
    exact⟨ap HN.out.symm,HB1.out⟩
  ·have HN:Hid (idx p l= -1):=im pr0 fun i hi=>HALL.out i (by omega)
   have HB1:=aa hbr;clear HALL hbr
   go_wp2_with fail
   go_ret
   exact⟨ap HN.out.symm,HB1.out⟩
theorem pY (l:List Pr) (p:Pr→Bool) (v:Value) (f:Nat) (cs:Array Value) (w:World) (hF:dH w v l) (hT:PicksPr w f cs p) (hE:bm f) (hl:l.length*40≤140737488355328):
  Calls Tryz.prog 31 #[v,.func (.func f) #[] cs] w fun e w'=>e= .returned (.bool (l.any p))∧Below w.heap.size w w':=by
 have HI:=aa (kY l p v f cs w hF hT hE hl);have HA:=aa (dB p l);obtain⟨a,cap,rfl⟩:=hF.slice;clear hF hT hE;generalize idx p l=I at*
 go_enter Tryz.func31,Tryz.ntmps31
 go_wp2_with fail
 refine(ag HI).mono ?_
 rintro e w1 ⟨rfl,hb1⟩
 go_wp2_with fail
 go_ret
 exact⟨ay HA.out,hb1⟩
theorem pi (l:List Sw) (p:Sw→Bool) (v:Value) (f:Nat) (cs:Array Value) (w:World) (hF:dm w v l) (hT:iB w f cs p) (hE:bm f) (hl:l.length*24≤140737488355328):
  Calls Tryz.prog 149 #[v,.func (.func f) #[] cs] w fun e w'=>e= .returned (.int .i64 (idx p l))∧Below w.heap.size w w':=by
 have HF:=aa hF;have HT:=aa hT;have HEN:=aa hE;obtain⟨a,cap,rfl⟩:=hF.slice;clear hF hT hE
 go_enter Tryz.func149,Tryz.ntmps149
 go_wp2_with fail
 go_loopw [8] (fun i wr=>∃k:Nat,k≤l.length∧i= .int .i64 k∧Hid (∀j,j<k→p (l.getD j sw0)=false)∧Below w.heap.size w wr) (fun i _=>l.length-(intOf i).toNat)
 case atStart=>exact⟨0,by omega,rfl,aa (fun j h=>absurd h (by omega)),Below.refl _ _⟩
 case round=>
  obtain⟨k,hk,rfl,HALL,hbr⟩:=hrel
  by_cases hlt:k<l.length
  ·obtain⟨b,off,cap',e1,hcap, -,g0,g1,g2⟩:=jK (RowAt.below HF.out hbr zr) hlt
   simp only [Value.slice.injEq,true_and]at e1;obtain⟨rfl,rfl⟩:=e1;have HST:Hid (∀W:World,Below w.heap.size w W→Calls Tryz.prog f (#[.agg #[.int .i64 (l.getD k sw0).i,.int .i64 (l.getD k sw0).t,.int .i64 (l.getD k sw0).g]]++cs) W fun e w'=>e= .returned (.bool (p (l.getD k sw0)))∧Below W.heap.size W w'):=fun W hW=>HT.out W _ hW
   have HNX:Hid (p (l.getD k sw0)=false→∀j,j<k+1→p (l.getD j sw0)=false):=fun h j hj=>by
    by_cases e:j=k
    ·subst e;exact h
    ·exact HALL.out j (by omega)
   have HFD:Hid (p (l.getD k sw0)=true→idx p l=k):=fun h=>iq sw0 hlt HALL.out h
   generalize p (l.getD k sw0)=R at*
   generalize (l.getD k sw0).i=y0 at*
   generalize (l.getD k sw0).t=y1 at*
   generalize (l.getD k sw0).g=y2 at*
   have q1:(0:Int)≤(k:Int):=by omega
   have q2:(k:Int)<(l.length:Int):=by omega
   clear HALL
   go_wp2_with fail
   rw [ag HEN]
   refine(ag HST _ ?_).mono ?_
   ·first | exact hbr | exact hbr.drew | exact⟨hbr.os,hbr.tape,hbr.output,hbr.size,hbr.block⟩
   rintro e w1 ⟨rfl,hb1⟩;have HB1:Hid (Below w.heap.size w w1):=hbr.trans (hb1.mono hbr.size);clear hb1 hbr HST g0 g1 g2
   cases R
   ·have HN:=aa (HNX.out rfl)
    clear HNX HFD
    go_wp2_with fail
    go_roundw
    case rel=>exact⟨k+1,by omega,by go_num,HN,HB1.out⟩
    case measure=>simp [intOf];omega
   ·have HN:=aa (HFD.out rfl)
    clear HNX HFD
    go_wp2_with fail
    go_ret
    exact⟨ap HN.out.symm,HB1.out⟩
  ·have HN:Hid (idx p l= -1):=im sw0 fun i hi=>HALL.out i (by omega)
   have HB1:=aa hbr;clear HALL hbr
   go_wp2_with fail
   go_ret
   exact⟨ap HN.out.symm,HB1.out⟩
theorem pd (l:List Sw) (p:Sw→Bool) (v:Value) (f:Nat) (cs:Array Value) (w:World) (hF:dm w v l) (hT:iB w f cs p) (hE:bm f) (hl:l.length*24≤140737488355328):
  Calls Tryz.prog 160 #[v,.func (.func f) #[] cs] w fun e w'=>e= .returned (.bool (l.any p))∧Below w.heap.size w w':=by
 have HI:=aa (pi l p v f cs w hF hT hE hl);have HA:=aa (dB p l);obtain⟨a,cap,rfl⟩:=hF.slice;clear hF hT hE;generalize idx p l=I at*
 go_enter Tryz.func160,Tryz.ntmps160
 go_wp2_with fail
 refine(ag HI).mono ?_
 rintro e w1 ⟨rfl,hb1⟩
 go_wp2_with fail
 go_ret
 exact⟨ay HA.out,hb1⟩
theorem rY:bm 26:=fun args W=>by
 unfold callFunc
 simp [Tryz.func26,Tryz.f26]
theorem uI:bm 30:=fun args W=>by
 unfold callFunc
 simp [Tryz.func30,Tryz.f30]
theorem iW:bm 64:=fun args W=>by
 unfold callFunc
 simp [Tryz.func64,Tryz.f64]
theorem kw:bm 114:=fun args W=>by
 unfold callFunc
 simp [Tryz.func114,Tryz.f114]
theorem lb:bm 156:=fun args W=>by
 unfold callFunc
 simp [Tryz.func156,Tryz.f156]
theorem qa:bm 112:=fun args W=>by
 unfold callFunc
 simp [Tryz.func112,Tryz.f112]
theorem pK:bm 159:=fun args W=>by
 unfold callFunc
 simp [Tryz.func159,Tryz.f159]
theorem oE:bm 161:=fun args W=>by
 unfold callFunc
 simp [Tryz.func161,Tryz.f161]
theorem rO:bm 124:=fun args W=>by
 unfold callFunc
 simp [Tryz.func124,Tryz.f124]
theorem rj (x:Pr) (ch:Int) (b:Nat) (w:World) (h:w.cell? ⟨b,0,none⟩=some (.int .i64 ch)):
  Calls Tryz.prog 26 #[.agg #[.int .i64 x.i,.int .i64 x.s,.int .i64 x.m,.int .i64 x.p,.int .i64 x.c],.pointer (some ⟨b,0,none⟩)] w fun e w'=>e= .returned (.bool (bS ch x))∧Below w.heap.size w w':=by
 have lh:=am h;have nh:b≠w.heap.size:=by omega
 go_enter Tryz.func26,Tryz.ntmps26
 go_wp2
 all_goals go_ret
 all_goals exact⟨ay (by unfold bS;rw [Bool.eq_iff_iff] <;>simp_all),(Below.refl _ _).alloc zr _⟩
theorem pA {ch:Int} {b:Nat} {w:World} (h:w.cell? ⟨b,0,none⟩=some (.int .i64 ch)):PicksPr w 26 #[.pointer (some ⟨b,0,none⟩)] (bS ch):=
 fun W x hW=>rj x ch b W (zC h hW)
theorem re (x:Pr) (s:Int) (b:Nat) (w:World) (h:w.cell? ⟨b,0,none⟩=some (.int .i64 s)):
  Calls Tryz.prog 64 #[.agg #[.int .i64 x.i,.int .i64 x.s,.int .i64 x.m,.int .i64 x.p,.int .i64 x.c],.pointer (some ⟨b,0,none⟩)] w fun e w'=>e= .returned (.bool (bN s x))∧Below w.heap.size w w':=by
 have lh:=am h;have nh:b≠w.heap.size:=by omega
 go_enter Tryz.func64,Tryz.ntmps64
 go_wp2
 all_goals go_ret
 all_goals exact⟨ay (by unfold bN;rw [Bool.eq_iff_iff] <;>simp_all),(Below.refl _ _).alloc zr _⟩
theorem fL {s:Int} {b:Nat} {w:World} (h:w.cell? ⟨b,0,none⟩=some (.int .i64 s)):PicksPr w 64 #[.pointer (some ⟨b,0,none⟩)] (bN s):=
 fun W x hW=>re x s b W (zC h hW)
theorem oT (x:Pr) (i s:Int) (b:Nat) (w:World) (h:w.cell? ⟨b,0,none⟩=some (.int .i64 i)) (h1:w.cell? ⟨b,1,none⟩=some (.int .i64 s)):
  Calls Tryz.prog 112 #[.agg #[.int .i64 x.i,.int .i64 x.s,.int .i64 x.m,.int .i64 x.p,.int .i64 x.c],.pointer (some ⟨b,0,none⟩)] w fun e w'=>e= .returned (.bool (x.s==s&& !(x.i==i)))∧Below w.heap.size w w':=by
 have lh:=am h;have nh:b≠w.heap.size:=by omega
 go_enter Tryz.func112,Tryz.ntmps112
 go_wp2
 all_goals go_ret
 all_goals exact⟨ay (by rw [Bool.eq_iff_iff] <;>simp_all),(Below.refl _ _).alloc zr _⟩
theorem mV {i s:Int} {b:Nat} {w:World} (h:w.cell? ⟨b,0,none⟩=some (.int .i64 i)) (h1:w.cell? ⟨b,1,none⟩=some (.int .i64 s)):PicksPr w 112 #[.pointer (some ⟨b,0,none⟩)] (fun x=>x.s==s&& !(x.i==i)):=
 fun W x hW=>oT x i s b W (zC h hW) (zC h1 hW)
theorem nE (x:Sw) (s t:Int) (b c:Nat) (w:World) (h:w.cell? ⟨b,1,none⟩=some (.int .i64 s)) (h1:w.cell? ⟨c,0,none⟩=some (.int .i64 t)):
  Calls Tryz.prog 161 #[.agg #[.int .i64 x.i,.int .i64 x.t,.int .i64 x.g],.pointer (some ⟨b,0,none⟩),.pointer (some ⟨c,0,none⟩)] w fun e w'=>e= .returned (.bool (x.i==s&&x.t==t&& !(x.g==0)))∧Below w.heap.size w w':=by
 have lh:=am h;have nh:b≠w.heap.size:=by omega
 have lh1:=am h1;have nh1:c≠w.heap.size:=by omega
 go_enter Tryz.func161,Tryz.ntmps161
 go_wp2
 all_goals go_ret
 all_goals exact⟨ay (by rw [Bool.eq_iff_iff] <;>simp_all),(Below.refl _ _).alloc zr _⟩
theorem lK {s t:Int} {b c:Nat} {w:World} (h:w.cell? ⟨b,1,none⟩=some (.int .i64 s)) (h1:w.cell? ⟨c,0,none⟩=some (.int .i64 t)):iB w 161 #[.pointer (some ⟨b,0,none⟩),.pointer (some ⟨c,0,none⟩)] (fun x=>x.i==s&&x.t==t&& !(x.g==0)):=
 fun W x hW=>nE x s t b c W (zC h hW) (zC h1 hW)
theorem qt (x:Ac) (s:Int) (inn:Bool) (b c:Nat) (w:World) (h:w.cell? ⟨b,0,none⟩=some (.int .i64 s)) (h1:w.cell? ⟨c,0,none⟩=some (.bool inn)):
  Calls Tryz.prog 124 #[.agg #[.int .i64 x.s,.int .i64 x.p,.bool x.n,.int .i64 x.src,.int .i64 x.sb,.int .i64 x.dst,.int .i64 x.db,.int .i64 x.o,.bool x.d],.pointer (some ⟨b,0,none⟩),.pointer (some ⟨c,0,none⟩)] w fun e w'=>e= .returned (.bool (x.s==s&&x.n==inn))∧Below w.heap.size w w':=by
 have lh:=am h;have nh:b≠w.heap.size:=by omega
 have lh1:=am h1;have nh1:c≠w.heap.size:=by omega
 go_enter Tryz.func124,Tryz.ntmps124
 go_wp2
 all_goals go_ret
 all_goals exact⟨ay (by rw [Bool.eq_iff_iff] <;>simp_all),(Below.refl _ _).alloc zr _⟩
theorem oW {s:Int} {inn:Bool} {b c:Nat} {w:World} (h:w.cell? ⟨b,0,none⟩=some (.int .i64 s)) (h1:w.cell? ⟨c,0,none⟩=some (.bool inn)):qM w 124 #[.pointer (some ⟨b,0,none⟩),.pointer (some ⟨c,0,none⟩)] (fun x=>x.s==s&&x.n==inn):=
 fun W x hW=>qt x s inn b c W (zC h hW) (zC h1 hW)
theorem lA (x:Pr) (w:World):Calls Tryz.prog 114 #[.agg #[.int .i64 x.i,.int .i64 x.s,.int .i64 x.m,.int .i64 x.p,.int .i64 x.c]] w fun e w'=>e= .returned (.bool (aC x))∧Below w.heap.size w w':=by
 go_enter Tryz.func114,Tryz.ntmps114
 go_wp2
 all_goals go_ret
 all_goals exact⟨ay (by unfold aC;rw [Bool.eq_iff_iff] <;>simp_all),(Below.refl _ _).alloc zr _⟩
theorem ik (w:World):PicksPr w 114 #[] aC:=fun W x _=>lA x W
theorem gJ (x:Sw) (w:World):Calls Tryz.prog 32 #[.agg #[.int .i64 x.i,.int .i64 x.t,.int .i64 x.g]] w fun e w'=>∃b,e= .returned (.func (.func 64) #[] #[.pointer (some ⟨b,0,none⟩)])∧w'.cell? ⟨b,0,none⟩=some (.int .i64 x.i)∧Below w.heap.size w w':=by
 go_enter Tryz.func32,Tryz.ntmps32
 go_wp2
 go_ret
 exact⟨_,rfl,ak w _ rfl _ _ _ _ rfl,aj _ _⟩
theorem kH (f g:Nat) (cf cg:Array Value) (w:World):Calls Tryz.prog 113 #[.func (.func f) #[] cf,.func (.func g) #[] cg] w fun e w'=>∃b c,e= .returned (.func (.func 156) #[] #[.pointer (some ⟨b,0,none⟩),.pointer (some ⟨c,0,none⟩)])∧w'.cell? ⟨b,0,none⟩=some (.func (.func f) #[] cf)∧w'.cell? ⟨c,0,none⟩=some (.func (.func g) #[] cg)∧Below w.heap.size w w':=by
 go_enter Tryz.func113,Tryz.ntmps113
 go_wp2
 go_ret
 exact⟨_,_,rfl,aq (ak w _ rfl _ _ _ _ rfl) _,ak _ _ (by simp) _ _ _ _ rfl,((Below.refl _ _).alloc zr _).alloc (by simp) _⟩
theorem rP (x:Pr) (p q:Pr→Bool) (f g:Nat) (cf cg:Array Value) (b c:Nat) (w:World) (h:w.cell? ⟨b,0,none⟩=some (.func (.func f) #[] cf)) (h1:w.cell? ⟨c,0,none⟩=some (.func (.func g) #[] cg))
  (hf:PicksPr w f cf p) (hg:PicksPr w g cg q) (ef:bm f) (eg:bm g):
  Calls Tryz.prog 156 #[.agg #[.int .i64 x.i,.int .i64 x.s,.int .i64 x.m,.int .i64 x.p,.int .i64 x.c],.pointer (some ⟨b,0,none⟩),.pointer (some ⟨c,0,none⟩)] w fun e w'=>e= .returned (.bool (p x&&q x))∧Below w.heap.size w w':=by
 have HF:Hid (∀W:World,Below w.heap.size w W→Calls Tryz.prog f (#[.agg #[.int .i64 x.i,.int .i64 x.s,.int .i64 x.m,.int .i64 x.p,.int .i64 x.c]]++cf) W fun e w'=>e= .returned (.bool (p x))∧Below W.heap.size W w'):=fun W hW=>hf W x hW
 have HG:Hid (∀W:World,Below w.heap.size w W→Calls Tryz.prog g (#[.agg #[.int .i64 x.i,.int .i64 x.s,.int .i64 x.m,.int .i64 x.p,.int .i64 x.c]]++cg) W fun e w'=>e= .returned (.bool (q x))∧Below W.heap.size W w'):=fun W hW=>hg W x hW
 have EF:=aa ef;have EG:=aa eg;clear hf hg ef eg;have lh:=am h;have nh:b≠w.heap.size:=by omega
 have lh1:=am h1;have nh1:c≠w.heap.size:=by omega
 generalize p x=R at*
 generalize q x=R2 at*
 generalize x.i=y0 at*
 generalize x.s=y1 at*
 generalize x.m=y2 at*
 generalize x.p=y3 at*
 generalize x.c=y4 at*
 go_enter Tryz.func156,Tryz.ntmps156
 go_wp2_with fail
 obtain⟨W1,hW1⟩:∃W1,W1=w.alloc (.cells #[.int .i64 y0,.int .i64 y1,.int .i64 y2,.int .i64 y3,.int .i64 y4] 71):=⟨_,rfl⟩;have hbW:Below w.heap.size w W1:=by rw [hW1];exact aj _ _
 have d0:W1.cell? ⟨w.heap.size,0,none⟩=some (.int .i64 y0):=zN1 hW1 rfl;have d1:W1.cell? ⟨w.heap.size,1,none⟩=some (.int .i64 y1):=zN1 hW1 rfl;have d2:W1.cell? ⟨w.heap.size,2,none⟩=some (.int .i64 y2):=zN1 hW1 rfl;have d3:W1.cell? ⟨w.heap.size,3,none⟩=some (.int .i64 y3):=zN1 hW1 rfl;have d4:W1.cell? ⟨w.heap.size,4,none⟩=some (.int .i64 y4):=zN1 hW1 rfl;have k1:W1.cell? ⟨c,0,none⟩=some (.func (.func g) #[] cg):=by rw [hW1];exact aq h1 _
 rw [←hW1];clear hW1;rw [ag EF]
 refine(ag HF _ hbW).mono ?_
 rintro e w1 ⟨rfl,hb1⟩;have hb01:=hbW.trans (hb1.mono hbW.size);replace d0:=zC d0 hb1;replace d1:=zC d1 hb1;replace d2:=zC d2 hb1;replace d3:=zC d3 hb1;replace d4:=zC d4 hb1;replace k1:=zC k1 hb1;clear HF EF hb1 h h1 hbW
 cases R
 ·go_wp2_with fail
  go_ret
  exact⟨rfl,hb01⟩
 ·go_wp2_with fail
  rw [ag EG]
  refine(ag HG _ hb01).mono ?_
  rintro e w2 ⟨rfl,hb2⟩;have hb02:=hb01.trans (hb2.mono hb01.size)
  go_wp2_with fail
  go_ret
  exact⟨by simp,hb02⟩
theorem ix {w:World} {p q:Pr→Bool} {f g:Nat} {cf cg:Array Value} {b c:Nat} (h:w.cell? ⟨b,0,none⟩=some (.func (.func f) #[] cf)) (h1:w.cell? ⟨c,0,none⟩=some (.func (.func g) #[] cg))
  (hf:PicksPr w f cf p) (hg:PicksPr w g cg q) (ef:bm f) (eg:bm g):PicksPr w 156 #[.pointer (some ⟨b,0,none⟩),.pointer (some ⟨c,0,none⟩)] (fun x=>p x&&q x):=
 fun W x hW=>rP x p q f g cf cg b c W (zC h hW) (zC h1 hW) (fun W' y hW'=>hf W' y (hW.trans (hW'.mono hW.size))) (fun W' y hW'=>hg W' y (hW.trans (hW'.mono hW.size))) ef eg
theorem PicksPr.below {w w':World} {f:Nat} {cs:Array Value} {p:Pr→Bool} (h:PicksPr w f cs p) (hb:Below w.heap.size w w'):PicksPr w' f cs p:=fun W x hW=>h W x (hb.trans (hW.mono hb.size))
theorem nU (x:Pr) (S:List Sw) (o:Option Addr) (cap:Nat) (t:Int) (b c:Nat) (w:World) (h:w.cell? ⟨b,0,none⟩=some (.slice o S.length cap)) (h1:w.cell? ⟨c,0,none⟩=some (.int .i64 t)) (hS:dm w (.slice o S.length cap) S) (hl:S.length*24≤140737488355328):
  Calls Tryz.prog 159 #[.agg #[.int .i64 x.i,.int .i64 x.s,.int .i64 x.m,.int .i64 x.p,.int .i64 x.c],.pointer (some ⟨b,0,none⟩),.pointer (some ⟨c,0,none⟩)] w fun e w'=>e= .returned (.bool (bV S t x))∧Below w.heap.size w w':=by
 have HS:Hid (∀W:World,Below w.heap.size w W→∀pb,W.cell? ⟨pb,1,none⟩=some (.int .i64 x.s)→Calls Tryz.prog 160 #[.slice o S.length cap,.func (.func 161) #[] #[.pointer (some ⟨pb,0,none⟩),.pointer (some ⟨c,0,none⟩)]] W fun e w'=>e= .returned (.bool (bV S t x))∧Below W.heap.size W w'):=
  fun W hW pb hp=>pd S _ _ _ _ W (RowAt.below hS hW zr) (lK hp (zC h1 hW)) oE hl
 have lh:=am h;have nh:b≠w.heap.size:=by omega
 clear hS;generalize bV S t x=R at*
 generalize x.i=y0 at*
 generalize x.s=y1 at*
 generalize x.m=y2 at*
 generalize x.p=y3 at*
 generalize x.c=y4 at*
 go_enter Tryz.func159,Tryz.ntmps159
 go_wp2_with fail
 refine(ag HS _ (aj _ _) _ (ak w _ rfl _ _ _ _ rfl)).mono ?_
 rintro e w1 ⟨rfl,hb1⟩;have hb01:=(aj w (.cells #[.int .i64 y0,.int .i64 y1,.int .i64 y2,.int .i64 y3,.int .i64 y4] 71)).trans (hb1.mono (aj w _).size);clear hb1 HS
 go_wp2_with fail
 go_ret
 exact⟨rfl,hb01⟩
theorem mS {w:World} {S:List Sw} {o:Option Addr} {cap:Nat} {t:Int} {b c:Nat} (h:w.cell? ⟨b,0,none⟩=some (.slice o S.length cap)) (h1:w.cell? ⟨c,0,none⟩=some (.int .i64 t)) (hS:dm w (.slice o S.length cap) S) (hl:S.length*24≤140737488355328):
  PicksPr w 159 #[.pointer (some ⟨b,0,none⟩),.pointer (some ⟨c,0,none⟩)] (bV S t):=
 fun W x hW=>nU x S o cap t b c W (zC h hW) (zC h1 hW) (RowAt.below hS hW zr) hl
theorem m7 (so po ao:Option Addr) (sl sc pl pc al ac:Nat) (t:Int) (w:World):Calls Tryz.prog 125 #[.agg #[.slice so sl sc,.slice po pl pc,.slice ao al ac],.int .i64 t] w fun e w'=>∃b c,e= .returned (.func (.func 159) #[] #[.pointer (some ⟨b,0,none⟩),.pointer (some ⟨c,0,none⟩)])∧w'.cell? ⟨b,0,none⟩=some (.slice so sl sc)∧w'.cell? ⟨c,0,none⟩=some (.int .i64 t)∧Below w.heap.size w w':=by
 go_enter Tryz.func125,Tryz.ntmps125
 go_wp2
 go_ret
 exact⟨_,_,rfl,aq (ak w _ rfl _ _ _ _ rfl) _,ak _ _ (by simp) _ _ _ _ rfl,((Below.refl _ _).alloc zr _).alloc (by simp) _⟩
theorem tK (x:Sw) (P:List Pr) (o:Option Addr) (cap:Nat) (b:Nat) (w:World) (h:w.cell? ⟨b,0,none⟩=some (.slice o P.length cap)) (hP:dH w (.slice o P.length cap) P) (hl:P.length*40≤140737488355328):
  Calls Tryz.prog 30 #[.agg #[.int .i64 x.i,.int .i64 x.t,.int .i64 x.g],.pointer (some ⟨b,0,none⟩)] w fun e w'=>e= .returned (.bool (P.any (bN x.i)))∧Below w.heap.size w w':=by
 have HS:Hid (∀W:World,Below w.heap.size w W→∀pb,W.cell? ⟨pb,0,none⟩=some (.int .i64 x.i)→Calls Tryz.prog 31 #[.slice o P.length cap,.func (.func 64) #[] #[.pointer (some ⟨pb,0,none⟩)]] W fun e w'=>e= .returned (.bool (P.any (bN x.i)))∧Below W.heap.size W w'):=
  fun W hW pb hp=>pY P _ _ _ _ W (RowAt.below hP hW zr) (fL hp) iW hl
 have HI:=aa (gJ x);have lh:=am h;have nh:b≠w.heap.size:=by omega
 clear hP;generalize P.any (bN x.i)=R at*
 generalize x.i=y0 at*
 generalize x.t=y1 at*
 generalize x.g=y2 at*
 go_enter Tryz.func30,Tryz.ntmps30
 go_wp2_with fail
 obtain⟨W1,hW1⟩:∃W1,W1=w.alloc (.cells #[.int .i64 y0,.int .i64 y1,.int .i64 y2] 59):=⟨_,rfl⟩;have hbW:Below w.heap.size w W1:=by rw [hW1];exact aj _ _
 have d0:W1.cell? ⟨w.heap.size,0,none⟩=some (.int .i64 y0):=zN1 hW1 rfl;have d1:W1.cell? ⟨w.heap.size,1,none⟩=some (.int .i64 y1):=zN1 hW1 rfl;have d2:W1.cell? ⟨w.heap.size,2,none⟩=some (.int .i64 y2):=zN1 hW1 rfl;replace h:W1.cell? ⟨b,0,none⟩=some (.slice o P.length cap):=by rw [hW1];exact aq h _
 rw [←hW1];clear hW1;have HB:=hbW;clear hbW;have hs0_1:=HB.size
 refine wp_region_held_drew (S:=(fun w'=>w'.cell? ⟨w.heap.size,0,none⟩=some (.int .i64 y0)∧w'.cell? ⟨w.heap.size,1,none⟩=some (.int .i64 y1)∧w'.cell? ⟨w.heap.size,2,none⟩=some (.int .i64 y2)∧w'.cell? ⟨b,0,none⟩=some (.slice o P.length cap))) (by kernel_rfl) ⟨d0,d1,d2,h⟩ (fun hHeld=>?_)
 have HDW:Below W1.heap.size W1 W1.drew:=(Below.refl _ _).drew;have hs1:=HDW.size;replace d0:=zC d0 HDW;replace d1:=zC d1 HDW;replace d2:=zC d2 HDW;replace h:=zC h HDW;replace HB:=zT HB HDW;clear HDW;generalize W1.drew=V2 at*
 refine tk (i:=0) (d:=4) rfl (by kernel_rfl) (fun _ _ _ h=>h) rfl ‹_› (by intro w h;(try dsimp only at h);go_simp <;>with_reducible rfl) ?_
 simp only [nz]
 refine tk (i:=1) (d:=5) rfl (by kernel_rfl) (fun _ _ _ h=>h) rfl ‹_› (by intro w h;(try dsimp only at h);go_simp <;>with_reducible rfl) ?_
 simp only [nz]
 refine rd (i:=2) (o:=⟨some 6,_,_,_,_,_⟩) (by kernel_rfl) rfl (fun K hK=>?_)
 go_simp
 clear hHeld
 refine(ag HI _).mono ?_
 rintro e V3 ⟨b1,rfl,hc1,hb3⟩;have hs4:=hb3.size;replace d0:=zC d0 hb3;replace d1:=zC d1 hb3;replace d2:=zC d2 hb3;replace h:=zC h hb3;replace HB:=zT HB hb3;have hc:=hc1;clear hc1;clear hb3
 refine hK.out _ _ ⟨d0,d1,d2,h⟩ (fun hHeld=>?_)
 clear hK K
 (try simp only [nz])
 refine rd (i:=3) (o:=⟨some 7,_,_,_,_,_⟩) (by kernel_rfl) rfl (fun K hK=>?_)
 go_simp
 clear hHeld
 refine(ag HS _ HB _ hc).mono ?_
 rintro e V5 ⟨rfl,hb5⟩;have hs6:=hb5.size;replace d0:=zC d0 hb5;replace d1:=zC d1 hb5;replace d2:=zC d2 hb5;replace h:=zC h hb5;replace hc:=zC hc hb5;replace HB:=zT HB hb5;clear hb5
 refine hK.out _ _ ⟨d0,d1,d2,h⟩ (fun hHeld=>?_)
 clear hK K
 (try simp only [nz])
 refine tk (i:=4) (d:=3) rfl (by kernel_rfl) (fun _ _ _ h=>h) rfl ‹_› (by intro w h;(try dsimp only at h);go_simp <;>with_reducible rfl) ?_
 simp only [nz]
 refine wpAnyH_done (by kernel_rfl) ?_ _
 clear hHeld
 go_wp2_with fail
 go_ret
 exact⟨rfl,HB⟩
theorem pG {w:World} {P:List Pr} {o:Option Addr} {cap:Nat} {b:Nat} (h:w.cell? ⟨b,0,none⟩=some (.slice o P.length cap)) (hP:dH w (.slice o P.length cap) P) (hl:P.length*40≤140737488355328):
  iB w 30 #[.pointer (some ⟨b,0,none⟩)] (fun s=>P.any (bN s.i)):=
 fun W x hW=>tK x P o cap b W (zC h hW) (RowAt.below hP hW zr) hl
theorem in2 {α:Type} {p:α→Prop} {a b:α} (h1:p a) (h2:p b):∀y∈ [a,b],p y:=fun y hy=>by
 simp only [List.mem_cons,List.not_mem_nil,or_false]at hy
 rcases hy with rfl | rfl
 ·exact h1
 ·exact h2
theorem in5 {α:Type} {p:α→Prop} {a b c d e:α} (h1:p a) (h2:p b) (h3:p c) (h4:p d) (h5:p e):∀y∈ [a,b,c,d,e],p y:=fun y hy=>by
 simp only [List.mem_cons,List.not_mem_nil,or_false]at hy
 rcases hy with rfl | rfl | rfl | rfl | rfl
 ·exact h1
 ·exact h2
 ·exact h3
 ·exact h4
 ·exact h5
theorem fR {α β:Type} (f:α→List β) (d:α) {l:List α} {k:Nat} (h:k<l.length):(l.take (k+1)).flatMap f=(l.take k).flatMap f++f (l.getD k d):=by
 rw [List.take_succ_eq_append_getElem h,List.flatMap_append]
 simp [List.getD,List.getElem?_eq_getElem h]
theorem ps (l:List Pr):(l.flatMap ar).length=2*l.length:=by
 induction l with
 | nil=>rfl
 | cons x r ih=>simp [ar]at ih⊢;omega
theorem iS (S:List Sw) (P:List Pr) (A:List Ac) (s1 p1 a1:Option Addr) (s2 p2 a2:Nat) (x:Pr) (w:World) (hC:CfAt w (.slice s1 S.length s2) (.slice p1 P.length p2) (.slice a1 A.length a2) S P A) (hl:P.length≤1000):
  Calls Tryz.prog 62 #[.agg #[.slice s1 S.length s2,.slice p1 P.length p2,.slice a1 A.length a2],.agg #[.int .i64 x.i,.int .i64 x.s,.int .i64 x.m,.int .i64 x.p,.int .i64 x.c]] w fun e w'=>∃u,e= .returned u∧w'.ownsRow w.heap.size 98 3 u ((P.filter (be x)).flatMap ar).length (D ((P.filter (be x)).flatMap ar))∧Below w.heap.size w w':=by
 obtain⟨iD,hiD,zD0,zD1,zD2⟩:=info_parts eZ;have HP:=aa hC.2.1;clear hC;have HO:Hid (be x=fun y=>(y.s==x.s&& !(y.i==x.i))&&aC y):=rfl
 obtain⟨Q,hQ⟩:∃Q,Q=P.filter (be x):=⟨_,rfl⟩;have HQL:Q.length≤1000:=by rw [hQ];exact Nat.le_trans (List.length_filter_le _ _) hl
 rw [←hQ];have HQ:=aa hQ;clear hQ
 go_enter Tryz.func62,Tryz.ntmps62
 go_wp2_with fail
 obtain⟨W0,hW⟩:∃W0,W0=w.alloc (.cells #[.slice s1 S.length s2,.slice p1 P.length p2,.slice a1 A.length a2] 29):=⟨_,rfl⟩;rw [←hW];obtain⟨cb,hblk⟩:∃cb,cb=w.heap.size:=⟨_,rfl⟩;have k0:W0.cell? ⟨cb,0,none⟩=some (.slice s1 S.length s2):=zN2 hW hblk rfl;have k1:W0.cell? ⟨cb,1,none⟩=some (.slice p1 P.length p2):=zN2 hW hblk rfl;have k2:W0.cell? ⟨cb,2,none⟩=some (.slice a1 A.length a2):=zN2 hW hblk rfl;have hbN:Below w.heap.size w W0:=by rw [hW];exact aj _ _
 have hzW0:W0.heap.size=cb+1:=by rw [hW,hblk];simp
 rw [←hblk];clear hW hblk;have HB:=hbN;clear hbN;obtain⟨W1,hW⟩:∃W1,W1=W0.alloc (.cells #[.int .i64 x.i,.int .i64 x.s,.int .i64 x.m,.int .i64 x.p,.int .i64 x.c] 71):=⟨_,rfl⟩;rw [←hW];obtain⟨pb,hblk⟩:∃pb,pb=cb+1:=⟨_,rfl⟩;have d0:W1.cell? ⟨pb,0,none⟩=some (.int .i64 x.i):=zN2 hW (hblk.trans hzW0.symm) rfl;have d1:W1.cell? ⟨pb,1,none⟩=some (.int .i64 x.s):=zN2 hW (hblk.trans hzW0.symm) rfl;have d2:W1.cell? ⟨pb,2,none⟩=some (.int .i64 x.m):=zN2 hW (hblk.trans hzW0.symm) rfl;have d3:W1.cell? ⟨pb,3,none⟩=some (.int .i64 x.p):=zN2 hW (hblk.trans hzW0.symm) rfl;have d4:W1.cell? ⟨pb,4,none⟩=some (.int .i64 x.c):=zN2 hW (hblk.trans hzW0.symm) rfl;have hbN:Below W0.heap.size W0 W1:=by rw [hW];exact aj _ _
 have hzW1:W1.heap.size=pb+1:=by rw [hW,hblk];simp [hzW0]
 rw [←hblk];clear hW hblk hzW0;replace k0:=zC k0 hbN;replace k1:=zC k1 hbN;replace k2:=zC k2 hbN;replace HB:=zT HB hbN;clear hbN hzW1;have hs0_3:=HB.size
 refine wp_region_held_drew (S:=(fun w'=>w'.cell? ⟨cb,0,none⟩=some (.slice s1 S.length s2)∧w'.cell? ⟨cb,1,none⟩=some (.slice p1 P.length p2)∧w'.cell? ⟨cb,2,none⟩=some (.slice a1 A.length a2)∧w'.cell? ⟨pb,0,none⟩=some (.int .i64 x.i)∧w'.cell? ⟨pb,1,none⟩=some (.int .i64 x.s)∧w'.cell? ⟨pb,2,none⟩=some (.int .i64 x.m)∧w'.cell? ⟨pb,3,none⟩=some (.int .i64 x.p)∧w'.cell? ⟨pb,4,none⟩=some (.int .i64 x.c))) (by kernel_rfl) ⟨k0,k1,k2,d0,d1,d2,d3,d4⟩ (fun hHeld=>?_)
 have HDW:Below W1.heap.size W1 W1.drew:=(Below.refl _ _).drew;have hs1:=HDW.size;replace k0:=zC k0 HDW;replace k1:=zC k1 HDW;replace k2:=zC k2 HDW;replace d0:=zC d0 HDW;replace d1:=zC d1 HDW;replace d2:=zC d2 HDW;replace d3:=zC d3 HDW;replace d4:=zC d4 HDW;replace HB:=zT HB HDW;clear HDW;generalize W1.drew=V2 at*
 refine tk (i:=0) (d:=10) rfl (by kernel_rfl) (fun _ _ _ h=>h) rfl ‹_› (by intro w h;(try dsimp only at h);go_simp <;>with_reducible rfl) ?_
 simp only [nz]
 refine tk (i:=1) (d:=11) rfl (by kernel_rfl) (fun _ _ _ h=>h) rfl ‹_› (by intro w h;(try dsimp only at h);go_simp <;>with_reducible rfl) ?_
 simp only [nz]
 refine tk (i:=2) (d:=12) rfl (by kernel_rfl) (fun _ _ _ h=>h) rfl ‹_› (by intro w h;(try dsimp only at h);go_simp <;>with_reducible rfl) ?_
 simp only [nz]
 refine tk (i:=6) (d:=16) rfl (by kernel_rfl) (fun _ _ _ h=>h) rfl ‹_› (by intro w h;(try dsimp only at h);go_simp <;>with_reducible rfl) ?_
 simp only [nz]
 refine rd (i:=3) (o:=⟨some 13,_,_,_,_,_⟩) (by kernel_rfl) rfl (fun K hK=>?_)
 go_simp
 clear hHeld
 refine(kH _ _ _ _ _).mono ?_
 rintro e V3 ⟨bb,bc,rfl,hc1,hc2,hb3⟩;have hs4:=hb3.size;replace k0:=zC k0 hb3;replace k1:=zC k1 hb3;replace k2:=zC k2 hb3;replace d0:=zC d0 hb3;replace d1:=zC d1 hb3;replace d2:=zC d2 hb3;replace d3:=zC d3 hb3;replace d4:=zC d4 hb3;replace HB:=zT HB hb3;have b0:=hc1;have b1:=hc2;clear hc1 hc2;clear hb3
 refine hK.out _ _ ⟨k0,k1,k2,d0,d1,d2,d3,d4⟩ (fun hHeld=>?_)
 clear hK K
 (try simp only [nz])
 refine rd (i:=4) (o:=⟨some 14,_,_,_,_,_⟩) (by kernel_rfl) rfl (fun K hK=>?_)
 go_simp
 clear hHeld
 refine(cJ P (be x) _ _ _ _ (RowAt.below HP.out HB zr) (by rw [HO.out];exact ix b0 b1 (mV d0 d1) (ik _) qa kw) lb hl).mono ?_
 rintro e V5 ⟨u,rfl,hor,hb5⟩;have hs6:=hb5.size;replace k0:=zC k0 hb5;replace k1:=zC k1 hb5;replace k2:=zC k2 hb5;replace d0:=zC d0 hb5;replace d1:=zC d1 hb5;replace d2:=zC d2 hb5;replace d3:=zC d3 hb5;replace d4:=zC d4 hb5;replace b0:=zC b0 hb5;replace b1:=zC b1 hb5;replace HB:=zT HB hb5;obtain⟨o,c,rfl⟩:=aD hor;have HR:=aa hor;clear hor;clear hb5
 refine hK.out _ _ ⟨k0,k1,k2,d0,d1,d2,d3,d4⟩ (fun hHeld=>?_)
 clear hK K
 (try simp only [nz])
 refine tk (i:=5) (d:=15) rfl (by kernel_rfl) (fun _ _ _ h=>h) rfl ‹_› (by intro w h;(try dsimp only at h);go_simp <;>with_reducible rfl) ?_
 simp only [nz]
 refine wpAnyH_done (by kernel_rfl) ?_ _
 clear hHeld;rw [←HQ.out]at HR⊢;have HRB:Hid (Below w.heap.size w V5):=aa HB;clear HB HP HO HQ k0 k1 k2 d0 d1 d2 d3 d4 b0 b1
 go_wp2_with fail
 go_loopw [6,16] (fun v i wr=>∃k:Nat,k≤Q.length∧i= .int .i64 k∧Hid (wr.ownsRow V5.heap.size 98 3 v ((Q.take k).flatMap ar).length (D ((Q.take k).flatMap ar)))∧Below V5.heap.size V5 wr) (fun _ i _=>Q.length-(intOf i).toNat)
 case atStart=>exact⟨0,by omega,rfl,aa (World.ownsRow_nil _ _ _ _),Below.refl _ _⟩
 case round=>
  obtain⟨k,hk,rfl,HL,hbr⟩:=hrel
  by_cases hlt:k<Q.length
  ·obtain⟨b,off,cap,e1,hcap, -,g0,g1,g2,g3,g4⟩:=fX (RowAt.below (RowAt.of_own dE (by decide) HR.out) hbr zr) hlt
   simp only [Value.slice.injEq,true_and]at e1;obtain⟨rfl,rfl⟩:=e1;have HN:=aa (fR ar pr0 hlt);have HTP:=aa (fun W=>ir (Q.getD k pr0).i (Q.getD k pr0).s (Q.getD k pr0).m (Q.getD k pr0).p (Q.getD k pr0).c W)
   have hlen:((Q.take k).flatMap ar).length≤2000:=by rw [ps,List.length_take];omega
   have HTD:Hid (ar (Q.getD k pr0)=ar ⟨(Q.getD k pr0).i,(Q.getD k pr0).s,(Q.getD k pr0).m,(Q.getD k pr0).p,(Q.getD k pr0).c⟩):=rfl;obtain⟨lo,lc,rfl⟩:=aD HL.out;generalize hN0:((Q.take k).flatMap ar).length=N at*
   have HN0:=aa hN0;clear hN0;generalize hXS:D ((Q.take k).flatMap ar)=XS at*
   have HXS:=aa hXS;clear hXS;generalize (Q.getD k pr0).i=y0 at*
   generalize (Q.getD k pr0).s=y1 at*
   generalize (Q.getD k pr0).m=y2 at*
   generalize (Q.getD k pr0).p=y3 at*
   generalize (Q.getD k pr0).c=y4 at*
   have q1:(0:Int)≤(k:Int):=by omega
   have q2:(k:Int)<(Q.length:Int):=by omega
   obtain⟨W9,hW9⟩:∃W9,W9=wr.alloc (.cells #[.int .i64 y0,.int .i64 y1,.int .i64 y2,.int .i64 y3,.int .i64 y4] 71):=⟨_,rfl⟩;have hbW:Below wr.heap.size wr W9:=by rw [hW9];exact aj _ _
   go_wp2_with fail
   rw [←hW9];clear hW9
   refine(ag HTP _).mono ?_
   rintro e w1 ⟨u,rfl,hod,hb1⟩;have hb01:=hbW.trans (hb1.mono hbW.size);have HL1:=aa (az HL.out hb01);have HB1:Hid (Below V5.heap.size V5 w1):=aa (hbr.trans (hb01.mono hbr.size));have hs1:=HB1.out.size;obtain⟨gd,cd,rfl, -, -⟩:=aK hod (by decide)
   have HOD:=aa (hod.cells rfl);have HONE:=aa (qv (ar ⟨y0,y1,y2,y3,y4⟩));clear hod hb1 hb01 hbW hbr HTP HL g0 g1 g2 g3 g4
   go_wp2_with (at_builtin;refine wpList_append_own _ rfl _ _ 88 rfl V5.heap.size 98 iD _ 3 24 Tryz.underlying88 hiD zD0 zD1 zD2 rfl (by decide) _ _ _ rfl (ag HL1) ⟨gd,0,none⟩ 2 cd (D (ar ⟨y0,y1,y2,y3,y4⟩)) rfl rfl (ag HOD) (ag HONE) ?a1 ?a2 ?a3 ?_)
   case a1=>unfold maxLen;omega
   case a2=>omega
   case a3=>exact hs1
   intro v3 w3 ho3 hg3 _;have hb3:Below V5.heap.size V5 w3:=HB1.out.grown hg3 hs1 (aF HL1.out);have HE:Hid (w3.ownsRow V5.heap.size 98 3 v3 ((Q.take (k+1)).flatMap ar).length (D ((Q.take (k+1)).flatMap ar))):=by
    refine aa ?_
    rw [HN.out,List.length_append,ww,HN0.out,HXS.out,HTD.out]
    exact ho3
   clear ho3 hg3 HL1 HOD HN HTD
   go_wp2_with fail
   go_roundw
   case rel=>exact⟨k+1,by omega,by go_num,HE,hb3⟩
   case measure=>simp [intOf];omega
  ·obtain rfl:k=Q.length:=by omega
   rw [List.take_length]at HL;obtain⟨lo,lc,rfl⟩:=aD HL.out;have HE:=aa (aw HL.out HRB.out.size);have HB2:=aa (HRB.out.trans (hbr.mono HRB.out.size));clear HL
   go_wp2_with fail
   go_ret
   exact⟨_,rfl,HE.out,HB2.out⟩
theorem lV (S:List Sw) (P:List Pr) (A:List Ac) (s1 p1 a1:Option Addr) (s2 p2 a2:Nat) (x:Pr) (w:World) (hC:CfAt w (.slice s1 S.length s2) (.slice p1 P.length p2) (.slice a1 A.length a2) S P A) (hl:P.length≤1000):
  Calls Tryz.prog 28 #[.agg #[.slice s1 S.length s2,.slice p1 P.length p2,.slice a1 A.length a2],.agg #[.int .i64 x.i,.int .i64 x.s,.int .i64 x.m,.int .i64 x.p,.int .i64 x.c]] w fun e w'=>∃u,e= .returned u∧FR w' w.heap.size u (bj P x)∧Below w.heap.size w w':=by
 have HC:=aa hC;clear hC
 go_enter Tryz.func28,Tryz.ntmps28
 go_wp2_with fail
 obtain⟨W0,hW⟩:∃W0,W0=w.alloc (.cells #[.slice s1 S.length s2,.slice p1 P.length p2,.slice a1 A.length a2] 29):=⟨_,rfl⟩;rw [←hW];obtain⟨cb,hblk⟩:∃cb,cb=w.heap.size:=⟨_,rfl⟩;have k0:W0.cell? ⟨cb,0,none⟩=some (.slice s1 S.length s2):=zN2 hW hblk rfl;have k1:W0.cell? ⟨cb,1,none⟩=some (.slice p1 P.length p2):=zN2 hW hblk rfl;have k2:W0.cell? ⟨cb,2,none⟩=some (.slice a1 A.length a2):=zN2 hW hblk rfl;have hbN:Below w.heap.size w W0:=by rw [hW];exact aj _ _
 have hzW0:W0.heap.size=cb+1:=by rw [hW,hblk];simp
 rw [←hblk];clear hW hblk;have HB:=hbN;clear hbN;obtain⟨W1,hW⟩:∃W1,W1=W0.alloc (.cells #[.int .i64 x.i,.int .i64 x.s,.int .i64 x.m,.int .i64 x.p,.int .i64 x.c] 71):=⟨_,rfl⟩;rw [←hW];obtain⟨pb,hblk⟩:∃pb,pb=cb+1:=⟨_,rfl⟩;have d0:W1.cell? ⟨pb,0,none⟩=some (.int .i64 x.i):=zN2 hW (hblk.trans hzW0.symm) rfl;have d1:W1.cell? ⟨pb,1,none⟩=some (.int .i64 x.s):=zN2 hW (hblk.trans hzW0.symm) rfl;have d2:W1.cell? ⟨pb,2,none⟩=some (.int .i64 x.m):=zN2 hW (hblk.trans hzW0.symm) rfl;have d3:W1.cell? ⟨pb,3,none⟩=some (.int .i64 x.p):=zN2 hW (hblk.trans hzW0.symm) rfl;have d4:W1.cell? ⟨pb,4,none⟩=some (.int .i64 x.c):=zN2 hW (hblk.trans hzW0.symm) rfl;have hbN:Below W0.heap.size W0 W1:=by rw [hW];exact aj _ _
 have hzW1:W1.heap.size=pb+1:=by rw [hW,hblk];simp [hzW0]
 rw [←hblk];clear hW hblk hzW0;replace k0:=zC k0 hbN;replace k1:=zC k1 hbN;replace k2:=zC k2 hbN;replace HB:=zT HB hbN;clear hbN hzW1
 refine(bk _ _ _).mono ?_
 rintro e W2 ⟨rfl,hbN⟩;replace k0:=zC k0 hbN;replace k1:=zC k1 hbN;replace k2:=zC k2 hbN;replace d0:=zC d0 hbN;replace d1:=zC d1 hbN;replace d2:=zC d2 hbN;replace d3:=zC d3 hbN;replace d4:=zC d4 hbN;replace HB:=zT HB hbN;clear hbN;have hp1:=am d1;have hp2:¬pb=W2.heap.size:=by omega
 go_wp2_with fail
 clear hp1 hp2;obtain⟨W3,hW⟩:∃W3,W3=W2.alloc (.cells #[.int .i64 0,.int .i64 65535,.int .i64 x.i] 95):=⟨_,rfl⟩;rw [←hW];obtain⟨mb,hblk⟩:∃mb,mb=W2.heap.size:=⟨_,rfl⟩;have m0:W3.cell? ⟨mb,0,none⟩=some (.int .i64 0):=zN2 hW hblk rfl;have m1:W3.cell? ⟨mb,1,none⟩=some (.int .i64 65535):=zN2 hW hblk rfl;have m2:W3.cell? ⟨mb,2,none⟩=some (.int .i64 x.i):=zN2 hW hblk rfl;have hbN:Below W2.heap.size W2 W3:=by rw [hW];exact aj _ _
 have hzW3:W3.heap.size=mb+1:=by rw [hW,hblk];simp
 rw [←hblk];clear hW hblk;replace k0:=zC k0 hbN;replace k1:=zC k1 hbN;replace k2:=zC k2 hbN;replace d0:=zC d0 hbN;replace d1:=zC d1 hbN;replace d2:=zC d2 hbN;replace d3:=zC d3 hbN;replace d4:=zC d4 hbN;replace HB:=zT HB hbN;clear hbN hzW3
 refine(aQ _ _ _ _).mono ?_
 rintro e W4 ⟨rfl,hbN⟩;replace k0:=zC k0 hbN;replace k1:=zC k1 hbN;replace k2:=zC k2 hbN;replace d0:=zC d0 hbN;replace d1:=zC d1 hbN;replace d2:=zC d2 hbN;replace d3:=zC d3 hbN;replace d4:=zC d4 hbN;replace m0:=zC m0 hbN;replace m1:=zC m1 hbN;replace m2:=zC m2 hbN;replace HB:=zT HB hbN;clear hbN
 go_wp2_with fail
 obtain⟨W5,hW⟩:∃W5,W5=W4.alloc (.cells #[.int .i64 1,.int .i64 8,.int .i64 x.s] 98):=⟨_,rfl⟩;rw [←hW];obtain⟨eb,hblk⟩:∃eb,eb=W4.heap.size:=⟨_,rfl⟩;have e0:W5.cell? ⟨eb,0,none⟩=some (.int .i64 1):=zN2 hW hblk rfl;have e1:W5.cell? ⟨eb,1,none⟩=some (.int .i64 8):=zN2 hW hblk rfl;have e2:W5.cell? ⟨eb,2,none⟩=some (.int .i64 x.s):=zN2 hW hblk rfl;have hbN:Below W4.heap.size W4 W5:=by rw [hW];exact aj _ _
 have hzW5:W5.heap.size=eb+1:=by rw [hW,hblk];simp
 rw [←hblk];clear hW hblk;replace k0:=zC k0 hbN;replace k1:=zC k1 hbN;replace k2:=zC k2 hbN;replace d0:=zC d0 hbN;replace d1:=zC d1 hbN;replace d2:=zC d2 hbN;replace d3:=zC d3 hbN;replace d4:=zC d4 hbN;replace m0:=zC m0 hbN;replace m1:=zC m1 hbN;replace m2:=zC m2 hbN;replace HB:=zT HB hbN;clear hbN hzW5;have hs0_3:=HB.size
 refine wp_region_held_drew (S:=(fun w'=>w'.cell? ⟨cb,0,none⟩=some (.slice s1 S.length s2)∧w'.cell? ⟨cb,1,none⟩=some (.slice p1 P.length p2)∧w'.cell? ⟨cb,2,none⟩=some (.slice a1 A.length a2)∧w'.cell? ⟨pb,0,none⟩=some (.int .i64 x.i)∧w'.cell? ⟨pb,1,none⟩=some (.int .i64 x.s)∧w'.cell? ⟨pb,2,none⟩=some (.int .i64 x.m)∧w'.cell? ⟨pb,3,none⟩=some (.int .i64 x.p)∧w'.cell? ⟨pb,4,none⟩=some (.int .i64 x.c)∧w'.cell? ⟨mb,0,none⟩=some (.int .i64 0)∧w'.cell? ⟨mb,1,none⟩=some (.int .i64 65535)∧w'.cell? ⟨mb,2,none⟩=some (.int .i64 x.i)∧w'.cell? ⟨eb,0,none⟩=some (.int .i64 1)∧w'.cell? ⟨eb,1,none⟩=some (.int .i64 8)∧w'.cell? ⟨eb,2,none⟩=some (.int .i64 x.s))) (by kernel_rfl) ⟨k0,k1,k2,d0,d1,d2,d3,d4,m0,m1,m2,e0,e1,e2⟩ (fun hHeld=>?_)
 have HDW:Below W5.heap.size W5 W5.drew:=(Below.refl _ _).drew;have hs1:=HDW.size;replace k0:=zC k0 HDW;replace k1:=zC k1 HDW;replace k2:=zC k2 HDW;replace d0:=zC d0 HDW;replace d1:=zC d1 HDW;replace d2:=zC d2 HDW;replace d3:=zC d3 HDW;replace d4:=zC d4 HDW;replace m0:=zC m0 HDW;replace m1:=zC m1 HDW;replace m2:=zC m2 HDW;replace e0:=zC e0 HDW;replace e1:=zC e1 HDW;replace e2:=zC e2 HDW;replace HB:=zT HB HDW;clear HDW;generalize W5.drew=V2 at*
 refine tk (i:=0) (d:=13) rfl (by kernel_rfl) (fun _ _ _ h=>h) rfl ‹_› (by intro w h;(try dsimp only at h);go_simp <;>with_reducible rfl) ?_
 simp only [nz]
 refine tk (i:=5) (d:=18) rfl (by kernel_rfl) (fun _ _ _ h=>h) rfl ‹_› (by intro w h;(try dsimp only at h);go_simp <;>with_reducible rfl) ?_
 simp only [nz]
 refine tk (i:=9) (d:=22) rfl (by kernel_rfl) (fun _ _ _ h=>h) rfl ‹_› (by intro w h;(try dsimp only at h);go_simp <;>with_reducible rfl) ?_
 simp only [nz]
 refine tk (i:=14) (d:=27) rfl (by kernel_rfl) (fun _ _ _ h=>h) rfl ‹_› (by intro w h;(try dsimp only at h);go_simp <;>with_reducible rfl) ?_
 simp only [nz]
 refine tk (i:=18) (d:=31) rfl (by kernel_rfl) (fun _ _ _ h=>h) rfl ‹_› (by intro w h;(try dsimp only at h);go_simp <;>with_reducible rfl) ?_
 simp only [nz]
 refine tk (i:=19) (d:=32) rfl (by kernel_rfl) (fun _ _ _ h=>h) rfl ‹_› (by intro w h;(try dsimp only at h);go_simp <;>with_reducible rfl) ?_
 simp only [nz]
 refine tk (i:=20) (d:=33) rfl (by kernel_rfl) (fun _ _ _ h=>h) rfl ‹_› (by intro w h;(try dsimp only at h);go_simp <;>with_reducible rfl) ?_
 simp only [nz]
 refine tk (i:=24) (d:=37) rfl (by kernel_rfl) (fun _ _ _ h=>h) rfl ‹_› (by intro w h;(try dsimp only at h);go_simp <;>with_reducible rfl) ?_
 simp only [nz]
 refine tk (i:=25) (d:=38) rfl (by kernel_rfl) (fun _ _ _ h=>h) rfl ‹_› (by intro w h;(try dsimp only at h);go_simp <;>with_reducible rfl) ?_
 simp only [nz]
 refine tk (i:=26) (d:=39) rfl (by kernel_rfl) (fun _ _ _ h=>h) rfl ‹_› (by intro w h;(try dsimp only at h);go_simp <;>with_reducible rfl) ?_
 simp only [nz]
 refine tk (i:=30) (d:=43) rfl (by kernel_rfl) (fun _ _ _ h=>h) rfl ‹_› (by intro w h;(try dsimp only at h);go_simp <;>with_reducible rfl) ?_
 simp only [nz]
 refine tk (i:=33) (d:=46) rfl (by kernel_rfl) (fun _ _ _ h=>h) rfl ‹_› (by intro w h;(try dsimp only at h);go_simp <;>with_reducible rfl) ?_
 simp only [nz]
 refine tk (i:=34) (d:=47) rfl (by kernel_rfl) (fun _ _ _ h=>h) rfl ‹_› (by intro w h;(try dsimp only at h);go_simp <;>with_reducible rfl) ?_
 simp only [nz]
 refine tk (i:=37) (d:=50) rfl (by kernel_rfl) (fun _ _ _ h=>h) rfl ‹_› (by intro w h;(try dsimp only at h);go_simp <;>with_reducible rfl) ?_
 simp only [nz]
 refine tk (i:=38) (d:=51) rfl (by kernel_rfl) (fun _ _ _ h=>h) rfl ‹_› (by intro w h;(try dsimp only at h);go_simp <;>with_reducible rfl) ?_
 simp only [nz]
 refine tk (i:=40) (d:=53) rfl (by kernel_rfl) (fun _ _ _ h=>h) rfl ‹_› (by intro w h;(try dsimp only at h);go_simp <;>with_reducible rfl) ?_
 simp only [nz]
 refine tk (i:=41) (d:=54) rfl (by kernel_rfl) (fun _ _ _ h=>h) rfl ‹_› (by intro w h;(try dsimp only at h);go_simp <;>with_reducible rfl) ?_
 simp only [nz]
 refine tk (i:=44) (d:=57) rfl (by kernel_rfl) (fun _ _ _ h=>h) rfl ‹_› (by intro w h;(try dsimp only at h);go_simp <;>with_reducible rfl) ?_
 simp only [nz]
 refine tk (i:=45) (d:=58) rfl (by kernel_rfl) (fun _ _ _ h=>h) rfl ‹_› (by intro w h;(try dsimp only at h);go_simp <;>with_reducible rfl) ?_
 simp only [nz]
 refine rd (i:=1) (o:=⟨some 14,_,_,_,_,_⟩) (by kernel_rfl) rfl (fun K hK=>?_)
 go_simp
 clear hHeld;have HBold:=HB.size
 refine(fW _ _ _ _ _ _).mono ?_
 rintro e V3 ⟨u3,rfl,ho3,hb3⟩;have hs4:=hb3.size;replace k0:=zC k0 hb3;replace k1:=zC k1 hb3;replace k2:=zC k2 hb3;replace d0:=zC d0 hb3;replace d1:=zC d1 hb3;replace d2:=zC d2 hb3;replace d3:=zC d3 hb3;replace d4:=zC d4 hb3;replace m0:=zC m0 hb3;replace m1:=zC m1 hb3;replace m2:=zC m2 hb3;replace e0:=zC e0 hb3;replace e1:=zC e1 hb3;replace e2:=zC e2 hb3;replace HB:=zT HB hb3;obtain⟨g5,c5,rfl,hg5,hl5⟩:=aK ho3 (by decide)
 have HS1:=aa (aw ho3 (Nat.le_trans HBold zr));clear ho3 HBold;clear hb3
 refine hK.out _ _ ⟨k0,k1,k2,d0,d1,d2,d3,d4,m0,m1,m2,e0,e1,e2⟩ (fun hHeld=>?_)
 clear hK K
 (try simp only [nz])
 refine rd (i:=2) (o:=⟨some 15,_,_,_,_,_⟩) (by kernel_rfl) rfl (fun K hK=>?_)
 go_simp
 clear hHeld;have HBold:=HB.size
 refine(bP _).mono ?_
 rintro e V6 ⟨u6,rfl,ho6,hb6⟩;have hs7:=hb6.size;replace k0:=zC k0 hb6;replace k1:=zC k1 hb6;replace k2:=zC k2 hb6;replace d0:=zC d0 hb6;replace d1:=zC d1 hb6;replace d2:=zC d2 hb6;replace d3:=zC d3 hb6;replace d4:=zC d4 hb6;replace m0:=zC m0 hb6;replace m1:=zC m1 hb6;replace m2:=zC m2 hb6;replace e0:=zC e0 hb6;replace e1:=zC e1 hb6;replace e2:=zC e2 hb6;replace HS1:=zO HS1 hb6;replace HB:=zT HB hb6;obtain⟨g8,c8,rfl,hg8,hl8⟩:=aK ho6 (by decide)
 have HT1:=aa (aw ho6 (Nat.le_trans HBold zr));clear ho6 HBold;clear hb6
 refine hK.out _ _ ⟨k0,k1,k2,d0,d1,d2,d3,d4,m0,m1,m2,e0,e1,e2⟩ (fun hHeld=>?_)
 clear hK K
 (try simp only [nz])
 refine rd (i:=3) (o:=⟨some 16,_,_,_,_,_⟩) (by kernel_rfl) rfl (fun K hK=>?_)
 go_simp
 clear hHeld
 refine ah (fun V9 g9 hV hg=>?_)
 rw [←hg];have hbN:=zB hV;have hg9:V6.heap.size≤g9:=by omega
 have hl9:=zL hV hg;have q0:V9.cell? ⟨g9,0,none⟩=some (.slice (some ⟨g5,0,none⟩) 5 c5):=zN2 hV hg rfl;have q1:V9.cell? ⟨g9,1,none⟩=some (.slice (some ⟨g8,0,none⟩) 2 c8):=zN2 hV hg rfl;have hs10:=hbN.size;replace k0:=zC k0 hbN;replace k1:=zC k1 hbN;replace k2:=zC k2 hbN;replace d0:=zC d0 hbN;replace d1:=zC d1 hbN;replace d2:=zC d2 hbN;replace d3:=zC d3 hbN;replace d4:=zC d4 hbN;replace m0:=zC m0 hbN;replace m1:=zC m1 hbN;replace m2:=zC m2 hbN;replace e0:=zC e0 hbN;replace e1:=zC e1 hbN;replace e2:=zC e2 hbN;replace HS1:=zO HS1 hbN;replace HT1:=zO HT1 hbN;replace HB:=zT HB hbN;clear hV hg hbN
 refine hK.out _ _ ⟨k0,k1,k2,d0,d1,d2,d3,d4,m0,m1,m2,e0,e1,e2⟩ (fun hHeld=>?_)
 clear hK K
 (try simp only [nz])
 refine rd (i:=4) (o:=⟨some 17,_,_,_,_,_⟩) (by kernel_rfl) rfl (fun K hK=>?_)
 go_simp
 clear hHeld;have HBold:=HB.size
 refine(dX [((.slice (some ⟨g5,0,none⟩) 5 c5:Value),5,M (aU x)),((.slice (some ⟨g8,0,none⟩) 2 c8:Value),2,M bp)] g9 2 V9 (fun j hj=>match j,hj with | 0,_=>q0 | 1,_=>q1 | j+2,h=>absurd h (by simp)) (in2 (SrcAt.of_own HS1.out (cU _)) (SrcAt.of_own HT1.out (cU _))) (by exact(show(2:Nat)≤10 by decide)) (by exact(show(2:Nat)≤2 by decide)) (in2 (by exact(show(5:Nat)≤100000 by decide)) (by exact(show(2:Nat)≤100000 by decide)))).mono ?_
 rintro e V11 ⟨u11,rfl,ho11,hb11⟩;have hs12:=hb11.size;replace k0:=zC k0 hb11;replace k1:=zC k1 hb11;replace k2:=zC k2 hb11;replace d0:=zC d0 hb11;replace d1:=zC d1 hb11;replace d2:=zC d2 hb11;replace d3:=zC d3 hb11;replace d4:=zC d4 hb11;replace m0:=zC m0 hb11;replace m1:=zC m1 hb11;replace m2:=zC m2 hb11;replace e0:=zC e0 hb11;replace e1:=zC e1 hb11;replace e2:=zC e2 hb11;replace q0:=zC q0 hb11;replace q1:=zC q1 hb11;replace HS1:=zO HS1 hb11;replace HT1:=zO HT1 hb11;replace HB:=zT HB hb11;obtain⟨g13,c13,rfl,hg13,hl13⟩:=aK (n:=7) ho11 (by decide)
 have HM1:Hid (V11.ownsRow w.heap.size 95 3 (.slice (some ⟨g13,0,none⟩) 7 c13) 7 (M (aU x++bp))):=aa (aw ho11 HBold);clear ho11 HBold HS1 HT1 q0 q1;clear hb11
 refine hK.out _ _ ⟨k0,k1,k2,d0,d1,d2,d3,d4,m0,m1,m2,e0,e1,e2⟩ (fun hHeld=>?_)
 clear hK K
 (try simp only [nz])
 refine rd (i:=6) (o:=⟨some 19,_,_,_,_,_⟩) (by kernel_rfl) rfl (fun K hK=>?_)
 go_simp
 clear hHeld
 refine(aQ _ _ _ _).mono ?_
 rintro e V14 ⟨rfl,hb14⟩;have hs15:=hb14.size;replace k0:=zC k0 hb14;replace k1:=zC k1 hb14;replace k2:=zC k2 hb14;replace d0:=zC d0 hb14;replace d1:=zC d1 hb14;replace d2:=zC d2 hb14;replace d3:=zC d3 hb14;replace d4:=zC d4 hb14;replace m0:=zC m0 hb14;replace m1:=zC m1 hb14;replace m2:=zC m2 hb14;replace e0:=zC e0 hb14;replace e1:=zC e1 hb14;replace e2:=zC e2 hb14;replace HM1:=zO HM1 hb14;replace HB:=zT HB hb14;clear hb14
 refine hK.out _ _ ⟨k0,k1,k2,d0,d1,d2,d3,d4,m0,m1,m2,e0,e1,e2⟩ (fun hHeld=>?_)
 clear hK K
 (try simp only [nz])
 refine rd (i:=7) (o:=⟨some 20,_,_,_,_,_⟩) (by kernel_rfl) rfl (fun K hK=>?_)
 go_simp
 clear hHeld
 refine ah (fun V16 g16 hV hg=>?_)
 rw [←hg];have hbN:=zB hV;have hg16:V14.heap.size≤g16:=by omega
 have hl16:=zL hV hg;have HD1:Hid (V16.ownsRow w.heap.size 98 3 (.slice (some ⟨g16,0,none⟩) 2 2) 2 (D [⟨1,8,x.s⟩,aG 2])):=zW hV hg HB.size (by decide) rfl
 have hs17:=hbN.size;replace k0:=zC k0 hbN;replace k1:=zC k1 hbN;replace k2:=zC k2 hbN;replace d0:=zC d0 hbN;replace d1:=zC d1 hbN;replace d2:=zC d2 hbN;replace d3:=zC d3 hbN;replace d4:=zC d4 hbN;replace m0:=zC m0 hbN;replace m1:=zC m1 hbN;replace m2:=zC m2 hbN;replace e0:=zC e0 hbN;replace e1:=zC e1 hbN;replace e2:=zC e2 hbN;replace HM1:=zO HM1 hbN;replace HB:=zT HB hbN;clear hV hg hbN
 refine hK.out _ _ ⟨k0,k1,k2,d0,d1,d2,d3,d4,m0,m1,m2,e0,e1,e2⟩ (fun hHeld=>?_)
 clear hK K
 (try simp only [nz])
 refine rd (i:=8) (o:=⟨some 21,_,_,_,_,_⟩) (by kernel_rfl) rfl (fun K hK=>?_)
 go_simp
 clear hHeld
 refine(ax _ _ _ _ _ _ _ _ _).mono ?_
 rintro e V18 ⟨rfl,hb18⟩;have hs19:=hb18.size;replace k0:=zC k0 hb18;replace k1:=zC k1 hb18;replace k2:=zC k2 hb18;replace d0:=zC d0 hb18;replace d1:=zC d1 hb18;replace d2:=zC d2 hb18;replace d3:=zC d3 hb18;replace d4:=zC d4 hb18;replace m0:=zC m0 hb18;replace m1:=zC m1 hb18;replace m2:=zC m2 hb18;replace e0:=zC e0 hb18;replace e1:=zC e1 hb18;replace e2:=zC e2 hb18;replace HM1:=zO HM1 hb18;replace HD1:=zO HD1 hb18;replace HB:=zT HB hb18;clear hb18
 refine hK.out _ _ ⟨k0,k1,k2,d0,d1,d2,d3,d4,m0,m1,m2,e0,e1,e2⟩ (fun hHeld=>?_)
 clear hK K
 (try simp only [nz])
 refine rd (i:=10) (o:=⟨some 23,_,_,_,_,_⟩) (by kernel_rfl) rfl (fun K hK=>?_)
 go_simp
 clear hHeld;have HBold:=HB.size
 refine(fW _ _ _ _ _ _).mono ?_
 rintro e V20 ⟨u20,rfl,ho20,hb20⟩;have hs21:=hb20.size;replace k0:=zC k0 hb20;replace k1:=zC k1 hb20;replace k2:=zC k2 hb20;replace d0:=zC d0 hb20;replace d1:=zC d1 hb20;replace d2:=zC d2 hb20;replace d3:=zC d3 hb20;replace d4:=zC d4 hb20;replace m0:=zC m0 hb20;replace m1:=zC m1 hb20;replace m2:=zC m2 hb20;replace e0:=zC e0 hb20;replace e1:=zC e1 hb20;replace e2:=zC e2 hb20;replace HM1:=zO HM1 hb20;replace HD1:=zO HD1 hb20;replace HB:=zT HB hb20;obtain⟨g22,c22,rfl,hg22,hl22⟩:=aK ho20 (by decide)
 have HS2:=aa (aw ho20 (Nat.le_trans HBold zr));clear ho20 HBold;clear hb20
 refine hK.out _ _ ⟨k0,k1,k2,d0,d1,d2,d3,d4,m0,m1,m2,e0,e1,e2⟩ (fun hHeld=>?_)
 clear hK K
 (try simp only [nz])
 refine rd (i:=11) (o:=⟨some 24,_,_,_,_,_⟩) (by kernel_rfl) rfl (fun K hK=>?_)
 go_simp
 clear hHeld;have HBold:=HB.size
 refine(bw _ _).mono ?_
 rintro e V23 ⟨u23,rfl,ho23,hb23⟩;have hs24:=hb23.size;replace k0:=zC k0 hb23;replace k1:=zC k1 hb23;replace k2:=zC k2 hb23;replace d0:=zC d0 hb23;replace d1:=zC d1 hb23;replace d2:=zC d2 hb23;replace d3:=zC d3 hb23;replace d4:=zC d4 hb23;replace m0:=zC m0 hb23;replace m1:=zC m1 hb23;replace m2:=zC m2 hb23;replace e0:=zC e0 hb23;replace e1:=zC e1 hb23;replace e2:=zC e2 hb23;replace HM1:=zO HM1 hb23;replace HD1:=zO HD1 hb23;replace HS2:=zO HS2 hb23;replace HB:=zT HB hb23;obtain⟨g25,c25,rfl,hg25,hl25⟩:=aK ho23 (by decide)
 have HT2:=aa (aw ho23 (Nat.le_trans HBold zr));clear ho23 HBold;clear hb23
 refine hK.out _ _ ⟨k0,k1,k2,d0,d1,d2,d3,d4,m0,m1,m2,e0,e1,e2⟩ (fun hHeld=>?_)
 clear hK K
 (try simp only [nz])
 refine rd (i:=12) (o:=⟨some 25,_,_,_,_,_⟩) (by kernel_rfl) rfl (fun K hK=>?_)
 go_simp
 clear hHeld
 refine ah (fun V26 g26 hV hg=>?_)
 rw [←hg];have hbN:=zB hV;have hg26:V23.heap.size≤g26:=by omega
 have hl26:=zL hV hg;have r0:V26.cell? ⟨g26,0,none⟩=some (.slice (some ⟨g22,0,none⟩) 5 c22):=zN2 hV hg rfl;have r1:V26.cell? ⟨g26,1,none⟩=some (.slice (some ⟨g25,0,none⟩) 3 c25):=zN2 hV hg rfl;have hs27:=hbN.size;replace k0:=zC k0 hbN;replace k1:=zC k1 hbN;replace k2:=zC k2 hbN;replace d0:=zC d0 hbN;replace d1:=zC d1 hbN;replace d2:=zC d2 hbN;replace d3:=zC d3 hbN;replace d4:=zC d4 hbN;replace m0:=zC m0 hbN;replace m1:=zC m1 hbN;replace m2:=zC m2 hbN;replace e0:=zC e0 hbN;replace e1:=zC e1 hbN;replace e2:=zC e2 hbN;replace HM1:=zO HM1 hbN;replace HD1:=zO HD1 hbN;replace HS2:=zO HS2 hbN;replace HT2:=zO HT2 hbN;replace HB:=zT HB hbN;clear hV hg hbN
 refine hK.out _ _ ⟨k0,k1,k2,d0,d1,d2,d3,d4,m0,m1,m2,e0,e1,e2⟩ (fun hHeld=>?_)
 clear hK K
 (try simp only [nz])
 refine rd (i:=13) (o:=⟨some 26,_,_,_,_,_⟩) (by kernel_rfl) rfl (fun K hK=>?_)
 go_simp
 clear hHeld;have HBold:=HB.size
 refine(dX [((.slice (some ⟨g22,0,none⟩) 5 c22:Value),5,M (aU x)),((.slice (some ⟨g25,0,none⟩) 3 c25:Value),3,M (bB 1))] g26 2 V26 (fun j hj=>match j,hj with | 0,_=>r0 | 1,_=>r1 | j+2,h=>absurd h (by simp)) (in2 (SrcAt.of_own HS2.out (cU _)) (SrcAt.of_own HT2.out (cU _))) (by exact(show(2:Nat)≤10 by decide)) (by exact(show(2:Nat)≤2 by decide)) (in2 (by exact(show(5:Nat)≤100000 by decide)) (by exact(show(3:Nat)≤100000 by decide)))).mono ?_
 rintro e V28 ⟨u28,rfl,ho28,hb28⟩;have hs29:=hb28.size;replace k0:=zC k0 hb28;replace k1:=zC k1 hb28;replace k2:=zC k2 hb28;replace d0:=zC d0 hb28;replace d1:=zC d1 hb28;replace d2:=zC d2 hb28;replace d3:=zC d3 hb28;replace d4:=zC d4 hb28;replace m0:=zC m0 hb28;replace m1:=zC m1 hb28;replace m2:=zC m2 hb28;replace e0:=zC e0 hb28;replace e1:=zC e1 hb28;replace e2:=zC e2 hb28;replace r0:=zC r0 hb28;replace r1:=zC r1 hb28;replace HM1:=zO HM1 hb28;replace HD1:=zO HD1 hb28;replace HS2:=zO HS2 hb28;replace HT2:=zO HT2 hb28;replace HB:=zT HB hb28;obtain⟨g30,c30,rfl,hg30,hl30⟩:=aK (n:=8) ho28 (by decide)
 have HM2:Hid (V28.ownsRow w.heap.size 95 3 (.slice (some ⟨g30,0,none⟩) 8 c30) 8 (M (aU x++bB 1))):=aa (aw ho28 HBold);clear ho28 HBold HS2 HT2 r0 r1;clear hb28
 refine hK.out _ _ ⟨k0,k1,k2,d0,d1,d2,d3,d4,m0,m1,m2,e0,e1,e2⟩ (fun hHeld=>?_)
 clear hK K
 (try simp only [nz])
 refine rd (i:=15) (o:=⟨some 28,_,_,_,_,_⟩) (by kernel_rfl) rfl (fun K hK=>?_)
 go_simp
 clear hHeld
 refine(aQ _ _ _ _).mono ?_
 rintro e V31 ⟨rfl,hb31⟩;have hs32:=hb31.size;replace k0:=zC k0 hb31;replace k1:=zC k1 hb31;replace k2:=zC k2 hb31;replace d0:=zC d0 hb31;replace d1:=zC d1 hb31;replace d2:=zC d2 hb31;replace d3:=zC d3 hb31;replace d4:=zC d4 hb31;replace m0:=zC m0 hb31;replace m1:=zC m1 hb31;replace m2:=zC m2 hb31;replace e0:=zC e0 hb31;replace e1:=zC e1 hb31;replace e2:=zC e2 hb31;replace HM1:=zO HM1 hb31;replace HD1:=zO HD1 hb31;replace HM2:=zO HM2 hb31;replace HB:=zT HB hb31;clear hb31
 refine hK.out _ _ ⟨k0,k1,k2,d0,d1,d2,d3,d4,m0,m1,m2,e0,e1,e2⟩ (fun hHeld=>?_)
 clear hK K
 (try simp only [nz])
 refine rd (i:=16) (o:=⟨some 29,_,_,_,_,_⟩) (by kernel_rfl) rfl (fun K hK=>?_)
 go_simp
 clear hHeld
 refine ah (fun V33 g33 hV hg=>?_)
 rw [←hg];have hbN:=zB hV;have hg33:V31.heap.size≤g33:=by omega
 have hl33:=zL hV hg;have HD2:Hid (V33.ownsRow w.heap.size 98 3 (.slice (some ⟨g33,0,none⟩) 2 2) 2 (D [⟨1,8,x.s⟩,aG 1])):=zW hV hg HB.size (by decide) rfl
 have hs34:=hbN.size;replace k0:=zC k0 hbN;replace k1:=zC k1 hbN;replace k2:=zC k2 hbN;replace d0:=zC d0 hbN;replace d1:=zC d1 hbN;replace d2:=zC d2 hbN;replace d3:=zC d3 hbN;replace d4:=zC d4 hbN;replace m0:=zC m0 hbN;replace m1:=zC m1 hbN;replace m2:=zC m2 hbN;replace e0:=zC e0 hbN;replace e1:=zC e1 hbN;replace e2:=zC e2 hbN;replace HM1:=zO HM1 hbN;replace HD1:=zO HD1 hbN;replace HM2:=zO HM2 hbN;replace HB:=zT HB hbN;clear hV hg hbN
 refine hK.out _ _ ⟨k0,k1,k2,d0,d1,d2,d3,d4,m0,m1,m2,e0,e1,e2⟩ (fun hHeld=>?_)
 clear hK K
 (try simp only [nz])
 refine rd (i:=17) (o:=⟨some 30,_,_,_,_,_⟩) (by kernel_rfl) rfl (fun K hK=>?_)
 go_simp
 clear hHeld
 refine(ax _ _ _ _ _ _ _ _ _).mono ?_
 rintro e V35 ⟨rfl,hb35⟩;have hs36:=hb35.size;replace k0:=zC k0 hb35;replace k1:=zC k1 hb35;replace k2:=zC k2 hb35;replace d0:=zC d0 hb35;replace d1:=zC d1 hb35;replace d2:=zC d2 hb35;replace d3:=zC d3 hb35;replace d4:=zC d4 hb35;replace m0:=zC m0 hb35;replace m1:=zC m1 hb35;replace m2:=zC m2 hb35;replace e0:=zC e0 hb35;replace e1:=zC e1 hb35;replace e2:=zC e2 hb35;replace HM1:=zO HM1 hb35;replace HD1:=zO HD1 hb35;replace HM2:=zO HM2 hb35;replace HD2:=zO HD2 hb35;replace HB:=zT HB hb35;clear hb35
 refine hK.out _ _ ⟨k0,k1,k2,d0,d1,d2,d3,d4,m0,m1,m2,e0,e1,e2⟩ (fun hHeld=>?_)
 clear hK K
 (try simp only [nz])
 refine rd (i:=21) (o:=⟨some 34,_,_,_,_,_⟩) (by kernel_rfl) rfl (fun K hK=>?_)
 go_simp
 clear hHeld
 refine(bk _ _ _).mono ?_
 rintro e V37 ⟨rfl,hb37⟩;have hs38:=hb37.size;replace k0:=zC k0 hb37;replace k1:=zC k1 hb37;replace k2:=zC k2 hb37;replace d0:=zC d0 hb37;replace d1:=zC d1 hb37;replace d2:=zC d2 hb37;replace d3:=zC d3 hb37;replace d4:=zC d4 hb37;replace m0:=zC m0 hb37;replace m1:=zC m1 hb37;replace m2:=zC m2 hb37;replace e0:=zC e0 hb37;replace e1:=zC e1 hb37;replace e2:=zC e2 hb37;replace HM1:=zO HM1 hb37;replace HD1:=zO HD1 hb37;replace HM2:=zO HM2 hb37;replace HD2:=zO HD2 hb37;replace HB:=zT HB hb37;clear hb37
 refine hK.out _ _ ⟨k0,k1,k2,d0,d1,d2,d3,d4,m0,m1,m2,e0,e1,e2⟩ (fun hHeld=>?_)
 clear hK K
 (try simp only [nz])
 refine rd (i:=22) (o:=⟨some 35,_,_,_,_,_⟩) (by kernel_rfl) rfl (fun K hK=>?_)
 go_simp
 clear hHeld
 refine ah (fun V39 g39 hV hg=>?_)
 rw [←hg];have hbN:=zB hV;have hg39:V37.heap.size≤g39:=by omega
 have hl39:=zL hV hg;have HM3:Hid (V39.ownsRow w.heap.size 95 3 (.slice (some ⟨g39,0,none⟩) 2 2) 2 (M [isM 0 x.i,isM 5 x.p])):=zW hV hg HB.size (by decide) rfl
 have hs40:=hbN.size;replace k0:=zC k0 hbN;replace k1:=zC k1 hbN;replace k2:=zC k2 hbN;replace d0:=zC d0 hbN;replace d1:=zC d1 hbN;replace d2:=zC d2 hbN;replace d3:=zC d3 hbN;replace d4:=zC d4 hbN;replace m0:=zC m0 hbN;replace m1:=zC m1 hbN;replace m2:=zC m2 hbN;replace e0:=zC e0 hbN;replace e1:=zC e1 hbN;replace e2:=zC e2 hbN;replace HM1:=zO HM1 hbN;replace HD1:=zO HD1 hbN;replace HM2:=zO HM2 hbN;replace HD2:=zO HD2 hbN;replace HB:=zT HB hbN;clear hV hg hbN
 refine hK.out _ _ ⟨k0,k1,k2,d0,d1,d2,d3,d4,m0,m1,m2,e0,e1,e2⟩ (fun hHeld=>?_)
 clear hK K
 (try simp only [nz])
 refine rd (i:=23) (o:=⟨some 36,_,_,_,_,_⟩) (by kernel_rfl) rfl (fun K hK=>?_)
 go_simp
 clear hHeld
 refine(ax _ _ _ _ _ _ _ _ _).mono ?_
 rintro e V41 ⟨rfl,hb41⟩;have hs42:=hb41.size;replace k0:=zC k0 hb41;replace k1:=zC k1 hb41;replace k2:=zC k2 hb41;replace d0:=zC d0 hb41;replace d1:=zC d1 hb41;replace d2:=zC d2 hb41;replace d3:=zC d3 hb41;replace d4:=zC d4 hb41;replace m0:=zC m0 hb41;replace m1:=zC m1 hb41;replace m2:=zC m2 hb41;replace e0:=zC e0 hb41;replace e1:=zC e1 hb41;replace e2:=zC e2 hb41;replace HM1:=zO HM1 hb41;replace HD1:=zO HD1 hb41;replace HM2:=zO HM2 hb41;replace HD2:=zO HD2 hb41;replace HM3:=zO HM3 hb41;replace HB:=zT HB hb41;clear hb41
 refine hK.out _ _ ⟨k0,k1,k2,d0,d1,d2,d3,d4,m0,m1,m2,e0,e1,e2⟩ (fun hHeld=>?_)
 clear hK K
 (try simp only [nz])
 refine rd (i:=27) (o:=⟨some 40,_,_,_,_,_⟩) (by kernel_rfl) rfl (fun K hK=>?_)
 go_simp
 clear hHeld
 refine(bk _ _ _).mono ?_
 rintro e V43 ⟨rfl,hb43⟩;have hs44:=hb43.size;replace k0:=zC k0 hb43;replace k1:=zC k1 hb43;replace k2:=zC k2 hb43;replace d0:=zC d0 hb43;replace d1:=zC d1 hb43;replace d2:=zC d2 hb43;replace d3:=zC d3 hb43;replace d4:=zC d4 hb43;replace m0:=zC m0 hb43;replace m1:=zC m1 hb43;replace m2:=zC m2 hb43;replace e0:=zC e0 hb43;replace e1:=zC e1 hb43;replace e2:=zC e2 hb43;replace HM1:=zO HM1 hb43;replace HD1:=zO HD1 hb43;replace HM2:=zO HM2 hb43;replace HD2:=zO HD2 hb43;replace HM3:=zO HM3 hb43;replace HB:=zT HB hb43;clear hb43
 refine hK.out _ _ ⟨k0,k1,k2,d0,d1,d2,d3,d4,m0,m1,m2,e0,e1,e2⟩ (fun hHeld=>?_)
 clear hK K
 (try simp only [nz])
 refine rd (i:=28) (o:=⟨some 41,_,_,_,_,_⟩) (by kernel_rfl) rfl (fun K hK=>?_)
 go_simp
 clear hHeld
 refine ah (fun V45 g45 hV hg=>?_)
 rw [←hg];have hbN:=zB hV;have hg45:V43.heap.size≤g45:=by omega
 have hl45:=zL hV hg;have HM4:Hid (V45.ownsRow w.heap.size 95 3 (.slice (some ⟨g45,0,none⟩) 2 2) 2 (M [isM 0 x.i,isM 1 x.m])):=zW hV hg HB.size (by decide) rfl
 have hs46:=hbN.size;replace k0:=zC k0 hbN;replace k1:=zC k1 hbN;replace k2:=zC k2 hbN;replace d0:=zC d0 hbN;replace d1:=zC d1 hbN;replace d2:=zC d2 hbN;replace d3:=zC d3 hbN;replace d4:=zC d4 hbN;replace m0:=zC m0 hbN;replace m1:=zC m1 hbN;replace m2:=zC m2 hbN;replace e0:=zC e0 hbN;replace e1:=zC e1 hbN;replace e2:=zC e2 hbN;replace HM1:=zO HM1 hbN;replace HD1:=zO HD1 hbN;replace HM2:=zO HM2 hbN;replace HD2:=zO HD2 hbN;replace HM3:=zO HM3 hbN;replace HB:=zT HB hbN;clear hV hg hbN
 refine hK.out _ _ ⟨k0,k1,k2,d0,d1,d2,d3,d4,m0,m1,m2,e0,e1,e2⟩ (fun hHeld=>?_)
 clear hK K
 (try simp only [nz])
 refine rd (i:=29) (o:=⟨some 42,_,_,_,_,_⟩) (by kernel_rfl) rfl (fun K hK=>?_)
 go_simp
 clear hHeld
 refine(ax _ _ _ _ _ _ _ _ _).mono ?_
 rintro e V47 ⟨rfl,hb47⟩;have hs48:=hb47.size;replace k0:=zC k0 hb47;replace k1:=zC k1 hb47;replace k2:=zC k2 hb47;replace d0:=zC d0 hb47;replace d1:=zC d1 hb47;replace d2:=zC d2 hb47;replace d3:=zC d3 hb47;replace d4:=zC d4 hb47;replace m0:=zC m0 hb47;replace m1:=zC m1 hb47;replace m2:=zC m2 hb47;replace e0:=zC e0 hb47;replace e1:=zC e1 hb47;replace e2:=zC e2 hb47;replace HM1:=zO HM1 hb47;replace HD1:=zO HD1 hb47;replace HM2:=zO HM2 hb47;replace HD2:=zO HD2 hb47;replace HM3:=zO HM3 hb47;replace HM4:=zO HM4 hb47;replace HB:=zT HB hb47;clear hb47
 refine hK.out _ _ ⟨k0,k1,k2,d0,d1,d2,d3,d4,m0,m1,m2,e0,e1,e2⟩ (fun hHeld=>?_)
 clear hK K
 (try simp only [nz])
 refine rd (i:=31) (o:=⟨some 44,_,_,_,_,_⟩) (by kernel_rfl) rfl (fun K hK=>?_)
 go_simp
 clear hHeld
 refine(bk _ _ _).mono ?_
 rintro e V49 ⟨rfl,hb49⟩;have hs50:=hb49.size;replace k0:=zC k0 hb49;replace k1:=zC k1 hb49;replace k2:=zC k2 hb49;replace d0:=zC d0 hb49;replace d1:=zC d1 hb49;replace d2:=zC d2 hb49;replace d3:=zC d3 hb49;replace d4:=zC d4 hb49;replace m0:=zC m0 hb49;replace m1:=zC m1 hb49;replace m2:=zC m2 hb49;replace e0:=zC e0 hb49;replace e1:=zC e1 hb49;replace e2:=zC e2 hb49;replace HM1:=zO HM1 hb49;replace HD1:=zO HD1 hb49;replace HM2:=zO HM2 hb49;replace HD2:=zO HD2 hb49;replace HM3:=zO HM3 hb49;replace HM4:=zO HM4 hb49;replace HB:=zT HB hb49;clear hb49
 refine hK.out _ _ ⟨k0,k1,k2,d0,d1,d2,d3,d4,m0,m1,m2,e0,e1,e2⟩ (fun hHeld=>?_)
 clear hK K
 (try simp only [nz])
 refine wpAnyH_ready (rs:=[32,35]) (by kernel_rfl) (by simp) ?_
 refine(AllReadyH.cons (o:=⟨some 45,_,_,_,_,_⟩) rfl (fun K hK=>?_) (AllReadyH.cons (o:=⟨some 48,_,_,_,_,_⟩) rfl (fun K hK=>?_) AllReadyH.nil))
 ·go_simp
  clear hHeld
  refine ah (fun V51 g51 hV hg=>?_)
  rw [←hg];have hbN:=zB hV;have hg51:V49.heap.size≤g51:=by omega
  have hl51:=zL hV hg;have HM5:Hid (V51.ownsRow w.heap.size 95 3 (.slice (some ⟨g51,0,none⟩) 2 2) 2 (M [isM 0 x.i,isM 1 65535])):=zW hV hg HB.size (by decide) rfl
  have hs52:=hbN.size;replace k0:=zC k0 hbN;replace k1:=zC k1 hbN;replace k2:=zC k2 hbN;replace d0:=zC d0 hbN;replace d1:=zC d1 hbN;replace d2:=zC d2 hbN;replace d3:=zC d3 hbN;replace d4:=zC d4 hbN;replace m0:=zC m0 hbN;replace m1:=zC m1 hbN;replace m2:=zC m2 hbN;replace e0:=zC e0 hbN;replace e1:=zC e1 hbN;replace e2:=zC e2 hbN;replace HM1:=zO HM1 hbN;replace HD1:=zO HD1 hbN;replace HM2:=zO HM2 hbN;replace HD2:=zO HD2 hbN;replace HM3:=zO HM3 hbN;replace HM4:=zO HM4 hbN;replace HB:=zT HB hbN;clear hV hg hbN
  refine hK.out _ _ ⟨k0,k1,k2,d0,d1,d2,d3,d4,m0,m1,m2,e0,e1,e2⟩ (fun hHeld=>?_)
  clear hK K
  (try simp only [nz])
  refine rd (i:=35) (o:=⟨some 48,_,_,_,_,_⟩) (by kernel_rfl) rfl (fun K hK=>?_)
  go_simp
  clear hHeld;have HBold:=HB.size
  refine(iS S P A s1 p1 a1 s2 p2 a2 x _ (HC.out.below HB zr) hl).mono ?_
  rintro e V53 ⟨u,rfl,ho5,hb53⟩;have hs54:=hb53.size;replace k0:=zC k0 hb53;replace k1:=zC k1 hb53;replace k2:=zC k2 hb53;replace d0:=zC d0 hb53;replace d1:=zC d1 hb53;replace d2:=zC d2 hb53;replace d3:=zC d3 hb53;replace d4:=zC d4 hb53;replace m0:=zC m0 hb53;replace m1:=zC m1 hb53;replace m2:=zC m2 hb53;replace e0:=zC e0 hb53;replace e1:=zC e1 hb53;replace e2:=zC e2 hb53;replace HM1:=zO HM1 hb53;replace HD1:=zO HD1 hb53;replace HM2:=zO HM2 hb53;replace HD2:=zO HD2 hb53;replace HM3:=zO HM3 hb53;replace HM4:=zO HM4 hb53;replace HM5:=zO HM5 hb53;replace HB:=zT HB hb53;obtain⟨N5,hN5⟩:∃N,N=((P.filter (be x)).flatMap ar).length:=⟨_,rfl⟩;rw [←hN5]at ho5;have HN5:=aa hN5;clear hN5;obtain⟨oo5,oc5,rfl⟩:=aD ho5;have HD5:=aa (aw ho5 HBold);clear ho5 HBold;clear hb53
  refine hK.out _ _ ⟨k0,k1,k2,d0,d1,d2,d3,d4,m0,m1,m2,e0,e1,e2⟩ (fun hHeld=>?_)
  clear hK K
  (try simp only [nz])
  refine rd (i:=36) (o:=⟨some 49,_,_,_,_,_⟩) (by kernel_rfl) rfl (fun K hK=>?_)
  go_simp
  clear hHeld
  refine(ax _ _ _ _ _ _ _ _ _).mono ?_
  rintro e V55 ⟨rfl,hb55⟩;have hs56:=hb55.size;replace k0:=zC k0 hb55;replace k1:=zC k1 hb55;replace k2:=zC k2 hb55;replace d0:=zC d0 hb55;replace d1:=zC d1 hb55;replace d2:=zC d2 hb55;replace d3:=zC d3 hb55;replace d4:=zC d4 hb55;replace m0:=zC m0 hb55;replace m1:=zC m1 hb55;replace m2:=zC m2 hb55;replace e0:=zC e0 hb55;replace e1:=zC e1 hb55;replace e2:=zC e2 hb55;replace HM1:=zO HM1 hb55;replace HD1:=zO HD1 hb55;replace HM2:=zO HM2 hb55;replace HD2:=zO HD2 hb55;replace HM3:=zO HM3 hb55;replace HM4:=zO HM4 hb55;replace HM5:=zO HM5 hb55;replace HD5:=zO HD5 hb55;replace HB:=zT HB hb55;clear hb55
  refine hK.out _ _ ⟨k0,k1,k2,d0,d1,d2,d3,d4,m0,m1,m2,e0,e1,e2⟩ (fun hHeld=>?_)
  clear hK K
  (try simp only [nz])
  refine rd (i:=39) (o:=⟨some 52,_,_,_,_,_⟩) (by kernel_rfl) rfl (fun K hK=>?_)
  go_simp
  clear hHeld
  refine(bk _ _ _).mono ?_
  rintro e V57 ⟨rfl,hb57⟩;have hs58:=hb57.size;replace k0:=zC k0 hb57;replace k1:=zC k1 hb57;replace k2:=zC k2 hb57;replace d0:=zC d0 hb57;replace d1:=zC d1 hb57;replace d2:=zC d2 hb57;replace d3:=zC d3 hb57;replace d4:=zC d4 hb57;replace m0:=zC m0 hb57;replace m1:=zC m1 hb57;replace m2:=zC m2 hb57;replace e0:=zC e0 hb57;replace e1:=zC e1 hb57;replace e2:=zC e2 hb57;replace HM1:=zO HM1 hb57;replace HD1:=zO HD1 hb57;replace HM2:=zO HM2 hb57;replace HD2:=zO HD2 hb57;replace HM3:=zO HM3 hb57;replace HM4:=zO HM4 hb57;replace HM5:=zO HM5 hb57;replace HD5:=zO HD5 hb57;replace HB:=zT HB hb57;clear hb57
  refine hK.out _ _ ⟨k0,k1,k2,d0,d1,d2,d3,d4,m0,m1,m2,e0,e1,e2⟩ (fun hHeld=>?_)
  clear hK K
  (try simp only [nz])
  refine rd (i:=42) (o:=⟨some 55,_,_,_,_,_⟩) (by kernel_rfl) rfl (fun K hK=>?_)
  go_simp
  clear hHeld
  refine(bk _ _ _).mono ?_
  rintro e V59 ⟨rfl,hb59⟩;have hs60:=hb59.size;replace k0:=zC k0 hb59;replace k1:=zC k1 hb59;replace k2:=zC k2 hb59;replace d0:=zC d0 hb59;replace d1:=zC d1 hb59;replace d2:=zC d2 hb59;replace d3:=zC d3 hb59;replace d4:=zC d4 hb59;replace m0:=zC m0 hb59;replace m1:=zC m1 hb59;replace m2:=zC m2 hb59;replace e0:=zC e0 hb59;replace e1:=zC e1 hb59;replace e2:=zC e2 hb59;replace HM1:=zO HM1 hb59;replace HD1:=zO HD1 hb59;replace HM2:=zO HM2 hb59;replace HD2:=zO HD2 hb59;replace HM3:=zO HM3 hb59;replace HM4:=zO HM4 hb59;replace HM5:=zO HM5 hb59;replace HD5:=zO HD5 hb59;replace HB:=zT HB hb59;clear hb59
  refine hK.out _ _ ⟨k0,k1,k2,d0,d1,d2,d3,d4,m0,m1,m2,e0,e1,e2⟩ (fun hHeld=>?_)
  clear hK K
  (try simp only [nz])
  refine wpAnyH_ready (rs:=[43,46]) (by kernel_rfl) (by simp) ?_
  refine(AllReadyH.cons (o:=⟨some 56,_,_,_,_,_⟩) rfl (fun K hK=>?_) (AllReadyH.cons (o:=⟨some 59,_,_,_,_,_⟩) rfl (fun K hK=>?_) AllReadyH.nil))
  ·go_simp
   clear hHeld
   refine ah (fun V61 g61 hV hg=>?_)
   rw [←hg];have hbN:=zB hV;have hg61:V59.heap.size≤g61:=by omega
   have hl61:=zL hV hg;have HM6:Hid (V61.ownsRow w.heap.size 95 3 (.slice (some ⟨g61,0,none⟩) 2 2) 2 (M [isM 8 x.s,isM 9 x.i])):=zW hV hg HB.size (by decide) rfl
   have hs62:=hbN.size;replace k0:=zC k0 hbN;replace k1:=zC k1 hbN;replace k2:=zC k2 hbN;replace d0:=zC d0 hbN;replace d1:=zC d1 hbN;replace d2:=zC d2 hbN;replace d3:=zC d3 hbN;replace d4:=zC d4 hbN;replace m0:=zC m0 hbN;replace m1:=zC m1 hbN;replace m2:=zC m2 hbN;replace e0:=zC e0 hbN;replace e1:=zC e1 hbN;replace e2:=zC e2 hbN;replace HM1:=zO HM1 hbN;replace HD1:=zO HD1 hbN;replace HM2:=zO HM2 hbN;replace HD2:=zO HD2 hbN;replace HM3:=zO HM3 hbN;replace HM4:=zO HM4 hbN;replace HM5:=zO HM5 hbN;replace HD5:=zO HD5 hbN;replace HB:=zT HB hbN;clear hV hg hbN
   refine hK.out _ _ ⟨k0,k1,k2,d0,d1,d2,d3,d4,m0,m1,m2,e0,e1,e2⟩ (fun hHeld=>?_)
   clear hK K
   (try simp only [nz])
   refine rd (i:=46) (o:=⟨some 59,_,_,_,_,_⟩) (by kernel_rfl) rfl (fun K hK=>?_)
   go_simp
   clear hHeld
   refine(aQ _ _ _ _).mono ?_
   rintro e V63 ⟨rfl,hb63⟩;have hs64:=hb63.size;replace k0:=zC k0 hb63;replace k1:=zC k1 hb63;replace k2:=zC k2 hb63;replace d0:=zC d0 hb63;replace d1:=zC d1 hb63;replace d2:=zC d2 hb63;replace d3:=zC d3 hb63;replace d4:=zC d4 hb63;replace m0:=zC m0 hb63;replace m1:=zC m1 hb63;replace m2:=zC m2 hb63;replace e0:=zC e0 hb63;replace e1:=zC e1 hb63;replace e2:=zC e2 hb63;replace HM1:=zO HM1 hb63;replace HD1:=zO HD1 hb63;replace HM2:=zO HM2 hb63;replace HD2:=zO HD2 hb63;replace HM3:=zO HM3 hb63;replace HM4:=zO HM4 hb63;replace HM5:=zO HM5 hb63;replace HD5:=zO HD5 hb63;replace HM6:=zO HM6 hb63;replace HB:=zT HB hb63;clear hb63
   refine hK.out _ _ ⟨k0,k1,k2,d0,d1,d2,d3,d4,m0,m1,m2,e0,e1,e2⟩ (fun hHeld=>?_)
   clear hK K
   (try simp only [nz])
   refine rd (i:=47) (o:=⟨some 60,_,_,_,_,_⟩) (by kernel_rfl) rfl (fun K hK=>?_)
   go_simp
   clear hHeld
   refine ah (fun V65 g65 hV hg=>?_)
   rw [←hg];have hbN:=zB hV;have hg65:V63.heap.size≤g65:=by omega
   have hl65:=zL hV hg;have HD6:Hid (V65.ownsRow w.heap.size 98 3 (.slice (some ⟨g65,0,none⟩) 1 1) 1 (D [⟨5,0,x.i⟩])):=zW hV hg HB.size (by decide) rfl
   have hs66:=hbN.size;replace k0:=zC k0 hbN;replace k1:=zC k1 hbN;replace k2:=zC k2 hbN;replace d0:=zC d0 hbN;replace d1:=zC d1 hbN;replace d2:=zC d2 hbN;replace d3:=zC d3 hbN;replace d4:=zC d4 hbN;replace m0:=zC m0 hbN;replace m1:=zC m1 hbN;replace m2:=zC m2 hbN;replace e0:=zC e0 hbN;replace e1:=zC e1 hbN;replace e2:=zC e2 hbN;replace HM1:=zO HM1 hbN;replace HD1:=zO HD1 hbN;replace HM2:=zO HM2 hbN;replace HD2:=zO HD2 hbN;replace HM3:=zO HM3 hbN;replace HM4:=zO HM4 hbN;replace HM5:=zO HM5 hbN;replace HD5:=zO HD5 hbN;replace HM6:=zO HM6 hbN;replace HB:=zT HB hbN;clear hV hg hbN
   refine hK.out _ _ ⟨k0,k1,k2,d0,d1,d2,d3,d4,m0,m1,m2,e0,e1,e2⟩ (fun hHeld=>?_)
   clear hK K
   (try simp only [nz])
   refine rd (i:=48) (o:=⟨some 61,_,_,_,_,_⟩) (by kernel_rfl) rfl (fun K hK=>?_)
   go_simp
   clear hHeld
   refine(ax _ _ _ _ _ _ _ _ _).mono ?_
   rintro e V67 ⟨rfl,hb67⟩;have hs68:=hb67.size;replace k0:=zC k0 hb67;replace k1:=zC k1 hb67;replace k2:=zC k2 hb67;replace d0:=zC d0 hb67;replace d1:=zC d1 hb67;replace d2:=zC d2 hb67;replace d3:=zC d3 hb67;replace d4:=zC d4 hb67;replace m0:=zC m0 hb67;replace m1:=zC m1 hb67;replace m2:=zC m2 hb67;replace e0:=zC e0 hb67;replace e1:=zC e1 hb67;replace e2:=zC e2 hb67;replace HM1:=zO HM1 hb67;replace HD1:=zO HD1 hb67;replace HM2:=zO HM2 hb67;replace HD2:=zO HD2 hb67;replace HM3:=zO HM3 hb67;replace HM4:=zO HM4 hb67;replace HM5:=zO HM5 hb67;replace HD5:=zO HD5 hb67;replace HM6:=zO HM6 hb67;replace HD6:=zO HD6 hb67;replace HB:=zT HB hb67;clear hb67
   refine hK.out _ _ ⟨k0,k1,k2,d0,d1,d2,d3,d4,m0,m1,m2,e0,e1,e2⟩ (fun hHeld=>?_)
   clear hK K
   (try simp only [nz])
   refine rd (i:=49) (o:=⟨some 62,_,_,_,_,_⟩) (by kernel_rfl) rfl (fun K hK=>?_)
   go_simp
   clear hHeld
   refine ah (fun V69 g69 hV hg=>?_)
   rw [←hg];have hbN:=zB hV;have hg69:V67.heap.size≤g69:=by omega
   have hl69:=zL hV hg;have HF:Hid (FR V69 w.heap.size (.slice (some ⟨g69,0,none⟩) 6 6) (bj P x)):=by
    rw [hV,hg]
    refine aa (FR.lit (lo:=[⟨⟨0,0,aU x++bp,[⟨1,8,x.s⟩,aG 2]⟩,.slice (some ⟨g13,0,none⟩) 7 c13,.slice (some ⟨g16,0,none⟩) 2 2⟩,⟨⟨0,0,aU x++bB 1,[⟨1,8,x.s⟩,aG 1]⟩,.slice (some ⟨g30,0,none⟩) 8 c30,.slice (some ⟨g33,0,none⟩) 2 2⟩,⟨⟨1,1,[isM 0 x.i,isM 5 x.p],[]⟩,.slice (some ⟨g39,0,none⟩) 2 2,.slice none 0 0⟩,⟨⟨3,1,[isM 0 x.i,isM 1 x.m],[]⟩,.slice (some ⟨g45,0,none⟩) 2 2,.slice none 0 0⟩,⟨⟨3,0,[isM 0 x.i,isM 1 65535],(P.filter (be x)).flatMap ar⟩,.slice (some ⟨g51,0,none⟩) 2 2,.slice oo5 N5 oc5⟩,⟨⟨5,0,[isM 8 x.s,isM 9 x.i],[⟨5,0,x.i⟩]⟩,.slice (some ⟨g61,0,none⟩) 2 2,.slice (some ⟨g65,0,none⟩) 1 1⟩]) rfl rfl HB.size (by decide) (fun x hx=>?_))
    simp only [List.mem_cons,List.not_mem_nil,or_false]at hx
    rcases hx with rfl | rfl | rfl | rfl | rfl | rfl
    ·exact aT HM1.out HD1.out (by simp [Value.ownBlock])
    ·exact aT HM2.out HD2.out (by simp [Value.ownBlock])
    ·exact aT HM3.out (World.ownsRow_nil _ _ _ _) (by simp [Value.ownBlock])
    ·exact aT HM4.out (World.ownsRow_nil _ _ _ _) (by simp [Value.ownBlock])
    ·exact aT HM5.out (by rw [←HN5.out];exact HD5.out) (by simp [Value.ownBlock])
    ·exact aT HM6.out HD6.out (by simp [Value.ownBlock])
   have hs70:=hbN.size;replace k0:=zC k0 hbN;replace k1:=zC k1 hbN;replace k2:=zC k2 hbN;replace d0:=zC d0 hbN;replace d1:=zC d1 hbN;replace d2:=zC d2 hbN;replace d3:=zC d3 hbN;replace d4:=zC d4 hbN;replace m0:=zC m0 hbN;replace m1:=zC m1 hbN;replace m2:=zC m2 hbN;replace e0:=zC e0 hbN;replace e1:=zC e1 hbN;replace e2:=zC e2 hbN;replace HM1:=zO HM1 hbN;replace HD1:=zO HD1 hbN;replace HM2:=zO HM2 hbN;replace HD2:=zO HD2 hbN;replace HM3:=zO HM3 hbN;replace HM4:=zO HM4 hbN;replace HM5:=zO HM5 hbN;replace HD5:=zO HD5 hbN;replace HM6:=zO HM6 hbN;replace HD6:=zO HD6 hbN;replace HB:=zT HB hbN;clear hV hg hbN
   refine hK.out _ _ ⟨k0,k1,k2,d0,d1,d2,d3,d4,m0,m1,m2,e0,e1,e2⟩ (fun hHeld=>?_)
   clear hK K
   (try simp only [nz])
   refine tk (i:=50) (d:=4) rfl (by kernel_rfl) (fun _ _ _ h=>h) rfl ‹_› (by intro w h;(try dsimp only at h);go_simp <;>with_reducible rfl) ?_
   simp only [nz]
   refine wpAnyH_done (by kernel_rfl) ?_ _
   clear hHeld
   go_wp2_with fail
   go_ret
   exact⟨_,rfl,HF.out,HB⟩
  ·go_simp
   clear hHeld
   refine(aQ _ _ _ _).mono ?_
   rintro e V61 ⟨rfl,hb61⟩;have hs62:=hb61.size;replace k0:=zC k0 hb61;replace k1:=zC k1 hb61;replace k2:=zC k2 hb61;replace d0:=zC d0 hb61;replace d1:=zC d1 hb61;replace d2:=zC d2 hb61;replace d3:=zC d3 hb61;replace d4:=zC d4 hb61;replace m0:=zC m0 hb61;replace m1:=zC m1 hb61;replace m2:=zC m2 hb61;replace e0:=zC e0 hb61;replace e1:=zC e1 hb61;replace e2:=zC e2 hb61;replace HM1:=zO HM1 hb61;replace HD1:=zO HD1 hb61;replace HM2:=zO HM2 hb61;replace HD2:=zO HD2 hb61;replace HM3:=zO HM3 hb61;replace HM4:=zO HM4 hb61;replace HM5:=zO HM5 hb61;replace HD5:=zO HD5 hb61;replace HB:=zT HB hb61;clear hb61
   refine hK.out _ _ ⟨k0,k1,k2,d0,d1,d2,d3,d4,m0,m1,m2,e0,e1,e2⟩ (fun hHeld=>?_)
   clear hK K
   (try simp only [nz])
   refine wpAnyH_ready (rs:=[43,47]) (by kernel_rfl) (by simp) ?_
   refine(AllReadyH.cons (o:=⟨some 56,_,_,_,_,_⟩) rfl (fun K hK=>?_) (AllReadyH.cons (o:=⟨some 60,_,_,_,_,_⟩) rfl (fun K hK=>?_) AllReadyH.nil))
   ·go_simp
    clear hHeld
    refine ah (fun V63 g63 hV hg=>?_)
    rw [←hg];have hbN:=zB hV;have hg63:V61.heap.size≤g63:=by omega
    have hl63:=zL hV hg;have HM6:Hid (V63.ownsRow w.heap.size 95 3 (.slice (some ⟨g63,0,none⟩) 2 2) 2 (M [isM 8 x.s,isM 9 x.i])):=zW hV hg HB.size (by decide) rfl
    have hs64:=hbN.size;replace k0:=zC k0 hbN;replace k1:=zC k1 hbN;replace k2:=zC k2 hbN;replace d0:=zC d0 hbN;replace d1:=zC d1 hbN;replace d2:=zC d2 hbN;replace d3:=zC d3 hbN;replace d4:=zC d4 hbN;replace m0:=zC m0 hbN;replace m1:=zC m1 hbN;replace m2:=zC m2 hbN;replace e0:=zC e0 hbN;replace e1:=zC e1 hbN;replace e2:=zC e2 hbN;replace HM1:=zO HM1 hbN;replace HD1:=zO HD1 hbN;replace HM2:=zO HM2 hbN;replace HD2:=zO HD2 hbN;replace HM3:=zO HM3 hbN;replace HM4:=zO HM4 hbN;replace HM5:=zO HM5 hbN;replace HD5:=zO HD5 hbN;replace HB:=zT HB hbN;clear hV hg hbN
    refine hK.out _ _ ⟨k0,k1,k2,d0,d1,d2,d3,d4,m0,m1,m2,e0,e1,e2⟩ (fun hHeld=>?_)
    clear hK K
    (try simp only [nz])
    refine rd (i:=47) (o:=⟨some 60,_,_,_,_,_⟩) (by kernel_rfl) rfl (fun K hK=>?_)
    go_simp
    clear hHeld
    refine ah (fun V65 g65 hV hg=>?_)
    rw [←hg];have hbN:=zB hV;have hg65:V63.heap.size≤g65:=by omega
    have hl65:=zL hV hg;have HD6:Hid (V65.ownsRow w.heap.size 98 3 (.slice (some ⟨g65,0,none⟩) 1 1) 1 (D [⟨5,0,x.i⟩])):=zW hV hg HB.size (by decide) rfl
    have hs66:=hbN.size;replace k0:=zC k0 hbN;replace k1:=zC k1 hbN;replace k2:=zC k2 hbN;replace d0:=zC d0 hbN;replace d1:=zC d1 hbN;replace d2:=zC d2 hbN;replace d3:=zC d3 hbN;replace d4:=zC d4 hbN;replace m0:=zC m0 hbN;replace m1:=zC m1 hbN;replace m2:=zC m2 hbN;replace e0:=zC e0 hbN;replace e1:=zC e1 hbN;replace e2:=zC e2 hbN;replace HM1:=zO HM1 hbN;replace HD1:=zO HD1 hbN;replace HM2:=zO HM2 hbN;replace HD2:=zO HD2 hbN;replace HM3:=zO HM3 hbN;replace HM4:=zO HM4 hbN;replace HM5:=zO HM5 hbN;replace HD5:=zO HD5 hbN;replace HM6:=zO HM6 hbN;replace HB:=zT HB hbN;clear hV hg hbN
    refine hK.out _ _ ⟨k0,k1,k2,d0,d1,d2,d3,d4,m0,m1,m2,e0,e1,e2⟩ (fun hHeld=>?_)
    clear hK K
    (try simp only [nz])
    refine rd (i:=48) (o:=⟨some 61,_,_,_,_,_⟩) (by kernel_rfl) rfl (fun K hK=>?_)
    go_simp
    clear hHeld
    refine(ax _ _ _ _ _ _ _ _ _).mono ?_
    rintro e V67 ⟨rfl,hb67⟩;have hs68:=hb67.size;replace k0:=zC k0 hb67;replace k1:=zC k1 hb67;replace k2:=zC k2 hb67;replace d0:=zC d0 hb67;replace d1:=zC d1 hb67;replace d2:=zC d2 hb67;replace d3:=zC d3 hb67;replace d4:=zC d4 hb67;replace m0:=zC m0 hb67;replace m1:=zC m1 hb67;replace m2:=zC m2 hb67;replace e0:=zC e0 hb67;replace e1:=zC e1 hb67;replace e2:=zC e2 hb67;replace HM1:=zO HM1 hb67;replace HD1:=zO HD1 hb67;replace HM2:=zO HM2 hb67;replace HD2:=zO HD2 hb67;replace HM3:=zO HM3 hb67;replace HM4:=zO HM4 hb67;replace HM5:=zO HM5 hb67;replace HD5:=zO HD5 hb67;replace HM6:=zO HM6 hb67;replace HD6:=zO HD6 hb67;replace HB:=zT HB hb67;clear hb67
    refine hK.out _ _ ⟨k0,k1,k2,d0,d1,d2,d3,d4,m0,m1,m2,e0,e1,e2⟩ (fun hHeld=>?_)
    clear hK K
    (try simp only [nz])
    refine rd (i:=49) (o:=⟨some 62,_,_,_,_,_⟩) (by kernel_rfl) rfl (fun K hK=>?_)
    go_simp
    clear hHeld
    refine ah (fun V69 g69 hV hg=>?_)
    rw [←hg];have hbN:=zB hV;have hg69:V67.heap.size≤g69:=by omega
    have hl69:=zL hV hg;have HF:Hid (FR V69 w.heap.size (.slice (some ⟨g69,0,none⟩) 6 6) (bj P x)):=by
     rw [hV,hg]
     refine aa (FR.lit (lo:=[⟨⟨0,0,aU x++bp,[⟨1,8,x.s⟩,aG 2]⟩,.slice (some ⟨g13,0,none⟩) 7 c13,.slice (some ⟨g16,0,none⟩) 2 2⟩,⟨⟨0,0,aU x++bB 1,[⟨1,8,x.s⟩,aG 1]⟩,.slice (some ⟨g30,0,none⟩) 8 c30,.slice (some ⟨g33,0,none⟩) 2 2⟩,⟨⟨1,1,[isM 0 x.i,isM 5 x.p],[]⟩,.slice (some ⟨g39,0,none⟩) 2 2,.slice none 0 0⟩,⟨⟨3,1,[isM 0 x.i,isM 1 x.m],[]⟩,.slice (some ⟨g45,0,none⟩) 2 2,.slice none 0 0⟩,⟨⟨3,0,[isM 0 x.i,isM 1 65535],(P.filter (be x)).flatMap ar⟩,.slice (some ⟨g51,0,none⟩) 2 2,.slice oo5 N5 oc5⟩,⟨⟨5,0,[isM 8 x.s,isM 9 x.i],[⟨5,0,x.i⟩]⟩,.slice (some ⟨g63,0,none⟩) 2 2,.slice (some ⟨g65,0,none⟩) 1 1⟩]) rfl rfl HB.size (by decide) (fun x hx=>?_))
     simp only [List.mem_cons,List.not_mem_nil,or_false]at hx
     rcases hx with rfl | rfl | rfl | rfl | rfl | rfl
     ·exact aT HM1.out HD1.out (by simp [Value.ownBlock])
     ·exact aT HM2.out HD2.out (by simp [Value.ownBlock])
     ·exact aT HM3.out (World.ownsRow_nil _ _ _ _) (by simp [Value.ownBlock])
     ·exact aT HM4.out (World.ownsRow_nil _ _ _ _) (by simp [Value.ownBlock])
     ·exact aT HM5.out (by rw [←HN5.out];exact HD5.out) (by simp [Value.ownBlock])
     ·exact aT HM6.out HD6.out (by simp [Value.ownBlock])
    have hs70:=hbN.size;replace k0:=zC k0 hbN;replace k1:=zC k1 hbN;replace k2:=zC k2 hbN;replace d0:=zC d0 hbN;replace d1:=zC d1 hbN;replace d2:=zC d2 hbN;replace d3:=zC d3 hbN;replace d4:=zC d4 hbN;replace m0:=zC m0 hbN;replace m1:=zC m1 hbN;replace m2:=zC m2 hbN;replace e0:=zC e0 hbN;replace e1:=zC e1 hbN;replace e2:=zC e2 hbN;replace HM1:=zO HM1 hbN;replace HD1:=zO HD1 hbN;replace HM2:=zO HM2 hbN;replace HD2:=zO HD2 hbN;replace HM3:=zO HM3 hbN;replace HM4:=zO HM4 hbN;replace HM5:=zO HM5 hbN;replace HD5:=zO HD5 hbN;replace HM6:=zO HM6 hbN;replace HD6:=zO HD6 hbN;replace HB:=zT HB hbN;clear hV hg hbN
    refine hK.out _ _ ⟨k0,k1,k2,d0,d1,d2,d3,d4,m0,m1,m2,e0,e1,e2⟩ (fun hHeld=>?_)
    clear hK K
    (try simp only [nz])
    refine tk (i:=50) (d:=4) rfl (by kernel_rfl) (fun _ _ _ h=>h) rfl ‹_› (by intro w h;(try dsimp only at h);go_simp <;>with_reducible rfl) ?_
    simp only [nz]
    refine wpAnyH_done (by kernel_rfl) ?_ _
    clear hHeld
    go_wp2_with fail
    go_ret
    exact⟨_,rfl,HF.out,HB⟩
   ·go_simp
    clear hHeld
    refine ah (fun V63 g63 hV hg=>?_)
    rw [←hg];have hbN:=zB hV;have hg63:V61.heap.size≤g63:=by omega
    have hl63:=zL hV hg;have HD6:Hid (V63.ownsRow w.heap.size 98 3 (.slice (some ⟨g63,0,none⟩) 1 1) 1 (D [⟨5,0,x.i⟩])):=zW hV hg HB.size (by decide) rfl
    have hs64:=hbN.size;replace k0:=zC k0 hbN;replace k1:=zC k1 hbN;replace k2:=zC k2 hbN;replace d0:=zC d0 hbN;replace d1:=zC d1 hbN;replace d2:=zC d2 hbN;replace d3:=zC d3 hbN;replace d4:=zC d4 hbN;replace m0:=zC m0 hbN;replace m1:=zC m1 hbN;replace m2:=zC m2 hbN;replace e0:=zC e0 hbN;replace e1:=zC e1 hbN;replace e2:=zC e2 hbN;replace HM1:=zO HM1 hbN;replace HD1:=zO HD1 hbN;replace HM2:=zO HM2 hbN;replace HD2:=zO HD2 hbN;replace HM3:=zO HM3 hbN;replace HM4:=zO HM4 hbN;replace HM5:=zO HM5 hbN;replace HD5:=zO HD5 hbN;replace HB:=zT HB hbN;clear hV hg hbN
    refine hK.out _ _ ⟨k0,k1,k2,d0,d1,d2,d3,d4,m0,m1,m2,e0,e1,e2⟩ (fun hHeld=>?_)
    clear hK K
    (try simp only [nz])
    refine rd (i:=43) (o:=⟨some 56,_,_,_,_,_⟩) (by kernel_rfl) rfl (fun K hK=>?_)
    go_simp
    clear hHeld
    refine ah (fun V65 g65 hV hg=>?_)
    rw [←hg];have hbN:=zB hV;have hg65:V63.heap.size≤g65:=by omega
    have hl65:=zL hV hg;have HM6:Hid (V65.ownsRow w.heap.size 95 3 (.slice (some ⟨g65,0,none⟩) 2 2) 2 (M [isM 8 x.s,isM 9 x.i])):=zW hV hg HB.size (by decide) rfl
    have hs66:=hbN.size;replace k0:=zC k0 hbN;replace k1:=zC k1 hbN;replace k2:=zC k2 hbN;replace d0:=zC d0 hbN;replace d1:=zC d1 hbN;replace d2:=zC d2 hbN;replace d3:=zC d3 hbN;replace d4:=zC d4 hbN;replace m0:=zC m0 hbN;replace m1:=zC m1 hbN;replace m2:=zC m2 hbN;replace e0:=zC e0 hbN;replace e1:=zC e1 hbN;replace e2:=zC e2 hbN;replace HM1:=zO HM1 hbN;replace HD1:=zO HD1 hbN;replace HM2:=zO HM2 hbN;replace HD2:=zO HD2 hbN;replace HM3:=zO HM3 hbN;replace HM4:=zO HM4 hbN;replace HM5:=zO HM5 hbN;replace HD5:=zO HD5 hbN;replace HD6:=zO HD6 hbN;replace HB:=zT HB hbN;clear hV hg hbN
    refine hK.out _ _ ⟨k0,k1,k2,d0,d1,d2,d3,d4,m0,m1,m2,e0,e1,e2⟩ (fun hHeld=>?_)
    clear hK K
    (try simp only [nz])
    refine rd (i:=48) (o:=⟨some 61,_,_,_,_,_⟩) (by kernel_rfl) rfl (fun K hK=>?_)
    go_simp
    clear hHeld
    refine(ax _ _ _ _ _ _ _ _ _).mono ?_
    rintro e V67 ⟨rfl,hb67⟩;have hs68:=hb67.size;replace k0:=zC k0 hb67;replace k1:=zC k1 hb67;replace k2:=zC k2 hb67;replace d0:=zC d0 hb67;replace d1:=zC d1 hb67;replace d2:=zC d2 hb67;replace d3:=zC d3 hb67;replace d4:=zC d4 hb67;replace m0:=zC m0 hb67;replace m1:=zC m1 hb67;replace m2:=zC m2 hb67;replace e0:=zC e0 hb67;replace e1:=zC e1 hb67;replace e2:=zC e2 hb67;replace HM1:=zO HM1 hb67;replace HD1:=zO HD1 hb67;replace HM2:=zO HM2 hb67;replace HD2:=zO HD2 hb67;replace HM3:=zO HM3 hb67;replace HM4:=zO HM4 hb67;replace HM5:=zO HM5 hb67;replace HD5:=zO HD5 hb67;replace HD6:=zO HD6 hb67;replace HM6:=zO HM6 hb67;replace HB:=zT HB hb67;clear hb67
    refine hK.out _ _ ⟨k0,k1,k2,d0,d1,d2,d3,d4,m0,m1,m2,e0,e1,e2⟩ (fun hHeld=>?_)
    clear hK K
    (try simp only [nz])
    refine rd (i:=49) (o:=⟨some 62,_,_,_,_,_⟩) (by kernel_rfl) rfl (fun K hK=>?_)
    go_simp
    clear hHeld
    refine ah (fun V69 g69 hV hg=>?_)
    rw [←hg];have hbN:=zB hV;have hg69:V67.heap.size≤g69:=by omega
    have hl69:=zL hV hg;have HF:Hid (FR V69 w.heap.size (.slice (some ⟨g69,0,none⟩) 6 6) (bj P x)):=by
     rw [hV,hg]
     refine aa (FR.lit (lo:=[⟨⟨0,0,aU x++bp,[⟨1,8,x.s⟩,aG 2]⟩,.slice (some ⟨g13,0,none⟩) 7 c13,.slice (some ⟨g16,0,none⟩) 2 2⟩,⟨⟨0,0,aU x++bB 1,[⟨1,8,x.s⟩,aG 1]⟩,.slice (some ⟨g30,0,none⟩) 8 c30,.slice (some ⟨g33,0,none⟩) 2 2⟩,⟨⟨1,1,[isM 0 x.i,isM 5 x.p],[]⟩,.slice (some ⟨g39,0,none⟩) 2 2,.slice none 0 0⟩,⟨⟨3,1,[isM 0 x.i,isM 1 x.m],[]⟩,.slice (some ⟨g45,0,none⟩) 2 2,.slice none 0 0⟩,⟨⟨3,0,[isM 0 x.i,isM 1 65535],(P.filter (be x)).flatMap ar⟩,.slice (some ⟨g51,0,none⟩) 2 2,.slice oo5 N5 oc5⟩,⟨⟨5,0,[isM 8 x.s,isM 9 x.i],[⟨5,0,x.i⟩]⟩,.slice (some ⟨g65,0,none⟩) 2 2,.slice (some ⟨g63,0,none⟩) 1 1⟩]) rfl rfl HB.size (by decide) (fun x hx=>?_))
     simp only [List.mem_cons,List.not_mem_nil,or_false]at hx
     rcases hx with rfl | rfl | rfl | rfl | rfl | rfl
     ·exact aT HM1.out HD1.out (by simp [Value.ownBlock])
     ·exact aT HM2.out HD2.out (by simp [Value.ownBlock])
     ·exact aT HM3.out (World.ownsRow_nil _ _ _ _) (by simp [Value.ownBlock])
     ·exact aT HM4.out (World.ownsRow_nil _ _ _ _) (by simp [Value.ownBlock])
     ·exact aT HM5.out (by rw [←HN5.out];exact HD5.out) (by simp [Value.ownBlock])
     ·exact aT HM6.out HD6.out (by simp [Value.ownBlock])
    have hs70:=hbN.size;replace k0:=zC k0 hbN;replace k1:=zC k1 hbN;replace k2:=zC k2 hbN;replace d0:=zC d0 hbN;replace d1:=zC d1 hbN;replace d2:=zC d2 hbN;replace d3:=zC d3 hbN;replace d4:=zC d4 hbN;replace m0:=zC m0 hbN;replace m1:=zC m1 hbN;replace m2:=zC m2 hbN;replace e0:=zC e0 hbN;replace e1:=zC e1 hbN;replace e2:=zC e2 hbN;replace HM1:=zO HM1 hbN;replace HD1:=zO HD1 hbN;replace HM2:=zO HM2 hbN;replace HD2:=zO HD2 hbN;replace HM3:=zO HM3 hbN;replace HM4:=zO HM4 hbN;replace HM5:=zO HM5 hbN;replace HD5:=zO HD5 hbN;replace HD6:=zO HD6 hbN;replace HM6:=zO HM6 hbN;replace HB:=zT HB hbN;clear hV hg hbN
    refine hK.out _ _ ⟨k0,k1,k2,d0,d1,d2,d3,d4,m0,m1,m2,e0,e1,e2⟩ (fun hHeld=>?_)
    clear hK K
    (try simp only [nz])
    refine tk (i:=50) (d:=4) rfl (by kernel_rfl) (fun _ _ _ h=>h) rfl ‹_› (by intro w h;(try dsimp only at h);go_simp <;>with_reducible rfl) ?_
    simp only [nz]
    refine wpAnyH_done (by kernel_rfl) ?_ _
    clear hHeld
    go_wp2_with fail
    go_ret
    exact⟨_,rfl,HF.out,HB⟩
 ·go_simp
  clear hHeld;have HBold:=HB.size
  refine(iS S P A s1 p1 a1 s2 p2 a2 x _ (HC.out.below HB zr) hl).mono ?_
  rintro e V51 ⟨u,rfl,ho5,hb51⟩;have hs52:=hb51.size;replace k0:=zC k0 hb51;replace k1:=zC k1 hb51;replace k2:=zC k2 hb51;replace d0:=zC d0 hb51;replace d1:=zC d1 hb51;replace d2:=zC d2 hb51;replace d3:=zC d3 hb51;replace d4:=zC d4 hb51;replace m0:=zC m0 hb51;replace m1:=zC m1 hb51;replace m2:=zC m2 hb51;replace e0:=zC e0 hb51;replace e1:=zC e1 hb51;replace e2:=zC e2 hb51;replace HM1:=zO HM1 hb51;replace HD1:=zO HD1 hb51;replace HM2:=zO HM2 hb51;replace HD2:=zO HD2 hb51;replace HM3:=zO HM3 hb51;replace HM4:=zO HM4 hb51;replace HB:=zT HB hb51;obtain⟨N5,hN5⟩:∃N,N=((P.filter (be x)).flatMap ar).length:=⟨_,rfl⟩;rw [←hN5]at ho5;have HN5:=aa hN5;clear hN5;obtain⟨oo5,oc5,rfl⟩:=aD ho5;have HD5:=aa (aw ho5 HBold);clear ho5 HBold;clear hb51
  refine hK.out _ _ ⟨k0,k1,k2,d0,d1,d2,d3,d4,m0,m1,m2,e0,e1,e2⟩ (fun hHeld=>?_)
  clear hK K
  (try simp only [nz])
  refine rd (i:=32) (o:=⟨some 45,_,_,_,_,_⟩) (by kernel_rfl) rfl (fun K hK=>?_)
  go_simp
  clear hHeld
  refine ah (fun V53 g53 hV hg=>?_)
  rw [←hg];have hbN:=zB hV;have hg53:V51.heap.size≤g53:=by omega
  have hl53:=zL hV hg;have HM5:Hid (V53.ownsRow w.heap.size 95 3 (.slice (some ⟨g53,0,none⟩) 2 2) 2 (M [isM 0 x.i,isM 1 65535])):=zW hV hg HB.size (by decide) rfl
  have hs54:=hbN.size;replace k0:=zC k0 hbN;replace k1:=zC k1 hbN;replace k2:=zC k2 hbN;replace d0:=zC d0 hbN;replace d1:=zC d1 hbN;replace d2:=zC d2 hbN;replace d3:=zC d3 hbN;replace d4:=zC d4 hbN;replace m0:=zC m0 hbN;replace m1:=zC m1 hbN;replace m2:=zC m2 hbN;replace e0:=zC e0 hbN;replace e1:=zC e1 hbN;replace e2:=zC e2 hbN;replace HM1:=zO HM1 hbN;replace HD1:=zO HD1 hbN;replace HM2:=zO HM2 hbN;replace HD2:=zO HD2 hbN;replace HM3:=zO HM3 hbN;replace HM4:=zO HM4 hbN;replace HD5:=zO HD5 hbN;replace HB:=zT HB hbN;clear hV hg hbN
  refine hK.out _ _ ⟨k0,k1,k2,d0,d1,d2,d3,d4,m0,m1,m2,e0,e1,e2⟩ (fun hHeld=>?_)
  clear hK K
  (try simp only [nz])
  refine rd (i:=36) (o:=⟨some 49,_,_,_,_,_⟩) (by kernel_rfl) rfl (fun K hK=>?_)
  go_simp
  clear hHeld
  refine(ax _ _ _ _ _ _ _ _ _).mono ?_
  rintro e V55 ⟨rfl,hb55⟩;have hs56:=hb55.size;replace k0:=zC k0 hb55;replace k1:=zC k1 hb55;replace k2:=zC k2 hb55;replace d0:=zC d0 hb55;replace d1:=zC d1 hb55;replace d2:=zC d2 hb55;replace d3:=zC d3 hb55;replace d4:=zC d4 hb55;replace m0:=zC m0 hb55;replace m1:=zC m1 hb55;replace m2:=zC m2 hb55;replace e0:=zC e0 hb55;replace e1:=zC e1 hb55;replace e2:=zC e2 hb55;replace HM1:=zO HM1 hb55;replace HD1:=zO HD1 hb55;replace HM2:=zO HM2 hb55;replace HD2:=zO HD2 hb55;replace HM3:=zO HM3 hb55;replace HM4:=zO HM4 hb55;replace HD5:=zO HD5 hb55;replace HM5:=zO HM5 hb55;replace HB:=zT HB hb55;clear hb55
  refine hK.out _ _ ⟨k0,k1,k2,d0,d1,d2,d3,d4,m0,m1,m2,e0,e1,e2⟩ (fun hHeld=>?_)
  clear hK K
  (try simp only [nz])
  refine rd (i:=39) (o:=⟨some 52,_,_,_,_,_⟩) (by kernel_rfl) rfl (fun K hK=>?_)
  go_simp
  clear hHeld
  refine(bk _ _ _).mono ?_
  rintro e V57 ⟨rfl,hb57⟩;have hs58:=hb57.size;replace k0:=zC k0 hb57;replace k1:=zC k1 hb57;replace k2:=zC k2 hb57;replace d0:=zC d0 hb57;replace d1:=zC d1 hb57;replace d2:=zC d2 hb57;replace d3:=zC d3 hb57;replace d4:=zC d4 hb57;replace m0:=zC m0 hb57;replace m1:=zC m1 hb57;replace m2:=zC m2 hb57;replace e0:=zC e0 hb57;replace e1:=zC e1 hb57;replace e2:=zC e2 hb57;replace HM1:=zO HM1 hb57;replace HD1:=zO HD1 hb57;replace HM2:=zO HM2 hb57;replace HD2:=zO HD2 hb57;replace HM3:=zO HM3 hb57;replace HM4:=zO HM4 hb57;replace HD5:=zO HD5 hb57;replace HM5:=zO HM5 hb57;replace HB:=zT HB hb57;clear hb57
  refine hK.out _ _ ⟨k0,k1,k2,d0,d1,d2,d3,d4,m0,m1,m2,e0,e1,e2⟩ (fun hHeld=>?_)
  clear hK K
  (try simp only [nz])
  refine rd (i:=42) (o:=⟨some 55,_,_,_,_,_⟩) (by kernel_rfl) rfl (fun K hK=>?_)
  go_simp
  clear hHeld
  refine(bk _ _ _).mono ?_
  rintro e V59 ⟨rfl,hb59⟩;have hs60:=hb59.size;replace k0:=zC k0 hb59;replace k1:=zC k1 hb59;replace k2:=zC k2 hb59;replace d0:=zC d0 hb59;replace d1:=zC d1 hb59;replace d2:=zC d2 hb59;replace d3:=zC d3 hb59;replace d4:=zC d4 hb59;replace m0:=zC m0 hb59;replace m1:=zC m1 hb59;replace m2:=zC m2 hb59;replace e0:=zC e0 hb59;replace e1:=zC e1 hb59;replace e2:=zC e2 hb59;replace HM1:=zO HM1 hb59;replace HD1:=zO HD1 hb59;replace HM2:=zO HM2 hb59;replace HD2:=zO HD2 hb59;replace HM3:=zO HM3 hb59;replace HM4:=zO HM4 hb59;replace HD5:=zO HD5 hb59;replace HM5:=zO HM5 hb59;replace HB:=zT HB hb59;clear hb59
  refine hK.out _ _ ⟨k0,k1,k2,d0,d1,d2,d3,d4,m0,m1,m2,e0,e1,e2⟩ (fun hHeld=>?_)
  clear hK K
  (try simp only [nz])
  refine wpAnyH_ready (rs:=[43,46]) (by kernel_rfl) (by simp) ?_
  refine(AllReadyH.cons (o:=⟨some 56,_,_,_,_,_⟩) rfl (fun K hK=>?_) (AllReadyH.cons (o:=⟨some 59,_,_,_,_,_⟩) rfl (fun K hK=>?_) AllReadyH.nil))
  ·go_simp
   clear hHeld
   refine ah (fun V61 g61 hV hg=>?_)
   rw [←hg];have hbN:=zB hV;have hg61:V59.heap.size≤g61:=by omega
   have hl61:=zL hV hg;have HM6:Hid (V61.ownsRow w.heap.size 95 3 (.slice (some ⟨g61,0,none⟩) 2 2) 2 (M [isM 8 x.s,isM 9 x.i])):=zW hV hg HB.size (by decide) rfl
   have hs62:=hbN.size;replace k0:=zC k0 hbN;replace k1:=zC k1 hbN;replace k2:=zC k2 hbN;replace d0:=zC d0 hbN;replace d1:=zC d1 hbN;replace d2:=zC d2 hbN;replace d3:=zC d3 hbN;replace d4:=zC d4 hbN;replace m0:=zC m0 hbN;replace m1:=zC m1 hbN;replace m2:=zC m2 hbN;replace e0:=zC e0 hbN;replace e1:=zC e1 hbN;replace e2:=zC e2 hbN;replace HM1:=zO HM1 hbN;replace HD1:=zO HD1 hbN;replace HM2:=zO HM2 hbN;replace HD2:=zO HD2 hbN;replace HM3:=zO HM3 hbN;replace HM4:=zO HM4 hbN;replace HD5:=zO HD5 hbN;replace HM5:=zO HM5 hbN;replace HB:=zT HB hbN;clear hV hg hbN
   refine hK.out _ _ ⟨k0,k1,k2,d0,d1,d2,d3,d4,m0,m1,m2,e0,e1,e2⟩ (fun hHeld=>?_)
   clear hK K
   (try simp only [nz])
   refine rd (i:=46) (o:=⟨some 59,_,_,_,_,_⟩) (by kernel_rfl) rfl (fun K hK=>?_)
   go_simp
   clear hHeld
   refine(aQ _ _ _ _).mono ?_
   rintro e V63 ⟨rfl,hb63⟩;have hs64:=hb63.size;replace k0:=zC k0 hb63;replace k1:=zC k1 hb63;replace k2:=zC k2 hb63;replace d0:=zC d0 hb63;replace d1:=zC d1 hb63;replace d2:=zC d2 hb63;replace d3:=zC d3 hb63;replace d4:=zC d4 hb63;replace m0:=zC m0 hb63;replace m1:=zC m1 hb63;replace m2:=zC m2 hb63;replace e0:=zC e0 hb63;replace e1:=zC e1 hb63;replace e2:=zC e2 hb63;replace HM1:=zO HM1 hb63;replace HD1:=zO HD1 hb63;replace HM2:=zO HM2 hb63;replace HD2:=zO HD2 hb63;replace HM3:=zO HM3 hb63;replace HM4:=zO HM4 hb63;replace HD5:=zO HD5 hb63;replace HM5:=zO HM5 hb63;replace HM6:=zO HM6 hb63;replace HB:=zT HB hb63;clear hb63
   refine hK.out _ _ ⟨k0,k1,k2,d0,d1,d2,d3,d4,m0,m1,m2,e0,e1,e2⟩ (fun hHeld=>?_)
   clear hK K
   (try simp only [nz])
   refine rd (i:=47) (o:=⟨some 60,_,_,_,_,_⟩) (by kernel_rfl) rfl (fun K hK=>?_)
   go_simp
   clear hHeld
   refine ah (fun V65 g65 hV hg=>?_)
   rw [←hg];have hbN:=zB hV;have hg65:V63.heap.size≤g65:=by omega
   have hl65:=zL hV hg;have HD6:Hid (V65.ownsRow w.heap.size 98 3 (.slice (some ⟨g65,0,none⟩) 1 1) 1 (D [⟨5,0,x.i⟩])):=zW hV hg HB.size (by decide) rfl
   have hs66:=hbN.size;replace k0:=zC k0 hbN;replace k1:=zC k1 hbN;replace k2:=zC k2 hbN;replace d0:=zC d0 hbN;replace d1:=zC d1 hbN;replace d2:=zC d2 hbN;replace d3:=zC d3 hbN;replace d4:=zC d4 hbN;replace m0:=zC m0 hbN;replace m1:=zC m1 hbN;replace m2:=zC m2 hbN;replace e0:=zC e0 hbN;replace e1:=zC e1 hbN;replace e2:=zC e2 hbN;replace HM1:=zO HM1 hbN;replace HD1:=zO HD1 hbN;replace HM2:=zO HM2 hbN;replace HD2:=zO HD2 hbN;replace HM3:=zO HM3 hbN;replace HM4:=zO HM4 hbN;replace HD5:=zO HD5 hbN;replace HM5:=zO HM5 hbN;replace HM6:=zO HM6 hbN;replace HB:=zT HB hbN;clear hV hg hbN
   refine hK.out _ _ ⟨k0,k1,k2,d0,d1,d2,d3,d4,m0,m1,m2,e0,e1,e2⟩ (fun hHeld=>?_)
   clear hK K
   (try simp only [nz])
   refine rd (i:=48) (o:=⟨some 61,_,_,_,_,_⟩) (by kernel_rfl) rfl (fun K hK=>?_)
   go_simp
   clear hHeld
   refine(ax _ _ _ _ _ _ _ _ _).mono ?_
   rintro e V67 ⟨rfl,hb67⟩;have hs68:=hb67.size;replace k0:=zC k0 hb67;replace k1:=zC k1 hb67;replace k2:=zC k2 hb67;replace d0:=zC d0 hb67;replace d1:=zC d1 hb67;replace d2:=zC d2 hb67;replace d3:=zC d3 hb67;replace d4:=zC d4 hb67;replace m0:=zC m0 hb67;replace m1:=zC m1 hb67;replace m2:=zC m2 hb67;replace e0:=zC e0 hb67;replace e1:=zC e1 hb67;replace e2:=zC e2 hb67;replace HM1:=zO HM1 hb67;replace HD1:=zO HD1 hb67;replace HM2:=zO HM2 hb67;replace HD2:=zO HD2 hb67;replace HM3:=zO HM3 hb67;replace HM4:=zO HM4 hb67;replace HD5:=zO HD5 hb67;replace HM5:=zO HM5 hb67;replace HM6:=zO HM6 hb67;replace HD6:=zO HD6 hb67;replace HB:=zT HB hb67;clear hb67
   refine hK.out _ _ ⟨k0,k1,k2,d0,d1,d2,d3,d4,m0,m1,m2,e0,e1,e2⟩ (fun hHeld=>?_)
   clear hK K
   (try simp only [nz])
   refine rd (i:=49) (o:=⟨some 62,_,_,_,_,_⟩) (by kernel_rfl) rfl (fun K hK=>?_)
   go_simp
   clear hHeld
   refine ah (fun V69 g69 hV hg=>?_)
   rw [←hg];have hbN:=zB hV;have hg69:V67.heap.size≤g69:=by omega
   have hl69:=zL hV hg;have HF:Hid (FR V69 w.heap.size (.slice (some ⟨g69,0,none⟩) 6 6) (bj P x)):=by
    rw [hV,hg]
    refine aa (FR.lit (lo:=[⟨⟨0,0,aU x++bp,[⟨1,8,x.s⟩,aG 2]⟩,.slice (some ⟨g13,0,none⟩) 7 c13,.slice (some ⟨g16,0,none⟩) 2 2⟩,⟨⟨0,0,aU x++bB 1,[⟨1,8,x.s⟩,aG 1]⟩,.slice (some ⟨g30,0,none⟩) 8 c30,.slice (some ⟨g33,0,none⟩) 2 2⟩,⟨⟨1,1,[isM 0 x.i,isM 5 x.p],[]⟩,.slice (some ⟨g39,0,none⟩) 2 2,.slice none 0 0⟩,⟨⟨3,1,[isM 0 x.i,isM 1 x.m],[]⟩,.slice (some ⟨g45,0,none⟩) 2 2,.slice none 0 0⟩,⟨⟨3,0,[isM 0 x.i,isM 1 65535],(P.filter (be x)).flatMap ar⟩,.slice (some ⟨g53,0,none⟩) 2 2,.slice oo5 N5 oc5⟩,⟨⟨5,0,[isM 8 x.s,isM 9 x.i],[⟨5,0,x.i⟩]⟩,.slice (some ⟨g61,0,none⟩) 2 2,.slice (some ⟨g65,0,none⟩) 1 1⟩]) rfl rfl HB.size (by decide) (fun x hx=>?_))
    simp only [List.mem_cons,List.not_mem_nil,or_false]at hx
    rcases hx with rfl | rfl | rfl | rfl | rfl | rfl
    ·exact aT HM1.out HD1.out (by simp [Value.ownBlock])
    ·exact aT HM2.out HD2.out (by simp [Value.ownBlock])
    ·exact aT HM3.out (World.ownsRow_nil _ _ _ _) (by simp [Value.ownBlock])
    ·exact aT HM4.out (World.ownsRow_nil _ _ _ _) (by simp [Value.ownBlock])
    ·exact aT HM5.out (by rw [←HN5.out];exact HD5.out) (by simp [Value.ownBlock])
    ·exact aT HM6.out HD6.out (by simp [Value.ownBlock])
   have hs70:=hbN.size;replace k0:=zC k0 hbN;replace k1:=zC k1 hbN;replace k2:=zC k2 hbN;replace d0:=zC d0 hbN;replace d1:=zC d1 hbN;replace d2:=zC d2 hbN;replace d3:=zC d3 hbN;replace d4:=zC d4 hbN;replace m0:=zC m0 hbN;replace m1:=zC m1 hbN;replace m2:=zC m2 hbN;replace e0:=zC e0 hbN;replace e1:=zC e1 hbN;replace e2:=zC e2 hbN;replace HM1:=zO HM1 hbN;replace HD1:=zO HD1 hbN;replace HM2:=zO HM2 hbN;replace HD2:=zO HD2 hbN;replace HM3:=zO HM3 hbN;replace HM4:=zO HM4 hbN;replace HD5:=zO HD5 hbN;replace HM5:=zO HM5 hbN;replace HM6:=zO HM6 hbN;replace HD6:=zO HD6 hbN;replace HB:=zT HB hbN;clear hV hg hbN
   refine hK.out _ _ ⟨k0,k1,k2,d0,d1,d2,d3,d4,m0,m1,m2,e0,e1,e2⟩ (fun hHeld=>?_)
   clear hK K
   (try simp only [nz])
   refine tk (i:=50) (d:=4) rfl (by kernel_rfl) (fun _ _ _ h=>h) rfl ‹_› (by intro w h;(try dsimp only at h);go_simp <;>with_reducible rfl) ?_
   simp only [nz]
   refine wpAnyH_done (by kernel_rfl) ?_ _
   clear hHeld
   go_wp2_with fail
   go_ret
   exact⟨_,rfl,HF.out,HB⟩
  ·go_simp
   clear hHeld
   refine(aQ _ _ _ _).mono ?_
   rintro e V61 ⟨rfl,hb61⟩;have hs62:=hb61.size;replace k0:=zC k0 hb61;replace k1:=zC k1 hb61;replace k2:=zC k2 hb61;replace d0:=zC d0 hb61;replace d1:=zC d1 hb61;replace d2:=zC d2 hb61;replace d3:=zC d3 hb61;replace d4:=zC d4 hb61;replace m0:=zC m0 hb61;replace m1:=zC m1 hb61;replace m2:=zC m2 hb61;replace e0:=zC e0 hb61;replace e1:=zC e1 hb61;replace e2:=zC e2 hb61;replace HM1:=zO HM1 hb61;replace HD1:=zO HD1 hb61;replace HM2:=zO HM2 hb61;replace HD2:=zO HD2 hb61;replace HM3:=zO HM3 hb61;replace HM4:=zO HM4 hb61;replace HD5:=zO HD5 hb61;replace HM5:=zO HM5 hb61;replace HB:=zT HB hb61;clear hb61
   refine hK.out _ _ ⟨k0,k1,k2,d0,d1,d2,d3,d4,m0,m1,m2,e0,e1,e2⟩ (fun hHeld=>?_)
   clear hK K
   (try simp only [nz])
   refine wpAnyH_ready (rs:=[43,47]) (by kernel_rfl) (by simp) ?_
   refine(AllReadyH.cons (o:=⟨some 56,_,_,_,_,_⟩) rfl (fun K hK=>?_) (AllReadyH.cons (o:=⟨some 60,_,_,_,_,_⟩) rfl (fun K hK=>?_) AllReadyH.nil))
   ·go_simp
    clear hHeld
    refine ah (fun V63 g63 hV hg=>?_)
    rw [←hg];have hbN:=zB hV;have hg63:V61.heap.size≤g63:=by omega
    have hl63:=zL hV hg;have HM6:Hid (V63.ownsRow w.heap.size 95 3 (.slice (some ⟨g63,0,none⟩) 2 2) 2 (M [isM 8 x.s,isM 9 x.i])):=zW hV hg HB.size (by decide) rfl
    have hs64:=hbN.size;replace k0:=zC k0 hbN;replace k1:=zC k1 hbN;replace k2:=zC k2 hbN;replace d0:=zC d0 hbN;replace d1:=zC d1 hbN;replace d2:=zC d2 hbN;replace d3:=zC d3 hbN;replace d4:=zC d4 hbN;replace m0:=zC m0 hbN;replace m1:=zC m1 hbN;replace m2:=zC m2 hbN;replace e0:=zC e0 hbN;replace e1:=zC e1 hbN;replace e2:=zC e2 hbN;replace HM1:=zO HM1 hbN;replace HD1:=zO HD1 hbN;replace HM2:=zO HM2 hbN;replace HD2:=zO HD2 hbN;replace HM3:=zO HM3 hbN;replace HM4:=zO HM4 hbN;replace HD5:=zO HD5 hbN;replace HM5:=zO HM5 hbN;replace HB:=zT HB hbN;clear hV hg hbN
    refine hK.out _ _ ⟨k0,k1,k2,d0,d1,d2,d3,d4,m0,m1,m2,e0,e1,e2⟩ (fun hHeld=>?_)
    clear hK K
    (try simp only [nz])
    refine rd (i:=47) (o:=⟨some 60,_,_,_,_,_⟩) (by kernel_rfl) rfl (fun K hK=>?_)
    go_simp
    clear hHeld
    refine ah (fun V65 g65 hV hg=>?_)
    rw [←hg];have hbN:=zB hV;have hg65:V63.heap.size≤g65:=by omega
    have hl65:=zL hV hg;have HD6:Hid (V65.ownsRow w.heap.size 98 3 (.slice (some ⟨g65,0,none⟩) 1 1) 1 (D [⟨5,0,x.i⟩])):=zW hV hg HB.size (by decide) rfl
    have hs66:=hbN.size;replace k0:=zC k0 hbN;replace k1:=zC k1 hbN;replace k2:=zC k2 hbN;replace d0:=zC d0 hbN;replace d1:=zC d1 hbN;replace d2:=zC d2 hbN;replace d3:=zC d3 hbN;replace d4:=zC d4 hbN;replace m0:=zC m0 hbN;replace m1:=zC m1 hbN;replace m2:=zC m2 hbN;replace e0:=zC e0 hbN;replace e1:=zC e1 hbN;replace e2:=zC e2 hbN;replace HM1:=zO HM1 hbN;replace HD1:=zO HD1 hbN;replace HM2:=zO HM2 hbN;replace HD2:=zO HD2 hbN;replace HM3:=zO HM3 hbN;replace HM4:=zO HM4 hbN;replace HD5:=zO HD5 hbN;replace HM5:=zO HM5 hbN;replace HM6:=zO HM6 hbN;replace HB:=zT HB hbN;clear hV hg hbN
    refine hK.out _ _ ⟨k0,k1,k2,d0,d1,d2,d3,d4,m0,m1,m2,e0,e1,e2⟩ (fun hHeld=>?_)
    clear hK K
    (try simp only [nz])
    refine rd (i:=48) (o:=⟨some 61,_,_,_,_,_⟩) (by kernel_rfl) rfl (fun K hK=>?_)
    go_simp
    clear hHeld
    refine(ax _ _ _ _ _ _ _ _ _).mono ?_
    rintro e V67 ⟨rfl,hb67⟩;have hs68:=hb67.size;replace k0:=zC k0 hb67;replace k1:=zC k1 hb67;replace k2:=zC k2 hb67;replace d0:=zC d0 hb67;replace d1:=zC d1 hb67;replace d2:=zC d2 hb67;replace d3:=zC d3 hb67;replace d4:=zC d4 hb67;replace m0:=zC m0 hb67;replace m1:=zC m1 hb67;replace m2:=zC m2 hb67;replace e0:=zC e0 hb67;replace e1:=zC e1 hb67;replace e2:=zC e2 hb67;replace HM1:=zO HM1 hb67;replace HD1:=zO HD1 hb67;replace HM2:=zO HM2 hb67;replace HD2:=zO HD2 hb67;replace HM3:=zO HM3 hb67;replace HM4:=zO HM4 hb67;replace HD5:=zO HD5 hb67;replace HM5:=zO HM5 hb67;replace HM6:=zO HM6 hb67;replace HD6:=zO HD6 hb67;replace HB:=zT HB hb67;clear hb67
    refine hK.out _ _ ⟨k0,k1,k2,d0,d1,d2,d3,d4,m0,m1,m2,e0,e1,e2⟩ (fun hHeld=>?_)
    clear hK K
    (try simp only [nz])
    refine rd (i:=49) (o:=⟨some 62,_,_,_,_,_⟩) (by kernel_rfl) rfl (fun K hK=>?_)
    go_simp
    clear hHeld
    refine ah (fun V69 g69 hV hg=>?_)
    rw [←hg];have hbN:=zB hV;have hg69:V67.heap.size≤g69:=by omega
    have hl69:=zL hV hg;have HF:Hid (FR V69 w.heap.size (.slice (some ⟨g69,0,none⟩) 6 6) (bj P x)):=by
     rw [hV,hg]
     refine aa (FR.lit (lo:=[⟨⟨0,0,aU x++bp,[⟨1,8,x.s⟩,aG 2]⟩,.slice (some ⟨g13,0,none⟩) 7 c13,.slice (some ⟨g16,0,none⟩) 2 2⟩,⟨⟨0,0,aU x++bB 1,[⟨1,8,x.s⟩,aG 1]⟩,.slice (some ⟨g30,0,none⟩) 8 c30,.slice (some ⟨g33,0,none⟩) 2 2⟩,⟨⟨1,1,[isM 0 x.i,isM 5 x.p],[]⟩,.slice (some ⟨g39,0,none⟩) 2 2,.slice none 0 0⟩,⟨⟨3,1,[isM 0 x.i,isM 1 x.m],[]⟩,.slice (some ⟨g45,0,none⟩) 2 2,.slice none 0 0⟩,⟨⟨3,0,[isM 0 x.i,isM 1 65535],(P.filter (be x)).flatMap ar⟩,.slice (some ⟨g53,0,none⟩) 2 2,.slice oo5 N5 oc5⟩,⟨⟨5,0,[isM 8 x.s,isM 9 x.i],[⟨5,0,x.i⟩]⟩,.slice (some ⟨g63,0,none⟩) 2 2,.slice (some ⟨g65,0,none⟩) 1 1⟩]) rfl rfl HB.size (by decide) (fun x hx=>?_))
     simp only [List.mem_cons,List.not_mem_nil,or_false]at hx
     rcases hx with rfl | rfl | rfl | rfl | rfl | rfl
     ·exact aT HM1.out HD1.out (by simp [Value.ownBlock])
     ·exact aT HM2.out HD2.out (by simp [Value.ownBlock])
     ·exact aT HM3.out (World.ownsRow_nil _ _ _ _) (by simp [Value.ownBlock])
     ·exact aT HM4.out (World.ownsRow_nil _ _ _ _) (by simp [Value.ownBlock])
     ·exact aT HM5.out (by rw [←HN5.out];exact HD5.out) (by simp [Value.ownBlock])
     ·exact aT HM6.out HD6.out (by simp [Value.ownBlock])
    have hs70:=hbN.size;replace k0:=zC k0 hbN;replace k1:=zC k1 hbN;replace k2:=zC k2 hbN;replace d0:=zC d0 hbN;replace d1:=zC d1 hbN;replace d2:=zC d2 hbN;replace d3:=zC d3 hbN;replace d4:=zC d4 hbN;replace m0:=zC m0 hbN;replace m1:=zC m1 hbN;replace m2:=zC m2 hbN;replace e0:=zC e0 hbN;replace e1:=zC e1 hbN;replace e2:=zC e2 hbN;replace HM1:=zO HM1 hbN;replace HD1:=zO HD1 hbN;replace HM2:=zO HM2 hbN;replace HD2:=zO HD2 hbN;replace HM3:=zO HM3 hbN;replace HM4:=zO HM4 hbN;replace HD5:=zO HD5 hbN;replace HM5:=zO HM5 hbN;replace HM6:=zO HM6 hbN;replace HD6:=zO HD6 hbN;replace HB:=zT HB hbN;clear hV hg hbN
    refine hK.out _ _ ⟨k0,k1,k2,d0,d1,d2,d3,d4,m0,m1,m2,e0,e1,e2⟩ (fun hHeld=>?_)
    clear hK K
    (try simp only [nz])
    refine tk (i:=50) (d:=4) rfl (by kernel_rfl) (fun _ _ _ h=>h) rfl ‹_› (by intro w h;(try dsimp only at h);go_simp <;>with_reducible rfl) ?_
    simp only [nz]
    refine wpAnyH_done (by kernel_rfl) ?_ _
    clear hHeld
    go_wp2_with fail
    go_ret
    exact⟨_,rfl,HF.out,HB⟩
   ·go_simp
    clear hHeld
    refine ah (fun V63 g63 hV hg=>?_)
    rw [←hg];have hbN:=zB hV;have hg63:V61.heap.size≤g63:=by omega
    have hl63:=zL hV hg;have HD6:Hid (V63.ownsRow w.heap.size 98 3 (.slice (some ⟨g63,0,none⟩) 1 1) 1 (D [⟨5,0,x.i⟩])):=zW hV hg HB.size (by decide) rfl
    have hs64:=hbN.size;replace k0:=zC k0 hbN;replace k1:=zC k1 hbN;replace k2:=zC k2 hbN;replace d0:=zC d0 hbN;replace d1:=zC d1 hbN;replace d2:=zC d2 hbN;replace d3:=zC d3 hbN;replace d4:=zC d4 hbN;replace m0:=zC m0 hbN;replace m1:=zC m1 hbN;replace m2:=zC m2 hbN;replace e0:=zC e0 hbN;replace e1:=zC e1 hbN;replace e2:=zC e2 hbN;replace HM1:=zO HM1 hbN;replace HD1:=zO HD1 hbN;replace HM2:=zO HM2 hbN;replace HD2:=zO HD2 hbN;replace HM3:=zO HM3 hbN;replace HM4:=zO HM4 hbN;replace HD5:=zO HD5 hbN;replace HM5:=zO HM5 hbN;replace HB:=zT HB hbN;clear hV hg hbN
    refine hK.out _ _ ⟨k0,k1,k2,d0,d1,d2,d3,d4,m0,m1,m2,e0,e1,e2⟩ (fun hHeld=>?_)
    clear hK K
    (try simp only [nz])
    refine rd (i:=43) (o:=⟨some 56,_,_,_,_,_⟩) (by kernel_rfl) rfl (fun K hK=>?_)
    go_simp
    clear hHeld
    refine ah (fun V65 g65 hV hg=>?_)
    rw [←hg];have hbN:=zB hV;have hg65:V63.heap.size≤g65:=by omega
    have hl65:=zL hV hg;have HM6:Hid (V65.ownsRow w.heap.size 95 3 (.slice (some ⟨g65,0,none⟩) 2 2) 2 (M [isM 8 x.s,isM 9 x.i])):=zW hV hg HB.size (by decide) rfl
    have hs66:=hbN.size;replace k0:=zC k0 hbN;replace k1:=zC k1 hbN;replace k2:=zC k2 hbN;replace d0:=zC d0 hbN;replace d1:=zC d1 hbN;replace d2:=zC d2 hbN;replace d3:=zC d3 hbN;replace d4:=zC d4 hbN;replace m0:=zC m0 hbN;replace m1:=zC m1 hbN;replace m2:=zC m2 hbN;replace e0:=zC e0 hbN;replace e1:=zC e1 hbN;replace e2:=zC e2 hbN;replace HM1:=zO HM1 hbN;replace HD1:=zO HD1 hbN;replace HM2:=zO HM2 hbN;replace HD2:=zO HD2 hbN;replace HM3:=zO HM3 hbN;replace HM4:=zO HM4 hbN;replace HD5:=zO HD5 hbN;replace HM5:=zO HM5 hbN;replace HD6:=zO HD6 hbN;replace HB:=zT HB hbN;clear hV hg hbN
    refine hK.out _ _ ⟨k0,k1,k2,d0,d1,d2,d3,d4,m0,m1,m2,e0,e1,e2⟩ (fun hHeld=>?_)
    clear hK K
    (try simp only [nz])
    refine rd (i:=48) (o:=⟨some 61,_,_,_,_,_⟩) (by kernel_rfl) rfl (fun K hK=>?_)
    go_simp
    clear hHeld
    refine(ax _ _ _ _ _ _ _ _ _).mono ?_
    rintro e V67 ⟨rfl,hb67⟩;have hs68:=hb67.size;replace k0:=zC k0 hb67;replace k1:=zC k1 hb67;replace k2:=zC k2 hb67;replace d0:=zC d0 hb67;replace d1:=zC d1 hb67;replace d2:=zC d2 hb67;replace d3:=zC d3 hb67;replace d4:=zC d4 hb67;replace m0:=zC m0 hb67;replace m1:=zC m1 hb67;replace m2:=zC m2 hb67;replace e0:=zC e0 hb67;replace e1:=zC e1 hb67;replace e2:=zC e2 hb67;replace HM1:=zO HM1 hb67;replace HD1:=zO HD1 hb67;replace HM2:=zO HM2 hb67;replace HD2:=zO HD2 hb67;replace HM3:=zO HM3 hb67;replace HM4:=zO HM4 hb67;replace HD5:=zO HD5 hb67;replace HM5:=zO HM5 hb67;replace HD6:=zO HD6 hb67;replace HM6:=zO HM6 hb67;replace HB:=zT HB hb67;clear hb67
    refine hK.out _ _ ⟨k0,k1,k2,d0,d1,d2,d3,d4,m0,m1,m2,e0,e1,e2⟩ (fun hHeld=>?_)
    clear hK K
    (try simp only [nz])
    refine rd (i:=49) (o:=⟨some 62,_,_,_,_,_⟩) (by kernel_rfl) rfl (fun K hK=>?_)
    go_simp
    clear hHeld
    refine ah (fun V69 g69 hV hg=>?_)
    rw [←hg];have hbN:=zB hV;have hg69:V67.heap.size≤g69:=by omega
    have hl69:=zL hV hg;have HF:Hid (FR V69 w.heap.size (.slice (some ⟨g69,0,none⟩) 6 6) (bj P x)):=by
     rw [hV,hg]
     refine aa (FR.lit (lo:=[⟨⟨0,0,aU x++bp,[⟨1,8,x.s⟩,aG 2]⟩,.slice (some ⟨g13,0,none⟩) 7 c13,.slice (some ⟨g16,0,none⟩) 2 2⟩,⟨⟨0,0,aU x++bB 1,[⟨1,8,x.s⟩,aG 1]⟩,.slice (some ⟨g30,0,none⟩) 8 c30,.slice (some ⟨g33,0,none⟩) 2 2⟩,⟨⟨1,1,[isM 0 x.i,isM 5 x.p],[]⟩,.slice (some ⟨g39,0,none⟩) 2 2,.slice none 0 0⟩,⟨⟨3,1,[isM 0 x.i,isM 1 x.m],[]⟩,.slice (some ⟨g45,0,none⟩) 2 2,.slice none 0 0⟩,⟨⟨3,0,[isM 0 x.i,isM 1 65535],(P.filter (be x)).flatMap ar⟩,.slice (some ⟨g53,0,none⟩) 2 2,.slice oo5 N5 oc5⟩,⟨⟨5,0,[isM 8 x.s,isM 9 x.i],[⟨5,0,x.i⟩]⟩,.slice (some ⟨g65,0,none⟩) 2 2,.slice (some ⟨g63,0,none⟩) 1 1⟩]) rfl rfl HB.size (by decide) (fun x hx=>?_))
     simp only [List.mem_cons,List.not_mem_nil,or_false]at hx
     rcases hx with rfl | rfl | rfl | rfl | rfl | rfl
     ·exact aT HM1.out HD1.out (by simp [Value.ownBlock])
     ·exact aT HM2.out HD2.out (by simp [Value.ownBlock])
     ·exact aT HM3.out (World.ownsRow_nil _ _ _ _) (by simp [Value.ownBlock])
     ·exact aT HM4.out (World.ownsRow_nil _ _ _ _) (by simp [Value.ownBlock])
     ·exact aT HM5.out (by rw [←HN5.out];exact HD5.out) (by simp [Value.ownBlock])
     ·exact aT HM6.out HD6.out (by simp [Value.ownBlock])
    have hs70:=hbN.size;replace k0:=zC k0 hbN;replace k1:=zC k1 hbN;replace k2:=zC k2 hbN;replace d0:=zC d0 hbN;replace d1:=zC d1 hbN;replace d2:=zC d2 hbN;replace d3:=zC d3 hbN;replace d4:=zC d4 hbN;replace m0:=zC m0 hbN;replace m1:=zC m1 hbN;replace m2:=zC m2 hbN;replace e0:=zC e0 hbN;replace e1:=zC e1 hbN;replace e2:=zC e2 hbN;replace HM1:=zO HM1 hbN;replace HD1:=zO HD1 hbN;replace HM2:=zO HM2 hbN;replace HD2:=zO HD2 hbN;replace HM3:=zO HM3 hbN;replace HM4:=zO HM4 hbN;replace HD5:=zO HD5 hbN;replace HM5:=zO HM5 hbN;replace HD6:=zO HD6 hbN;replace HM6:=zO HM6 hbN;replace HB:=zT HB hbN;clear hV hg hbN
    refine hK.out _ _ ⟨k0,k1,k2,d0,d1,d2,d3,d4,m0,m1,m2,e0,e1,e2⟩ (fun hHeld=>?_)
    clear hK K
    (try simp only [nz])
    refine tk (i:=50) (d:=4) rfl (by kernel_rfl) (fun _ _ _ h=>h) rfl ‹_› (by intro w h;(try dsimp only at h);go_simp <;>with_reducible rfl) ?_
    simp only [nz]
    refine wpAnyH_done (by kernel_rfl) ?_ _
    clear hHeld
    go_wp2_with fail
    go_ret
    exact⟨_,rfl,HF.out,HB⟩
end Go.Proofs.YtncdininppehkaaGreat
