/- Texts joined: Kg, Rx, Mg, Mh, Oa, Ocf, Kr, Orw, Xh0, Kn. -/
import Derived.Deep.RegionHeld3
import Derived.Deep.DeepCutAuto
import Derived.ProofKit
import Derived.OpenShut
import Derived.ShutString
import Derived.ChangeOld
import Derived.Deep.Slices
import Derived.SizedLaws
import Derived.Deep.MidRow
import Derived.Deep.Light
import Derived.Test.YthmblklaeeifiaaGreatJP6
namespace Go.Proofs.YthmblklaeeifiaaGreat
open Go.RowKit
set_option linter.unusedVariables false
set_option maxRecDepth 100000
set_option maxHeartbeats 16000000
theorem jJ {fn:Func} {p:Tmp} {ty:TypeId} (h:fn.results= #[.cell p ty]) (tmps:Array Value) (P:Program) (w:World):
  (results fn tmps).run P w=((asAddr (tmps.getD p undef)).run P w).andThen fun a w₁=>(loadVar ty a).run P w₁:=by
 simp only [results,h];simp [Sem.run_bind]
theorem dM (W:World) (n:Nat) (h:W.heap.size=n) (cs:Array Value) (t:TypeId) (m:Nat) (hm:m≤cs.size):(W.alloc (.cells cs t)).there n 0 m:=fun j hj=>by
 rw [Nat.zero_add];exact⟨jm W n h cs t j (by omega),bZ W n h cs t j⟩
theorem bW {W:World} {tmps:Array Value} {b:Nat} {a:Ax} {cs:List Value} (hp:tmps.getD 2 undef= .pointer (some ⟨b,0,none⟩)) (hc:Value.agg cs.toArray=dw a) (hl:cs.length=28) (ht:W.there b 0 28):
  (results Tryz.f14 tmps).run Tryz.prog (W.setCells b 0 cs)= .ok (dw a) (W.setCells b 0 cs):=by
 rw [jJ Tryz.results14,hp, ←hc];show(loadVar 60 ⟨b,0,none⟩).run Tryz.prog (W.setCells b 0 cs)=_;exact run_loadVar_mid _ b 0 60 cs _ (World.rangeAt_setCells_same W b 0 cs (by rw [hl];exact ht)) Tryz.underlying60 rfl (by rw [hl];exact cO)
theorem dD (a:Ax):(#[.int .i64 a.k,.int .i64 a.si,.int .i64 a.st,.int .i64 a.sg,.int .i64 a.pi,.int .i64 a.ps,.int .i64 a.pm,.int .i64 a.pp,.int .i64 a.pc,.int .i64 a.rs,.int .i64 a.rp,.bool a.rn,.int .i64 a.rf,.int .i64 a.rb,.int .i64 a.rt,.int .i64 a.re,.int .i64 a.ro,.bool a.rd,.int .i64 a.n,.int .i64 a.m,.int .i64 a.f0,.int .i64 a.f1,.int .i64 a.f2,.int .i64 a.f3,.int .i64 a.f4,.int .i64 a.f5,.int .i64 a.f6,.string a.body]:Array Value).all (·.oneCell')=true:=by
 rw [show(#[.int .i64 a.k,.int .i64 a.si,.int .i64 a.st,.int .i64 a.sg,.int .i64 a.pi,.int .i64 a.ps,.int .i64 a.pm,.int .i64 a.pp,.int .i64 a.pc,.int .i64 a.rs,.int .i64 a.rp,.bool a.rn,.int .i64 a.rf,.int .i64 a.rb,.int .i64 a.rt,.int .i64 a.re,.int .i64 a.ro,.bool a.rd,.int .i64 a.n,.int .i64 a.m,.int .i64 a.f0,.int .i64 a.f1,.int .i64 a.f2,.int .i64 a.f3,.int .i64 a.f4,.int .i64 a.f5,.int .i64 a.f6,.string a.body]:Array Value)= [.int .i64 a.k,.int .i64 a.si,.int .i64 a.st,.int .i64 a.sg,.int .i64 a.pi,.int .i64 a.ps,.int .i64 a.pm,.int .i64 a.pp,.int .i64 a.pc,.int .i64 a.rs,.int .i64 a.rp,.bool a.rn,.int .i64 a.rf,.int .i64 a.rb,.int .i64 a.rt,.int .i64 a.re,.int .i64 a.ro,.bool a.rd,.int .i64 a.n,.int .i64 a.m,.int .i64 a.f0,.int .i64 a.f1,.int .i64 a.f2,.int .i64 a.f3,.int .i64 a.f4,.int .i64 a.f5,.int .i64 a.f6,.string a.body].toArray from rfl,List.all_toArray];rfl
theorem ol (k a b c:Int) (w:World) (hk: -9223372036854775808≤k∧k≤9223372036854775807) (ha: -9223372036854775808≤a∧a≤9223372036854775807) (hb: -9223372036854775808≤b∧b≤9223372036854775807) (hc: -9223372036854775808≤c∧c≤9223372036854775807) (hq:pk k 16=12):
  Calls Tryz.prog 14 #[.agg #[.int .i64 k,.int .i64 a,.int .i64 b,.int .i64 c]] w fun e w'=>∃x:Ax,e= .returned (dw x)∧x.si≤6∧Below w.heap.size w w':=by
 obtain⟨p00,p01⟩:=bm (a) 20 (by omega);obtain⟨hk0,hk1⟩:=hk;obtain⟨ha0,ha1⟩:=ha;obtain⟨hb0,hb1⟩:=hb;obtain⟨hc0,hc1⟩:=hc;obtain⟨pk0,pk1⟩:=bm k 16 (by omega);have u0:=ay (1+pk a 20) (by omega) (by omega);have hn1:¬pk k 16<3:=by omega
 have hn2:¬pk k 16<10:=by omega
 have hn3:¬pk k 16<12:=by omega
 have HT:((w.alloc (.cells #[.int .i64 k,.int .i64 a,.int .i64 b,.int .i64 c] 24)).alloc (.cells #[.int .i64 0,.int .i64 0,.int .i64 0,.int .i64 0,.int .i64 0,.int .i64 0,.int .i64 0,.int .i64 0,.int .i64 0,.int .i64 0,.int .i64 0,.bool false,.int .i64 0,.int .i64 0,.int .i64 0,.int .i64 0,.int .i64 0,.bool false,.int .i64 0,.int .i64 0,.int .i64 0,.int .i64 0,.int .i64 0,.int .i64 0,.int .i64 0,.int .i64 0,.int .i64 0,.string ⟨#[]⟩] 60)).there (w.heap.size+1) 0 28:=dM _ _ (by simp) _ _ _ (by simp);have HBE:Below w.heap.size w ((w.alloc (.cells #[.int .i64 k,.int .i64 a,.int .i64 b,.int .i64 c] 24)).alloc (.cells #[.int .i64 0,.int .i64 0,.int .i64 0,.int .i64 0,.int .i64 0,.int .i64 0,.int .i64 0,.int .i64 0,.int .i64 0,.int .i64 0,.int .i64 0,.bool false,.int .i64 0,.int .i64 0,.int .i64 0,.int .i64 0,.int .i64 0,.bool false,.int .i64 0,.int .i64 0,.int .i64 0,.int .i64 0,.int .i64 0,.int .i64 0,.int .i64 0,.int .i64 0,.int .i64 0,.string ⟨#[]⟩] 60)):=((Below.refl _ _).alloc zr _).alloc (by simp) _;go_enter Tryz.func14,Tryz.ntmps14;go_wp2_with (first |(go_at_call 6;refine(aG _ _ _ ?_ ?_ ?_ ?_).mono ?_;(first | omega | skip);(first | omega | skip);(first | omega | skip);(first | omega | skip);rintro e w' ⟨rfl,rfl⟩) |(refine wpList_store_mid rfl 60 _ _ rfl _ 0 _ rfl rfl ?_ cO ?_ ?_))
 ·exact HT
 ·exact dD ⟨4,0,0,0,0,0,0,0,0,0,0,false,0,0,0,0,0,false,1+pk a 20,0,0,0,0,0,0,0,0,⟨#[]⟩⟩
 refine bodyPost_ret (v:=dw ⟨4,0,0,0,0,0,0,0,0,0,0,false,0,0,0,0,0,false,1+pk a 20,0,0,0,0,0,0,0,0,⟨#[]⟩⟩) (bW (b:=w.heap.size+1) rfl rfl rfl HT) rfl ⟨_,rfl,?_,?_⟩
 ·first |(simp;done) |(simp;omega)
 ·exact bv (Nat.le_succ _) _ _ _ HBE
theorem ox (k a b c:Int) (w:World) (hk: -9223372036854775808≤k∧k≤9223372036854775807) (ha: -9223372036854775808≤a∧a≤9223372036854775807) (hb: -9223372036854775808≤b∧b≤9223372036854775807) (hc: -9223372036854775808≤c∧c≤9223372036854775807) (hq:pk k 16=13):
  Calls Tryz.prog 14 #[.agg #[.int .i64 k,.int .i64 a,.int .i64 b,.int .i64 c]] w fun e w'=>∃x:Ax,e= .returned (dw x)∧x.si≤6∧Below w.heap.size w w':=by
 obtain⟨p00,p01⟩:=bm (a) 4 (by omega);obtain⟨hk0,hk1⟩:=hk;obtain⟨ha0,ha1⟩:=ha;obtain⟨hb0,hb1⟩:=hb;obtain⟨hc0,hc1⟩:=hc;obtain⟨pk0,pk1⟩:=bm k 16 (by omega);have hn1:¬pk k 16<3:=by omega
 have hn2:¬pk k 16<10:=by omega
 have hn3:¬pk k 16<12:=by omega
 have HT:((w.alloc (.cells #[.int .i64 k,.int .i64 a,.int .i64 b,.int .i64 c] 24)).alloc (.cells #[.int .i64 0,.int .i64 0,.int .i64 0,.int .i64 0,.int .i64 0,.int .i64 0,.int .i64 0,.int .i64 0,.int .i64 0,.int .i64 0,.int .i64 0,.bool false,.int .i64 0,.int .i64 0,.int .i64 0,.int .i64 0,.int .i64 0,.bool false,.int .i64 0,.int .i64 0,.int .i64 0,.int .i64 0,.int .i64 0,.int .i64 0,.int .i64 0,.int .i64 0,.int .i64 0,.string ⟨#[]⟩] 60)).there (w.heap.size+1) 0 28:=dM _ _ (by simp) _ _ _ (by simp);have HBE:Below w.heap.size w ((w.alloc (.cells #[.int .i64 k,.int .i64 a,.int .i64 b,.int .i64 c] 24)).alloc (.cells #[.int .i64 0,.int .i64 0,.int .i64 0,.int .i64 0,.int .i64 0,.int .i64 0,.int .i64 0,.int .i64 0,.int .i64 0,.int .i64 0,.int .i64 0,.bool false,.int .i64 0,.int .i64 0,.int .i64 0,.int .i64 0,.int .i64 0,.bool false,.int .i64 0,.int .i64 0,.int .i64 0,.int .i64 0,.int .i64 0,.int .i64 0,.int .i64 0,.int .i64 0,.int .i64 0,.string ⟨#[]⟩] 60)):=((Below.refl _ _).alloc zr _).alloc (by simp) _;go_enter Tryz.func14,Tryz.ntmps14;go_wp2_with (first |(go_at_call 6;refine(aG _ _ _ ?_ ?_ ?_ ?_).mono ?_;(first | omega | skip);(first | omega | skip);(first | omega | skip);(first | omega | skip);rintro e w' ⟨rfl,rfl⟩) |(refine wpList_store_mid rfl 60 _ _ rfl _ 0 _ rfl rfl ?_ cO ?_ ?_))
 ·exact HT
 ·exact dD ⟨5,0,0,0,0,0,0,0,0,0,0,false,0,0,0,0,0,false,pk a 4,0,0,0,0,0,0,0,0,⟨#[]⟩⟩
 refine bodyPost_ret (v:=dw ⟨5,0,0,0,0,0,0,0,0,0,0,false,0,0,0,0,0,false,pk a 4,0,0,0,0,0,0,0,0,⟨#[]⟩⟩) (bW (b:=w.heap.size+1) rfl rfl rfl HT) rfl ⟨_,rfl,?_,?_⟩
 ·first |(simp;done) |(simp;omega)
 ·exact bv (Nat.le_succ _) _ _ _ HBE
theorem ot (k a b c:Int) (w:World) (hk: -9223372036854775808≤k∧k≤9223372036854775807) (ha: -9223372036854775808≤a∧a≤9223372036854775807) (hb: -9223372036854775808≤b∧b≤9223372036854775807) (hc: -9223372036854775808≤c∧c≤9223372036854775807) (hq:13<pk k 16):
  Calls Tryz.prog 14 #[.agg #[.int .i64 k,.int .i64 a,.int .i64 b,.int .i64 c]] w fun e w'=>∃x:Ax,e= .returned (dw x)∧x.si≤6∧Below w.heap.size w w':=by
 obtain⟨p00,p01⟩:=bm (a) 20 (by omega);obtain⟨p10,p11⟩:=bm (b) 5 (by omega);obtain⟨hk0,hk1⟩:=hk;obtain⟨ha0,ha1⟩:=ha;obtain⟨hb0,hb1⟩:=hb;obtain⟨hc0,hc1⟩:=hc;obtain⟨pk0,pk1⟩:=bm k 16 (by omega);have u0:=ay (1+pk a 20) (by omega) (by omega);have u1:=ay (pk b 5-1) (by omega) (by omega);have hn1:¬pk k 16<3:=by omega
 have hn2:¬pk k 16<10:=by omega
 have hn3:¬pk k 16<12:=by omega
 have hn4:¬pk k 16=12:=by omega
 have hn5:¬pk k 16=13:=by omega
 have HT:((w.alloc (.cells #[.int .i64 k,.int .i64 a,.int .i64 b,.int .i64 c] 24)).alloc (.cells #[.int .i64 0,.int .i64 0,.int .i64 0,.int .i64 0,.int .i64 0,.int .i64 0,.int .i64 0,.int .i64 0,.int .i64 0,.int .i64 0,.int .i64 0,.bool false,.int .i64 0,.int .i64 0,.int .i64 0,.int .i64 0,.int .i64 0,.bool false,.int .i64 0,.int .i64 0,.int .i64 0,.int .i64 0,.int .i64 0,.int .i64 0,.int .i64 0,.int .i64 0,.int .i64 0,.string ⟨#[]⟩] 60)).there (w.heap.size+1) 0 28:=dM _ _ (by simp) _ _ _ (by simp);have HBE:Below w.heap.size w ((w.alloc (.cells #[.int .i64 k,.int .i64 a,.int .i64 b,.int .i64 c] 24)).alloc (.cells #[.int .i64 0,.int .i64 0,.int .i64 0,.int .i64 0,.int .i64 0,.int .i64 0,.int .i64 0,.int .i64 0,.int .i64 0,.int .i64 0,.int .i64 0,.bool false,.int .i64 0,.int .i64 0,.int .i64 0,.int .i64 0,.int .i64 0,.bool false,.int .i64 0,.int .i64 0,.int .i64 0,.int .i64 0,.int .i64 0,.int .i64 0,.int .i64 0,.int .i64 0,.int .i64 0,.string ⟨#[]⟩] 60)):=((Below.refl _ _).alloc zr _).alloc (by simp) _;go_enter Tryz.func14,Tryz.ntmps14;go_wp2_with (first |(go_at_call 6;refine(aG _ _ _ ?_ ?_ ?_ ?_).mono ?_;(first | omega | skip);(first | omega | skip);(first | omega | skip);(first | omega | skip);rintro e w' ⟨rfl,rfl⟩))
 obtain⟨W0,hW0⟩:∃W0,W0=((w.alloc (.cells #[.int .i64 k,.int .i64 a,.int .i64 b,.int .i64 c] 24)).alloc (.cells #[.int .i64 0,.int .i64 0,.int .i64 0,.int .i64 0,.int .i64 0,.int .i64 0,.int .i64 0,.int .i64 0,.int .i64 0,.int .i64 0,.int .i64 0,.bool false,.int .i64 0,.int .i64 0,.int .i64 0,.int .i64 0,.int .i64 0,.bool false,.int .i64 0,.int .i64 0,.int .i64 0,.int .i64 0,.int .i64 0,.int .i64 0,.int .i64 0,.int .i64 0,.int .i64 0,.string ⟨#[]⟩] 60)):=⟨_,rfl⟩;rw [←hW0]at HT HBE⊢;have c0:W0.cell? ⟨w.heap.size,0,none⟩=some (.int .i64 k):=by rw [hW0];exact aq (aj w _ rfl _ _ _ _ rfl) _
 have c1:W0.cell? ⟨w.heap.size,1,none⟩=some (.int .i64 a):=by rw [hW0];exact aq (aj w _ rfl _ _ _ _ rfl) _
 have c2:W0.cell? ⟨w.heap.size,2,none⟩=some (.int .i64 b):=by rw [hW0];exact aq (aj w _ rfl _ _ _ _ rfl) _
 have c3:W0.cell? ⟨w.heap.size,3,none⟩=some (.int .i64 c):=by rw [hW0];exact aq (aj w _ rfl _ _ _ _ rfl) _
 clear hW0;have HTD:W0.drew.there (w.heap.size+1) 0 28:=HT;have cd0:W0.drew.cell? ⟨w.heap.size,0,none⟩=some (.int .i64 k):=c0;have cd1:W0.drew.cell? ⟨w.heap.size,1,none⟩=some (.int .i64 a):=c1;have cd2:W0.drew.cell? ⟨w.heap.size,2,none⟩=some (.int .i64 b):=c2;have cd3:W0.drew.cell? ⟨w.heap.size,3,none⟩=some (.int .i64 c):=c3;have HBD:Below w.heap.size w W0.drew:=HBE.drew;refine wp_region_held_drew (S:=(fun w'=>w'.cell? ⟨w.heap.size,0,none⟩=some (.int .i64 k)∧w'.cell? ⟨w.heap.size,1,none⟩=some (.int .i64 a)∧w'.cell? ⟨w.heap.size,2,none⟩=some (.int .i64 b)∧w'.cell? ⟨w.heap.size,3,none⟩=some (.int .i64 c))) (by kernel_rfl) ?hS1 (fun hHeld=>?hR1)
 case hS1=>(try dsimp only);go_keep
 refine sqA [(0,125),(1,126),(4,129),(5,130)] ?_;(iterate 4 (refine sqN rfl (by kernel_rfl) (fun _ _ _ h=>h) rfl ‹_› (by intro w h;go_simp <;>with_reducible rfl) ?_;simp only [nz]));refine sqZ ?_;refine Go.Proofs.YthmblklaeeifiaaGreat.rs 2 127 (by kernel_rfl) rfl (fun K hK=>?_);go_simp;(go_at_call 6;refine(aG _ _ _ (by omega) (by omega) (by omega) (by omega)).mono ?_;rintro e w' ⟨rfl,rfl⟩)
 skip
 refine hK.out _ _ ?hS6 (fun hHeld=>?hR6)
 case hS6=>(try dsimp only);go_keep
 clear hK K;(try simp only [nz]);refine tq 3 128 rfl (by kernel_rfl) (fun _ _ _ h=>h) rfl ‹_› (by intro w h;go_simp <;>with_reducible rfl) ?_;simp only [nz];refine Go.Proofs.YthmblklaeeifiaaGreat.rs 6 131 (by kernel_rfl) rfl (fun K hK=>?_);go_simp;(go_at_call 6;refine(aG _ _ _ (by omega) (by omega) (by omega) (by omega)).mono ?_;rintro e w' ⟨rfl,rfl⟩)
 skip
 refine hK.out _ _ ?hS8 (fun hHeld=>?hR8)
 case hS8=>(try dsimp only);go_keep
 clear hK K;(try simp only [nz]);refine sqA [(7,132),(8,133)] ?_;(iterate 2 (refine sqN rfl (by kernel_rfl) (fun _ _ _ h=>h) rfl ‹_› (by intro w h;go_simp <;>with_reducible rfl) ?_;simp only [nz]));refine sqZ ?_;refine Go.Proofs.YthmblklaeeifiaaGreat.rn 9 (by kernel_rfl) rfl (fun K hK=>?_);refine wp_store_mid 60 (.tmp 2) (.tmp 133) rfl (w.heap.size+1) 0 _ rfl rfl HTD cO (dD ⟨6,0,0,0,0,0,0,0,0,0,0,false,0,0,0,0,0,false,1+pk a 20,pk b 5-1,0,0,0,0,0,0,0,⟨#[]⟩⟩) ?_;refine hK.out _ _ ?hS11 (fun hHeld=>?hR11)
 case hS11=>exact⟨(World.cell?_setCells_out _ _ _ _ _ (fun e=>absurd e (by simp))).trans cd0,(World.cell?_setCells_out _ _ _ _ _ (fun e=>absurd e (by simp))).trans cd1,(World.cell?_setCells_out _ _ _ _ _ (fun e=>absurd e (by simp))).trans cd2,(World.cell?_setCells_out _ _ _ _ _ (fun e=>absurd e (by simp))).trans cd3⟩
 clear hK K;refine wpAnyH_done (by kernel_rfl) ?_ _;go_wp2_with fail
 refine bodyPost_ret (v:=dw ⟨6,0,0,0,0,0,0,0,0,0,0,false,0,0,0,0,0,false,1+pk a 20,pk b 5-1,0,0,0,0,0,0,0,⟨#[]⟩⟩) (bW (b:=w.heap.size+1) rfl rfl rfl HTD) rfl ⟨_,rfl,?_,?_⟩
 ·first |(simp;done) |(simp;omega)
 ·exact bv (Nat.le_succ _) _ _ _ HBD
theorem oq (k a b c:Int) (w:World) (hk: -9223372036854775808≤k∧k≤9223372036854775807) (ha: -9223372036854775808≤a∧a≤9223372036854775807) (hb: -9223372036854775808≤b∧b≤9223372036854775807) (hc: -9223372036854775808≤c∧c≤9223372036854775807) (hq:pk k 16<3):
  Calls Tryz.prog 14 #[.agg #[.int .i64 k,.int .i64 a,.int .i64 b,.int .i64 c]] w fun e w'=>∃x:Ax,e= .returned (dw x)∧x.si≤6∧Below w.heap.size w w':=by
 obtain⟨p00,p01⟩:=bm (a) 6 (by omega);obtain⟨p10,p11⟩:=bm (b) 3 (by omega);obtain⟨p20,p21⟩:=bm (c) 3 (by omega);obtain⟨hk0,hk1⟩:=hk;obtain⟨ha0,ha1⟩:=ha;obtain⟨hb0,hb1⟩:=hb;obtain⟨hc0,hc1⟩:=hc;obtain⟨pk0,pk1⟩:=bm k 16 (by omega);have hm:0≤pk c 3*(100+pk a 6)∧pk c 3*(100+pk a 6)≤1000:=⟨Int.mul_nonneg (by omega) (by omega),Int.le_trans (Int.mul_le_mul_of_nonneg_right (show pk c 3≤2 by omega) (by omega)) (by omega)⟩;have u0:=ay (1+pk a 6) (by omega) (by omega);have u1:=ay (1+pk b 3) (by omega) (by omega);have u2:=ay (100+pk a 6) (by omega) (by omega);have u3:=ay (pk c 3*(100+pk a 6)) (by omega) (by omega);have HT:((w.alloc (.cells #[.int .i64 k,.int .i64 a,.int .i64 b,.int .i64 c] 24)).alloc (.cells #[.int .i64 0,.int .i64 0,.int .i64 0,.int .i64 0,.int .i64 0,.int .i64 0,.int .i64 0,.int .i64 0,.int .i64 0,.int .i64 0,.int .i64 0,.bool false,.int .i64 0,.int .i64 0,.int .i64 0,.int .i64 0,.int .i64 0,.bool false,.int .i64 0,.int .i64 0,.int .i64 0,.int .i64 0,.int .i64 0,.int .i64 0,.int .i64 0,.int .i64 0,.int .i64 0,.string ⟨#[]⟩] 60)).there (w.heap.size+1) 0 28:=dM _ _ (by simp) _ _ _ (by simp);have HBE:Below w.heap.size w ((w.alloc (.cells #[.int .i64 k,.int .i64 a,.int .i64 b,.int .i64 c] 24)).alloc (.cells #[.int .i64 0,.int .i64 0,.int .i64 0,.int .i64 0,.int .i64 0,.int .i64 0,.int .i64 0,.int .i64 0,.int .i64 0,.int .i64 0,.int .i64 0,.bool false,.int .i64 0,.int .i64 0,.int .i64 0,.int .i64 0,.int .i64 0,.bool false,.int .i64 0,.int .i64 0,.int .i64 0,.int .i64 0,.int .i64 0,.int .i64 0,.int .i64 0,.int .i64 0,.int .i64 0,.string ⟨#[]⟩] 60)):=((Below.refl _ _).alloc zr _).alloc (by simp) _;go_enter Tryz.func14,Tryz.ntmps14;go_wp2_with (first |(go_at_call 6;refine(aG _ _ _ ?_ ?_ ?_ ?_).mono ?_;(first | omega | skip);(first | omega | skip);(first | omega | skip);(first | omega | skip);rintro e w' ⟨rfl,rfl⟩))
 obtain⟨W0,hW0⟩:∃W0,W0=((w.alloc (.cells #[.int .i64 k,.int .i64 a,.int .i64 b,.int .i64 c] 24)).alloc (.cells #[.int .i64 0,.int .i64 0,.int .i64 0,.int .i64 0,.int .i64 0,.int .i64 0,.int .i64 0,.int .i64 0,.int .i64 0,.int .i64 0,.int .i64 0,.bool false,.int .i64 0,.int .i64 0,.int .i64 0,.int .i64 0,.int .i64 0,.bool false,.int .i64 0,.int .i64 0,.int .i64 0,.int .i64 0,.int .i64 0,.int .i64 0,.int .i64 0,.int .i64 0,.int .i64 0,.string ⟨#[]⟩] 60)):=⟨_,rfl⟩;rw [←hW0]at HT HBE⊢;have c0:W0.cell? ⟨w.heap.size,0,none⟩=some (.int .i64 k):=by rw [hW0];exact aq (aj w _ rfl _ _ _ _ rfl) _
 have c1:W0.cell? ⟨w.heap.size,1,none⟩=some (.int .i64 a):=by rw [hW0];exact aq (aj w _ rfl _ _ _ _ rfl) _
 have c2:W0.cell? ⟨w.heap.size,2,none⟩=some (.int .i64 b):=by rw [hW0];exact aq (aj w _ rfl _ _ _ _ rfl) _
 have c3:W0.cell? ⟨w.heap.size,3,none⟩=some (.int .i64 c):=by rw [hW0];exact aq (aj w _ rfl _ _ _ _ rfl) _
 clear hW0;have HTD:W0.drew.there (w.heap.size+1) 0 28:=HT;have cd0:W0.drew.cell? ⟨w.heap.size,0,none⟩=some (.int .i64 k):=c0;have cd1:W0.drew.cell? ⟨w.heap.size,1,none⟩=some (.int .i64 a):=c1;have cd2:W0.drew.cell? ⟨w.heap.size,2,none⟩=some (.int .i64 b):=c2;have cd3:W0.drew.cell? ⟨w.heap.size,3,none⟩=some (.int .i64 c):=c3;have HBD:Below w.heap.size w W0.drew:=HBE.drew;refine wp_region_held_drew (S:=(fun w'=>w'.cell? ⟨w.heap.size,0,none⟩=some (.int .i64 k)∧w'.cell? ⟨w.heap.size,1,none⟩=some (.int .i64 a)∧w'.cell? ⟨w.heap.size,2,none⟩=some (.int .i64 b)∧w'.cell? ⟨w.heap.size,3,none⟩=some (.int .i64 c))) (by kernel_rfl) ?hS12 (fun hHeld=>?hR12)
 case hS12=>(try dsimp only);go_keep
 refine sqA [(0,11),(1,12),(4,15),(5,16),(8,19),(9,20),(11,22),(12,23)] ?_;(iterate 8 (refine sqN rfl (by kernel_rfl) (fun _ _ _ h=>h) rfl ‹_› (by intro w h;go_simp <;>with_reducible rfl) ?_;simp only [nz]));refine sqZ ?_;refine Go.Proofs.YthmblklaeeifiaaGreat.rs 2 13 (by kernel_rfl) rfl (fun K hK=>?_);go_simp;(go_at_call 6;refine(aG _ _ _ (by omega) (by omega) (by omega) (by omega)).mono ?_;rintro e w' ⟨rfl,rfl⟩)
 skip
 refine hK.out _ _ ?hS21 (fun hHeld=>?hR21)
 case hS21=>(try dsimp only);go_keep
 clear hK K;(try simp only [nz]);refine tq 3 14 rfl (by kernel_rfl) (fun _ _ _ h=>h) rfl ‹_› (by intro w h;go_simp <;>with_reducible rfl) ?_;simp only [nz];refine Go.Proofs.YthmblklaeeifiaaGreat.rs 6 17 (by kernel_rfl) rfl (fun K hK=>?_);go_simp;(go_at_call 6;refine(aG _ _ _ (by omega) (by omega) (by omega) (by omega)).mono ?_;rintro e w' ⟨rfl,rfl⟩)
 skip
 refine hK.out _ _ ?hS23 (fun hHeld=>?hR23)
 case hS23=>(try dsimp only);go_keep
 clear hK K;(try simp only [nz]);refine tq 7 18 rfl (by kernel_rfl) (fun _ _ _ h=>h) rfl ‹_› (by intro w h;go_simp <;>with_reducible rfl) ?_;simp only [nz];refine Go.Proofs.YthmblklaeeifiaaGreat.rs 10 21 (by kernel_rfl) rfl (fun K hK=>?_);go_simp;(go_at_call 6;refine(aG _ _ _ (by omega) (by omega) (by omega) (by omega)).mono ?_;rintro e w' ⟨rfl,rfl⟩)
 skip
 refine hK.out _ _ ?hS25 (fun hHeld=>?hR25)
 case hS25=>(try dsimp only);go_keep
 clear hK K;(try simp only [nz]);refine Go.Proofs.YthmblklaeeifiaaGreat.rs 13 24 (by kernel_rfl) rfl (fun K hK=>?_);go_simp;(go_at_call 6;refine(aG _ _ _ (by omega) (by omega) (by omega) (by omega)).mono ?_;rintro e w' ⟨rfl,rfl⟩)
 skip
 refine hK.out _ _ ?hS26 (fun hHeld=>?hR26)
 case hS26=>(try dsimp only);go_keep
 clear hK K;(try simp only [nz]);refine sqA [(14,25),(15,26),(16,27),(17,28)] ?_;(iterate 4 (refine sqN rfl (by kernel_rfl) (fun _ _ _ h=>h) rfl ‹_› (by intro w h;go_simp <;>with_reducible rfl) ?_;simp only [nz]));refine sqZ ?_;refine Go.Proofs.YthmblklaeeifiaaGreat.rn 18 (by kernel_rfl) rfl (fun K hK=>?_);refine wp_store_mid 60 (.tmp 2) (.tmp 28) rfl (w.heap.size+1) 0 _ rfl rfl HTD cO (dD ⟨1,1+pk a 6,1+pk b 3,pk c 3*(100+pk a 6),0,0,0,0,0,0,0,false,0,0,0,0,0,false,0,0,0,0,0,0,0,0,0,⟨#[]⟩⟩) ?_;refine hK.out _ _ ?hS31 (fun hHeld=>?hR31)
 case hS31=>exact⟨(World.cell?_setCells_out _ _ _ _ _ (fun e=>absurd e (by simp))).trans cd0,(World.cell?_setCells_out _ _ _ _ _ (fun e=>absurd e (by simp))).trans cd1,(World.cell?_setCells_out _ _ _ _ _ (fun e=>absurd e (by simp))).trans cd2,(World.cell?_setCells_out _ _ _ _ _ (fun e=>absurd e (by simp))).trans cd3⟩
 clear hK K;refine wpAnyH_done (by kernel_rfl) ?_ _;go_wp2_with fail
 refine bodyPost_ret (v:=dw ⟨1,1+pk a 6,1+pk b 3,pk c 3*(100+pk a 6),0,0,0,0,0,0,0,false,0,0,0,0,0,false,0,0,0,0,0,0,0,0,0,⟨#[]⟩⟩) (bW (b:=w.heap.size+1) rfl rfl rfl HTD) rfl ⟨_,rfl,?_,?_⟩
 ·first |(simp;done) |(simp;omega)
 ·exact bv (Nat.le_succ _) _ _ _ HBD
theorem oT (k a b c:Int) (w:World) (hk: -9223372036854775808≤k∧k≤9223372036854775807) (ha: -9223372036854775808≤a∧a≤9223372036854775807) (hb: -9223372036854775808≤b∧b≤9223372036854775807) (hc: -9223372036854775808≤c∧c≤9223372036854775807) (hq:¬pk k 16<3∧pk k 16<10):
  Calls Tryz.prog 14 #[.agg #[.int .i64 k,.int .i64 a,.int .i64 b,.int .i64 c]] w fun e w'=>∃x:Ax,e= .returned (dw x)∧x.si≤6∧Below w.heap.size w w':=by
 have tb6:=di b 6 (by omega) hb.1 hb.2;have vb6:=ay _ tb6.1 tb6.2;have ta20:=di a 20 (by omega) ha.1 ha.2;have va20:=ay _ ta20.1 ta20.2;obtain⟨p00,p01⟩:=bm (a) 20 (by omega);obtain⟨p10,p11⟩:=bm (b) 6 (by omega);obtain⟨p20,p21⟩:=bm (c) 9 (by omega);obtain⟨p30,p31⟩:=bm (c) 30 (by omega);obtain⟨p40,p41⟩:=bm (b.tdiv 6) 4 (by omega);obtain⟨p50,p51⟩:=bm (a.tdiv 20) 2 (by omega);obtain⟨hk0,hk1⟩:=hk;obtain⟨ha0,ha1⟩:=ha;obtain⟨hb0,hb1⟩:=hb;obtain⟨hc0,hc1⟩:=hc;obtain⟨pk0,pk1⟩:=bm k 16 (by omega);have u0:=ay (1+pk a 20) (by omega) (by omega);have u1:=ay (1+pk b 6) (by omega) (by omega);have u2:=ay (1+pk c 9) (by omega) (by omega);have u3:=ay (1+pk c 30) (by omega) (by omega);have u4:=ay (pk (b.tdiv 6) 4-1) (by omega) (by omega);have u5:=ay (pk (b.tdiv 6) 4-1+pk (a.tdiv 20) 2) (by omega) (by omega);obtain⟨hq1,hq2⟩:=hq;have HT:((w.alloc (.cells #[.int .i64 k,.int .i64 a,.int .i64 b,.int .i64 c] 24)).alloc (.cells #[.int .i64 0,.int .i64 0,.int .i64 0,.int .i64 0,.int .i64 0,.int .i64 0,.int .i64 0,.int .i64 0,.int .i64 0,.int .i64 0,.int .i64 0,.bool false,.int .i64 0,.int .i64 0,.int .i64 0,.int .i64 0,.int .i64 0,.bool false,.int .i64 0,.int .i64 0,.int .i64 0,.int .i64 0,.int .i64 0,.int .i64 0,.int .i64 0,.int .i64 0,.int .i64 0,.string ⟨#[]⟩] 60)).there (w.heap.size+1) 0 28:=dM _ _ (by simp) _ _ _ (by simp);have HBE:Below w.heap.size w ((w.alloc (.cells #[.int .i64 k,.int .i64 a,.int .i64 b,.int .i64 c] 24)).alloc (.cells #[.int .i64 0,.int .i64 0,.int .i64 0,.int .i64 0,.int .i64 0,.int .i64 0,.int .i64 0,.int .i64 0,.int .i64 0,.int .i64 0,.int .i64 0,.bool false,.int .i64 0,.int .i64 0,.int .i64 0,.int .i64 0,.int .i64 0,.bool false,.int .i64 0,.int .i64 0,.int .i64 0,.int .i64 0,.int .i64 0,.int .i64 0,.int .i64 0,.int .i64 0,.int .i64 0,.string ⟨#[]⟩] 60)):=((Below.refl _ _).alloc zr _).alloc (by simp) _;go_enter Tryz.func14,Tryz.ntmps14;go_wp2_with (first |(go_at_call 6;refine(aG _ _ _ ?_ ?_ ?_ ?_).mono ?_;(first | omega | skip);(first | omega | skip);(first | omega | skip);(first | omega | skip);rintro e w' ⟨rfl,rfl⟩))
 obtain⟨W0,hW0⟩:∃W0,W0=((w.alloc (.cells #[.int .i64 k,.int .i64 a,.int .i64 b,.int .i64 c] 24)).alloc (.cells #[.int .i64 0,.int .i64 0,.int .i64 0,.int .i64 0,.int .i64 0,.int .i64 0,.int .i64 0,.int .i64 0,.int .i64 0,.int .i64 0,.int .i64 0,.bool false,.int .i64 0,.int .i64 0,.int .i64 0,.int .i64 0,.int .i64 0,.bool false,.int .i64 0,.int .i64 0,.int .i64 0,.int .i64 0,.int .i64 0,.int .i64 0,.int .i64 0,.int .i64 0,.int .i64 0,.string ⟨#[]⟩] 60)):=⟨_,rfl⟩;rw [←hW0]at HT HBE⊢;have c0:W0.cell? ⟨w.heap.size,0,none⟩=some (.int .i64 k):=by rw [hW0];exact aq (aj w _ rfl _ _ _ _ rfl) _
 have c1:W0.cell? ⟨w.heap.size,1,none⟩=some (.int .i64 a):=by rw [hW0];exact aq (aj w _ rfl _ _ _ _ rfl) _
 have c2:W0.cell? ⟨w.heap.size,2,none⟩=some (.int .i64 b):=by rw [hW0];exact aq (aj w _ rfl _ _ _ _ rfl) _
 have c3:W0.cell? ⟨w.heap.size,3,none⟩=some (.int .i64 c):=by rw [hW0];exact aq (aj w _ rfl _ _ _ _ rfl) _
 clear hW0;have HTD:W0.drew.there (w.heap.size+1) 0 28:=HT;have cd0:W0.drew.cell? ⟨w.heap.size,0,none⟩=some (.int .i64 k):=c0;have cd1:W0.drew.cell? ⟨w.heap.size,1,none⟩=some (.int .i64 a):=c1;have cd2:W0.drew.cell? ⟨w.heap.size,2,none⟩=some (.int .i64 b):=c2;have cd3:W0.drew.cell? ⟨w.heap.size,3,none⟩=some (.int .i64 c):=c3;have HBD:Below w.heap.size w W0.drew:=HBE.drew;refine wp_region_held_drew (S:=(fun w'=>w'.cell? ⟨w.heap.size,0,none⟩=some (.int .i64 k)∧w'.cell? ⟨w.heap.size,1,none⟩=some (.int .i64 a)∧w'.cell? ⟨w.heap.size,2,none⟩=some (.int .i64 b)∧w'.cell? ⟨w.heap.size,3,none⟩=some (.int .i64 c))) (by kernel_rfl) ?hS32 (fun hHeld=>?hR32)
 case hS32=>(try dsimp only);go_keep
 refine sqA [(0,32),(1,33),(4,36),(5,37),(8,40),(9,41),(12,44),(13,45),(16,48),(17,49),(18,50),(21,53),(22,54),(23,55)] ?_;(iterate 14 (refine sqN rfl (by kernel_rfl) (fun _ _ _ h=>h) rfl ‹_› (by intro w h;go_simp <;>with_reducible rfl) ?_;simp only [nz]));refine sqZ ?_;refine Go.Proofs.YthmblklaeeifiaaGreat.rs 2 34 (by kernel_rfl) rfl (fun K hK=>?_);go_simp;(go_at_call 6;refine(aG _ _ _ (by omega) (by omega) (by omega) (by omega)).mono ?_;rintro e w' ⟨rfl,rfl⟩)
 skip
 refine hK.out _ _ ?hS47 (fun hHeld=>?hR47)
 case hS47=>(try dsimp only);go_keep
 clear hK K;(try simp only [nz]);refine tq 3 35 rfl (by kernel_rfl) (fun _ _ _ h=>h) rfl ‹_› (by intro w h;go_simp <;>with_reducible rfl) ?_;simp only [nz];refine Go.Proofs.YthmblklaeeifiaaGreat.rs 6 38 (by kernel_rfl) rfl (fun K hK=>?_);go_simp;(go_at_call 6;refine(aG _ _ _ (by omega) (by omega) (by omega) (by omega)).mono ?_;rintro e w' ⟨rfl,rfl⟩)
 skip
 refine hK.out _ _ ?hS49 (fun hHeld=>?hR49)
 case hS49=>(try dsimp only);go_keep
 clear hK K;(try simp only [nz]);refine tq 7 39 rfl (by kernel_rfl) (fun _ _ _ h=>h) rfl ‹_› (by intro w h;go_simp <;>with_reducible rfl) ?_;simp only [nz];refine Go.Proofs.YthmblklaeeifiaaGreat.rs 10 42 (by kernel_rfl) rfl (fun K hK=>?_);go_simp;(go_at_call 6;refine(aG _ _ _ (by omega) (by omega) (by omega) (by omega)).mono ?_;rintro e w' ⟨rfl,rfl⟩)
 skip
 refine hK.out _ _ ?hS51 (fun hHeld=>?hR51)
 case hS51=>(try dsimp only);go_keep
 clear hK K;(try simp only [nz]);refine tq 11 43 rfl (by kernel_rfl) (fun _ _ _ h=>h) rfl ‹_› (by intro w h;go_simp <;>with_reducible rfl) ?_;simp only [nz];refine Go.Proofs.YthmblklaeeifiaaGreat.rs 14 46 (by kernel_rfl) rfl (fun K hK=>?_);go_simp;(go_at_call 6;refine(aG _ _ _ (by omega) (by omega) (by omega) (by omega)).mono ?_;rintro e w' ⟨rfl,rfl⟩)
 skip
 refine hK.out _ _ ?hS53 (fun hHeld=>?hR53)
 case hS53=>(try dsimp only);go_keep
 clear hK K;(try simp only [nz]);refine tq 15 47 rfl (by kernel_rfl) (fun _ _ _ h=>h) rfl ‹_› (by intro w h;go_simp <;>with_reducible rfl) ?_;simp only [nz];refine Go.Proofs.YthmblklaeeifiaaGreat.rs 19 51 (by kernel_rfl) rfl (fun K hK=>?_);go_simp;(go_at_call 6;refine(aG _ _ _ (by omega) (by omega) (by omega) (by omega)).mono ?_;rintro e w' ⟨rfl,rfl⟩)
 skip
 refine hK.out _ _ ?hS55 (fun hHeld=>?hR55)
 case hS55=>(try dsimp only);go_keep
 clear hK K;(try simp only [nz]);refine tq 20 52 rfl (by kernel_rfl) (fun _ _ _ h=>h) rfl ‹_› (by intro w h;go_simp <;>with_reducible rfl) ?_;simp only [nz];refine Go.Proofs.YthmblklaeeifiaaGreat.rs 24 56 (by kernel_rfl) rfl (fun K hK=>?_);go_simp;(go_at_call 6;refine(aG _ _ _ (by omega) (by omega) (by omega) (by omega)).mono ?_;rintro e w' ⟨rfl,rfl⟩)
 skip
 refine hK.out _ _ ?hS57 (fun hHeld=>?hR57)
 case hS57=>(try dsimp only);go_keep
 clear hK K;(try simp only [nz]);refine sqA [(25,57),(26,58),(27,59)] ?_;(iterate 3 (refine sqN rfl (by kernel_rfl) (fun _ _ _ h=>h) rfl ‹_› (by intro w h;go_simp <;>with_reducible rfl) ?_;simp only [nz]));refine sqZ ?_;refine Go.Proofs.YthmblklaeeifiaaGreat.rn 28 (by kernel_rfl) rfl (fun K hK=>?_);refine wp_store_mid 60 (.tmp 2) (.tmp 59) rfl (w.heap.size+1) 0 _ rfl rfl HTD cO (dD ⟨2,0,0,0,1+pk a 20,1+pk b 6,1+pk c 9,1+pk c 30,pk (b.tdiv 6) 4-1+pk (a.tdiv 20) 2,0,0,false,0,0,0,0,0,false,0,0,0,0,0,0,0,0,0,⟨#[]⟩⟩) ?_;refine hK.out _ _ ?hS61 (fun hHeld=>?hR61)
 case hS61=>exact⟨(World.cell?_setCells_out _ _ _ _ _ (fun e=>absurd e (by simp))).trans cd0,(World.cell?_setCells_out _ _ _ _ _ (fun e=>absurd e (by simp))).trans cd1,(World.cell?_setCells_out _ _ _ _ _ (fun e=>absurd e (by simp))).trans cd2,(World.cell?_setCells_out _ _ _ _ _ (fun e=>absurd e (by simp))).trans cd3⟩
 clear hK K;refine wpAnyH_done (by kernel_rfl) ?_ _;go_wp2_with fail
 refine bodyPost_ret (v:=dw ⟨2,0,0,0,1+pk a 20,1+pk b 6,1+pk c 9,1+pk c 30,pk (b.tdiv 6) 4-1+pk (a.tdiv 20) 2,0,0,false,0,0,0,0,0,false,0,0,0,0,0,0,0,0,0,⟨#[]⟩⟩) (bW (b:=w.heap.size+1) rfl rfl rfl HTD) rfl ⟨_,rfl,?_,?_⟩
 ·first |(simp;done) |(simp;omega)
 ·exact bv (Nat.le_succ _) _ _ _ HBD
theorem pd (k a b c:Int) (w:World) (hk: -9223372036854775808≤k∧k≤9223372036854775807) (ha: -9223372036854775808≤a∧a≤9223372036854775807) (hb: -9223372036854775808≤b∧b≤9223372036854775807) (hc: -9223372036854775808≤c∧c≤9223372036854775807) (hq:¬pk k 16<10∧pk k 16<12):
  Calls Tryz.prog 14 #[.agg #[.int .i64 k,.int .i64 a,.int .i64 b,.int .i64 c]] w fun e w'=>∃x:Ax,e= .returned (dw x)∧x.si≤6∧Below w.heap.size w w':=by
 have tb5:=di b 5 (by omega) hb.1 hb.2;have vb5:=ay _ tb5.1 tb5.2;have tc2:=di c 2 (by omega) hc.1 hc.2;have vc2:=ay _ tc2.1 tc2.2;have tc6:=di c 6 (by omega) hc.1 hc.2;have vc6:=ay _ tc6.1 tc6.2;have ta6:=di a 6 (by omega) ha.1 ha.2;have va6:=ay _ ta6.1 ta6.2;have tc12:=di c 12 (by omega) hc.1 hc.2;have vc12:=ay _ tc12.1 tc12.2;have tb20:=di b 20 (by omega) hb.1 hb.2;have vb20:=ay _ tb20.1 tb20.2;obtain⟨p00,p01⟩:=bm (a) 6 (by omega);obtain⟨p10,p11⟩:=bm (b) 5 (by omega);obtain⟨p20,p21⟩:=bm (c) 2 (by omega);obtain⟨p30,p31⟩:=bm (b.tdiv 5) 4 (by omega);obtain⟨p40,p41⟩:=bm (c.tdiv 2) 3 (by omega);obtain⟨p50,p51⟩:=bm (c.tdiv 6) 2 (by omega);obtain⟨p60,p61⟩:=bm (a.tdiv 6) 30 (by omega);obtain⟨p70,p71⟩:=bm (c.tdiv 12) 3 (by omega);obtain⟨p80,p81⟩:=bm (b.tdiv 20) 8 (by omega);obtain⟨hk0,hk1⟩:=hk;obtain⟨ha0,ha1⟩:=ha;obtain⟨hb0,hb1⟩:=hb;obtain⟨hc0,hc1⟩:=hc;obtain⟨pk0,pk1⟩:=bm k 16 (by omega);have u0:=ay (1+pk a 6) (by omega) (by omega);have u1:=ay (pk (b.tdiv 5) 4-1) (by omega) (by omega);have u2:=ay (pk (b.tdiv 20) 8*4) (by omega) (by omega);obtain⟨hq1,hq2⟩:=hq;have hn1:¬pk k 16<3:=by omega
 have HT:((w.alloc (.cells #[.int .i64 k,.int .i64 a,.int .i64 b,.int .i64 c] 24)).alloc (.cells #[.int .i64 0,.int .i64 0,.int .i64 0,.int .i64 0,.int .i64 0,.int .i64 0,.int .i64 0,.int .i64 0,.int .i64 0,.int .i64 0,.int .i64 0,.bool false,.int .i64 0,.int .i64 0,.int .i64 0,.int .i64 0,.int .i64 0,.bool false,.int .i64 0,.int .i64 0,.int .i64 0,.int .i64 0,.int .i64 0,.int .i64 0,.int .i64 0,.int .i64 0,.int .i64 0,.string ⟨#[]⟩] 60)).there (w.heap.size+1) 0 28:=dM _ _ (by simp) _ _ _ (by simp);have HBE:Below w.heap.size w ((w.alloc (.cells #[.int .i64 k,.int .i64 a,.int .i64 b,.int .i64 c] 24)).alloc (.cells #[.int .i64 0,.int .i64 0,.int .i64 0,.int .i64 0,.int .i64 0,.int .i64 0,.int .i64 0,.int .i64 0,.int .i64 0,.int .i64 0,.int .i64 0,.bool false,.int .i64 0,.int .i64 0,.int .i64 0,.int .i64 0,.int .i64 0,.bool false,.int .i64 0,.int .i64 0,.int .i64 0,.int .i64 0,.int .i64 0,.int .i64 0,.int .i64 0,.int .i64 0,.int .i64 0,.string ⟨#[]⟩] 60)):=((Below.refl _ _).alloc zr _).alloc (by simp) _;go_enter Tryz.func14,Tryz.ntmps14;go_wp2_with (first |(go_at_call 6;refine(aG _ _ _ ?_ ?_ ?_ ?_).mono ?_;(first | omega | skip);(first | omega | skip);(first | omega | skip);(first | omega | skip);rintro e w' ⟨rfl,rfl⟩))
 obtain⟨W0,hW0⟩:∃W0,W0=((w.alloc (.cells #[.int .i64 k,.int .i64 a,.int .i64 b,.int .i64 c] 24)).alloc (.cells #[.int .i64 0,.int .i64 0,.int .i64 0,.int .i64 0,.int .i64 0,.int .i64 0,.int .i64 0,.int .i64 0,.int .i64 0,.int .i64 0,.int .i64 0,.bool false,.int .i64 0,.int .i64 0,.int .i64 0,.int .i64 0,.int .i64 0,.bool false,.int .i64 0,.int .i64 0,.int .i64 0,.int .i64 0,.int .i64 0,.int .i64 0,.int .i64 0,.int .i64 0,.int .i64 0,.string ⟨#[]⟩] 60)):=⟨_,rfl⟩;rw [←hW0]at HT HBE⊢;have c0:W0.cell? ⟨w.heap.size,0,none⟩=some (.int .i64 k):=by rw [hW0];exact aq (aj w _ rfl _ _ _ _ rfl) _
 have c1:W0.cell? ⟨w.heap.size,1,none⟩=some (.int .i64 a):=by rw [hW0];exact aq (aj w _ rfl _ _ _ _ rfl) _
 have c2:W0.cell? ⟨w.heap.size,2,none⟩=some (.int .i64 b):=by rw [hW0];exact aq (aj w _ rfl _ _ _ _ rfl) _
 have c3:W0.cell? ⟨w.heap.size,3,none⟩=some (.int .i64 c):=by rw [hW0];exact aq (aj w _ rfl _ _ _ _ rfl) _
 clear hW0;have hlt:w.heap.size+1<W0.heap.size:=am (Option.isSome_iff_exists.1 (HT 0 (by omega)).1).choose_spec;go_region_held3 (fun w'=>w'.cell? ⟨w.heap.size,0,none⟩=some (.int .i64 k)∧w'.cell? ⟨w.heap.size,1,none⟩=some (.int .i64 a)∧w'.cell? ⟨w.heap.size,2,none⟩=some (.int .i64 b)∧w'.cell? ⟨w.heap.size,3,none⟩=some (.int .i64 c)) (go_keep) (first |(go_at_call 6;refine(aG _ _ _ ?_ ?_ ?_ ?_).mono ?_;(first | omega | skip);(first | omega | skip);(first | omega | skip);(first | omega | skip);rintro e w' ⟨rfl,rfl⟩))
 all_goals
  obtain⟨W1,hW1⟩:∃W1,W1=(W0.alloc (.cells #[.int .i64 (1+pk a 6),.int .i64 (pk b 5),.bool (pk c 2==0),.int .i64 0,.int .i64 0,.int .i64 0,.int .i64 0,.int .i64 (pk (b.tdiv 5) 4-1),.bool (decide (0<pk (c.tdiv 2) 3))] 58)).drew:=⟨_,rfl⟩;obtain⟨ab,hab⟩:∃ab,ab=W0.heap.size:=⟨_,rfl⟩;rw [←hW1, ←hab];have d0:W1.cell? ⟨ab,0,none⟩=some (.int .i64 (1+pk a 6)):=(by rw [hW1,hab];exact aj W0 _ rfl _ _ _ _ rfl);have d1:W1.cell? ⟨ab,1,none⟩=some (.int .i64 (pk b 5)):=(by rw [hW1,hab];exact aj W0 _ rfl _ _ _ _ rfl);have d2:W1.cell? ⟨ab,2,none⟩=some (.bool (pk c 2==0)):=(by rw [hW1,hab];exact aj W0 _ rfl _ _ _ _ rfl);have d3:W1.cell? ⟨ab,3,none⟩=some (.int .i64 0):=(by rw [hW1,hab];exact aj W0 _ rfl _ _ _ _ rfl);have d4:W1.cell? ⟨ab,4,none⟩=some (.int .i64 0):=(by rw [hW1,hab];exact aj W0 _ rfl _ _ _ _ rfl);have d5:W1.cell? ⟨ab,5,none⟩=some (.int .i64 0):=(by rw [hW1,hab];exact aj W0 _ rfl _ _ _ _ rfl);have d6:W1.cell? ⟨ab,6,none⟩=some (.int .i64 0):=(by rw [hW1,hab];exact aj W0 _ rfl _ _ _ _ rfl);have d7:W1.cell? ⟨ab,7,none⟩=some (.int .i64 (pk (b.tdiv 5) 4-1)):=(by rw [hW1,hab];exact aj W0 _ rfl _ _ _ _ rfl);have d8:W1.cell? ⟨ab,8,none⟩=some (.bool (decide (0<pk (c.tdiv 2) 3))):=(by rw [hW1,hab];exact aj W0 _ rfl _ _ _ _ rfl);have z3:W1.frozen? ⟨ab,3,none⟩=false:=(by rw [hW1,hab];exact bZ W0 _ rfl _ _ _);have z4:W1.frozen? ⟨ab,4,none⟩=false:=(by rw [hW1,hab];exact bZ W0 _ rfl _ _ _);have z5:W1.frozen? ⟨ab,5,none⟩=false:=(by rw [hW1,hab];exact bZ W0 _ rfl _ _ _);have z6:W1.frozen? ⟨ab,6,none⟩=false:=(by rw [hW1,hab];exact bZ W0 _ rfl _ _ _);have B1:Below W0.heap.size W0 W1:=by rw [hW1];exact((Below.refl _ _).alloc zr _).drew
  have e0:=zC c0 B1;have e1:=zC c1 B1;have e2:=zC c2 B1;have e3:=zC c3 B1;have HT1:W1.there (w.heap.size+1) 0 28:=fun j hj=>⟨by rw [show W1.cell? ⟨w.heap.size+1,0+j,none⟩=W0.cell? ⟨w.heap.size+1,0+j,none⟩from B1.cell (p:=⟨w.heap.size+1,0+j,none⟩) hlt];exact(HT j hj).1,(B1.frozen (p:=⟨w.heap.size+1,0+j,none⟩) hlt).trans (HT j hj).2⟩;have HBE1:Below w.heap.size w W1:=HBE.trans (B1.mono HBE.size);have hn2:w.heap.size+1<ab:=(by omega);have hn3:¬ab=w.heap.size:=(by omega);have hn4:¬w.heap.size=ab:=(by omega);have hn5:w.heap.size≤ab:=(by omega);clear hW1 hab c0 c1 c2 c3 HT HBE B1 hlt;by_cases g1:pk (c.tdiv 6) 2=0
  ·by_cases g2:pk (c.tdiv 12) 3=0
   ·go_wp2_with (first |(go_at_call 6;refine(aG _ _ _ ?_ ?_ ?_ ?_).mono ?_;(first | omega | skip);(first | omega | skip);(first | omega | skip);(first | omega | skip);rintro e w' ⟨rfl,rfl⟩) |(refine wpList_store_mid rfl 60 _ _ rfl _ 0 _ rfl rfl ?_ cO ?_ ?_))
    ·exact(World.there_setCells (World.there_setCells (World.there_setCells (World.there_setCells HT1 ab 3 [.int .i64 (pk (a.tdiv 6) 30)]) ab 4 [.int .i64 16]) ab 5 [.int .i64 (pk (b.tdiv 20) 8*4)]) ab 6 [.int .i64 14])
    ·exact dD ⟨3,0,0,0,0,0,0,0,0,1+pk a 6,pk b 5,pk c 2==0,pk (a.tdiv 6) 30,16,pk (b.tdiv 20) 8*4,14,pk (b.tdiv 5) 4-1,decide (0<pk (c.tdiv 2) 3),0,0,0,0,0,0,0,0,0,⟨#[]⟩⟩
    refine bodyPost_ret (v:=dw ⟨3,0,0,0,0,0,0,0,0,1+pk a 6,pk b 5,pk c 2==0,pk (a.tdiv 6) 30,16,pk (b.tdiv 20) 8*4,14,pk (b.tdiv 5) 4-1,decide (0<pk (c.tdiv 2) 3),0,0,0,0,0,0,0,0,0,⟨#[]⟩⟩) (bW (b:=w.heap.size+1) rfl rfl rfl (World.there_setCells (World.there_setCells (World.there_setCells (World.there_setCells HT1 ab 3 [.int .i64 (pk (a.tdiv 6) 30)]) ab 4 [.int .i64 16]) ab 5 [.int .i64 (pk (b.tdiv 20) 8*4)]) ab 6 [.int .i64 14])) rfl ⟨_,rfl,?_,?_⟩
    ·simp
    ·exact bv (Nat.le_succ _) _ _ _ ((((HBE1.setCell (p:=⟨ab,3,none⟩) hn5 (.int .i64 (pk (a.tdiv 6) 30))).setCell (p:=⟨ab,4,none⟩) hn5 (.int .i64 16)).setCell (p:=⟨ab,5,none⟩) hn5 (.int .i64 (pk (b.tdiv 20) 8*4))).setCell (p:=⟨ab,6,none⟩) hn5 (.int .i64 14))
   ·go_wp2_with (first |(go_at_call 6;refine(aG _ _ _ ?_ ?_ ?_ ?_).mono ?_;(first | omega | skip);(first | omega | skip);(first | omega | skip);(first | omega | skip);rintro e w' ⟨rfl,rfl⟩) |(refine wpList_store_mid rfl 60 _ _ rfl _ 0 _ rfl rfl ?_ cO ?_ ?_))
    ·exact(World.there_setCells (World.there_setCells HT1 ab 3 [.int .i64 (pk (a.tdiv 6) 30)]) ab 4 [.int .i64 16])
    ·exact dD ⟨3,0,0,0,0,0,0,0,0,1+pk a 6,pk b 5,pk c 2==0,pk (a.tdiv 6) 30,16,0,0,pk (b.tdiv 5) 4-1,decide (0<pk (c.tdiv 2) 3),0,0,0,0,0,0,0,0,0,⟨#[]⟩⟩
    refine bodyPost_ret (v:=dw ⟨3,0,0,0,0,0,0,0,0,1+pk a 6,pk b 5,pk c 2==0,pk (a.tdiv 6) 30,16,0,0,pk (b.tdiv 5) 4-1,decide (0<pk (c.tdiv 2) 3),0,0,0,0,0,0,0,0,0,⟨#[]⟩⟩) (bW (b:=w.heap.size+1) rfl rfl rfl (World.there_setCells (World.there_setCells HT1 ab 3 [.int .i64 (pk (a.tdiv 6) 30)]) ab 4 [.int .i64 16])) rfl ⟨_,rfl,?_,?_⟩
    ·simp
    ·exact bv (Nat.le_succ _) _ _ _ ((HBE1.setCell (p:=⟨ab,3,none⟩) hn5 (.int .i64 (pk (a.tdiv 6) 30))).setCell (p:=⟨ab,4,none⟩) hn5 (.int .i64 16))
  ·by_cases g2:pk (c.tdiv 12) 3=0
   ·go_wp2_with (first |(go_at_call 6;refine(aG _ _ _ ?_ ?_ ?_ ?_).mono ?_;(first | omega | skip);(first | omega | skip);(first | omega | skip);(first | omega | skip);rintro e w' ⟨rfl,rfl⟩) |(refine wpList_store_mid rfl 60 _ _ rfl _ 0 _ rfl rfl ?_ cO ?_ ?_))
    ·exact(World.there_setCells (World.there_setCells HT1 ab 5 [.int .i64 (pk (b.tdiv 20) 8*4)]) ab 6 [.int .i64 14])
    ·exact dD ⟨3,0,0,0,0,0,0,0,0,1+pk a 6,pk b 5,pk c 2==0,0,0,pk (b.tdiv 20) 8*4,14,pk (b.tdiv 5) 4-1,decide (0<pk (c.tdiv 2) 3),0,0,0,0,0,0,0,0,0,⟨#[]⟩⟩
    refine bodyPost_ret (v:=dw ⟨3,0,0,0,0,0,0,0,0,1+pk a 6,pk b 5,pk c 2==0,0,0,pk (b.tdiv 20) 8*4,14,pk (b.tdiv 5) 4-1,decide (0<pk (c.tdiv 2) 3),0,0,0,0,0,0,0,0,0,⟨#[]⟩⟩) (bW (b:=w.heap.size+1) rfl rfl rfl (World.there_setCells (World.there_setCells HT1 ab 5 [.int .i64 (pk (b.tdiv 20) 8*4)]) ab 6 [.int .i64 14])) rfl ⟨_,rfl,?_,?_⟩
    ·simp
    ·exact bv (Nat.le_succ _) _ _ _ ((HBE1.setCell (p:=⟨ab,5,none⟩) hn5 (.int .i64 (pk (b.tdiv 20) 8*4))).setCell (p:=⟨ab,6,none⟩) hn5 (.int .i64 14))
   ·go_wp2_with (first |(go_at_call 6;refine(aG _ _ _ ?_ ?_ ?_ ?_).mono ?_;(first | omega | skip);(first | omega | skip);(first | omega | skip);(first | omega | skip);rintro e w' ⟨rfl,rfl⟩) |(refine wpList_store_mid rfl 60 _ _ rfl _ 0 _ rfl rfl ?_ cO ?_ ?_))
    ·exact HT1
    ·exact dD ⟨3,0,0,0,0,0,0,0,0,1+pk a 6,pk b 5,pk c 2==0,0,0,0,0,pk (b.tdiv 5) 4-1,decide (0<pk (c.tdiv 2) 3),0,0,0,0,0,0,0,0,0,⟨#[]⟩⟩
    refine bodyPost_ret (v:=dw ⟨3,0,0,0,0,0,0,0,0,1+pk a 6,pk b 5,pk c 2==0,0,0,0,0,pk (b.tdiv 5) 4-1,decide (0<pk (c.tdiv 2) 3),0,0,0,0,0,0,0,0,0,⟨#[]⟩⟩) (bW (b:=w.heap.size+1) rfl rfl rfl HT1) rfl ⟨_,rfl,?_,?_⟩
    ·simp
    ·exact bv (Nat.le_succ _) _ _ _ HBE1
theorem mM (x:Int×Int×Int×Int) (w:World) (hk: -9223372036854775808≤x.1∧x.1≤9223372036854775807) (ha: -9223372036854775808≤x.2.1∧x.2.1≤9223372036854775807) (hb: -9223372036854775808≤x.2.2.1∧x.2.2.1≤9223372036854775807) (hc: -9223372036854775808≤x.2.2.2∧x.2.2.2≤9223372036854775807):
  Calls Tryz.prog 14 #[.agg #[.int .i64 x.1,.int .i64 x.2.1,.int .i64 x.2.2.1,.int .i64 x.2.2.2]] w fun e w'=>∃x:Ax,e= .returned (dw x)∧x.si≤6∧Below w.heap.size w w':=by
 obtain⟨p0,p1⟩:=bm x.1 16 (by omega);rcases(show pk x.1 16<3∨(¬pk x.1 16<3∧pk x.1 16<10)∨(¬pk x.1 16<10∧pk x.1 16<12)∨pk x.1 16=12∨pk x.1 16=13∨13<pk x.1 16 by omega)with h | h | h | h | h | h
 ·exact oq _ _ _ _ w hk ha hb hc h
 ·exact oT _ _ _ _ w hk ha hb hc h
 ·exact pd _ _ _ _ w hk ha hb hc h
 ·exact ol _ _ _ _ w hk ha hb hc h
 ·exact ox _ _ _ _ w hk ha hb hc h
 ·exact ot _ _ _ _ w hk ha hb hc h

theorem fR {α:Type} {L0 R0 L R:List α} {x:α} (h:L0++R0=L++x::R):(∃L1,L=L0++L1∧R0=L1++x::R)∨∃L1,L0=L++x::L1∧R=L1++R0:=by
 rw [List.append_eq_append_iff]at h;rcases h with⟨a,h1,h2⟩ |⟨a,h1,h2⟩
 ·exact .inl ⟨a,h1,h2⟩
 ·cases a with
  | nil=>simp at h1 h2;exact .inl ⟨[],by simp [h1],by simp [h2]⟩
  | cons b c=>
   simp at h2;obtain⟨rfl,h2⟩:=h2;exact .inr ⟨c,h1,h2⟩
def Like (y z:Pr):Prop:=y.i=z.i∧y.s=z.s∧y.m=z.m∧y.p=z.p
theorem Like.refl (y:Pr):Like y y:=⟨rfl,rfl,rfl,rfl⟩
theorem kO {S:List Sw} {P P':List Pr} {x x':Pr} (h:ba S P x=0) (hx:Like x' x) (hb:es x'=true) (hp:∀y∈P',∃z∈P,Like y z) (hl:P'.length≤P.length):ba S P' x'=0:=by
 rw [fN]at h⊢;obtain⟨h1,h2,h3,h4,h5⟩:=h;obtain⟨e1,e2,e3,e4⟩:=hx;rw [e1,e2,e3,e4];refine⟨hb,h2,?_,?_,by omega⟩
 ·rw [List.any_eq_false]at h3⊢;intro y hy;obtain⟨z,hz,f1,f2,f3,f4⟩:=hp y hy;rw [f1,f2,f3];exact h3 z hz
 ·unfold bI at h4⊢;rw [Bool.or_eq_false_iff]at h4⊢;refine⟨h4.1,?_⟩;have h6:=h4.2;rw [List.any_eq_false]at h6⊢;intro y hy;obtain⟨z,hz,f1,f2,f3,f4⟩:=hp y hy;rw [f2,f4];exact h6 z hz
theorem qA {S:List Sw} {P:List Pr} (h:bD S P=true) (k:Nat):bD S (P.eraseIdx k)=true:=by
 rcases Nat.lt_or_ge k P.length with hk | hk
 ·have e:P=P.take k++P[k]::P.drop (k+1):=by
   conv=>lhs;rw [←List.take_append_drop k P]
   rw [List.drop_eq_getElem_cons hk]
  rw [List.eraseIdx_eq_take_drop_succ];rw [dU]at h⊢;intro L x R hq;rcases fR hq with⟨L1,rfl,h2⟩ |⟨L1,h1,rfl⟩
  ·have h3:=h (P.take k++P[k]::L1) x R (by rw [List.append_assoc,List.cons_append, ←h2];exact e);refine kO h3 (Like.refl x) ((fN _ _ _).1 h3).1 (fun y hy=>⟨y,?_,Like.refl y⟩) (by simp);simp only [List.mem_append,List.mem_cons]at hy⊢;rcases hy with hy | hy
   ·exact .inl hy
   ·exact .inr (.inr hy)
  ·exact h L x (L1++P[k]::P.drop (k+1)) (by rw [←List.cons_append, ←List.append_assoc, ←h1];exact e)
 ·rw [List.eraseIdx_of_length_le hk];exact h
theorem qa {S:List Sw} {P:List Pr} (h:bD S P=true) (k:Nat) {m:Int} (hm:inB m (-1) 5=true):bD S (P.set k ⟨(P.getD k pr0).i,(P.getD k pr0).s,(P.getD k pr0).m,(P.getD k pr0).p,m⟩)=true:=by
 rcases Nat.lt_or_ge k P.length with hk | hk
 ·have hg:P.getD k pr0=P[k]:=(by simp [List.getD,List.getElem?_eq_getElem hk]);rw [hg];obtain⟨z,hz⟩:∃z:Pr,z=⟨P[k].i,P[k].s,P[k].m,P[k].p,m⟩:=⟨_,rfl⟩;rw [←hz];have hzb:Like z P[k]:=by rw [hz];exact⟨rfl,rfl,rfl,rfl⟩
  have hzi:es z=true:=by
   have:=(nL h (List.getElem_mem hk)).1;rw [hz];unfold es at this⊢;simp only [Bool.and_eq_true]at this⊢;exact⟨this.1,hm⟩
  clear hz;have e:P=P.take k++P[k]::P.drop (k+1):=by
   conv=>lhs;rw [←List.take_append_drop k P]
   rw [List.drop_eq_getElem_cons hk]
  have e2:P.set k z=P.take k++z::P.drop (k+1):=by
   rw [List.set_eq_take_append_cons_drop,if_pos hk]
  rw [e2];rw [dU]at h⊢;intro L x R hq;rcases fR hq with⟨L1,rfl,h2⟩ |⟨L1,h1,rfl⟩
  ·cases L1 with
   | nil=>
    simp at h2;obtain⟨rfl,rfl⟩:=h2;have h3:=h (P.take k) P[k] _ e;rw [List.append_nil];exact kO h3 hzb hzi (fun y hy=>⟨y,hy,Like.refl y⟩) zr
   | cons b c=>
    simp at h2;obtain⟨rfl,h2⟩:=h2;have h3:=h (P.take k++P[k]::c) x R (by rw [List.append_assoc,List.cons_append, ←h2];exact e);refine kO h3 (Like.refl x) ((fN _ _ _).1 h3).1 (fun y hy=>?_) (by simp);simp only [List.mem_append,List.mem_cons]at hy;rcases hy with hy | rfl | hy
    ·exact⟨y,by simp [hy],Like.refl y⟩
    ·exact⟨P[k],by simp,hzb⟩
    ·exact⟨y,by simp [hy],Like.refl y⟩
  ·exact h L x (L1++P[k]::P.drop (k+1)) (by rw [←List.cons_append, ←List.append_assoc, ←h1];exact e)
 ·rw [List.set_eq_of_length_le hk];exact h
theorem qY {S:List Sw} {P:List Pr} {x:Pr} (h:bD S P=true) (hx:ba S P x=0):bD S (P++ [x])=true:=by
 rw [dU]at h⊢;intro L y R hq;rcases fj hq with⟨rfl,rfl⟩ |⟨R',e⟩
 ·exact hx
 ·exact h L y R' e
theorem lg {S:List Sw} {s:Sw} {id:Int} (h:0≤idx (fun x=>x.i==id) S):idx (fun x=>x.i==id) (S++ [s])=idx (fun x=>x.i==id) S:=by
 unfold idx at h⊢;rw [List.findIdx?_append];cases hq:S.findIdx? (fun x=>x.i==id)with
 | none=>rw [hq]at h;simp at h
 | some k=>rfl
theorem qU {S:List Sw} {s:Sw} {id:Int} (h:0≤idx (fun x=>x.i==id) S):tn (S++ [s]) id=tn S id:=by
 unfold tn;rw [lg h];have:=(kP (fun x:Sw=>x.i==id) S).2;simp only [List.getD];rw [List.getElem?_append_left (by omega)]
theorem se {S:List Sw} {id:Int} (h:0≤idx (fun x=>x.i==id) S):S.any (fun s=>s.i==id&&s.t==tn S id)=true:=by
 unfold tn;unfold idx at h⊢;cases hq:S.findIdx? (fun x=>x.i==id)with
 | none=>rw [hq]at h;simp at h
 | some k=>
  obtain⟨hk,hp,_⟩:=List.findIdx?_eq_some_iff_getElem.1 hq;refine List.any_eq_true.2 ⟨S[k],List.getElem_mem hk,?_⟩;simp only [Int.toNat_natCast,List.getD,List.getElem?_eq_getElem hk,Option.getD_some,beq_self_eq_true,Bool.and_true];exact hp
theorem qP {S:List Sw} {P L:List Pr} {s:Sw} {x:Pr} (hs:aT S P s=0) (hP:bD S P=true) (hL:∀y∈L,y∈P) (hx:x∈P) (h:ba S L x=0):ba (S++ [s]) L x=0:=by
 rw [fN]at h⊢;obtain⟨h1,h2,h3,h4,h5⟩:=h;rw [qU h2,lg h2];refine⟨h1,h2,h3,?_,h5⟩;obtain⟨⟨_,_,s1⟩,⟨s2,s3⟩,_⟩:=ir hs;have hip:1≤x.p:=by
  unfold es at h1;simp only [Bool.and_eq_true,inB,decide_eq_true_eq]at h1;omega
 unfold bI at h4⊢;rw [Bool.or_eq_false_iff]at h4⊢;obtain⟨h6,h7⟩:=h4;constructor
 ·rw [List.any_append,h6,Bool.false_or];simp only [List.any_cons,List.any_nil,Bool.or_false];refine Bool.not_eq_true _ |>.mp fun hc=>?_
  simp only [Bool.and_eq_true,beq_iff_eq]at hc;have hg:(s.g != 0)=true:=by simp;omega
  rw [hg,Bool.true_and]at s3;unfold bI at s3;rw [Bool.or_eq_false_iff]at s3;have s4:=s3.2;rw [List.any_eq_false]at s4;refine s4 x hx ?_;rw [hc.2,hc.1];simp only [beq_self_eq_true,Bool.true_and];exact se h2
 ·rw [List.any_eq_false]at h7⊢;intro y hy hc;refine h7 y hy ?_;simp only [Bool.and_eq_true]at hc⊢;refine⟨hc.1,?_⟩;have hc2:=hc.2;rw [List.any_append,Bool.or_eq_true]at hc2;rcases hc2 with hc2 | hc2
  ·exact hc2
  ·simp only [List.any_cons,List.any_nil,Bool.or_false,Bool.and_eq_true,beq_iff_eq]at hc2;have hy2:=(nL hP (hL y hy)).2;have ha:S.any (fun q=>q.i==y.s)=true:=by rw [←dL];simpa using hy2
   rw [←hc2.1,s2]at ha;simp at ha
theorem px {S:List Sw} {P:List Pr} {s:Sw} (hs:aT S P s=0) (h:bD S P=true):bD (S++ [s]) P=true:=by
 have h':=(dU S P).1 h;rw [dU];rintro L x R rfl;exact qP hs h (fun y hy=>by simp [hy]) (by simp) (h' L x R rfl)
theorem og {S S':List Sw} {A A':List Ac} {x:Ac} (h:bk S A x=0) (hs:∀y∈S,y∈S') (hl:A'.length≤A.length):bk S' A' x=0:=by
 rw [mN]at h⊢;refine⟨h.1,h.2.1,?_,by omega⟩;have h3:=h.2.2.1;rw [List.any_eq_true]at h3⊢;obtain⟨y,hy,e⟩:=h3;exact⟨y,hs y hy,e⟩
theorem pr {S:List Sw} {A:List Ac} (h:bV S A=true) (k:Nat):bV S (A.eraseIdx k)=true:=by
 rcases Nat.lt_or_ge k A.length with hk | hk
 ·have e:A=A.take k++A[k]::A.drop (k+1):=by
   conv=>lhs;rw [←List.take_append_drop k A]
   rw [List.drop_eq_getElem_cons hk]
  rw [List.eraseIdx_eq_take_drop_succ];rw [gz]at h⊢;intro L x R hq;rcases fR hq with⟨L1,rfl,h2⟩ |⟨L1,h1,rfl⟩
  ·have h3:=h (A.take k++A[k]::L1) x R (by rw [List.append_assoc,List.cons_append, ←h2];exact e);exact og h3 (fun y hy=>hy) (by simp)
  ·exact h L x (L1++A[k]::A.drop (k+1)) (by rw [←List.cons_append, ←List.append_assoc, ←h1];exact e)
 ·rw [List.eraseIdx_of_length_le hk];exact h
theorem qG {S:List Sw} {A:List Ac} {x:Ac} (h:bV S A=true) (hx:bk S A x=0):bV S (A++ [x])=true:=by
 rw [gz]at h⊢;intro L y R hq;rcases fj hq with⟨rfl,rfl⟩ |⟨R',e⟩
 ·exact hx
 ·exact h L y R' e
theorem pt {S:List Sw} {A:List Ac} {s:Sw} (h:bV S A=true):bV (S++ [s]) A=true:=by
 rw [gz]at h⊢;intro L x R hq;exact og (h L x R hq) (fun y hy=>by simp [hy]) zr
theorem qM {S:List Sw} {P:List Pr} {s:Sw} (h:aT S P s=0):aT S [] s=0:=by
 obtain⟨⟨a,b,c⟩,⟨d,e⟩,f⟩:=ir h;unfold aT;rw [a,b,c,d];have e':(s.g != 0&&bI S [] s.t s.g)=false:=by
  cases hg:(s.g != 0)with
  | false=>rfl
  | true=>
   rw [hg,Bool.true_and]at e;unfold bI at e⊢;rw [Bool.or_eq_false_iff]at e;simp [e.1]
 rw [e'];simp;omega
theorem rg {S:List Sw} {P:List Pr} {s:Sw} (h:cI S=true) (hs:aT S P s=0):cI (S++ [s])=true:=by
 rw [mA]at h⊢;intro L y R hq;rcases fj hq with⟨rfl,rfl⟩ |⟨R',e⟩
 ·exact qM hs
 ·exact h L y R' e
theorem p6 {S:List Sw} {P:List Pr} {A:List Ac} {a:Ax} (h:may S P A=true) (ha:bq S P A a=0):may (nxS S a) (nxP P a) (nxA A a)=true:=by
 obtain⟨h1,h2,h3⟩:=dN h;have go:∀{S':List Sw} {P':List Pr} {A':List Ac},cI S'=true→bD S' P'=true→bV S' A'=true→may S' P' A'=true:=fun a b c=>by unfold may;rw [a,b,c];rfl
 unfold bq at ha;unfold nxS nxP nxA;by_cases k1:a.k=1
 ·rw [if_pos k1]at ha;simp only [k1,if_pos];exact go (rg h1 ha) (px ha h2) (pt h3)
 ·rw [if_neg k1]at ha;rw [if_neg k1];by_cases k2:a.k=2
  ·rw [if_pos k2]at ha;rw [if_pos k2,if_neg (by omega),if_neg (by omega)];exact go h1 (qY h2 ha) h3
  ·rw [if_neg k2]at ha;rw [if_neg k2];by_cases k3:a.k=3
   ·rw [if_pos k3]at ha;rw [if_neg (by omega),if_neg (by omega),if_pos k3];exact go h1 h2 (qG h3 ha)
   ·rw [if_neg k3]at ha;rw [if_neg k3];by_cases k4:a.k=4
    ·rw [if_pos k4,if_neg (by omega)];exact go h1 (qA h2 _) h3
    ·rw [if_neg k4]at ha;rw [if_neg k4];by_cases k6:a.k=6
     ·rw [if_pos k6]at ha;rw [if_pos k6,if_neg (by omega)];by_cases hb:inB a.m (-1) 5=true
      ·exact go h1 (qa h2 _ hb) h3
      ·rw [if_neg hb]at ha;split at ha <;>omega
     ·rw [if_neg k6];by_cases k5:a.k=5
      ·rw [if_pos k5];exact go h1 h2 (pr h3 _)
      ·rw [if_neg k5];exact h
def nr (S:List Sw) (P:List Pr) (A:List Ac):Prop:=may S P A=true∧(∀s∈S,s.i≤6)∧S.any (fun s=>s.i==1)=true
theorem rP {S:List Sw} {P:List Pr} {A:List Ac} {a:Ax} (h:et S P A a=0):may S P A=true∧bq S P A a=0:=by
 unfold et at h;cases hm:may S P A with
 | true=>rw [hm]at h;exact⟨rfl,by simpa using h⟩
 | false=>rw [hm]at h;simp at h
theorem oN {S:List Sw} {P:List Pr} {A:List Ac} {a:Ax} (h:nr S P A) (ha:et S P A a=0) (hs:a.si≤6):nr (apS S P A a) (apP S P A a) (apA S P A a):=by
 obtain⟨h1,h2,h3⟩:=h;unfold apS apP apA;rw [if_pos ha,if_pos ha,if_pos ha];refine⟨p6 h1 (rP ha).2,?_,?_⟩
 ·unfold nxS;split
  ·intro s hs';rcases List.mem_append.1 hs' with hs' | hs'
   ·exact h2 s hs'
   ·obtain rfl:s=a.s:=(by simpa using hs');exact hs
  ·exact h2
 ·unfold nxS;split
  ·rw [List.any_append,h3];rfl
  ·exact h3
section
open Go.ChangeShapes Go.WideShapes Go.ChangeAt Go.RowKit
theorem own:ownKnob Tryz.prog.godebug=none:=by kernel_rfl
theorem od:laidOutB Tryz.prog=true:=by kernel_rfl
theorem dm {H:Type} {enc:TypeId×Value→H} {w:World} {base:Nat} {spare:Nat→Bool} {held:Bool} {n i:Nat} {c:Value} {xs:List (DataW H×List MemPlace)} (hi:i<xs.length)
  (h:DataW.trod enc Tryz.prog w base spare held n 3 [c]=xs[i]?):∃k,c= .int .i64 k∧(Lit.int .i64 k).wf=true:=by
 rw [List.getElem?_eq_getElem hi]at h;obtain⟨k,hc,_,hw⟩:=DataW.trod_int Tryz.underlying3 h;exact⟨k,by simpa using hc,hw⟩
end
section
open Go.ChangeShapes Go.WideShapes Go.ChangeAt Go.RowKit
theorem qz {w:World} {base n:Nat} {a:Addr} {cs:List Value} (hn:0<n) (h:w.cells? base (a.add 0) n=some cs):a.spot=none:=by
 obtain⟨_,hlen,hc⟩:=World.cells?_some h;have h0:=hc 0 hn;have e:(a.add 0).add 0=a:=by simp [Addr.add]
 rw [e]at h0;have hs:∃c,cs[0]? =some c:=⟨cs[0],by simp [List.getElem?_eq_getElem (show 0<cs.length by omega)]⟩;obtain⟨c,hs⟩:=hs;rw [hs]at h0;exact World.cell?_spot h0
section
variable {H:Type} {enc:TypeId×Value→H} {w:World} {base:Nat} {spare:Nat→Bool} {held:Bool}
theorem oK {α:Type} [Inhabited α] {C:α→List Value} {sz:Nat} {t e:TypeId} {fuel:Nat} {cs:List Value} {y:DataW H×List MemPlace} (ht:Tryz.prog.underlying t=some (.slice e)) (hc:Tryz.prog.cellsOf e=sz) (hs:0<sz)
  (hel:∀n cs' z,DataW.trod enc Tryz.prog w base spare held n e cs'=some z→∃x:α,cs'=C x) (h:DataW.trod enc Tryz.prog w base spare held fuel t cs=some y):
  ∃v l,cs= [v]∧RowAt C sz w v l∧(l.length=0∨∃elems sp,y.1= .slice elems sp∧elems.length=l.length):=by
 rcases Deep.open_slice ht h with⟨rfl,_⟩ |⟨a,len,cap,m,n,D,Pl,rfl,_,hl,_,hm,hd,hx⟩
 ·exact⟨_,[],rfl,RowAt.nil _ _ _,.inl rfl⟩
 ·have hlm:len≤m:=by rw [hm];split <;>omega
  rw [hc]at hx;by_cases hz:len=0
  ·subst hz;exact⟨_,[],rfl,⟨some a,cap,rfl,fun h=>by simp at h,.inl rfl⟩,.inl rfl⟩
  ·obtain⟨b,off,spot⟩:=a;obtain⟨cs0,hcs0,_⟩:=hx 0 (by omega);rw [Nat.zero_mul]at hcs0;have hsp:spot=none:=qz (a:=⟨b,off,spot⟩) hs hcs0;subst hsp;obtain⟨F,hF⟩:=Deep.choose_lt (α:=α) (n:=len) (p:=fun i x=>∀j u,(C x)[j]? =some u→w.cell? ⟨b,off+i*sz+j,none⟩=some u) (fun i hi=>by
    obtain⟨cs',hcs',htr⟩:=hx i (by omega);obtain⟨x,rfl⟩:=hel _ _ _ htr;refine⟨x,fun j u hu=>?_⟩;obtain⟨_,hlen,hcell⟩:=World.cells?_some hcs';have hj:j<sz:=by
     rcases Nat.lt_or_ge j (C x).length with h | h
     ·omega
     ·simp [List.getElem?_eq_none h]at hu
    have:=hcell j hj;rw [eP,eP]at this;rw [this];exact hu)
   have hll:((List.range len).map F).length=len:=(by simp);refine⟨_,(List.range len).map F,rfl,⟨some ⟨b,off,none⟩,cap,by rw [hll],fun h=>by simp at h,.inr ⟨b,off,rfl,by rw [hll];exact hl,fun i x hx=>?_⟩⟩,.inr ⟨_,_,by rw [hd],by simp⟩⟩;have hi:i<len:=by
    rcases Nat.lt_or_ge i len with h | h
    ·exact h
    ·simp [List.getElem?_eq_none (show((List.range len).map F).length≤i by omega)]at hx
   have:x=F i:=by
    rw [List.getElem?_map,List.getElem?_range hi]at hx;simpa using hx.symm
   subst this;exact hF i hi
instance:Inhabited Sw:=⟨sw0⟩
instance:Inhabited Pr:=⟨pr0⟩
instance:Inhabited Ac:=⟨ac0⟩
end
end
section
open Go.ChangeShapes Go.WideShapes Go.ChangeAt Go.RowKit
theorem pw:Tryz.prog.cellsOf 24=4:=by kernel_rfl
theorem array4' {α:Type} {cs:Array α} (h:cs.size=4):∃c0 c1 c2 c3,cs= #[c0,c1,c2,c3]:=by
 obtain⟨l⟩:=cs
 match l,h with
 | [c0,c1,c2,c3],_=>exact⟨c0,c1,c2,c3,rfl⟩
theorem eu {n:Int} (h:(Lit.int .i64 n).wf=true): -9223372036854775808≤n∧n≤9223372036854775807:=by
 simpa [Lit.wf,IntKind.min,IntKind.max,IntKind.signed,IntKind.bits] using h
theorem qx {H:Type} {enc:TypeId×Value→H} {w:World} {base b0:Nat} {spare:Nat→Bool} {held:Bool} {r:Reach} {v:Value} {d:DataW H} {p:List MemPlace}
  (hv:Value.okWide Tryz.prog w r b0 24 v) (h:DataW.Trod enc Tryz.prog w base spare held 24 v d p):
  ∃k a b c:Int,v= .agg #[.int .i64 k,.int .i64 a,.int .i64 b,.int .i64 c]∧(-9223372036854775808≤k∧k≤9223372036854775807)∧(-9223372036854775808≤a∧a≤9223372036854775807)∧(-9223372036854775808≤b∧b≤9223372036854775807)∧
   (-9223372036854775808≤c∧c≤9223372036854775807):=by
 obtain⟨cs,rfl,hsz⟩:=okWide_struct Tryz.underlying24 hv;obtain⟨c0,c1,c2,c3,rfl⟩:=array4' (hsz.trans pw);obtain⟨fuel,hf⟩:=h;obtain⟨xs,n,_,_,_,hlen,hf⟩:=DataW.trod_struct Tryz.underlying24 hf;have h8:xs.length=4:=by simpa using hlen
 have g0:=hf 0 _ rfl;have g1:=hf 1 _ rfl;have g2:=hf 2 _ rfl;have g3:=hf 3 _ rfl;simp only [Value.cells]at g0 g1 g2 g3;obtain⟨k0,rfl,w0⟩:=dm (i:=0) (by omega) g0;obtain⟨k1,rfl,w1⟩:=dm (i:=1) (by omega) g1;obtain⟨k2,rfl,w2⟩:=dm (i:=2) (by omega) g2;obtain⟨k3,rfl,w3⟩:=dm (i:=3) (by omega) g3;exact⟨k0,k1,k2,k3,rfl,eu w0,eu w1,eu w2,eu w3⟩
end
section
open Go.ChangeShapes Go.WideShapes Go.ChangeAt Go.RowKit
def W64 (n:Int):Prop:= -9223372036854775808≤n∧n≤9223372036854775807
structure Rw where
 k:Int
 a:Int
 b:Int
 c:Int
 ok:W64 k∧W64 a∧W64 b∧W64 c
def rw0:Rw:=⟨0,0,0,0,by simp [W64]⟩
instance:Inhabited Rw:=⟨rw0⟩
def rwC (x:Rw):List Value:=[.int .i64 x.k,.int .i64 x.a,.int .i64 x.b,.int .i64 x.c]
theorem qS {H:Type} {enc:TypeId×Value→H} {w:World} {base:Nat} {spare:Nat→Bool} {held:Bool} {n:Nat} {cs:List Value} {z:DataW H×List MemPlace} (h:DataW.trod enc Tryz.prog w base spare held n 24 cs=some z):∃x:Rw,cs=rwC x:=by
 obtain⟨xs,n',_,_,hcl,hlen,hf⟩:=DataW.trod_struct Tryz.underlying24 h;rw [show Tryz.prog.cellsOf 24=4 by kernel_rfl]at hcl;have h3:xs.length=4:=by simpa using hlen
 obtain⟨c0,c1,c2,c3,hcs⟩:∃c0 c1 c2 c3,cs= [c0,c1,c2,c3]:=by
  match cs,hcl with
  | [c0,c1,c2,c3],_=>exact⟨c0,c1,c2,c3,rfl⟩
 subst hcs;obtain⟨n0,rfl,w0⟩:=dm (i:=0) (by omega) (hf 0 _ rfl);obtain⟨n1,rfl,w1⟩:=dm (i:=1) (by omega) (hf 1 _ rfl);obtain⟨n2,rfl,w2⟩:=dm (i:=2) (by omega) (hf 2 _ rfl);obtain⟨n3,rfl,w3⟩:=dm (i:=3) (by omega) (hf 3 _ rfl);exact⟨⟨n0,n1,n2,n3,eu w0,eu w1,eu w2,eu w3⟩,rfl⟩
theorem oV {H:Type} {enc:TypeId×Value→H} {w:World} {base b0:Nat} {spare:Nat→Bool} {held:Bool} {r:Reach} {v:Value} {d:DataW H} {p:List MemPlace}
  (hv:Value.okWide Tryz.prog w r b0 22 v) (h:DataW.Trod enc Tryz.prog w base spare held 22 v d p):∃l:List Rw,RowAt rwC 4 w v l:=by
 obtain⟨a,len,cap,rfl⟩:=okWide_slice Tryz.underlying22 hv;obtain⟨fuel,hf⟩:=h;obtain⟨v0,l,e0,hl,_⟩:=oK (C:=rwC) (sz:=4) Tryz.underlying22 (by kernel_rfl) (by omega) (fun n cs' z hz=>qS hz) hf;simp [Value.cells]at e0;subst e0;exact⟨l,hl⟩
end
def sk (X:Nat→Prop) (w w':World):Prop:=w.heap.size≤w'.heap.size∧∀k,¬X k→k<w.heap.size→w'.heap[k]? =w.heap[k]?
def Kept (X:Nat→Prop) (w:World) (F:World→Prop):Prop:=∀w',sk X w w'→F w'
theorem Kept.on {X X':Nat→Prop} {w w':World} {F:World→Prop} (h:Kept X w F) (hk:sk X w w') (hX:∀k,X' k→X k∨w.heap.size≤k):Kept X' w' F:=fun w2 h2=>
 h w2 ⟨Nat.le_trans hk.1 h2.1,fun k h0 h1=>(h2.2 k (fun hx=>by rcases hX k hx with h | h;exact h0 h;omega) (Nat.lt_of_lt_of_le h1 hk.1)).trans (hk.2 k h0 h1)⟩
theorem Kept.below {X:Nat→Prop} {w w':World} {F:World→Prop} (h:Kept X w F) (hb:Below w.heap.size w w'):Kept X w' F:=h.on ⟨hb.size,fun k _ h1=>hb.block k h1⟩ fun _ h=>.inl h
theorem Kept.grown {X X':Nat→Prop} {w w':World} {F:World→Prop} {row:Option Nat} (h:Kept X w F) (hg:w.grownBy w' row) (hr:∀g,row=some g→X g) (hX:∀k,X' k→X k∨w.heap.size≤k):Kept X' w' F:=h.on ⟨hg.size,fun k h0 h1=>hg.block k h1 (fun e=>h0 (hr k e.symm))⟩ hX
theorem fq (b:Nat):∀(vs:List Value) (o:Nat) (w:World) (k:Nat),k≠b→(w.setCells b o vs).heap[k]? =w.heap[k]?
 | [],o,w,k,_=>rfl
 | v::vs,o,w,k,h=>by
  show((w.setCell ⟨b,o,none⟩ v).setCells b (o+1) vs).heap[k]? =_;rw [fq b vs _ _ k h];unfold World.setCell;simp only;rw [Array.getElem?_modify,if_neg (Ne.symm h)]
theorem Kept.set {X:Nat→Prop} {w:World} {F:World→Prop} (h:Kept X w F) {b:Nat} (hb:X b) (o:Nat) (vs:List Value):Kept X (w.setCells b o vs) F:=
 h.on ⟨by rw [dh];exact Nat.le_refl _,fun k h0 _=>fq b vs o w k (fun e=>h0 (e ▸ hb))⟩ fun _ h=>.inl h
theorem jQ {α:Type} {C:α→List Value} {sz:Nat} {w:World} {v:Value} {l:List α} (d:α) (h:RowAt C sz w v l) {k:Nat} (hk:k<l.length):∃b off cap,v= .slice (some ⟨b,off,none⟩) l.length cap∧l.length≤cap∧w.rangeAt b (off+k*sz) (C (l.getD k d)):=by
 obtain⟨a,cap,rfl,hn,h0 |⟨b,off,rfl,hc,hx⟩⟩:=h
 ·omega
 ·refine⟨b,off,cap,rfl,hc,fun j u hj=>?_⟩;have e:l[k]? =some (l.getD k d):=by rw [List.getD_eq_getElem?_getD,List.getElem?_eq_getElem hk];rfl
  exact hx k _ e j u hj
theorem bK:(Tryz.prog.info? 29).map (·.size)=some 3:=by kernel_rfl
def S0:List Sw:=[⟨1,1,200⟩,⟨2,1,201⟩,⟨3,1,0⟩,⟨4,2,200⟩]
def qZ (k:Nat):Int:=[200,201,0,200].getD k 0
def ia (k:Nat):Ax:=⟨1,1+(k:Int),1+(k:Int)/3,qZ k,0,0,0,0,0,0,0,false,0,0,0,0,0,false,0,0,0,0,0,0,0,0,0,⟨#[]⟩⟩
theorem ini {k:Nat} (h:k<4):et (S0.take k) [] [] (ia k)=0∧apS (S0.take k) [] [] (ia k)=S0.take (k+1)∧apP (S0.take k) [] [] (ia k)= []∧apA (S0.take k) [] [] (ia k)= []:=by
 rcases(show k=0∨k=1∨k=2∨k=3 by omega)with rfl | rfl | rfl | rfl <;>exact⟨by decide,by rfl,by rfl,by rfl⟩
theorem qO {k:Nat} (h:k<4):(#[Value.int .i64 200,.int .i64 201,.int .i64 0,.int .i64 200]:Array Value)[k]? =some (.int .i64 (qZ k)):=by
 rcases(show k=0∨k=1∨k=2∨k=3 by omega)with rfl | rfl | rfl | rfl <;>rfl
theorem rZ:nr S0 [] []:=⟨by decide,by decide,by decide⟩
def Sl (v:Value):Prop:=∃a n c,v= .slice a n c
theorem Sl.nil:Sl (.slice none 0 0):=⟨_,_,_,rfl⟩
theorem Sl.one {v:Value} (h:Sl v):v.oneCell'=true:=by obtain⟨a,n,c,rfl⟩:=h;rfl
theorem jZ {x y z:Value} (hx:Sl x) (hy:Sl y) (hz:Sl z):(#[x,y,z]:Array Value).all (·.oneCell')=true:=by
 obtain⟨_,_,_,rfl⟩:=hx;obtain⟨_,_,_,rfl⟩:=hy;obtain⟨_,_,_,rfl⟩:=hz;exact eE (cs:=[_,_,_]) rfl
theorem gK {w:World} {su pu au:Value} {S:List Sw} {P:List Pr} {A:List Ac} (h:CfAt w su pu au S P A):Sl su∧Sl pu∧Sl au:=by
 obtain⟨_,_,h1⟩:=h.1.slice;obtain⟨_,_,h2⟩:=h.2.1.slice;obtain⟨_,_,h3⟩:=h.2.2.slice;exact⟨⟨_,_,_,h1⟩,⟨_,_,_,h2⟩,_,_,_,h3⟩
theorem ei {w:World} {su pu au x y z:Value} {S:List Sw} {P:List Pr} {A:List Ac} {b:Nat} (h:CfAt w su pu au S P A) (hB:Box w b [x,y,z]) (hx:Sl x) (hy:Sl y) (hz:Sl z) (u v t:Value):CfAt (w.setCells b 0 [u,v,t]) su pu au S P A:=by
 obtain⟨_,_,_,rfl⟩:=hx;obtain⟨_,_,_,rfl⟩:=hy;obtain⟨_,_,_,rfl⟩:=hz;have h0:=hB.cell 0 _ rfl;have h1:=hB.cell 1 _ rfl;have h2:=hB.cell 2 _ rfl;exact((h.set_box h0 u).set_box ((World.cell?_setCell_other _ _ _ _ (by simp)).trans h1) v).set_box ((World.cell?_setCell_other _ _ _ _ (by simp)).trans ((World.cell?_setCell_other _ _ _ _ (by simp)).trans h2)) t
theorem p5 {P:Program} {c:Code} {Q:Exit→Act→World→Prop} {a:Act} {w:World} (F:Nat→Value→Value→Value→World→Prop) (A1:Nat→Nat→Value→Value→Value→Act) (h:c.wp P (fun e a' w'=>e= .normal∧∃s d x y z,a'=A1 s d x y z∧F d x y z w') a w) (hq:∀s d x y z w',F d x y z w'→Q .normal (A1 s d x y z) w'):c.wp P Q a w:=
 Code.wp_mono (fun e a' w' ⟨he,s,d,x,y,z,ha,hf⟩=>by subst he;subst ha;exact hq s d x y z w' hf) h
theorem pI {P:Program} {c:Code} {Q:Exit→Act→World→Prop} {a:Act} {w:World} (F:Nat→Value→Value→Value→Int→World→Prop) (A1:Nat→Value→Value→Value→Value→Int→Act) (h:c.wp P (fun e a' w'=>e= .normal∧∃d x y z v n,a'=A1 d x y z v n∧F d x y z n w') a w) (hq:∀d x y z v n w',F d x y z n w'→Q .normal (A1 d x y z v n) w'):c.wp P Q a w:=
 Code.wp_mono (fun e a' w' ⟨he,d,x,y,z,v,n,ha,hf⟩=>by subst he;subst ha;exact hq d x y z v n w' hf) h
theorem pf:(Tryz.prog.info? 24).map (·.size)=some 4:=by kernel_rfl
def sy (w wr:World) (cb:Nat):Prop:=∃(S:List Sw) (P:List Pr) (A:List Ac) (su pu au:Value),Hid (Box wr cb [su,pu,au])∧Hid (Box wr w.heap.size [.slice none 0 0,.slice none 0 0,.slice none 0 0])∧Hid (nr S P A)∧Hid (CfAt wr su pu au S P A)∧Below w.heap.size w wr
theorem oO (M:Nat) (hM:M≤1000) (l:List Rw) (lv:Value) (w:World) (hL:RowAt rwC 4 w lv l):
  Calls Tryz.prog 4 #[lv,.int .i64 (M:Int)] w fun e w'=>∃su pu au,e= .returned (.agg #[su,pu,au])∧∃S P A,CfAt w' su pu au S P A∧nr S P A∧Below w.heap.size w w':=by
 have HCH:Hid (∀(W:World) (x:Rw),Calls Tryz.prog 14 #[.agg #[.int .i64 x.k,.int .i64 x.a,.int .i64 x.b,.int .i64 x.c]] W fun e w'=>∃x:Ax,e= .returned (dw x)∧x.si≤6∧Below W.heap.size W w'):=fun W x=>mM (x.k,x.a,x.b,x.c) W x.ok.1 x.ok.2.1 x.ok.2.2.1 x.ok.2.2.2;have HAP:=aa (fun(W:World) (a:Ax) (sv pv av:Value) (S:List Sw) (P:List Pr) (A:List Ac) (hC:CfAt W sv pv av S P A) (hm:S.length≤12∧P.length≤40∧A.length≤40)=>oW sv pv av S P A a W hC (by omega) (by omega) (by omega));obtain⟨la,lc,rfl⟩:=hL.slice;have HL:=aa hL;clear hL;obtain⟨cb,hcb⟩:∃cb,cb=w.heap.size+1:=⟨_,rfl⟩;obtain⟨W0,hW0⟩:∃W0,W0=(w.alloc (.cells #[.slice none 0 0,.slice none 0 0,.slice none 0 0] 29)).alloc (.cells #[.slice none 0 0,.slice none 0 0,.slice none 0 0] 29):=⟨_,rfl⟩;have kb:Below w.heap.size w W0:=by rw [hW0];exact((Below.refl _ w).alloc zr _).alloc (by simp) _
 have HR:Hid (Box W0 w.heap.size [.slice none 0 0,.slice none 0 0,.slice none 0 0]):=by rw [hW0];exact aa ((Box.new w [.slice none 0 0,.slice none 0 0,.slice none 0 0] 29).alloc _)
 have HB:Hid (Box W0 cb [.slice none 0 0,.slice none 0 0,.slice none 0 0]):=by rw [hW0,hcb];have h:=Box.new (w.alloc (.cells #[.slice none 0 0,.slice none 0 0,.slice none 0 0] 29)) [.slice none 0 0,.slice none 0 0,.slice none 0 0] 29;exact aa (by simpa using h)
 have hwc:w.heap.size<cb:=by omega
 go_enter Tryz.func4,Tryz.ntmps4;go_wp2_with fail
 rw [←hW0, ←hcb];clear hW0 hcb;go_loopw [13] (fun i wr=>∃(k:Nat) (T:List Sw) (su pu au:Value),k≤4∧i= .int .i64 k∧Hid (Box wr cb [su,pu,au])∧Hid (Box wr w.heap.size [.slice none 0 0,.slice none 0 0,.slice none 0 0])∧Hid (T=S0.take k)∧Hid (CfAt wr su pu au T [] [])∧Below w.heap.size w wr) (fun i _=>4-(intOf i).toNat)
 case atStart=>exact⟨0,[],_,_,_,by omega,rfl,HB,HR,aa rfl,aa ⟨RowAt.nil _ _ _,RowAt.nil _ _ _,RowAt.nil _ _ _⟩,kb⟩
 case round=>
  clear HB HR kb;obtain⟨k,T,su,pu,au,hk,rfl,HB,HR,HT,HC,kb⟩:=hrel;by_cases hlt:k<4
  ·obtain⟨T',hT'⟩:∃T',T'=S0.take (k+1):=⟨_,rfl⟩;have HAP1:Hid (∀(W:World) (sv pv av:Value),CfAt W sv pv av T [] []→Calls Tryz.prog 13 #[.agg #[sv,pv,av],dw (ia k)] W fun e w'=>∃su pu au,e= .returned (.tuple #[.agg #[su,pu,au],.int .i64 0])∧CfAt w' su pu au T' [] []∧Below W.heap.size W w'):=fun W sv pv av hC=>by
    rw [HT.out]at hC;rw [hT'];have:=HAP.out W (ia k) sv pv av _ _ _ hC ⟨by simp;omega,by simp,by simp⟩;obtain⟨q1,q2,q3,q4⟩:=ini hlt;rw [q1,q2,q3,q4]at this;exact this
   have HT1:=aa hT';clear hT' HT HAP HCH HL;have hk0:(0:Int)≤(k:Int):=(by omega);have hk4:(k:Int)<4:=(by omega);have u0:=ay (1+(k:Int)) (by omega) (by omega);have u1:=ay ((k:Int)/3) (by omega) (by omega);have u2:=ay (1+(k:Int)/3) (by omega) (by omega);unfold ia at HAP1;have HGT:=aa (qO hlt);obtain⟨sl1,sl2,sl3⟩:=gK HC.out;have HS1:=aa sl1;have HS2:=aa sl2;have HS3:=aa sl3;clear sl1 sl2 sl3;go_upto_region 5 with fail
   apply p5 (fun d x y z W'=>(Hid (Box W' cb [su,pu,au])∧Hid (Box W' w.heap.size [.slice none 0 0,.slice none 0 0,.slice none 0 0])∧Hid (Box W' d [x,y,z]))∧(Hid (Sl x)∧Hid (Sl y)∧Hid (Sl z))∧(w.heap.size<d∧d≠cb)∧Hid (CfAt W' x y z T' [] [])∧Below w.heap.size w W')
   ·have hD:Below wr.heap.size wr wr.drew:=(Below.refl _ _).drew;replace HB:=aa (HB.out.below hD);replace HR:=aa (HR.out.below hD);replace HC:=aa (HC.out.below hD zr);replace kb:=kb.trans (hD.mono kb.size);clear hD;refine wp_region_held_drew (S:=(fun w'=>w'.rangeAt cb 0 [su,pu,au])) (by kernel_rfl) (HB.out.range) (fun hHeld=>?_);generalize wr.drew=V1 at*;refine wpAnyH_take (i:=0) (oi:=⟨some 17,_,_,_,_,_⟩) (v:=.agg #[su,pu,au]) rfl (by kernel_rfl) (by kernel_rfl) (by kernel_rfl) (fun _ _ _ h=>absurd h.1 (by simp)) (yieldsIf_load_mid (by rfl) 29 (.tmp 5) rfl cb 0 rfl [su,pu,au] _ (fun w h=>h) Tryz.underlying29 rfl bK) (by assumption) ?_;(try simp only [nz]);refine sqA [(1,18),(2,19),(3,20),(4,21),(5,22),(7,24)] ?_;(iterate 6 (refine sqN rfl (by kernel_rfl) (fun _ _ _ h=>absurd h.1 (by simp)) rfl ‹_› (by intro w h;go_simp <;>with_reducible rfl) ?_;simp only [nz]));refine sqZ ?_;refine wpAnyH_ready (rs:=[6,16]) (by kernel_rfl) (by simp) ?_;refine(AllReadyH.cons (o:=⟨some 23,_,_,_,_,_⟩) rfl (fun K hK=>?_) (AllReadyH.cons (o:=⟨some 7,_,_,_,_,_⟩) rfl (fun K hK=>?_) AllReadyH.nil));go_simp;clear hHeld;refine ah (fun Y6 gA hV hg=>?_);rw [←hg];have cg:Y6.cell? ⟨gA,k,none⟩=some (.int .i64 (qZ k)):=by rw [hV,hg];exact aj V1 _ rfl _ _ _ _ HGT.out
    have hbN:=zB hV;replace HB:=aa (HB.out.below hbN);replace HR:=aa (HR.out.below hbN);replace HC:=aa (HC.out.below hbN zr);replace kb:=kb.trans (hbN.mono kb.size);clear hV hg hbN;refine hK.out _ _ (HB.out.range) (fun hHeld=>?_);clear hK K;(try simp only [nz]);refine tq 8 25 rfl (by kernel_rfl) (fun _ _ _ h=>absurd h.1 (by simp)) rfl ‹_› (by intro w h;go_simp <;>with_reducible rfl) ?_;simp only [nz];refine wpAnyH_ready (rs:=[9,16]) (by kernel_rfl) (by simp) ?_;refine(AllReadyH.cons (o:=⟨some 26,_,_,_,_,_⟩) rfl (fun K hK=>?_) (AllReadyH.cons (o:=⟨some 7,_,_,_,_,_⟩) rfl (fun K hK=>?_) AllReadyH.nil));go_simp;clear hHeld;clear cg;refine hK.out _ _ (HB.out.range) (fun hHeld=>?_);clear hK K;(try simp only [nz]);refine sqA [(10,27),(11,28)] ?_;(iterate 2 (refine sqN rfl (by kernel_rfl) (fun _ _ _ h=>absurd h.1 (by simp)) rfl ‹_› (by intro w h;go_simp <;>with_reducible rfl) ?_;simp only [nz]));refine sqZ ?_;refine wpAnyH_ready (rs:=[12,16]) (by kernel_rfl) (by simp) ?_;refine(AllReadyH.cons (o:=⟨some 29,_,_,_,_,_⟩) rfl (fun K hK=>?_) (AllReadyH.cons (o:=⟨some 7,_,_,_,_,_⟩) rfl (fun K hK=>?_) AllReadyH.nil));go_simp;clear hHeld;refine(HAP1.out _ _ _ _ HC.out).mono ?_;rintro e Y12 ⟨su2,pu2,au2,rfl,hc2,hbY12⟩;have HE:=aa hc2;obtain⟨sl1,sl2,sl3⟩:=gK hc2;have HS4:=aa sl1;have HS5:=aa sl2;have HS6:=aa sl3;clear sl1 sl2 sl3 hc2;replace HB:=aa (HB.out.below hbY12);replace HR:=aa (HR.out.below hbY12);replace HC:=aa (HC.out.below hbY12 zr);replace kb:=kb.trans (hbY12.mono kb.size);clear hbY12;refine hK.out _ _ (HB.out.range) (fun hHeld=>?_);clear hK K;(try simp only [nz]);refine sqA [(13,16),(14,30),(15,31)] ?_;(iterate 3 (refine sqN rfl (by kernel_rfl) (fun _ _ _ h=>absurd h.1 (by simp)) rfl ‹_› (by intro w h;go_simp <;>with_reducible rfl) ?_;simp only [nz]));refine sqZ ?_;refine Go.Proofs.YthmblklaeeifiaaGreat.rs 16 7 (by kernel_rfl) rfl (fun K hK=>?_);go_simp;clear hHeld;refine ah (fun Y16 db hV hg=>?_);rw [←hg];have HD:Hid (Box Y16 db [.slice none 0 0,.slice none 0 0,.slice none 0 0]):=by rw [hV,hg];exact aa (Box.new Y12 [.slice none 0 0,.slice none 0 0,.slice none 0 0] 29)
    have hbN:=zB hV;have hdb:w.heap.size<db:=by have:=HB.out.lt;omega
    have hdc:db≠cb:=by have:=HB.out.lt;omega
    replace HB:=aa (HB.out.below hbN);replace HR:=aa (HR.out.below hbN);replace HC:=aa (HC.out.below hbN zr);replace HE:=aa (HE.out.below hbN zr);replace kb:=kb.trans (hbN.mono kb.size);clear hV hg hbN;refine hK.out _ _ (HB.out.range) (fun hHeld=>?_);clear hK K;(try simp only [nz]);generalize Y16=YJ at*
    rotate_left
    go_simp;clear hHeld;refine ah (fun Y16 db hV hg=>?_);rw [←hg];have HD:Hid (Box Y16 db [.slice none 0 0,.slice none 0 0,.slice none 0 0]):=by rw [hV,hg];exact aa (Box.new Y6 [.slice none 0 0,.slice none 0 0,.slice none 0 0] 29)
    have hbN:=zB hV;have hdb:w.heap.size<db:=by have:=HB.out.lt;omega
    have hdc:db≠cb:=by have:=HB.out.lt;omega
    replace HB:=aa (HB.out.below hbN);replace HR:=aa (HR.out.below hbN);replace HC:=aa (HC.out.below hbN zr);replace kb:=kb.trans (hbN.mono kb.size);clear hV hg hbN;refine hK.out _ _ (HB.out.range) (fun hHeld=>?_);clear hK K;(try simp only [nz]);refine Go.Proofs.YthmblklaeeifiaaGreat.rs 12 29 (by kernel_rfl) rfl (fun K hK=>?_);go_simp;clear hHeld;refine(HAP1.out _ _ _ _ HC.out).mono ?_;rintro e Y12 ⟨su2,pu2,au2,rfl,hc2,hbY12⟩;have HE:=aa hc2;obtain⟨sl1,sl2,sl3⟩:=gK hc2;have HS4:=aa sl1;have HS5:=aa sl2;have HS6:=aa sl3;clear sl1 sl2 sl3 hc2;replace HB:=aa (HB.out.below hbY12);replace HR:=aa (HR.out.below hbY12);replace HD:=aa (HD.out.below hbY12);replace HC:=aa (HC.out.below hbY12 zr);replace kb:=kb.trans (hbY12.mono kb.size);clear hbY12;refine hK.out _ _ (HB.out.range) (fun hHeld=>?_);clear hK K;(try simp only [nz]);refine sqA [(13,16),(14,30),(15,31)] ?_;(iterate 3 (refine sqN rfl (by kernel_rfl) (fun _ _ _ h=>absurd h.1 (by simp)) rfl ‹_› (by intro w h;go_simp <;>with_reducible rfl) ?_;simp only [nz]));refine sqZ ?_;generalize Y12=YJ at*
    rotate_left
    go_simp;clear hHeld;refine ah (fun Y16 db hV hg=>?_);rw [←hg];have HD:Hid (Box Y16 db [.slice none 0 0,.slice none 0 0,.slice none 0 0]):=by rw [hV,hg];exact aa (Box.new Y6 [.slice none 0 0,.slice none 0 0,.slice none 0 0] 29)
    have hbN:=zB hV;have hdb:w.heap.size<db:=by have:=HB.out.lt;omega
    have hdc:db≠cb:=by have:=HB.out.lt;omega
    replace cg:=zC cg hbN;replace HB:=aa (HB.out.below hbN);replace HR:=aa (HR.out.below hbN);replace HC:=aa (HC.out.below hbN zr);replace kb:=kb.trans (hbN.mono kb.size);clear hV hg hbN;refine hK.out _ _ (HB.out.range) (fun hHeld=>?_);clear hK K;(try simp only [nz]);refine Go.Proofs.YthmblklaeeifiaaGreat.rs 9 26 (by kernel_rfl) rfl (fun K hK=>?_);go_simp;clear hHeld;clear cg;refine hK.out _ _ (HB.out.range) (fun hHeld=>?_);clear hK K;(try simp only [nz]);refine sqA [(10,27),(11,28)] ?_;(iterate 2 (refine sqN rfl (by kernel_rfl) (fun _ _ _ h=>absurd h.1 (by simp)) rfl ‹_› (by intro w h;go_simp <;>with_reducible rfl) ?_;simp only [nz]));refine sqZ ?_;refine Go.Proofs.YthmblklaeeifiaaGreat.rs 12 29 (by kernel_rfl) rfl (fun K hK=>?_);go_simp;clear hHeld;refine(HAP1.out _ _ _ _ HC.out).mono ?_;rintro e Y12 ⟨su2,pu2,au2,rfl,hc2,hbY12⟩;have HE:=aa hc2;obtain⟨sl1,sl2,sl3⟩:=gK hc2;have HS4:=aa sl1;have HS5:=aa sl2;have HS6:=aa sl3;clear sl1 sl2 sl3 hc2;replace HB:=aa (HB.out.below hbY12);replace HR:=aa (HR.out.below hbY12);replace HD:=aa (HD.out.below hbY12);replace HC:=aa (HC.out.below hbY12 zr);replace kb:=kb.trans (hbY12.mono kb.size);clear hbY12;refine hK.out _ _ (HB.out.range) (fun hHeld=>?_);clear hK K;(try simp only [nz]);refine sqA [(13,16),(14,30),(15,31)] ?_;(iterate 3 (refine sqN rfl (by kernel_rfl) (fun _ _ _ h=>absurd h.1 (by simp)) rfl ‹_› (by intro w h;go_simp <;>with_reducible rfl) ?_;simp only [nz]));refine sqZ ?_;generalize Y12=YJ at*
    rotate_left
    go_simp;clear hHeld;refine ah (fun Y16 db hV hg=>?_);rw [←hg];have HD:Hid (Box Y16 db [.slice none 0 0,.slice none 0 0,.slice none 0 0]):=by rw [hV,hg];exact aa (Box.new V1 [.slice none 0 0,.slice none 0 0,.slice none 0 0] 29)
    have hbN:=zB hV;have hdb:w.heap.size<db:=by have:=HB.out.lt;omega
    have hdc:db≠cb:=by have:=HB.out.lt;omega
    replace HB:=aa (HB.out.below hbN);replace HR:=aa (HR.out.below hbN);replace HC:=aa (HC.out.below hbN zr);replace kb:=kb.trans (hbN.mono kb.size);clear hV hg hbN;refine hK.out _ _ (HB.out.range) (fun hHeld=>?_);clear hK K;(try simp only [nz]);refine Go.Proofs.YthmblklaeeifiaaGreat.rs 6 23 (by kernel_rfl) rfl (fun K hK=>?_);go_simp;clear hHeld;refine ah (fun Y6 gA hV hg=>?_);rw [←hg];have cg:Y6.cell? ⟨gA,k,none⟩=some (.int .i64 (qZ k)):=by rw [hV,hg];exact aj Y16 _ rfl _ _ _ _ HGT.out
    have hbN:=zB hV;replace HB:=aa (HB.out.below hbN);replace HR:=aa (HR.out.below hbN);replace HD:=aa (HD.out.below hbN);replace HC:=aa (HC.out.below hbN zr);replace kb:=kb.trans (hbN.mono kb.size);clear hV hg hbN;refine hK.out _ _ (HB.out.range) (fun hHeld=>?_);clear hK K;(try simp only [nz]);refine tq 8 25 rfl (by kernel_rfl) (fun _ _ _ h=>absurd h.1 (by simp)) rfl ‹_› (by intro w h;go_simp <;>with_reducible rfl) ?_;simp only [nz];refine Go.Proofs.YthmblklaeeifiaaGreat.rs 9 26 (by kernel_rfl) rfl (fun K hK=>?_);go_simp;clear hHeld;clear cg;refine hK.out _ _ (HB.out.range) (fun hHeld=>?_);clear hK K;(try simp only [nz]);refine sqA [(10,27),(11,28)] ?_;(iterate 2 (refine sqN rfl (by kernel_rfl) (fun _ _ _ h=>absurd h.1 (by simp)) rfl ‹_› (by intro w h;go_simp <;>with_reducible rfl) ?_;simp only [nz]));refine sqZ ?_;refine Go.Proofs.YthmblklaeeifiaaGreat.rs 12 29 (by kernel_rfl) rfl (fun K hK=>?_);go_simp;clear hHeld;refine(HAP1.out _ _ _ _ HC.out).mono ?_;rintro e Y12 ⟨su2,pu2,au2,rfl,hc2,hbY12⟩;have HE:=aa hc2;obtain⟨sl1,sl2,sl3⟩:=gK hc2;have HS4:=aa sl1;have HS5:=aa sl2;have HS6:=aa sl3;clear sl1 sl2 sl3 hc2;replace HB:=aa (HB.out.below hbY12);replace HR:=aa (HR.out.below hbY12);replace HD:=aa (HD.out.below hbY12);replace HC:=aa (HC.out.below hbY12 zr);replace kb:=kb.trans (hbY12.mono kb.size);clear hbY12;refine hK.out _ _ (HB.out.range) (fun hHeld=>?_);clear hK K;(try simp only [nz]);refine sqA [(13,16),(14,30),(15,31)] ?_;(iterate 3 (refine sqN rfl (by kernel_rfl) (fun _ _ _ h=>absurd h.1 (by simp)) rfl ‹_› (by intro w h;go_simp <;>with_reducible rfl) ?_;simp only [nz]));refine sqZ ?_;generalize Y12=YJ at*
    rotate_left
    all_goals
     refine Go.Proofs.YthmblklaeeifiaaGreat.rn 17 (by kernel_rfl) rfl (fun K hK=>?_);rw [if_pos (by rfl)];clear hHeld;refine wp_store_mid 29 (.tmp 7) (.tmp 30) rfl db 0 #[su2,pu2,au2] rfl rfl (HD.out.fit 3 rfl) bK (jZ HS4.out HS5.out HS6.out) ?_;obtain⟨Y17,hY17⟩:∃Y17,Y17=YJ.setCells db 0 [su2,pu2,au2]:=⟨_,rfl⟩;have NHD:Hid (Box Y17 db [su2,pu2,au2]):=by rw [hY17];exact aa (HD.out.set [su2,pu2,au2] rfl)
     have NHB:=aa (HB.out.set_far (b':=db) (Ne.symm hdc) 0 [su2,pu2,au2]);rw [←hY17]at NHB;have NHR:=aa (HR.out.set_far (b':=db) (by omega) 0 [su2,pu2,au2]);rw [←hY17]at NHR;have NHE:=aa (ei HE.out HD.out Sl.nil Sl.nil Sl.nil su2 pu2 au2);rw [←hY17]at NHE;have NHC:=aa (ei HC.out HD.out Sl.nil Sl.nil Sl.nil su2 pu2 au2);rw [←hY17]at NHC;have kz:Below w.heap.size w Y17:=by rw [hY17];exact aY _ (by omega) _ _ kb
     have HY17:Hid (YJ.setCells db 0 [su2,pu2,au2]=Y17):=hY17.symm;clear hY17;rw [HY17.out];clear HD HB HR HE HC kb;have HD:=NHD;have HB:=NHB;have HR:=NHR;have HE:=NHE;have HC:=NHC;have kb:=kz;clear NHD NHB NHR NHE NHC kz HY17;refine hK.out _ _ (HB.out.range) (fun hHeld=>?_);clear hK K;(try simp only [nz]);refine tq 18 8 rfl (by kernel_rfl) (fun _ _ _ h=>absurd h.1 (by simp)) rfl ‹_› (by intro w h;go_simp <;>with_reducible rfl) ?_;simp only [nz];refine wpAnyH_done (by kernel_rfl) ?_ _;clear hHeld
     skip
     exact⟨rfl,gA,db,su2,pu2,au2,rfl,⟨HB,HR,HD⟩,⟨HS4,HS5,HS6⟩,⟨hdb,hdc⟩,HE,kb⟩
   ·intro sb db su2 pu2 au2 W9 hF9;obtain⟨⟨HB,HR,HD⟩,⟨HS4,HS5,HS6⟩,⟨hdb,hdc⟩,HE,kb⟩:=hF9;obtain⟨V9,hV9⟩:∃V9,V9=W9.setCells cb 0 [su2,pu2,au2]:=⟨_,rfl⟩;have NHB:Hid (Box V9 cb [su2,pu2,au2]):=by rw [hV9];exact aa (HB.out.set [su2,pu2,au2] rfl)
    have NHR:=aa (HR.out.set_far (b':=cb) (by omega) 0 [su2,pu2,au2]);rw [←hV9]at NHR;have NHE:=aa (ei HE.out HB.out HS1.out HS2.out HS3.out su2 pu2 au2);rw [←hV9]at NHE;have kz:Below w.heap.size w V9:=by rw [hV9];exact aY _ (by omega) _ _ kb
    have HV9:Hid (W9.setCells cb 0 [su2,pu2,au2]=V9):=hV9.symm;clear hV9;go_wp2_with (first |(refine wpList_load_mid rfl 29 (.tmp 7) rfl db 0 rfl _ _ HD.out.range Tryz.underlying29 rfl bK ?_) |(refine wpList_store_mid rfl 29 (.tmp 5) (.tmp 34) rfl cb 0 #[su2,pu2,au2] rfl rfl (HB.out.fit 3 rfl) bK (jZ HS4.out HS5.out HS6.out) ?_;rw [HV9.out]))
    go_roundw
    case rel=>exact⟨k+1,T',su2,pu2,au2,by omega,by go_num,NHB,NHR,HT1,NHE,kz⟩
    case measure=>simp [intOf];omega
  ·have hk4:k=4:=(by omega);subst hk4;have hHT:=HT.out;subst hHT;have HS:=aa (show nr (S0.take 4) [] []from rZ);go_wp2_with fail
   rename World=>wx
   go_loopw [9] (fun i wr=>∃k:Nat,k≤l.length∧k≤M∧i= .int .i64 k∧sy w wr cb) (fun i _=>M-(intOf i).toNat)
   case atStart=>exact⟨0,by omega,by omega,rfl,_,_,_,su,pu,au,HB,HR,HS,HC,kb⟩
   case round=>
    clear HB HR HC HS HT kb;obtain⟨k,hk,hk40,rfl,S,P,A,su,pu,au,HB,HR,HF,HC,kb⟩:=hrel;obtain⟨sl1,sl2,sl3⟩:=gK HC.out;have HS1:=aa sl1;have HS2:=aa sl2;have HS3:=aa sl3;clear sl1 sl2 sl3;have q0:(0:Int)≤(k:Int):=(by omega);by_cases hlt:k<l.length
    ·have q1:(k:Int)<(l.length:Int):=(by omega);by_cases h40:k<M
     ·have q2:(k:Int)<(M:Int):=(by omega);obtain⟨n1,n2,n3⟩:=gv HF.out.1;obtain⟨b,off,cap,e1,hcap,hR⟩:=jQ rw0 (RowAt.below HL.out kb zr) hlt;simp only [Value.slice.injEq,true_and]at e1;obtain⟨rfl,rfl⟩:=e1;clear hR;have HRF:Hid (∀W,Below w.heap.size w W→W.rangeAt b (off+k*4) (rwC (l.getD k rw0))):=aa (fun W hW=>by
       obtain⟨b2,off2,cap2,e2,_,h2⟩:=jQ rw0 (RowAt.below HL.out hW zr) hlt;simp only [Value.slice.injEq,Option.some.injEq,Addr.mk.injEq,true_and,and_true]at e2;obtain⟨⟨rfl,rfl⟩,_⟩:=e2;exact h2)
      have HXC:Hid (rwC (l.getD k rw0)= [.int .i64 (l.getD k rw0).k,.int .i64 (l.getD k rw0).a,.int .i64 (l.getD k rw0).b,.int .i64 (l.getD k rw0).c]):=rfl;rw [HXC.out]at HRF;have HCX:=aa (fun W=>HCH.out W (l.getD k rw0));clear HXC;generalize (l.getD k rw0).k=x0 at*;generalize (l.getD k rw0).a=x1 at*;generalize (l.getD k rw0).b=x2 at*;generalize (l.getD k rw0).c=x3 at*;go_upto_region 12 with fail
      apply pI (fun d x y z n W'=>(Hid (Box W' cb [su,pu,au])∧Hid (Box W' w.heap.size [.slice none 0 0,.slice none 0 0,.slice none 0 0])∧Hid (Box W' d [x,y,z]))∧(Hid (Sl x)∧Hid (Sl y)∧Hid (Sl z))∧(w.heap.size<d∧d≠cb)∧(∃ax:Ax,Hid (n=et S P A ax)∧ax.si≤6∧Hid (CfAt W' x y z (apS S P A ax) (apP S P A ax) (apA S P A ax)))∧Hid (CfAt W' su pu au S P A)∧Below w.heap.size w W')
      ·have hD:Below wr.heap.size wr wr.drew:=(Below.refl _ _).drew;replace HB:=aa (HB.out.below hD);replace HR:=aa (HR.out.below hD);replace HC:=aa (HC.out.below hD zr);replace kb:=kb.trans (hD.mono kb.size);clear hD;refine wp_region_held_drew (S:=(fun w'=>w'.rangeAt cb 0 [su,pu,au]∧w'.rangeAt b (off+k*4) [.int .i64 x0,.int .i64 x1,.int .i64 x2,.int .i64 x3])) (by kernel_rfl) ⟨HB.out.range,HRF.out _ kb⟩ (fun hHeld=>?_);generalize wr.drew=V1 at*;refine wpAnyH_take (i:=0) (oi:=⟨some 48,_,_,_,_,_⟩) (v:=.agg #[su,pu,au]) rfl (by kernel_rfl) (by kernel_rfl) (by kernel_rfl) (fun _ _ _ h=>absurd h.1 (by simp)) (yieldsIf_load_mid (by rfl) 29 (.tmp 5) rfl cb 0 rfl [su,pu,au] _ (fun w h=>h.1) Tryz.underlying29 rfl bK) (by assumption) ?_;(try simp only [nz]);refine sqA [(1,49),(2,50),(3,51)] ?_;(iterate 3 (refine sqN rfl (by kernel_rfl) (fun _ _ _ h=>absurd h.1 (by simp)) rfl ‹_› (by intro w h;go_simp <;>with_reducible rfl) ?_;simp only [nz]));refine sqZ ?_;refine wpAnyH_take (i:=4) (oi:=⟨some 52,_,_,_,_,_⟩) (v:=.agg #[.int .i64 x0,.int .i64 x1,.int .i64 x2,.int .i64 x3]) rfl (by kernel_rfl) (by kernel_rfl) (by kernel_rfl) (fun _ _ _ h=>absurd h.1 (by simp)) (yieldsIf_load_mid (by rfl) 24 (.tmp 51) rfl b (off+k*4) rfl [.int .i64 x0,.int .i64 x1,.int .i64 x2,.int .i64 x3] _ (fun w h=>h.2) Tryz.underlying24 rfl pf) (by assumption) ?_;(try simp only [nz]);refine wpAnyH_ready (rs:=[5,10]) (by kernel_rfl) (by simp) ?_;refine(AllReadyH.cons (o:=⟨some 53,_,_,_,_,_⟩) rfl (fun K hK=>?_) (AllReadyH.cons (o:=⟨some 10,_,_,_,_,_⟩) rfl (fun K hK=>?_) AllReadyH.nil));go_simp;clear hHeld;refine(HCX.out _).mono ?_;rintro e Y5 ⟨ax,rfl,hsi,hbY5⟩;replace HB:=aa (HB.out.below hbY5);replace HR:=aa (HR.out.below hbY5);replace HC:=aa (HC.out.below hbY5 zr);replace kb:=kb.trans (hbY5.mono kb.size);clear hbY5;refine hK.out _ _ ⟨HB.out.range,HRF.out _ kb⟩ (fun hHeld=>?_);clear hK K;(try simp only [nz]);refine wpAnyH_ready (rs:=[6,10]) (by kernel_rfl) (by simp) ?_;refine(AllReadyH.cons (o:=⟨some 54,_,_,_,_,_⟩) rfl (fun K hK=>?_) (AllReadyH.cons (o:=⟨some 10,_,_,_,_,_⟩) rfl (fun K hK=>?_) AllReadyH.nil));go_simp;clear hHeld;refine(HAP.out _ ax _ _ _ S P A HC.out ⟨n1,n2,n3⟩).mono ?_;rintro e Y6 ⟨su2,pu2,au2,rfl,hc2,hbY6⟩;have HE:=aa hc2;obtain⟨sl1,sl2,sl3⟩:=gK hc2;have HS4:=aa sl1;have HS5:=aa sl2;have HS6:=aa sl3;clear sl1 sl2 sl3 hc2;replace HB:=aa (HB.out.below hbY6);replace HR:=aa (HR.out.below hbY6);replace HC:=aa (HC.out.below hbY6 zr);replace kb:=kb.trans (hbY6.mono kb.size);clear hbY6;refine hK.out _ _ ⟨HB.out.range,HRF.out _ kb⟩ (fun hHeld=>?_);clear hK K;(try simp only [nz]);refine sqA [(7,47),(8,55),(9,56)] ?_
       (iterate 3 (refine sqN rfl (by kernel_rfl) (fun _ _ _ h=>absurd h.1 (by simp)) rfl ‹_› (by intro w h;go_simp <;>with_reducible rfl) ?_;simp only [nz]));refine sqZ ?_
       refine Go.Proofs.YthmblklaeeifiaaGreat.rs 10 10 (by kernel_rfl) rfl (fun K hK=>?_);go_simp;clear hHeld;refine ah (fun Y10 db hV hg=>?_);rw [←hg];have HD:Hid (Box Y10 db [.slice none 0 0,.slice none 0 0,.slice none 0 0]):=by rw [hV,hg];exact aa (Box.new Y6 [.slice none 0 0,.slice none 0 0,.slice none 0 0] 29)
       have hbN:=zB hV;have hdb:w.heap.size<db:=by have:=HB.out.lt;omega
       have hdc:db≠cb:=by have:=HB.out.lt;omega
       replace HB:=aa (HB.out.below hbN);replace HR:=aa (HR.out.below hbN);replace HC:=aa (HC.out.below hbN zr);replace HE:=aa (HE.out.below hbN zr);replace kb:=kb.trans (hbN.mono kb.size);clear hV hg hbN;refine hK.out _ _ ⟨HB.out.range,HRF.out _ kb⟩ (fun hHeld=>?_);clear hK K;(try simp only [nz]);generalize Y10=YJ at*
       rotate_left
       go_simp;clear hHeld;refine ah (fun Y10 db hV hg=>?_);rw [←hg];have HD:Hid (Box Y10 db [.slice none 0 0,.slice none 0 0,.slice none 0 0]):=by rw [hV,hg];exact aa (Box.new Y5 [.slice none 0 0,.slice none 0 0,.slice none 0 0] 29)
       have hbN:=zB hV;have hdb:w.heap.size<db:=by have:=HB.out.lt;omega
       have hdc:db≠cb:=by have:=HB.out.lt;omega
       replace HB:=aa (HB.out.below hbN);replace HR:=aa (HR.out.below hbN);replace HC:=aa (HC.out.below hbN zr);replace kb:=kb.trans (hbN.mono kb.size);clear hV hg hbN;refine hK.out _ _ ⟨HB.out.range,HRF.out _ kb⟩ (fun hHeld=>?_);clear hK K;(try simp only [nz]);refine Go.Proofs.YthmblklaeeifiaaGreat.rs 6 54 (by kernel_rfl) rfl (fun K hK=>?_);go_simp;clear hHeld;refine(HAP.out _ ax _ _ _ S P A HC.out ⟨n1,n2,n3⟩).mono ?_;rintro e Y6 ⟨su2,pu2,au2,rfl,hc2,hbY6⟩;have HE:=aa hc2;obtain⟨sl1,sl2,sl3⟩:=gK hc2;have HS4:=aa sl1;have HS5:=aa sl2;have HS6:=aa sl3;clear sl1 sl2 sl3 hc2;replace HB:=aa (HB.out.below hbY6);replace HR:=aa (HR.out.below hbY6);replace HD:=aa (HD.out.below hbY6);replace HC:=aa (HC.out.below hbY6 zr);replace kb:=kb.trans (hbY6.mono kb.size);clear hbY6;refine hK.out _ _ ⟨HB.out.range,HRF.out _ kb⟩ (fun hHeld=>?_);clear hK K;(try simp only [nz]);refine sqA [(7,47),(8,55),(9,56)] ?_;(iterate 3 (refine sqN rfl (by kernel_rfl) (fun _ _ _ h=>absurd h.1 (by simp)) rfl ‹_› (by intro w h;go_simp <;>with_reducible rfl) ?_;simp only [nz]));refine sqZ ?_;generalize Y6=YJ at*
       rotate_left
       go_simp;clear hHeld;refine ah (fun Y10 db hV hg=>?_);rw [←hg];have HD:Hid (Box Y10 db [.slice none 0 0,.slice none 0 0,.slice none 0 0]):=by rw [hV,hg];exact aa (Box.new V1 [.slice none 0 0,.slice none 0 0,.slice none 0 0] 29)
       have hbN:=zB hV;have hdb:w.heap.size<db:=by have:=HB.out.lt;omega
       have hdc:db≠cb:=by have:=HB.out.lt;omega
       replace HB:=aa (HB.out.below hbN);replace HR:=aa (HR.out.below hbN);replace HC:=aa (HC.out.below hbN zr);replace kb:=kb.trans (hbN.mono kb.size);clear hV hg hbN;refine hK.out _ _ ⟨HB.out.range,HRF.out _ kb⟩ (fun hHeld=>?_);clear hK K;(try simp only [nz]);refine Go.Proofs.YthmblklaeeifiaaGreat.rs 5 53 (by kernel_rfl) rfl (fun K hK=>?_);go_simp;clear hHeld;refine(HCX.out _).mono ?_;rintro e Y5 ⟨ax,rfl,hsi,hbY5⟩;replace HB:=aa (HB.out.below hbY5);replace HR:=aa (HR.out.below hbY5);replace HD:=aa (HD.out.below hbY5);replace HC:=aa (HC.out.below hbY5 zr);replace kb:=kb.trans (hbY5.mono kb.size);clear hbY5;refine hK.out _ _ ⟨HB.out.range,HRF.out _ kb⟩ (fun hHeld=>?_);clear hK K;(try simp only [nz]);refine Go.Proofs.YthmblklaeeifiaaGreat.rs 6 54 (by kernel_rfl) rfl (fun K hK=>?_);go_simp;clear hHeld;refine(HAP.out _ ax _ _ _ S P A HC.out ⟨n1,n2,n3⟩).mono ?_;rintro e Y6 ⟨su2,pu2,au2,rfl,hc2,hbY6⟩;have HE:=aa hc2;obtain⟨sl1,sl2,sl3⟩:=gK hc2;have HS4:=aa sl1;have HS5:=aa sl2;have HS6:=aa sl3;clear sl1 sl2 sl3 hc2;replace HB:=aa (HB.out.below hbY6);replace HR:=aa (HR.out.below hbY6);replace HD:=aa (HD.out.below hbY6);replace HC:=aa (HC.out.below hbY6 zr);replace kb:=kb.trans (hbY6.mono kb.size);clear hbY6;refine hK.out _ _ ⟨HB.out.range,HRF.out _ kb⟩ (fun hHeld=>?_);clear hK K;(try simp only [nz]);refine sqA [(7,47),(8,55),(9,56)] ?_;(iterate 3 (refine sqN rfl (by kernel_rfl) (fun _ _ _ h=>absurd h.1 (by simp)) rfl ‹_› (by intro w h;go_simp <;>with_reducible rfl) ?_;simp only [nz]));refine sqZ ?_;generalize Y6=YJ at*
       rotate_left
       all_goals
        refine Go.Proofs.YthmblklaeeifiaaGreat.rn 11 (by kernel_rfl) rfl (fun K hK=>?_);rw [if_pos (by rfl)];clear hHeld;refine wp_store_mid 29 (.tmp 10) (.tmp 55) rfl db 0 #[su2,pu2,au2] rfl rfl (HD.out.fit 3 rfl) bK (jZ HS4.out HS5.out HS6.out) ?_;obtain⟨Y11,hY11⟩:∃Y11,Y11=YJ.setCells db 0 [su2,pu2,au2]:=⟨_,rfl⟩;have NHD:Hid (Box Y11 db [su2,pu2,au2]):=by rw [hY11];exact aa (HD.out.set [su2,pu2,au2] rfl)
        have NHB:=aa (HB.out.set_far (b':=db) (Ne.symm hdc) 0 [su2,pu2,au2]);rw [←hY11]at NHB;have NHR:=aa (HR.out.set_far (b':=db) (by omega) 0 [su2,pu2,au2]);rw [←hY11]at NHR;have NHE:=aa (ei HE.out HD.out Sl.nil Sl.nil Sl.nil su2 pu2 au2);rw [←hY11]at NHE;have NHC:=aa (ei HC.out HD.out Sl.nil Sl.nil Sl.nil su2 pu2 au2);rw [←hY11]at NHC;have kz:Below w.heap.size w Y11:=by rw [hY11];exact aY _ (by omega) _ _ kb
        have HY11:Hid (YJ.setCells db 0 [su2,pu2,au2]=Y11):=hY11.symm;clear hY11;rw [HY11.out];clear HD HB HR HE HC kb;have HD:=NHD;have HB:=NHB;have HR:=NHR;have HE:=NHE;have HC:=NHC;have kb:=kz;clear NHD NHB NHR NHE NHC kz HY11;refine hK.out _ _ ⟨HB.out.range,HRF.out _ kb⟩ (fun hHeld=>?_);clear hK K;(try simp only [nz]);refine tq 12 11 rfl (by kernel_rfl) (fun _ _ _ h=>absurd h.1 (by simp)) rfl ‹_› (by intro w h;go_simp <;>with_reducible rfl) ?_;simp only [nz];refine wpAnyH_done (by kernel_rfl) ?_ _;clear hHeld;obtain⟨E,hE⟩:∃E,E=et S P A ax:=⟨_,rfl⟩;rw [←hE];generalize dw ax=av;exact⟨rfl,db,su2,pu2,au2,av,E,rfl,⟨HB,HR,HD⟩,⟨HS4,HS5,HS6⟩,⟨hdb,hdc⟩,⟨ax,aa hE,hsi,HE⟩,HC,kb⟩
      ·intro db su2 pu2 au2 av E W9 hF9;obtain⟨⟨HB,HR,HD⟩,⟨HS4,HS5,HS6⟩,⟨hdb,hdc⟩,⟨ax,HEE,hsi,HE⟩,HC,kb⟩:=hF9;by_cases hE:E=0
       ·subst hE;have HF2:=aa (oN HF.out HEE.out.symm hsi);obtain⟨V9,hV9⟩:∃V9,V9=W9.setCells cb 0 [su2,pu2,au2]:=⟨_,rfl⟩;have NHB:Hid (Box V9 cb [su2,pu2,au2]):=by rw [hV9];exact aa (HB.out.set [su2,pu2,au2] rfl)
        have NHR:=aa (HR.out.set_far (b':=cb) (by omega) 0 [su2,pu2,au2]);rw [←hV9]at NHR;have NHE:=aa (ei HE.out HB.out HS1.out HS2.out HS3.out su2 pu2 au2);rw [←hV9]at NHE;have kz:Below w.heap.size w V9:=by rw [hV9];exact aY _ (by omega) _ _ kb
        have HV9:Hid (W9.setCells cb 0 [su2,pu2,au2]=V9):=hV9.symm;clear hV9;go_wp2_with (first |(refine wpList_load_mid rfl 29 (.tmp 10) rfl db 0 rfl _ _ HD.out.range Tryz.underlying29 rfl bK ?_) |(refine wpList_store_mid rfl 29 (.tmp 5) (.tmp 59) rfl cb 0 #[su2,pu2,au2] rfl rfl (HB.out.fit 3 rfl) bK (jZ HS4.out HS5.out HS6.out) ?_;rw [HV9.out]))
        go_roundw
        case rel=>exact⟨k+1,by omega,by omega,by go_num,_,_,_,su2,pu2,au2,NHB,NHR,HF2,NHE,kz⟩
        case measure=>simp [intOf];omega
       ·have hEb:(E==0)=false:=(by simpa using hE);go_wp2_with fail
        go_roundw
        case rel=>exact⟨k+1,by omega,by omega,by go_num,S,P,A,su,pu,au,HB,HR,HF,HC,kb⟩
        case measure=>simp [intOf];omega
     ·have q2:¬((k:Int)<(M:Int)):=(by omega);obtain⟨V8,hV8⟩:∃V8,V8=wr.setCells w.heap.size 0 [su,pu,au]:=⟨_,rfl⟩;have NHR:Hid (Box V8 w.heap.size [su,pu,au]):=by rw [hV8];exact aa (HR.out.set [su,pu,au] rfl)
      have NHC:=aa (ei HC.out HR.out Sl.nil Sl.nil Sl.nil su pu au);rw [←hV8]at NHC;have kz:Below w.heap.size w V8:=by rw [hV8];exact aY _ (by omega) _ _ kb
      have HV8:Hid (wr.setCells w.heap.size 0 [su,pu,au]=V8):=hV8.symm;clear hV8;go_wp2_with (first |(refine wpList_load_mid rfl 29 (.tmp 5) rfl cb 0 rfl _ _ HB.out.range Tryz.underlying29 rfl bK ?_) |(refine wpList_store_mid rfl 29 (.tmp 4) (.tmp 60) rfl w.heap.size 0 #[su,pu,au] rfl rfl (HR.out.fit 3 rfl) bK (jZ HS1.out HS2.out HS3.out) ?_;rw [HV8.out]))
      refine bodyPost_ret (v:=.agg #[su,pu,au]) ?_ rfl ⟨su,pu,au,rfl,S,P,A,NHC.out,HF.out,kz⟩;exact cR (cs:=[su,pu,au]) Tryz.results4 rfl NHR.out.range Tryz.underlying29 rfl bK
    ·have q1:¬((k:Int)<(l.length:Int)):=(by omega);obtain⟨V8,hV8⟩:∃V8,V8=wr.setCells w.heap.size 0 [su,pu,au]:=⟨_,rfl⟩;have NHR:Hid (Box V8 w.heap.size [su,pu,au]):=by rw [hV8];exact aa (HR.out.set [su,pu,au] rfl)
     have NHC:=aa (ei HC.out HR.out Sl.nil Sl.nil Sl.nil su pu au);rw [←hV8]at NHC;have kz:Below w.heap.size w V8:=by rw [hV8];exact aY _ (by omega) _ _ kb
     have HV8:Hid (wr.setCells w.heap.size 0 [su,pu,au]=V8):=hV8.symm;clear hV8;go_wp2_with (first |(refine wpList_load_mid rfl 29 (.tmp 5) rfl cb 0 rfl _ _ HB.out.range Tryz.underlying29 rfl bK ?_) |(refine wpList_store_mid rfl 29 (.tmp 4) (.tmp 60) rfl w.heap.size 0 #[su,pu,au] rfl rfl (HR.out.fit 3 rfl) bK (jZ HS1.out HS2.out HS3.out) ?_;rw [HV8.out]))
     refine bodyPost_ret (v:=.agg #[su,pu,au]) ?_ rfl ⟨su,pu,au,rfl,S,P,A,NHC.out,HF.out,kz⟩;exact cR (cs:=[su,pu,au]) Tryz.results4 rfl NHR.out.range Tryz.underlying29 rfl bK
theorem pj (l:List Rw) (lv:Value) (w:World) (hL:RowAt rwC 4 w lv l):
  Calls Tryz.prog 4 #[lv,.int .i64 40] w fun e w'=>∃su pu au,e= .returned (.agg #[su,pu,au])∧∃S P A,CfAt w' su pu au S P A∧nr S P A∧Below w.heap.size w w':=oO 40 (by omega) l lv w hL
end Go.Proofs.YthmblklaeeifiaaGreat
