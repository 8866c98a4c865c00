/- Texts joined: Kf. -/
import Derived.Deep.MidRow
import Derived.Deep.RegionHeld3
import Derived.Deep.DeepCutAuto
import Derived.Deep.Light
import Derived.Test.YtaiedioffemhdaaGreatJT3
namespace Go.Proofs.YtaiedioffemhdaaGreat
open Go.RowKit
set_option linter.unusedVariables false
set_option maxRecDepth 100000
set_option maxHeartbeats 16000000
theorem dZ7 (a k:Int) (hk:1≤k) (h0: -9223372036854775808≤a) (h1:a≤9223372036854775807): -9223372036854775808≤a.tdiv k∧a.tdiv k≤9223372036854775807:=by
 rcases Int.le_total 0 a with h | h
 ·rw [Int.tdiv_eq_ediv_of_nonneg h];have:=Int.ediv_le_self k h;have:=Int.ediv_nonneg h (by omega:(0:Int)≤k);omega
 ·have e:a.tdiv k= -((-a).tdiv k):=by rw [Int.neg_tdiv];omega
  rw [e,Int.tdiv_eq_ediv_of_nonneg (by omega)];have:=Int.ediv_le_self k (by omega:(0:Int)≤ -a);have:=Int.ediv_nonneg (by omega:(0:Int)≤ -a) (by omega:(0:Int)≤k);omega
theorem az7 (n:Int) (h0: -9223372036854775808≤n) (h1:n≤9223372036854775807):IntKind.i64.wrap n=n:=by
 simp [IntKind.wrap,IntKind.bits,IntKind.signed];split <;>omega
theorem mZ {dst src kind ips ipd ttl port:Int} {n:Nat} (hd0:0≤dst) (hd1:dst≤65535) (hs0:0≤src) (hs1:src≤65535) (hk0:1≤kind) (hk1:kind≤3) (hi0:0≤ips) (hi1:ips≤65535) (hj0:0≤ipd) (hj1:ipd≤65535)
  (ht0:0≤ttl) (ht1:ttl≤255) (hp0:0≤port) (hp1:port≤65535) (hn:n≤40) (h:kind=3∨(ttl=0∧port=0∧n=0)):be dst src kind ips ipd ttl port n=0:=by
 have hk:ir kind=true:=by unfold ir;simp;omega
 have hb:dL dst src ips ipd ttl port=true:=by unfold dL aB lr;simp;omega
 unfold be;rw [if_pos hk,if_pos hb,if_neg (by omega)];rcases h with h |⟨h1,h2,h3⟩
 ·rw [if_neg (by omega)]
 ·have:iI ttl port n=false:=by unfold iI;simp [h1,h2,h3]
  simp [this]
theorem wh (k a b c:Int) (s:ByteArray) (w:World) (hk: -9223372036854775808≤k∧k≤9223372036854775807) (ha: -9223372036854775808≤a∧a≤9223372036854775807) (hb: -9223372036854775808≤b∧b≤9223372036854775807)
  (hc: -9223372036854775808≤c∧c≤9223372036854775807) (hs:s.size≤maxLen):
  Calls Tryz.prog 30 #[.agg #[.int .i64 k,.int .i64 a,.int .i64 b,.int .i64 c],.string s] w fun e w'=>∃dst src kind ips ipd ttl port:Int,∃body:ByteArray,e= .returned (fr dst src kind ips ipd ttl port body)∧
   be dst src kind ips ipd ttl port body.size=0∧Below w.heap.size w w':=by
 unfold maxLen at hs;have ha3:=dZ7 a 3 (by omega) ha.1 ha.2;have hc5:=dZ7 c 5 (by omega) hc.1 hc.2;have wa3:=az7 _ ha3.1 ha3.2;have wc5:=az7 _ hc5.1 hc5.2;obtain⟨p10,p11⟩:=bv a 65536 (by omega);obtain⟨p20,p21⟩:=bv b 65536 (by omega);obtain⟨p30,p31⟩:=bv k 3 (by omega);obtain⟨p40,p41⟩:=bv c 65536 (by omega);obtain⟨p50,p51⟩:=bv (a.tdiv 3) 65536 (by omega);obtain⟨p60,p61⟩:=bv b 256 (by omega);obtain⟨p70,p71⟩:=bv (c.tdiv 5) 65536 (by omega);have w1p:=az7 (1+pk k 3) (by omega) (by omega);obtain⟨hk0,hk1⟩:=hk;obtain⟨ha0,ha1⟩:=ha;obtain⟨hb0,hb1⟩:=hb;obtain⟨hc0,hc1⟩:=hc;go_enter Tryz.func30,Tryz.ntmps30;go_upto_region 1 with fail
 go_cut [5] (fun f wx=>f= .pointer (some ⟨w.heap.size+1+1,0,none⟩)∧
  wx=(((w.alloc (.cells #[.int .i64 k,.int .i64 a,.int .i64 b,.int .i64 c] 24)).alloc (.cells #[.int .i64 0,.int .i64 0,.int .i64 0,.int .i64 0,.int .i64 0,.int .i64 0,.int .i64 0,.string ⟨#[]⟩] 33)).alloc
   (.cells #[.int .i64 (pk a 65536),.int .i64 (pk b 65536),.int .i64 (1+pk k 3),.int .i64 (pk c 65536),.int .i64 (pk (a.tdiv 3) 65536),.int .i64 0,.int .i64 0,.string ⟨#[]⟩] 33)).drew)
 case first=>
  go_region_held3 (fun w'=>w'.cell? ⟨w.heap.size,0,none⟩=some (.int .i64 k)∧w'.cell? ⟨w.heap.size,1,none⟩=some (.int .i64 a)∧w'.cell? ⟨w.heap.size,2,none⟩=some (.int .i64 b)∧w'.cell? ⟨w.heap.size,3,none⟩=some (.int .i64 c)) (go_keep)
   (first |(go_at_call 34;refine(aI _ _ _ ?_ ?_ ?_ ?_).mono ?_;(first | omega | skip);(first | omega | skip);(first | omega | skip);(first | omega | skip);rintro e w' ⟨rfl,rfl⟩))
  all_goals (go_wp2_with fail;go_meet;exact⟨rfl,rfl⟩)
 case rest=>
  obtain⟨rfl,rfl⟩:=hcut;by_cases hq:pk k 3=2
  ·rw [hq];clear wa3 ha3 w1p;have k0:(0:Int)≤(s.size:Int):=(by omega);by_cases h40:s.size≤40
   ·have h40':((40:Int)<(s.size:Int))=False:=eq_false (by omega);go_upto_region 3 with fail
    go_region_held3 (fun w'=>w'.cell? ⟨w.heap.size,2,none⟩=some (.int .i64 b)∧w'.cell? ⟨w.heap.size,3,none⟩=some (.int .i64 c)) (go_keep)
     (first |(go_at_call 34;refine(aI _ _ _ ?_ ?_ ?_ ?_).mono ?_;(first | omega | skip);(first | omega | skip);(first | omega | skip);(first | omega | skip);rintro e w' ⟨rfl,rfl⟩))
    all_goals go_wp2
    all_goals refine bodyPost_ret (v:=fr (pk a 65536) (pk b 65536) 3 (pk c 65536) (pk (a.tdiv 3) 65536) (pk b 256) (pk (c.tdiv 5) 65536) s) ?_ rfl ⟨_,_,_,_,_,_,_,_,rfl,mZ p10 (by omega) p20 (by omega) (by omega) (by omega) p40 (by omega) p50 (by omega) p60 (by omega) p70 (by omega) h40 (.inl rfl),?_⟩
    all_goals first |(simp [results,Tryz.results30,go_sem];done) | exact((((Below.refl _ _).alloc zr _).alloc (by simp) _).alloc (by simp;omega) _).drew.drew
   ·have h40':((40:Int)<(s.size:Int))=True:=eq_true (by omega);have k40:(40:Int)≤(s.size:Int):=(by omega);go_upto_region 3 with fail
    go_region_held3 (fun w'=>w'.cell? ⟨w.heap.size,2,none⟩=some (.int .i64 b)∧w'.cell? ⟨w.heap.size,3,none⟩=some (.int .i64 c)) (go_keep)
     (first |(go_at_call 34;refine(aI _ _ _ ?_ ?_ ?_ ?_).mono ?_;(first | omega | skip);(first | omega | skip);(first | omega | skip);(first | omega | skip);rintro e w' ⟨rfl,rfl⟩))
    all_goals go_wp2
    all_goals refine bodyPost_ret (v:=fr (pk a 65536) (pk b 65536) 3 (pk c 65536) (pk (a.tdiv 3) 65536) (pk b 256) (pk (c.tdiv 5) 65536) (s.extract 0 40)) ?_ rfl ⟨_,_,_,_,_,_,_,_,rfl,mZ p10 (by omega) p20 (by omega) (by omega) (by omega) p40 (by omega) p50 (by omega) p60 (by omega) p70 (by omega) (by simp;omega) (.inl rfl),?_⟩
    all_goals first |(simp [results,Tryz.results30,go_sem];done) | exact((((Below.refl _ _).alloc zr _).alloc (by simp) _).alloc (by simp;omega) _).drew.drew
  ·have hq':(1+pk k 3==3)=false:=by simp;omega
   go_wp2_with fail
   refine bodyPost_ret (v:=fr (pk a 65536) (pk b 65536) (1+pk k 3) (pk c 65536) (pk (a.tdiv 3) 65536) 0 0 ⟨#[]⟩) ?_ rfl ⟨_,_,_,_,_,_,_,_,rfl,?_,?_⟩
   ·simp [results,Tryz.results30,go_sem]
   ·exact mZ p10 (by omega) p20 (by omega) (by omega) (by omega) p40 (by omega) p50 (by omega) (by omega) (by omega) (by omega) (by omega) (by decide) (.inr ⟨rfl,rfl,rfl⟩)
   ·exact((((Below.refl _ _).alloc zr _).alloc (by simp) _).alloc (by simp;omega) _).drew
end Go.Proofs.YtaiedioffemhdaaGreat
