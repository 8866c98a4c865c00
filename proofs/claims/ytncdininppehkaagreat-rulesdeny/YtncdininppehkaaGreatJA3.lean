/- Texts joined: Pp, Wb, Wc, Wd, We, We2, Oa, Op, Ef, Eq, Un, Wf, Fm, Ww, Wu, Xc, Fn2, Rk, Xd, Xk2, Two, Rf0, So, Sv, Rs0, Pa, Pb. -/
import Derived.Laws.BitsLemmas
import Derived.Deep.QuietTactic
import Derived.BigQuiet
import Derived.Deep.RegionHeld3
import Derived.Lib.AppendStr
import Derived.ProofKit
import Derived.OpenShut
import Derived.ShutString
import Derived.ChangeOld
import Derived.Laws.StructEq
import Derived.Laws.AppendOwnNone
import Derived.SizedLaws
import Derived.Lib.SlBytesConst
import Derived.ArgAppend
import Derived.Deep.AppendLies
import Derived.Deep.RegionLaw
import Derived.Laws.OwnMore
import Derived.Test.YtncdininppehkaaGreatJA2
namespace Go.Proofs.YtncdininppehkaaGreat
open Go.RowKit
set_option linter.unusedVariables false
set_option maxRecDepth 100000
set_option maxHeartbeats 16000000
def pkE (dst src kind ips ipd ttl port:Int) (n:Nat) (i net t:Int):Int:=
 if aM dst src kind ips ipd ttl port n=0 then bG [i,dst,src,kind,ips,ipd,ttl,port,net,t] n else aM dst src kind ips ipd ttl port n
abbrev pkZ:Value:=pkt 0 0 0 0 0 0 0 0 0 0 ⟨#[]⟩
theorem jO (dst src kind ips ipd ttl port:Int) (body:ByteArray) (i net t:Int) (w:World) (hb:body.size≤maxLen):
  Calls Tryz.prog 12 #[fr dst src kind ips ipd ttl port body,.int .i64 i,.int .i64 net,.int .i64 t] w fun e w'=>e= .returned (.tuple #[if pkE dst src kind ips ipd ttl port body.size i net t=0 then pkt i dst src kind ips ipd ttl port net t body else pkZ,.int .i64 (pkE dst src kind ips ipd ttl port body.size i net t)])∧Below w.heap.size w w':=by
 have HE:Hid (pkE dst src kind ips ipd ttl port body.size i net t=if aM dst src kind ips ipd ttl port body.size=0 then bG [i,dst,src,kind,ips,ipd,ttl,port,net,t] body.size else aM dst src kind ips ipd ttl port body.size):=rfl
 generalize pkE dst src kind ips ipd ttl port body.size i net t=E at*
 have H1:=aa (fun W=>fk dst src kind ips ipd ttl port body W hb)
 have H2:=aa (fun W=>dQ i dst src kind ips ipd ttl port net t body W hb)
 generalize aM dst src kind ips ipd ttl port body.size=G at*
 generalize bG [i,dst,src,kind,ips,ipd,ttl,port,net,t] body.size=K at*
 go_enter Tryz.func12,Tryz.ntmps12
 go_wp2_with fail
 obtain⟨W0,hW0⟩:∃W0,W0=(w.alloc (.cells #[.int .i64 dst,.int .i64 src,.int .i64 kind,.int .i64 ips,.int .i64 ipd,.int .i64 ttl,.int .i64 port,.string body] 37)).alloc (.cells #[.int .i64 0,.int .i64 0,.int .i64 0,.int .i64 0,.int .i64 0,.int .i64 0,.int .i64 0,.int .i64 0,.int .i64 0,.int .i64 0,.string ⟨#[]⟩] 41):=⟨_,rfl⟩;have hb0:Below w.heap.size w W0:=by rw [hW0];exact((Below.refl _ w).alloc zr _).alloc (by simp) _
 have hz0:W0.heap.size=w.heap.size+1+1:=by rw [hW0];simp
 have c0:W0.cell? ⟨w.heap.size,0,none⟩=some (.int .i64 dst):=by rw [hW0];exact aq (ak w _ rfl _ _ _ _ rfl) _
 have c1:W0.cell? ⟨w.heap.size,1,none⟩=some (.int .i64 src):=by rw [hW0];exact aq (ak w _ rfl _ _ _ _ rfl) _
 have c2:W0.cell? ⟨w.heap.size,2,none⟩=some (.int .i64 kind):=by rw [hW0];exact aq (ak w _ rfl _ _ _ _ rfl) _
 have c3:W0.cell? ⟨w.heap.size,3,none⟩=some (.int .i64 ips):=by rw [hW0];exact aq (ak w _ rfl _ _ _ _ rfl) _
 have c4:W0.cell? ⟨w.heap.size,4,none⟩=some (.int .i64 ipd):=by rw [hW0];exact aq (ak w _ rfl _ _ _ _ rfl) _
 have c5:W0.cell? ⟨w.heap.size,5,none⟩=some (.int .i64 ttl):=by rw [hW0];exact aq (ak w _ rfl _ _ _ _ rfl) _
 have c6:W0.cell? ⟨w.heap.size,6,none⟩=some (.int .i64 port):=by rw [hW0];exact aq (ak w _ rfl _ _ _ _ rfl) _
 have c7:W0.cell? ⟨w.heap.size,7,none⟩=some (.string body):=by rw [hW0];exact aq (ak w _ rfl _ _ _ _ rfl) _
 have r0:W0.cell? ⟨w.heap.size+1,0,none⟩=some (.int .i64 0):=by rw [hW0];exact ak _ _ (by simp) _ _ _ _ rfl
 have r1:W0.cell? ⟨w.heap.size+1,1,none⟩=some (.int .i64 0):=by rw [hW0];exact ak _ _ (by simp) _ _ _ _ rfl
 have r2:W0.cell? ⟨w.heap.size+1,2,none⟩=some (.int .i64 0):=by rw [hW0];exact ak _ _ (by simp) _ _ _ _ rfl
 have r3:W0.cell? ⟨w.heap.size+1,3,none⟩=some (.int .i64 0):=by rw [hW0];exact ak _ _ (by simp) _ _ _ _ rfl
 have r4:W0.cell? ⟨w.heap.size+1,4,none⟩=some (.int .i64 0):=by rw [hW0];exact ak _ _ (by simp) _ _ _ _ rfl
 have r5:W0.cell? ⟨w.heap.size+1,5,none⟩=some (.int .i64 0):=by rw [hW0];exact ak _ _ (by simp) _ _ _ _ rfl
 have r6:W0.cell? ⟨w.heap.size+1,6,none⟩=some (.int .i64 0):=by rw [hW0];exact ak _ _ (by simp) _ _ _ _ rfl
 have r7:W0.cell? ⟨w.heap.size+1,7,none⟩=some (.int .i64 0):=by rw [hW0];exact ak _ _ (by simp) _ _ _ _ rfl
 have r8:W0.cell? ⟨w.heap.size+1,8,none⟩=some (.int .i64 0):=by rw [hW0];exact ak _ _ (by simp) _ _ _ _ rfl
 have r9:W0.cell? ⟨w.heap.size+1,9,none⟩=some (.int .i64 0):=by rw [hW0];exact ak _ _ (by simp) _ _ _ _ rfl
 have r10:W0.cell? ⟨w.heap.size+1,10,none⟩=some (.string ⟨#[]⟩):=by rw [hW0];exact ak _ _ (by simp) _ _ _ _ rfl
 have z:∀j,W0.frozen? ⟨w.heap.size+1,j,none⟩=false:=by rw [hW0];simp
 rw [←hW0];clear hW0
 refine(ag H1 _).mono ?_
 rintro e w1 ⟨rfl,hb1⟩;have k1:=hb0.trans (hb1.mono hb0.size);have hz1:w.heap.size+1+1≤w1.heap.size:=by have:=hb1.size;omega
 replace c0:=zC c0 hb1;replace c1:=zC c1 hb1;replace c2:=zC c2 hb1;replace c3:=zC c3 hb1;replace c4:=zC c4 hb1;replace c5:=zC c5 hb1;replace c6:=zC c6 hb1;replace c7:=zC c7 hb1;replace r0:=zC r0 hb1;replace r1:=zC r1 hb1;replace r2:=zC r2 hb1;replace r3:=zC r3 hb1;replace r4:=zC r4 hb1;replace r5:=zC r5 hb1;replace r6:=zC r6 hb1;replace r7:=zC r7 hb1;replace r8:=zC r8 hb1;replace r9:=zC r9 hb1;replace r10:=zC r10 hb1;replace z:∀j,w1.frozen? ⟨w.heap.size+1,j,none⟩=false:=fun j=>(hb1.frozen (p:=⟨w.heap.size+1,j,none⟩) (by show w.heap.size+1<W0.heap.size;omega)).trans (z j)
 clear hb1 hb0 hz0 H1
 by_cases hG:¬G=0
 ·have hE:E=G:=by rw [HE.out,if_neg hG]
  subst hE;clear HE H2
  go_wp2_with fail
  have hS:(((((((((((w1.setCell ⟨w.heap.size+1,0,none⟩ (.int .i64 0)).setCell ⟨w.heap.size+1,1,none⟩ (.int .i64 0)).setCell ⟨w.heap.size+1,2,none⟩ (.int .i64 0)).setCell ⟨w.heap.size+1,3,none⟩ (.int .i64 0)).setCell ⟨w.heap.size+1,4,none⟩ (.int .i64 0)).setCell ⟨w.heap.size+1,5,none⟩ (.int .i64 0)).setCell ⟨w.heap.size+1,6,none⟩ (.int .i64 0)).setCell ⟨w.heap.size+1,7,none⟩ (.int .i64 0)).setCell ⟨w.heap.size+1,8,none⟩ (.int .i64 0)).setCell ⟨w.heap.size+1,9,none⟩ (.int .i64 0)).setCell ⟨w.heap.size+1,10,none⟩ (.string ⟨#[]⟩))=w1.setCells (w.heap.size+1) 0 [Value.int .i64 0,.int .i64 0,.int .i64 0,.int .i64 0,.int .i64 0,.int .i64 0,.int .i64 0,.int .i64 0,.int .i64 0,.int .i64 0,.string ⟨#[]⟩]:=rfl;have HB:Hid (Below w.heap.size w (((((((((((w1.setCell ⟨w.heap.size+1,0,none⟩ (.int .i64 0)).setCell ⟨w.heap.size+1,1,none⟩ (.int .i64 0)).setCell ⟨w.heap.size+1,2,none⟩ (.int .i64 0)).setCell ⟨w.heap.size+1,3,none⟩ (.int .i64 0)).setCell ⟨w.heap.size+1,4,none⟩ (.int .i64 0)).setCell ⟨w.heap.size+1,5,none⟩ (.int .i64 0)).setCell ⟨w.heap.size+1,6,none⟩ (.int .i64 0)).setCell ⟨w.heap.size+1,7,none⟩ (.int .i64 0)).setCell ⟨w.heap.size+1,8,none⟩ (.int .i64 0)).setCell ⟨w.heap.size+1,9,none⟩ (.int .i64 0)).setCell ⟨w.heap.size+1,10,none⟩ (.string ⟨#[]⟩))):=by rw [hS];exact dt (Nat.le_succ _) _ _ _ (k1)
  have HI:Hid (∀j,j<11→(w1.cell? ⟨w.heap.size+1,j,none⟩).isSome=true):=fun j hj=>by
   have hc:j=0∨j=1∨j=2∨j=3∨j=4∨j=5∨j=6∨j=7∨j=8∨j=9∨j=10:=by omega
   rcases hc with rfl | rfl | rfl | rfl | rfl | rfl | rfl | rfl | rfl | rfl | rfl
   ·rw [r0];rfl
   ·rw [r1];rfl
   ·rw [r2];rfl
   ·rw [r3];rfl
   ·rw [r4];rfl
   ·rw [r5];rfl
   ·rw [r6];rfl
   ·rw [r7];rfl
   ·rw [r8];rfl
   ·rw [r9];rfl
   ·rw [r10];rfl
  have u0:(((((((((((w1.setCell ⟨w.heap.size+1,0,none⟩ (.int .i64 0)).setCell ⟨w.heap.size+1,1,none⟩ (.int .i64 0)).setCell ⟨w.heap.size+1,2,none⟩ (.int .i64 0)).setCell ⟨w.heap.size+1,3,none⟩ (.int .i64 0)).setCell ⟨w.heap.size+1,4,none⟩ (.int .i64 0)).setCell ⟨w.heap.size+1,5,none⟩ (.int .i64 0)).setCell ⟨w.heap.size+1,6,none⟩ (.int .i64 0)).setCell ⟨w.heap.size+1,7,none⟩ (.int .i64 0)).setCell ⟨w.heap.size+1,8,none⟩ (.int .i64 0)).setCell ⟨w.heap.size+1,9,none⟩ (.int .i64 0)).setCell ⟨w.heap.size+1,10,none⟩ (.string ⟨#[]⟩)).cell? ⟨w.heap.size+1,0,none⟩=some (.int .i64 0):=by rw [hS];exact aA (vs:=[Value.int .i64 0,.int .i64 0,.int .i64 0,.int .i64 0,.int .i64 0,.int .i64 0,.int .i64 0,.int .i64 0,.int .i64 0,.int .i64 0,.string ⟨#[]⟩]) HI.out rfl
  have u1:(((((((((((w1.setCell ⟨w.heap.size+1,0,none⟩ (.int .i64 0)).setCell ⟨w.heap.size+1,1,none⟩ (.int .i64 0)).setCell ⟨w.heap.size+1,2,none⟩ (.int .i64 0)).setCell ⟨w.heap.size+1,3,none⟩ (.int .i64 0)).setCell ⟨w.heap.size+1,4,none⟩ (.int .i64 0)).setCell ⟨w.heap.size+1,5,none⟩ (.int .i64 0)).setCell ⟨w.heap.size+1,6,none⟩ (.int .i64 0)).setCell ⟨w.heap.size+1,7,none⟩ (.int .i64 0)).setCell ⟨w.heap.size+1,8,none⟩ (.int .i64 0)).setCell ⟨w.heap.size+1,9,none⟩ (.int .i64 0)).setCell ⟨w.heap.size+1,10,none⟩ (.string ⟨#[]⟩)).cell? ⟨w.heap.size+1,1,none⟩=some (.int .i64 0):=by rw [hS];exact aA (vs:=[Value.int .i64 0,.int .i64 0,.int .i64 0,.int .i64 0,.int .i64 0,.int .i64 0,.int .i64 0,.int .i64 0,.int .i64 0,.int .i64 0,.string ⟨#[]⟩]) HI.out rfl
  have u2:(((((((((((w1.setCell ⟨w.heap.size+1,0,none⟩ (.int .i64 0)).setCell ⟨w.heap.size+1,1,none⟩ (.int .i64 0)).setCell ⟨w.heap.size+1,2,none⟩ (.int .i64 0)).setCell ⟨w.heap.size+1,3,none⟩ (.int .i64 0)).setCell ⟨w.heap.size+1,4,none⟩ (.int .i64 0)).setCell ⟨w.heap.size+1,5,none⟩ (.int .i64 0)).setCell ⟨w.heap.size+1,6,none⟩ (.int .i64 0)).setCell ⟨w.heap.size+1,7,none⟩ (.int .i64 0)).setCell ⟨w.heap.size+1,8,none⟩ (.int .i64 0)).setCell ⟨w.heap.size+1,9,none⟩ (.int .i64 0)).setCell ⟨w.heap.size+1,10,none⟩ (.string ⟨#[]⟩)).cell? ⟨w.heap.size+1,2,none⟩=some (.int .i64 0):=by rw [hS];exact aA (vs:=[Value.int .i64 0,.int .i64 0,.int .i64 0,.int .i64 0,.int .i64 0,.int .i64 0,.int .i64 0,.int .i64 0,.int .i64 0,.int .i64 0,.string ⟨#[]⟩]) HI.out rfl
  have u3:(((((((((((w1.setCell ⟨w.heap.size+1,0,none⟩ (.int .i64 0)).setCell ⟨w.heap.size+1,1,none⟩ (.int .i64 0)).setCell ⟨w.heap.size+1,2,none⟩ (.int .i64 0)).setCell ⟨w.heap.size+1,3,none⟩ (.int .i64 0)).setCell ⟨w.heap.size+1,4,none⟩ (.int .i64 0)).setCell ⟨w.heap.size+1,5,none⟩ (.int .i64 0)).setCell ⟨w.heap.size+1,6,none⟩ (.int .i64 0)).setCell ⟨w.heap.size+1,7,none⟩ (.int .i64 0)).setCell ⟨w.heap.size+1,8,none⟩ (.int .i64 0)).setCell ⟨w.heap.size+1,9,none⟩ (.int .i64 0)).setCell ⟨w.heap.size+1,10,none⟩ (.string ⟨#[]⟩)).cell? ⟨w.heap.size+1,3,none⟩=some (.int .i64 0):=by rw [hS];exact aA (vs:=[Value.int .i64 0,.int .i64 0,.int .i64 0,.int .i64 0,.int .i64 0,.int .i64 0,.int .i64 0,.int .i64 0,.int .i64 0,.int .i64 0,.string ⟨#[]⟩]) HI.out rfl
  have u4:(((((((((((w1.setCell ⟨w.heap.size+1,0,none⟩ (.int .i64 0)).setCell ⟨w.heap.size+1,1,none⟩ (.int .i64 0)).setCell ⟨w.heap.size+1,2,none⟩ (.int .i64 0)).setCell ⟨w.heap.size+1,3,none⟩ (.int .i64 0)).setCell ⟨w.heap.size+1,4,none⟩ (.int .i64 0)).setCell ⟨w.heap.size+1,5,none⟩ (.int .i64 0)).setCell ⟨w.heap.size+1,6,none⟩ (.int .i64 0)).setCell ⟨w.heap.size+1,7,none⟩ (.int .i64 0)).setCell ⟨w.heap.size+1,8,none⟩ (.int .i64 0)).setCell ⟨w.heap.size+1,9,none⟩ (.int .i64 0)).setCell ⟨w.heap.size+1,10,none⟩ (.string ⟨#[]⟩)).cell? ⟨w.heap.size+1,4,none⟩=some (.int .i64 0):=by rw [hS];exact aA (vs:=[Value.int .i64 0,.int .i64 0,.int .i64 0,.int .i64 0,.int .i64 0,.int .i64 0,.int .i64 0,.int .i64 0,.int .i64 0,.int .i64 0,.string ⟨#[]⟩]) HI.out rfl
  have u5:(((((((((((w1.setCell ⟨w.heap.size+1,0,none⟩ (.int .i64 0)).setCell ⟨w.heap.size+1,1,none⟩ (.int .i64 0)).setCell ⟨w.heap.size+1,2,none⟩ (.int .i64 0)).setCell ⟨w.heap.size+1,3,none⟩ (.int .i64 0)).setCell ⟨w.heap.size+1,4,none⟩ (.int .i64 0)).setCell ⟨w.heap.size+1,5,none⟩ (.int .i64 0)).setCell ⟨w.heap.size+1,6,none⟩ (.int .i64 0)).setCell ⟨w.heap.size+1,7,none⟩ (.int .i64 0)).setCell ⟨w.heap.size+1,8,none⟩ (.int .i64 0)).setCell ⟨w.heap.size+1,9,none⟩ (.int .i64 0)).setCell ⟨w.heap.size+1,10,none⟩ (.string ⟨#[]⟩)).cell? ⟨w.heap.size+1,5,none⟩=some (.int .i64 0):=by rw [hS];exact aA (vs:=[Value.int .i64 0,.int .i64 0,.int .i64 0,.int .i64 0,.int .i64 0,.int .i64 0,.int .i64 0,.int .i64 0,.int .i64 0,.int .i64 0,.string ⟨#[]⟩]) HI.out rfl
  have u6:(((((((((((w1.setCell ⟨w.heap.size+1,0,none⟩ (.int .i64 0)).setCell ⟨w.heap.size+1,1,none⟩ (.int .i64 0)).setCell ⟨w.heap.size+1,2,none⟩ (.int .i64 0)).setCell ⟨w.heap.size+1,3,none⟩ (.int .i64 0)).setCell ⟨w.heap.size+1,4,none⟩ (.int .i64 0)).setCell ⟨w.heap.size+1,5,none⟩ (.int .i64 0)).setCell ⟨w.heap.size+1,6,none⟩ (.int .i64 0)).setCell ⟨w.heap.size+1,7,none⟩ (.int .i64 0)).setCell ⟨w.heap.size+1,8,none⟩ (.int .i64 0)).setCell ⟨w.heap.size+1,9,none⟩ (.int .i64 0)).setCell ⟨w.heap.size+1,10,none⟩ (.string ⟨#[]⟩)).cell? ⟨w.heap.size+1,6,none⟩=some (.int .i64 0):=by rw [hS];exact aA (vs:=[Value.int .i64 0,.int .i64 0,.int .i64 0,.int .i64 0,.int .i64 0,.int .i64 0,.int .i64 0,.int .i64 0,.int .i64 0,.int .i64 0,.string ⟨#[]⟩]) HI.out rfl
  have u7:(((((((((((w1.setCell ⟨w.heap.size+1,0,none⟩ (.int .i64 0)).setCell ⟨w.heap.size+1,1,none⟩ (.int .i64 0)).setCell ⟨w.heap.size+1,2,none⟩ (.int .i64 0)).setCell ⟨w.heap.size+1,3,none⟩ (.int .i64 0)).setCell ⟨w.heap.size+1,4,none⟩ (.int .i64 0)).setCell ⟨w.heap.size+1,5,none⟩ (.int .i64 0)).setCell ⟨w.heap.size+1,6,none⟩ (.int .i64 0)).setCell ⟨w.heap.size+1,7,none⟩ (.int .i64 0)).setCell ⟨w.heap.size+1,8,none⟩ (.int .i64 0)).setCell ⟨w.heap.size+1,9,none⟩ (.int .i64 0)).setCell ⟨w.heap.size+1,10,none⟩ (.string ⟨#[]⟩)).cell? ⟨w.heap.size+1,7,none⟩=some (.int .i64 0):=by rw [hS];exact aA (vs:=[Value.int .i64 0,.int .i64 0,.int .i64 0,.int .i64 0,.int .i64 0,.int .i64 0,.int .i64 0,.int .i64 0,.int .i64 0,.int .i64 0,.string ⟨#[]⟩]) HI.out rfl
  have u8:(((((((((((w1.setCell ⟨w.heap.size+1,0,none⟩ (.int .i64 0)).setCell ⟨w.heap.size+1,1,none⟩ (.int .i64 0)).setCell ⟨w.heap.size+1,2,none⟩ (.int .i64 0)).setCell ⟨w.heap.size+1,3,none⟩ (.int .i64 0)).setCell ⟨w.heap.size+1,4,none⟩ (.int .i64 0)).setCell ⟨w.heap.size+1,5,none⟩ (.int .i64 0)).setCell ⟨w.heap.size+1,6,none⟩ (.int .i64 0)).setCell ⟨w.heap.size+1,7,none⟩ (.int .i64 0)).setCell ⟨w.heap.size+1,8,none⟩ (.int .i64 0)).setCell ⟨w.heap.size+1,9,none⟩ (.int .i64 0)).setCell ⟨w.heap.size+1,10,none⟩ (.string ⟨#[]⟩)).cell? ⟨w.heap.size+1,8,none⟩=some (.int .i64 0):=by rw [hS];exact aA (vs:=[Value.int .i64 0,.int .i64 0,.int .i64 0,.int .i64 0,.int .i64 0,.int .i64 0,.int .i64 0,.int .i64 0,.int .i64 0,.int .i64 0,.string ⟨#[]⟩]) HI.out rfl
  have u9:(((((((((((w1.setCell ⟨w.heap.size+1,0,none⟩ (.int .i64 0)).setCell ⟨w.heap.size+1,1,none⟩ (.int .i64 0)).setCell ⟨w.heap.size+1,2,none⟩ (.int .i64 0)).setCell ⟨w.heap.size+1,3,none⟩ (.int .i64 0)).setCell ⟨w.heap.size+1,4,none⟩ (.int .i64 0)).setCell ⟨w.heap.size+1,5,none⟩ (.int .i64 0)).setCell ⟨w.heap.size+1,6,none⟩ (.int .i64 0)).setCell ⟨w.heap.size+1,7,none⟩ (.int .i64 0)).setCell ⟨w.heap.size+1,8,none⟩ (.int .i64 0)).setCell ⟨w.heap.size+1,9,none⟩ (.int .i64 0)).setCell ⟨w.heap.size+1,10,none⟩ (.string ⟨#[]⟩)).cell? ⟨w.heap.size+1,9,none⟩=some (.int .i64 0):=by rw [hS];exact aA (vs:=[Value.int .i64 0,.int .i64 0,.int .i64 0,.int .i64 0,.int .i64 0,.int .i64 0,.int .i64 0,.int .i64 0,.int .i64 0,.int .i64 0,.string ⟨#[]⟩]) HI.out rfl
  have u10:(((((((((((w1.setCell ⟨w.heap.size+1,0,none⟩ (.int .i64 0)).setCell ⟨w.heap.size+1,1,none⟩ (.int .i64 0)).setCell ⟨w.heap.size+1,2,none⟩ (.int .i64 0)).setCell ⟨w.heap.size+1,3,none⟩ (.int .i64 0)).setCell ⟨w.heap.size+1,4,none⟩ (.int .i64 0)).setCell ⟨w.heap.size+1,5,none⟩ (.int .i64 0)).setCell ⟨w.heap.size+1,6,none⟩ (.int .i64 0)).setCell ⟨w.heap.size+1,7,none⟩ (.int .i64 0)).setCell ⟨w.heap.size+1,8,none⟩ (.int .i64 0)).setCell ⟨w.heap.size+1,9,none⟩ (.int .i64 0)).setCell ⟨w.heap.size+1,10,none⟩ (.string ⟨#[]⟩)).cell? ⟨w.heap.size+1,10,none⟩=some (.string ⟨#[]⟩):=by rw [hS];exact aA (vs:=[Value.int .i64 0,.int .i64 0,.int .i64 0,.int .i64 0,.int .i64 0,.int .i64 0,.int .i64 0,.int .i64 0,.int .i64 0,.int .i64 0,.string ⟨#[]⟩]) HI.out rfl
  refine bodyPost_ret (v:=.tuple #[.agg #[.int .i64 0,.int .i64 0,.int .i64 0,.int .i64 0,.int .i64 0,.int .i64 0,.int .i64 0,.int .i64 0,.int .i64 0,.int .i64 0,.string ⟨#[]⟩],.int .i64 E]) ?_ rfl ⟨by first | rfl | rw [if_neg hG],HB.out⟩
  clear HB HI hS r0 r1 r2 r3 r4 r5 r6 r7 r8 r9 r10;generalize (((((((((((w1.setCell ⟨w.heap.size+1,0,none⟩ (.int .i64 0)).setCell ⟨w.heap.size+1,1,none⟩ (.int .i64 0)).setCell ⟨w.heap.size+1,2,none⟩ (.int .i64 0)).setCell ⟨w.heap.size+1,3,none⟩ (.int .i64 0)).setCell ⟨w.heap.size+1,4,none⟩ (.int .i64 0)).setCell ⟨w.heap.size+1,5,none⟩ (.int .i64 0)).setCell ⟨w.heap.size+1,6,none⟩ (.int .i64 0)).setCell ⟨w.heap.size+1,7,none⟩ (.int .i64 0)).setCell ⟨w.heap.size+1,8,none⟩ (.int .i64 0)).setCell ⟨w.heap.size+1,9,none⟩ (.int .i64 0)).setCell ⟨w.heap.size+1,10,none⟩ (.string ⟨#[]⟩))=W at*
  simp [results,Tryz.results12,go_sem,u0,u1,u2,u3,u4,u5,u6,u7,u8,u9,u10]
 ·have hG0:G=0:=by omega
  have hE:E=K:=by rw [HE.out,if_pos hG0]
  subst hE;subst hG0;clear HE hG;have hq1:w.heap.size<w1.heap.size:=by omega
  have hq2:¬w.heap.size=w1.heap.size:=by omega
  go_wp2_with fail
  obtain⟨W2,hW2⟩:∃W2,W2=(w1.alloc (.cells #[.int .i64 i,.int .i64 dst,.int .i64 src,.int .i64 kind,.int .i64 ips,.int .i64 ipd,.int .i64 ttl,.int .i64 port,.int .i64 net,.int .i64 t] 39)).alloc (.cells #[.int .i64 i,.int .i64 dst,.int .i64 src,.int .i64 kind,.int .i64 ips,.int .i64 ipd,.int .i64 ttl,.int .i64 port,.int .i64 net,.int .i64 t,.string body] 41):=⟨_,rfl⟩;have k2:Below w.heap.size w W2:=by rw [hW2];exact(k1.alloc (by omega) _).alloc (by simp;omega) _
  have hz2:W2.heap.size=w1.heap.size+1+1:=by rw [hW2];simp
  have p0:W2.cell? ⟨w1.heap.size+1,0,none⟩=some (.int .i64 i):=by rw [hW2];exact ak _ _ (by simp) _ _ _ _ rfl
  have p1:W2.cell? ⟨w1.heap.size+1,1,none⟩=some (.int .i64 dst):=by rw [hW2];exact ak _ _ (by simp) _ _ _ _ rfl
  have p2:W2.cell? ⟨w1.heap.size+1,2,none⟩=some (.int .i64 src):=by rw [hW2];exact ak _ _ (by simp) _ _ _ _ rfl
  have p3:W2.cell? ⟨w1.heap.size+1,3,none⟩=some (.int .i64 kind):=by rw [hW2];exact ak _ _ (by simp) _ _ _ _ rfl
  have p4:W2.cell? ⟨w1.heap.size+1,4,none⟩=some (.int .i64 ips):=by rw [hW2];exact ak _ _ (by simp) _ _ _ _ rfl
  have p5:W2.cell? ⟨w1.heap.size+1,5,none⟩=some (.int .i64 ipd):=by rw [hW2];exact ak _ _ (by simp) _ _ _ _ rfl
  have p6:W2.cell? ⟨w1.heap.size+1,6,none⟩=some (.int .i64 ttl):=by rw [hW2];exact ak _ _ (by simp) _ _ _ _ rfl
  have p7:W2.cell? ⟨w1.heap.size+1,7,none⟩=some (.int .i64 port):=by rw [hW2];exact ak _ _ (by simp) _ _ _ _ rfl
  have p8:W2.cell? ⟨w1.heap.size+1,8,none⟩=some (.int .i64 net):=by rw [hW2];exact ak _ _ (by simp) _ _ _ _ rfl
  have p9:W2.cell? ⟨w1.heap.size+1,9,none⟩=some (.int .i64 t):=by rw [hW2];exact ak _ _ (by simp) _ _ _ _ rfl
  have p10:W2.cell? ⟨w1.heap.size+1,10,none⟩=some (.string body):=by rw [hW2];exact ak _ _ (by simp) _ _ _ _ rfl
  replace r0:W2.cell? ⟨w.heap.size+1,0,none⟩=some (.int .i64 0):=by rw [hW2];exact aq (aq r0 _) _
  replace r1:W2.cell? ⟨w.heap.size+1,1,none⟩=some (.int .i64 0):=by rw [hW2];exact aq (aq r1 _) _
  replace r2:W2.cell? ⟨w.heap.size+1,2,none⟩=some (.int .i64 0):=by rw [hW2];exact aq (aq r2 _) _
  replace r3:W2.cell? ⟨w.heap.size+1,3,none⟩=some (.int .i64 0):=by rw [hW2];exact aq (aq r3 _) _
  replace r4:W2.cell? ⟨w.heap.size+1,4,none⟩=some (.int .i64 0):=by rw [hW2];exact aq (aq r4 _) _
  replace r5:W2.cell? ⟨w.heap.size+1,5,none⟩=some (.int .i64 0):=by rw [hW2];exact aq (aq r5 _) _
  replace r6:W2.cell? ⟨w.heap.size+1,6,none⟩=some (.int .i64 0):=by rw [hW2];exact aq (aq r6 _) _
  replace r7:W2.cell? ⟨w.heap.size+1,7,none⟩=some (.int .i64 0):=by rw [hW2];exact aq (aq r7 _) _
  replace r8:W2.cell? ⟨w.heap.size+1,8,none⟩=some (.int .i64 0):=by rw [hW2];exact aq (aq r8 _) _
  replace r9:W2.cell? ⟨w.heap.size+1,9,none⟩=some (.int .i64 0):=by rw [hW2];exact aq (aq r9 _) _
  replace r10:W2.cell? ⟨w.heap.size+1,10,none⟩=some (.string ⟨#[]⟩):=by rw [hW2];exact aq (aq r10 _) _
  replace z:∀j,W2.frozen? ⟨w.heap.size+1,j,none⟩=false:=fun j=>by rw [hW2,(((Below.refl w1.heap.size w1).alloc zr _).alloc (by simp) _).frozen (p:=⟨w.heap.size+1,j,none⟩) (by show w.heap.size+1<w1.heap.size;omega)];exact z j
  rw [←hW2];clear hW2 k1 c0 c1 c2 c3 c4 c5 c6 c7
  refine(ag H2 _).mono ?_
  rintro e w3 ⟨rfl,hb3⟩;have k3:=k2.trans (hb3.mono k2.size);replace p0:=zC p0 hb3;replace r0:=zC r0 hb3;replace p1:=zC p1 hb3;replace r1:=zC r1 hb3;replace p2:=zC p2 hb3;replace r2:=zC r2 hb3;replace p3:=zC p3 hb3;replace r3:=zC r3 hb3;replace p4:=zC p4 hb3;replace r4:=zC r4 hb3;replace p5:=zC p5 hb3;replace r5:=zC r5 hb3;replace p6:=zC p6 hb3;replace r6:=zC r6 hb3;replace p7:=zC p7 hb3;replace r7:=zC r7 hb3;replace p8:=zC p8 hb3;replace r8:=zC r8 hb3;replace p9:=zC p9 hb3;replace r9:=zC r9 hb3;replace p10:=zC p10 hb3;replace r10:=zC r10 hb3;replace z:∀j,w3.frozen? ⟨w.heap.size+1,j,none⟩=false:=fun j=>(hb3.frozen (p:=⟨w.heap.size+1,j,none⟩) (by show w.heap.size+1<W2.heap.size;omega)).trans (z j)
  have hne:¬w1.heap.size+1=w.heap.size+1:=by omega
  clear hb3 k2 H2
  by_cases hK:¬E=0
  ·clear p0 p1 p2 p3 p4 p5 p6 p7 p8 p9 p10
   go_wp2_with fail
   have hS:(((((((((((w3.setCell ⟨w.heap.size+1,0,none⟩ (.int .i64 0)).setCell ⟨w.heap.size+1,1,none⟩ (.int .i64 0)).setCell ⟨w.heap.size+1,2,none⟩ (.int .i64 0)).setCell ⟨w.heap.size+1,3,none⟩ (.int .i64 0)).setCell ⟨w.heap.size+1,4,none⟩ (.int .i64 0)).setCell ⟨w.heap.size+1,5,none⟩ (.int .i64 0)).setCell ⟨w.heap.size+1,6,none⟩ (.int .i64 0)).setCell ⟨w.heap.size+1,7,none⟩ (.int .i64 0)).setCell ⟨w.heap.size+1,8,none⟩ (.int .i64 0)).setCell ⟨w.heap.size+1,9,none⟩ (.int .i64 0)).setCell ⟨w.heap.size+1,10,none⟩ (.string ⟨#[]⟩))=w3.setCells (w.heap.size+1) 0 [Value.int .i64 0,.int .i64 0,.int .i64 0,.int .i64 0,.int .i64 0,.int .i64 0,.int .i64 0,.int .i64 0,.int .i64 0,.int .i64 0,.string ⟨#[]⟩]:=rfl;have HB:Hid (Below w.heap.size w (((((((((((w3.setCell ⟨w.heap.size+1,0,none⟩ (.int .i64 0)).setCell ⟨w.heap.size+1,1,none⟩ (.int .i64 0)).setCell ⟨w.heap.size+1,2,none⟩ (.int .i64 0)).setCell ⟨w.heap.size+1,3,none⟩ (.int .i64 0)).setCell ⟨w.heap.size+1,4,none⟩ (.int .i64 0)).setCell ⟨w.heap.size+1,5,none⟩ (.int .i64 0)).setCell ⟨w.heap.size+1,6,none⟩ (.int .i64 0)).setCell ⟨w.heap.size+1,7,none⟩ (.int .i64 0)).setCell ⟨w.heap.size+1,8,none⟩ (.int .i64 0)).setCell ⟨w.heap.size+1,9,none⟩ (.int .i64 0)).setCell ⟨w.heap.size+1,10,none⟩ (.string ⟨#[]⟩))):=by rw [hS];exact dt (Nat.le_succ _) _ _ _ (k3)
   have HI:Hid (∀j,j<11→(w3.cell? ⟨w.heap.size+1,j,none⟩).isSome=true):=fun j hj=>by
    have hc:j=0∨j=1∨j=2∨j=3∨j=4∨j=5∨j=6∨j=7∨j=8∨j=9∨j=10:=by omega
    rcases hc with rfl | rfl | rfl | rfl | rfl | rfl | rfl | rfl | rfl | rfl | rfl
    ·rw [r0];rfl
    ·rw [r1];rfl
    ·rw [r2];rfl
    ·rw [r3];rfl
    ·rw [r4];rfl
    ·rw [r5];rfl
    ·rw [r6];rfl
    ·rw [r7];rfl
    ·rw [r8];rfl
    ·rw [r9];rfl
    ·rw [r10];rfl
   have u0:(((((((((((w3.setCell ⟨w.heap.size+1,0,none⟩ (.int .i64 0)).setCell ⟨w.heap.size+1,1,none⟩ (.int .i64 0)).setCell ⟨w.heap.size+1,2,none⟩ (.int .i64 0)).setCell ⟨w.heap.size+1,3,none⟩ (.int .i64 0)).setCell ⟨w.heap.size+1,4,none⟩ (.int .i64 0)).setCell ⟨w.heap.size+1,5,none⟩ (.int .i64 0)).setCell ⟨w.heap.size+1,6,none⟩ (.int .i64 0)).setCell ⟨w.heap.size+1,7,none⟩ (.int .i64 0)).setCell ⟨w.heap.size+1,8,none⟩ (.int .i64 0)).setCell ⟨w.heap.size+1,9,none⟩ (.int .i64 0)).setCell ⟨w.heap.size+1,10,none⟩ (.string ⟨#[]⟩)).cell? ⟨w.heap.size+1,0,none⟩=some (.int .i64 0):=by rw [hS];exact aA (vs:=[Value.int .i64 0,.int .i64 0,.int .i64 0,.int .i64 0,.int .i64 0,.int .i64 0,.int .i64 0,.int .i64 0,.int .i64 0,.int .i64 0,.string ⟨#[]⟩]) HI.out rfl
   have u1:(((((((((((w3.setCell ⟨w.heap.size+1,0,none⟩ (.int .i64 0)).setCell ⟨w.heap.size+1,1,none⟩ (.int .i64 0)).setCell ⟨w.heap.size+1,2,none⟩ (.int .i64 0)).setCell ⟨w.heap.size+1,3,none⟩ (.int .i64 0)).setCell ⟨w.heap.size+1,4,none⟩ (.int .i64 0)).setCell ⟨w.heap.size+1,5,none⟩ (.int .i64 0)).setCell ⟨w.heap.size+1,6,none⟩ (.int .i64 0)).setCell ⟨w.heap.size+1,7,none⟩ (.int .i64 0)).setCell ⟨w.heap.size+1,8,none⟩ (.int .i64 0)).setCell ⟨w.heap.size+1,9,none⟩ (.int .i64 0)).setCell ⟨w.heap.size+1,10,none⟩ (.string ⟨#[]⟩)).cell? ⟨w.heap.size+1,1,none⟩=some (.int .i64 0):=by rw [hS];exact aA (vs:=[Value.int .i64 0,.int .i64 0,.int .i64 0,.int .i64 0,.int .i64 0,.int .i64 0,.int .i64 0,.int .i64 0,.int .i64 0,.int .i64 0,.string ⟨#[]⟩]) HI.out rfl
   have u2:(((((((((((w3.setCell ⟨w.heap.size+1,0,none⟩ (.int .i64 0)).setCell ⟨w.heap.size+1,1,none⟩ (.int .i64 0)).setCell ⟨w.heap.size+1,2,none⟩ (.int .i64 0)).setCell ⟨w.heap.size+1,3,none⟩ (.int .i64 0)).setCell ⟨w.heap.size+1,4,none⟩ (.int .i64 0)).setCell ⟨w.heap.size+1,5,none⟩ (.int .i64 0)).setCell ⟨w.heap.size+1,6,none⟩ (.int .i64 0)).setCell ⟨w.heap.size+1,7,none⟩ (.int .i64 0)).setCell ⟨w.heap.size+1,8,none⟩ (.int .i64 0)).setCell ⟨w.heap.size+1,9,none⟩ (.int .i64 0)).setCell ⟨w.heap.size+1,10,none⟩ (.string ⟨#[]⟩)).cell? ⟨w.heap.size+1,2,none⟩=some (.int .i64 0):=by rw [hS];exact aA (vs:=[Value.int .i64 0,.int .i64 0,.int .i64 0,.int .i64 0,.int .i64 0,.int .i64 0,.int .i64 0,.int .i64 0,.int .i64 0,.int .i64 0,.string ⟨#[]⟩]) HI.out rfl
   have u3:(((((((((((w3.setCell ⟨w.heap.size+1,0,none⟩ (.int .i64 0)).setCell ⟨w.heap.size+1,1,none⟩ (.int .i64 0)).setCell ⟨w.heap.size+1,2,none⟩ (.int .i64 0)).setCell ⟨w.heap.size+1,3,none⟩ (.int .i64 0)).setCell ⟨w.heap.size+1,4,none⟩ (.int .i64 0)).setCell ⟨w.heap.size+1,5,none⟩ (.int .i64 0)).setCell ⟨w.heap.size+1,6,none⟩ (.int .i64 0)).setCell ⟨w.heap.size+1,7,none⟩ (.int .i64 0)).setCell ⟨w.heap.size+1,8,none⟩ (.int .i64 0)).setCell ⟨w.heap.size+1,9,none⟩ (.int .i64 0)).setCell ⟨w.heap.size+1,10,none⟩ (.string ⟨#[]⟩)).cell? ⟨w.heap.size+1,3,none⟩=some (.int .i64 0):=by rw [hS];exact aA (vs:=[Value.int .i64 0,.int .i64 0,.int .i64 0,.int .i64 0,.int .i64 0,.int .i64 0,.int .i64 0,.int .i64 0,.int .i64 0,.int .i64 0,.string ⟨#[]⟩]) HI.out rfl
   have u4:(((((((((((w3.setCell ⟨w.heap.size+1,0,none⟩ (.int .i64 0)).setCell ⟨w.heap.size+1,1,none⟩ (.int .i64 0)).setCell ⟨w.heap.size+1,2,none⟩ (.int .i64 0)).setCell ⟨w.heap.size+1,3,none⟩ (.int .i64 0)).setCell ⟨w.heap.size+1,4,none⟩ (.int .i64 0)).setCell ⟨w.heap.size+1,5,none⟩ (.int .i64 0)).setCell ⟨w.heap.size+1,6,none⟩ (.int .i64 0)).setCell ⟨w.heap.size+1,7,none⟩ (.int .i64 0)).setCell ⟨w.heap.size+1,8,none⟩ (.int .i64 0)).setCell ⟨w.heap.size+1,9,none⟩ (.int .i64 0)).setCell ⟨w.heap.size+1,10,none⟩ (.string ⟨#[]⟩)).cell? ⟨w.heap.size+1,4,none⟩=some (.int .i64 0):=by rw [hS];exact aA (vs:=[Value.int .i64 0,.int .i64 0,.int .i64 0,.int .i64 0,.int .i64 0,.int .i64 0,.int .i64 0,.int .i64 0,.int .i64 0,.int .i64 0,.string ⟨#[]⟩]) HI.out rfl
   have u5:(((((((((((w3.setCell ⟨w.heap.size+1,0,none⟩ (.int .i64 0)).setCell ⟨w.heap.size+1,1,none⟩ (.int .i64 0)).setCell ⟨w.heap.size+1,2,none⟩ (.int .i64 0)).setCell ⟨w.heap.size+1,3,none⟩ (.int .i64 0)).setCell ⟨w.heap.size+1,4,none⟩ (.int .i64 0)).setCell ⟨w.heap.size+1,5,none⟩ (.int .i64 0)).setCell ⟨w.heap.size+1,6,none⟩ (.int .i64 0)).setCell ⟨w.heap.size+1,7,none⟩ (.int .i64 0)).setCell ⟨w.heap.size+1,8,none⟩ (.int .i64 0)).setCell ⟨w.heap.size+1,9,none⟩ (.int .i64 0)).setCell ⟨w.heap.size+1,10,none⟩ (.string ⟨#[]⟩)).cell? ⟨w.heap.size+1,5,none⟩=some (.int .i64 0):=by rw [hS];exact aA (vs:=[Value.int .i64 0,.int .i64 0,.int .i64 0,.int .i64 0,.int .i64 0,.int .i64 0,.int .i64 0,.int .i64 0,.int .i64 0,.int .i64 0,.string ⟨#[]⟩]) HI.out rfl
   have u6:(((((((((((w3.setCell ⟨w.heap.size+1,0,none⟩ (.int .i64 0)).setCell ⟨w.heap.size+1,1,none⟩ (.int .i64 0)).setCell ⟨w.heap.size+1,2,none⟩ (.int .i64 0)).setCell ⟨w.heap.size+1,3,none⟩ (.int .i64 0)).setCell ⟨w.heap.size+1,4,none⟩ (.int .i64 0)).setCell ⟨w.heap.size+1,5,none⟩ (.int .i64 0)).setCell ⟨w.heap.size+1,6,none⟩ (.int .i64 0)).setCell ⟨w.heap.size+1,7,none⟩ (.int .i64 0)).setCell ⟨w.heap.size+1,8,none⟩ (.int .i64 0)).setCell ⟨w.heap.size+1,9,none⟩ (.int .i64 0)).setCell ⟨w.heap.size+1,10,none⟩ (.string ⟨#[]⟩)).cell? ⟨w.heap.size+1,6,none⟩=some (.int .i64 0):=by rw [hS];exact aA (vs:=[Value.int .i64 0,.int .i64 0,.int .i64 0,.int .i64 0,.int .i64 0,.int .i64 0,.int .i64 0,.int .i64 0,.int .i64 0,.int .i64 0,.string ⟨#[]⟩]) HI.out rfl
   have u7:(((((((((((w3.setCell ⟨w.heap.size+1,0,none⟩ (.int .i64 0)).setCell ⟨w.heap.size+1,1,none⟩ (.int .i64 0)).setCell ⟨w.heap.size+1,2,none⟩ (.int .i64 0)).setCell ⟨w.heap.size+1,3,none⟩ (.int .i64 0)).setCell ⟨w.heap.size+1,4,none⟩ (.int .i64 0)).setCell ⟨w.heap.size+1,5,none⟩ (.int .i64 0)).setCell ⟨w.heap.size+1,6,none⟩ (.int .i64 0)).setCell ⟨w.heap.size+1,7,none⟩ (.int .i64 0)).setCell ⟨w.heap.size+1,8,none⟩ (.int .i64 0)).setCell ⟨w.heap.size+1,9,none⟩ (.int .i64 0)).setCell ⟨w.heap.size+1,10,none⟩ (.string ⟨#[]⟩)).cell? ⟨w.heap.size+1,7,none⟩=some (.int .i64 0):=by rw [hS];exact aA (vs:=[Value.int .i64 0,.int .i64 0,.int .i64 0,.int .i64 0,.int .i64 0,.int .i64 0,.int .i64 0,.int .i64 0,.int .i64 0,.int .i64 0,.string ⟨#[]⟩]) HI.out rfl
   have u8:(((((((((((w3.setCell ⟨w.heap.size+1,0,none⟩ (.int .i64 0)).setCell ⟨w.heap.size+1,1,none⟩ (.int .i64 0)).setCell ⟨w.heap.size+1,2,none⟩ (.int .i64 0)).setCell ⟨w.heap.size+1,3,none⟩ (.int .i64 0)).setCell ⟨w.heap.size+1,4,none⟩ (.int .i64 0)).setCell ⟨w.heap.size+1,5,none⟩ (.int .i64 0)).setCell ⟨w.heap.size+1,6,none⟩ (.int .i64 0)).setCell ⟨w.heap.size+1,7,none⟩ (.int .i64 0)).setCell ⟨w.heap.size+1,8,none⟩ (.int .i64 0)).setCell ⟨w.heap.size+1,9,none⟩ (.int .i64 0)).setCell ⟨w.heap.size+1,10,none⟩ (.string ⟨#[]⟩)).cell? ⟨w.heap.size+1,8,none⟩=some (.int .i64 0):=by rw [hS];exact aA (vs:=[Value.int .i64 0,.int .i64 0,.int .i64 0,.int .i64 0,.int .i64 0,.int .i64 0,.int .i64 0,.int .i64 0,.int .i64 0,.int .i64 0,.string ⟨#[]⟩]) HI.out rfl
   have u9:(((((((((((w3.setCell ⟨w.heap.size+1,0,none⟩ (.int .i64 0)).setCell ⟨w.heap.size+1,1,none⟩ (.int .i64 0)).setCell ⟨w.heap.size+1,2,none⟩ (.int .i64 0)).setCell ⟨w.heap.size+1,3,none⟩ (.int .i64 0)).setCell ⟨w.heap.size+1,4,none⟩ (.int .i64 0)).setCell ⟨w.heap.size+1,5,none⟩ (.int .i64 0)).setCell ⟨w.heap.size+1,6,none⟩ (.int .i64 0)).setCell ⟨w.heap.size+1,7,none⟩ (.int .i64 0)).setCell ⟨w.heap.size+1,8,none⟩ (.int .i64 0)).setCell ⟨w.heap.size+1,9,none⟩ (.int .i64 0)).setCell ⟨w.heap.size+1,10,none⟩ (.string ⟨#[]⟩)).cell? ⟨w.heap.size+1,9,none⟩=some (.int .i64 0):=by rw [hS];exact aA (vs:=[Value.int .i64 0,.int .i64 0,.int .i64 0,.int .i64 0,.int .i64 0,.int .i64 0,.int .i64 0,.int .i64 0,.int .i64 0,.int .i64 0,.string ⟨#[]⟩]) HI.out rfl
   have u10:(((((((((((w3.setCell ⟨w.heap.size+1,0,none⟩ (.int .i64 0)).setCell ⟨w.heap.size+1,1,none⟩ (.int .i64 0)).setCell ⟨w.heap.size+1,2,none⟩ (.int .i64 0)).setCell ⟨w.heap.size+1,3,none⟩ (.int .i64 0)).setCell ⟨w.heap.size+1,4,none⟩ (.int .i64 0)).setCell ⟨w.heap.size+1,5,none⟩ (.int .i64 0)).setCell ⟨w.heap.size+1,6,none⟩ (.int .i64 0)).setCell ⟨w.heap.size+1,7,none⟩ (.int .i64 0)).setCell ⟨w.heap.size+1,8,none⟩ (.int .i64 0)).setCell ⟨w.heap.size+1,9,none⟩ (.int .i64 0)).setCell ⟨w.heap.size+1,10,none⟩ (.string ⟨#[]⟩)).cell? ⟨w.heap.size+1,10,none⟩=some (.string ⟨#[]⟩):=by rw [hS];exact aA (vs:=[Value.int .i64 0,.int .i64 0,.int .i64 0,.int .i64 0,.int .i64 0,.int .i64 0,.int .i64 0,.int .i64 0,.int .i64 0,.int .i64 0,.string ⟨#[]⟩]) HI.out rfl
   refine bodyPost_ret (v:=.tuple #[.agg #[.int .i64 0,.int .i64 0,.int .i64 0,.int .i64 0,.int .i64 0,.int .i64 0,.int .i64 0,.int .i64 0,.int .i64 0,.int .i64 0,.string ⟨#[]⟩],.int .i64 E]) ?_ rfl ⟨by first | rfl | rw [if_neg hK],HB.out⟩
   clear HB HI hS r0 r1 r2 r3 r4 r5 r6 r7 r8 r9 r10;generalize (((((((((((w3.setCell ⟨w.heap.size+1,0,none⟩ (.int .i64 0)).setCell ⟨w.heap.size+1,1,none⟩ (.int .i64 0)).setCell ⟨w.heap.size+1,2,none⟩ (.int .i64 0)).setCell ⟨w.heap.size+1,3,none⟩ (.int .i64 0)).setCell ⟨w.heap.size+1,4,none⟩ (.int .i64 0)).setCell ⟨w.heap.size+1,5,none⟩ (.int .i64 0)).setCell ⟨w.heap.size+1,6,none⟩ (.int .i64 0)).setCell ⟨w.heap.size+1,7,none⟩ (.int .i64 0)).setCell ⟨w.heap.size+1,8,none⟩ (.int .i64 0)).setCell ⟨w.heap.size+1,9,none⟩ (.int .i64 0)).setCell ⟨w.heap.size+1,10,none⟩ (.string ⟨#[]⟩))=W at*
   simp [results,Tryz.results12,go_sem,u0,u1,u2,u3,u4,u5,u6,u7,u8,u9,u10]
  ·have hK0:E=0:=by omega
   subst hK0;clear hK
   go_wp2_with fail
   have hS:(((((((((((w3.setCell ⟨w.heap.size+1,0,none⟩ (.int .i64 i)).setCell ⟨w.heap.size+1,1,none⟩ (.int .i64 dst)).setCell ⟨w.heap.size+1,2,none⟩ (.int .i64 src)).setCell ⟨w.heap.size+1,3,none⟩ (.int .i64 kind)).setCell ⟨w.heap.size+1,4,none⟩ (.int .i64 ips)).setCell ⟨w.heap.size+1,5,none⟩ (.int .i64 ipd)).setCell ⟨w.heap.size+1,6,none⟩ (.int .i64 ttl)).setCell ⟨w.heap.size+1,7,none⟩ (.int .i64 port)).setCell ⟨w.heap.size+1,8,none⟩ (.int .i64 net)).setCell ⟨w.heap.size+1,9,none⟩ (.int .i64 t)).setCell ⟨w.heap.size+1,10,none⟩ (.string body))=w3.setCells (w.heap.size+1) 0 [Value.int .i64 i,.int .i64 dst,.int .i64 src,.int .i64 kind,.int .i64 ips,.int .i64 ipd,.int .i64 ttl,.int .i64 port,.int .i64 net,.int .i64 t,.string body]:=rfl;have HB:Hid (Below w.heap.size w (((((((((((w3.setCell ⟨w.heap.size+1,0,none⟩ (.int .i64 i)).setCell ⟨w.heap.size+1,1,none⟩ (.int .i64 dst)).setCell ⟨w.heap.size+1,2,none⟩ (.int .i64 src)).setCell ⟨w.heap.size+1,3,none⟩ (.int .i64 kind)).setCell ⟨w.heap.size+1,4,none⟩ (.int .i64 ips)).setCell ⟨w.heap.size+1,5,none⟩ (.int .i64 ipd)).setCell ⟨w.heap.size+1,6,none⟩ (.int .i64 ttl)).setCell ⟨w.heap.size+1,7,none⟩ (.int .i64 port)).setCell ⟨w.heap.size+1,8,none⟩ (.int .i64 net)).setCell ⟨w.heap.size+1,9,none⟩ (.int .i64 t)).setCell ⟨w.heap.size+1,10,none⟩ (.string body))):=by rw [hS];exact dt (Nat.le_succ _) _ _ _ (k3)
   have HI:Hid (∀j,j<11→(w3.cell? ⟨w.heap.size+1,j,none⟩).isSome=true):=fun j hj=>by
    have hc:j=0∨j=1∨j=2∨j=3∨j=4∨j=5∨j=6∨j=7∨j=8∨j=9∨j=10:=by omega
    rcases hc with rfl | rfl | rfl | rfl | rfl | rfl | rfl | rfl | rfl | rfl | rfl
    ·rw [r0];rfl
    ·rw [r1];rfl
    ·rw [r2];rfl
    ·rw [r3];rfl
    ·rw [r4];rfl
    ·rw [r5];rfl
    ·rw [r6];rfl
    ·rw [r7];rfl
    ·rw [r8];rfl
    ·rw [r9];rfl
    ·rw [r10];rfl
   have u0:(((((((((((w3.setCell ⟨w.heap.size+1,0,none⟩ (.int .i64 i)).setCell ⟨w.heap.size+1,1,none⟩ (.int .i64 dst)).setCell ⟨w.heap.size+1,2,none⟩ (.int .i64 src)).setCell ⟨w.heap.size+1,3,none⟩ (.int .i64 kind)).setCell ⟨w.heap.size+1,4,none⟩ (.int .i64 ips)).setCell ⟨w.heap.size+1,5,none⟩ (.int .i64 ipd)).setCell ⟨w.heap.size+1,6,none⟩ (.int .i64 ttl)).setCell ⟨w.heap.size+1,7,none⟩ (.int .i64 port)).setCell ⟨w.heap.size+1,8,none⟩ (.int .i64 net)).setCell ⟨w.heap.size+1,9,none⟩ (.int .i64 t)).setCell ⟨w.heap.size+1,10,none⟩ (.string body)).cell? ⟨w.heap.size+1,0,none⟩=some (.int .i64 i):=by rw [hS];exact aA (vs:=[Value.int .i64 i,.int .i64 dst,.int .i64 src,.int .i64 kind,.int .i64 ips,.int .i64 ipd,.int .i64 ttl,.int .i64 port,.int .i64 net,.int .i64 t,.string body]) HI.out rfl
   have u1:(((((((((((w3.setCell ⟨w.heap.size+1,0,none⟩ (.int .i64 i)).setCell ⟨w.heap.size+1,1,none⟩ (.int .i64 dst)).setCell ⟨w.heap.size+1,2,none⟩ (.int .i64 src)).setCell ⟨w.heap.size+1,3,none⟩ (.int .i64 kind)).setCell ⟨w.heap.size+1,4,none⟩ (.int .i64 ips)).setCell ⟨w.heap.size+1,5,none⟩ (.int .i64 ipd)).setCell ⟨w.heap.size+1,6,none⟩ (.int .i64 ttl)).setCell ⟨w.heap.size+1,7,none⟩ (.int .i64 port)).setCell ⟨w.heap.size+1,8,none⟩ (.int .i64 net)).setCell ⟨w.heap.size+1,9,none⟩ (.int .i64 t)).setCell ⟨w.heap.size+1,10,none⟩ (.string body)).cell? ⟨w.heap.size+1,1,none⟩=some (.int .i64 dst):=by rw [hS];exact aA (vs:=[Value.int .i64 i,.int .i64 dst,.int .i64 src,.int .i64 kind,.int .i64 ips,.int .i64 ipd,.int .i64 ttl,.int .i64 port,.int .i64 net,.int .i64 t,.string body]) HI.out rfl
   have u2:(((((((((((w3.setCell ⟨w.heap.size+1,0,none⟩ (.int .i64 i)).setCell ⟨w.heap.size+1,1,none⟩ (.int .i64 dst)).setCell ⟨w.heap.size+1,2,none⟩ (.int .i64 src)).setCell ⟨w.heap.size+1,3,none⟩ (.int .i64 kind)).setCell ⟨w.heap.size+1,4,none⟩ (.int .i64 ips)).setCell ⟨w.heap.size+1,5,none⟩ (.int .i64 ipd)).setCell ⟨w.heap.size+1,6,none⟩ (.int .i64 ttl)).setCell ⟨w.heap.size+1,7,none⟩ (.int .i64 port)).setCell ⟨w.heap.size+1,8,none⟩ (.int .i64 net)).setCell ⟨w.heap.size+1,9,none⟩ (.int .i64 t)).setCell ⟨w.heap.size+1,10,none⟩ (.string body)).cell? ⟨w.heap.size+1,2,none⟩=some (.int .i64 src):=by rw [hS];exact aA (vs:=[Value.int .i64 i,.int .i64 dst,.int .i64 src,.int .i64 kind,.int .i64 ips,.int .i64 ipd,.int .i64 ttl,.int .i64 port,.int .i64 net,.int .i64 t,.string body]) HI.out rfl
   have u3:(((((((((((w3.setCell ⟨w.heap.size+1,0,none⟩ (.int .i64 i)).setCell ⟨w.heap.size+1,1,none⟩ (.int .i64 dst)).setCell ⟨w.heap.size+1,2,none⟩ (.int .i64 src)).setCell ⟨w.heap.size+1,3,none⟩ (.int .i64 kind)).setCell ⟨w.heap.size+1,4,none⟩ (.int .i64 ips)).setCell ⟨w.heap.size+1,5,none⟩ (.int .i64 ipd)).setCell ⟨w.heap.size+1,6,none⟩ (.int .i64 ttl)).setCell ⟨w.heap.size+1,7,none⟩ (.int .i64 port)).setCell ⟨w.heap.size+1,8,none⟩ (.int .i64 net)).setCell ⟨w.heap.size+1,9,none⟩ (.int .i64 t)).setCell ⟨w.heap.size+1,10,none⟩ (.string body)).cell? ⟨w.heap.size+1,3,none⟩=some (.int .i64 kind):=by rw [hS];exact aA (vs:=[Value.int .i64 i,.int .i64 dst,.int .i64 src,.int .i64 kind,.int .i64 ips,.int .i64 ipd,.int .i64 ttl,.int .i64 port,.int .i64 net,.int .i64 t,.string body]) HI.out rfl
   have u4:(((((((((((w3.setCell ⟨w.heap.size+1,0,none⟩ (.int .i64 i)).setCell ⟨w.heap.size+1,1,none⟩ (.int .i64 dst)).setCell ⟨w.heap.size+1,2,none⟩ (.int .i64 src)).setCell ⟨w.heap.size+1,3,none⟩ (.int .i64 kind)).setCell ⟨w.heap.size+1,4,none⟩ (.int .i64 ips)).setCell ⟨w.heap.size+1,5,none⟩ (.int .i64 ipd)).setCell ⟨w.heap.size+1,6,none⟩ (.int .i64 ttl)).setCell ⟨w.heap.size+1,7,none⟩ (.int .i64 port)).setCell ⟨w.heap.size+1,8,none⟩ (.int .i64 net)).setCell ⟨w.heap.size+1,9,none⟩ (.int .i64 t)).setCell ⟨w.heap.size+1,10,none⟩ (.string body)).cell? ⟨w.heap.size+1,4,none⟩=some (.int .i64 ips):=by rw [hS];exact aA (vs:=[Value.int .i64 i,.int .i64 dst,.int .i64 src,.int .i64 kind,.int .i64 ips,.int .i64 ipd,.int .i64 ttl,.int .i64 port,.int .i64 net,.int .i64 t,.string body]) HI.out rfl
   have u5:(((((((((((w3.setCell ⟨w.heap.size+1,0,none⟩ (.int .i64 i)).setCell ⟨w.heap.size+1,1,none⟩ (.int .i64 dst)).setCell ⟨w.heap.size+1,2,none⟩ (.int .i64 src)).setCell ⟨w.heap.size+1,3,none⟩ (.int .i64 kind)).setCell ⟨w.heap.size+1,4,none⟩ (.int .i64 ips)).setCell ⟨w.heap.size+1,5,none⟩ (.int .i64 ipd)).setCell ⟨w.heap.size+1,6,none⟩ (.int .i64 ttl)).setCell ⟨w.heap.size+1,7,none⟩ (.int .i64 port)).setCell ⟨w.heap.size+1,8,none⟩ (.int .i64 net)).setCell ⟨w.heap.size+1,9,none⟩ (.int .i64 t)).setCell ⟨w.heap.size+1,10,none⟩ (.string body)).cell? ⟨w.heap.size+1,5,none⟩=some (.int .i64 ipd):=by rw [hS];exact aA (vs:=[Value.int .i64 i,.int .i64 dst,.int .i64 src,.int .i64 kind,.int .i64 ips,.int .i64 ipd,.int .i64 ttl,.int .i64 port,.int .i64 net,.int .i64 t,.string body]) HI.out rfl
   have u6:(((((((((((w3.setCell ⟨w.heap.size+1,0,none⟩ (.int .i64 i)).setCell ⟨w.heap.size+1,1,none⟩ (.int .i64 dst)).setCell ⟨w.heap.size+1,2,none⟩ (.int .i64 src)).setCell ⟨w.heap.size+1,3,none⟩ (.int .i64 kind)).setCell ⟨w.heap.size+1,4,none⟩ (.int .i64 ips)).setCell ⟨w.heap.size+1,5,none⟩ (.int .i64 ipd)).setCell ⟨w.heap.size+1,6,none⟩ (.int .i64 ttl)).setCell ⟨w.heap.size+1,7,none⟩ (.int .i64 port)).setCell ⟨w.heap.size+1,8,none⟩ (.int .i64 net)).setCell ⟨w.heap.size+1,9,none⟩ (.int .i64 t)).setCell ⟨w.heap.size+1,10,none⟩ (.string body)).cell? ⟨w.heap.size+1,6,none⟩=some (.int .i64 ttl):=by rw [hS];exact aA (vs:=[Value.int .i64 i,.int .i64 dst,.int .i64 src,.int .i64 kind,.int .i64 ips,.int .i64 ipd,.int .i64 ttl,.int .i64 port,.int .i64 net,.int .i64 t,.string body]) HI.out rfl
   have u7:(((((((((((w3.setCell ⟨w.heap.size+1,0,none⟩ (.int .i64 i)).setCell ⟨w.heap.size+1,1,none⟩ (.int .i64 dst)).setCell ⟨w.heap.size+1,2,none⟩ (.int .i64 src)).setCell ⟨w.heap.size+1,3,none⟩ (.int .i64 kind)).setCell ⟨w.heap.size+1,4,none⟩ (.int .i64 ips)).setCell ⟨w.heap.size+1,5,none⟩ (.int .i64 ipd)).setCell ⟨w.heap.size+1,6,none⟩ (.int .i64 ttl)).setCell ⟨w.heap.size+1,7,none⟩ (.int .i64 port)).setCell ⟨w.heap.size+1,8,none⟩ (.int .i64 net)).setCell ⟨w.heap.size+1,9,none⟩ (.int .i64 t)).setCell ⟨w.heap.size+1,10,none⟩ (.string body)).cell? ⟨w.heap.size+1,7,none⟩=some (.int .i64 port):=by rw [hS];exact aA (vs:=[Value.int .i64 i,.int .i64 dst,.int .i64 src,.int .i64 kind,.int .i64 ips,.int .i64 ipd,.int .i64 ttl,.int .i64 port,.int .i64 net,.int .i64 t,.string body]) HI.out rfl
   have u8:(((((((((((w3.setCell ⟨w.heap.size+1,0,none⟩ (.int .i64 i)).setCell ⟨w.heap.size+1,1,none⟩ (.int .i64 dst)).setCell ⟨w.heap.size+1,2,none⟩ (.int .i64 src)).setCell ⟨w.heap.size+1,3,none⟩ (.int .i64 kind)).setCell ⟨w.heap.size+1,4,none⟩ (.int .i64 ips)).setCell ⟨w.heap.size+1,5,none⟩ (.int .i64 ipd)).setCell ⟨w.heap.size+1,6,none⟩ (.int .i64 ttl)).setCell ⟨w.heap.size+1,7,none⟩ (.int .i64 port)).setCell ⟨w.heap.size+1,8,none⟩ (.int .i64 net)).setCell ⟨w.heap.size+1,9,none⟩ (.int .i64 t)).setCell ⟨w.heap.size+1,10,none⟩ (.string body)).cell? ⟨w.heap.size+1,8,none⟩=some (.int .i64 net):=by rw [hS];exact aA (vs:=[Value.int .i64 i,.int .i64 dst,.int .i64 src,.int .i64 kind,.int .i64 ips,.int .i64 ipd,.int .i64 ttl,.int .i64 port,.int .i64 net,.int .i64 t,.string body]) HI.out rfl
   have u9:(((((((((((w3.setCell ⟨w.heap.size+1,0,none⟩ (.int .i64 i)).setCell ⟨w.heap.size+1,1,none⟩ (.int .i64 dst)).setCell ⟨w.heap.size+1,2,none⟩ (.int .i64 src)).setCell ⟨w.heap.size+1,3,none⟩ (.int .i64 kind)).setCell ⟨w.heap.size+1,4,none⟩ (.int .i64 ips)).setCell ⟨w.heap.size+1,5,none⟩ (.int .i64 ipd)).setCell ⟨w.heap.size+1,6,none⟩ (.int .i64 ttl)).setCell ⟨w.heap.size+1,7,none⟩ (.int .i64 port)).setCell ⟨w.heap.size+1,8,none⟩ (.int .i64 net)).setCell ⟨w.heap.size+1,9,none⟩ (.int .i64 t)).setCell ⟨w.heap.size+1,10,none⟩ (.string body)).cell? ⟨w.heap.size+1,9,none⟩=some (.int .i64 t):=by rw [hS];exact aA (vs:=[Value.int .i64 i,.int .i64 dst,.int .i64 src,.int .i64 kind,.int .i64 ips,.int .i64 ipd,.int .i64 ttl,.int .i64 port,.int .i64 net,.int .i64 t,.string body]) HI.out rfl
   have u10:(((((((((((w3.setCell ⟨w.heap.size+1,0,none⟩ (.int .i64 i)).setCell ⟨w.heap.size+1,1,none⟩ (.int .i64 dst)).setCell ⟨w.heap.size+1,2,none⟩ (.int .i64 src)).setCell ⟨w.heap.size+1,3,none⟩ (.int .i64 kind)).setCell ⟨w.heap.size+1,4,none⟩ (.int .i64 ips)).setCell ⟨w.heap.size+1,5,none⟩ (.int .i64 ipd)).setCell ⟨w.heap.size+1,6,none⟩ (.int .i64 ttl)).setCell ⟨w.heap.size+1,7,none⟩ (.int .i64 port)).setCell ⟨w.heap.size+1,8,none⟩ (.int .i64 net)).setCell ⟨w.heap.size+1,9,none⟩ (.int .i64 t)).setCell ⟨w.heap.size+1,10,none⟩ (.string body)).cell? ⟨w.heap.size+1,10,none⟩=some (.string body):=by rw [hS];exact aA (vs:=[Value.int .i64 i,.int .i64 dst,.int .i64 src,.int .i64 kind,.int .i64 ips,.int .i64 ipd,.int .i64 ttl,.int .i64 port,.int .i64 net,.int .i64 t,.string body]) HI.out rfl
   refine bodyPost_ret (v:=.tuple #[.agg #[.int .i64 i,.int .i64 dst,.int .i64 src,.int .i64 kind,.int .i64 ips,.int .i64 ipd,.int .i64 ttl,.int .i64 port,.int .i64 net,.int .i64 t,.string body],.int .i64 0]) ?_ rfl ⟨rfl,HB.out⟩
   clear HB HI hS r0 r1 r2 r3 r4 r5 r6 r7 r8 r9 r10;generalize (((((((((((w3.setCell ⟨w.heap.size+1,0,none⟩ (.int .i64 i)).setCell ⟨w.heap.size+1,1,none⟩ (.int .i64 dst)).setCell ⟨w.heap.size+1,2,none⟩ (.int .i64 src)).setCell ⟨w.heap.size+1,3,none⟩ (.int .i64 kind)).setCell ⟨w.heap.size+1,4,none⟩ (.int .i64 ips)).setCell ⟨w.heap.size+1,5,none⟩ (.int .i64 ipd)).setCell ⟨w.heap.size+1,6,none⟩ (.int .i64 ttl)).setCell ⟨w.heap.size+1,7,none⟩ (.int .i64 port)).setCell ⟨w.heap.size+1,8,none⟩ (.int .i64 net)).setCell ⟨w.heap.size+1,9,none⟩ (.int .i64 t)).setCell ⟨w.heap.size+1,10,none⟩ (.string body))=W at*
   simp [results,Tryz.results12,go_sem,u0,u1,u2,u3,u4,u5,u6,u7,u8,u9,u10]
theorem qJ (b off len cap:Nat) (xs:List Int) (w:World) (hl:xs.length=len) (hx:Bs xs) (hs:len≤100) (hlc:len≤cap)
  (hcell:∀i,i<len→w.cell? ⟨b,off+i,none⟩=some (.int .u8 (xs.getD i 0))):
  Calls Tryz.prog 208 #[.slice (some ⟨b,off,none⟩) len cap] w fun e w'=>e= .returned (.int .i64 (sm xs))∧w'=w:=by
 go_enter Tryz.func208,Tryz.ntmps208
 go_wp2
 go_loop [3,8] (fun t i=>∃k:Nat,k≤len∧i= .int .i64 k∧t= .int .i64 (tot xs k)) (fun _ i=>len-(intOf i).toNat)
 case atStart=>exact⟨0,Nat.zero_le _,rfl,rfl⟩
 case round=>
  obtain⟨k,hk,rfl,rfl⟩:=hrel;have ht:=pf hx k
  by_cases hlt:k<len
  ·have hc:=hcell k hlt
   have hb:=hx.at k;have HT:Hid (tot xs (k+1)=tot xs k+wt k (xs.getD k 0)):=rfl;clear hcell;generalize xs.getD k 0=c at hc hb HT;obtain⟨hb0,hb1⟩:=hb;obtain⟨ht0,ht1⟩:=ht
   rcases Nat.mod_two_eq_zero_or_one k with hm | hm
   ·have hm':((k:Int)%2==0)=true:=by simp;omega
    go_wp2
    go_round
    case rel=>exact⟨k+1,by omega,by go_num,by rw [HT.out];unfold wt;rw [if_pos hm];go_num⟩
    case measure=>simp [intOf];omega
   ·have hm':((k:Int)%2==0)=false:=by simp;omega
    go_wp2
    go_round
    case rel=>exact⟨k+1,by omega,by go_num,by rw [HT.out];unfold wt;rw [if_neg (by omega)]⟩
    case measure=>simp [intOf];omega
  ·have hkl:k=xs.length:=by omega
   have HS:Hid (sm xs=65535-fI (tot xs k)):=by show _=_;unfold sm;rw [hkl]
   have hT2:tot xs k≤6528000:=by omega
   obtain⟨ht0,ht1⟩:=ht;clear hcell hkl ht1 hx;generalize tot xs k=T at*
   go_wp2
   go_loop [3] (fun t=>∃S:Int,0≤S∧S≤6528000∧t= .int .i64 S∧fI S=fI T) (fun t=>(intOf t).toNat)
   case atStart=>exact⟨T,ht0,hT2,rfl,rfl⟩
   case round=>
    obtain⟨S,hS0,hS1,rfl,hN⟩:=hrel;have HN:Hid (fI S=fI T):=hN;clear hN
    by_cases hgt:65535<S
    ·go_wp2
     go_round
     case rel=>exact⟨S%65536+S/65536,by omega,by omega,by go_num,by rw [px S hgt];exact HN.out⟩
     case measure=>simp [intOf];omega
    ·go_wp2
     go_ret
     exact⟨ap (by rw [HS.out, ←HN.out,pw S hS0 (by omega)]),rfl⟩
theorem iT:(Tryz.prog.info? 5).map (fun i=>(i.zero,i.size,i.bytes))=some (some (.int .u8 0),1,1):=by kernel_rfl
theorem bo (B:Nat) (v:Value) (xs:List Int) (x:Int) (w:World) (hown:w.ownsRow B 5 1 v xs.length (U xs)) (hx0:0≤x) (hx1:x≤65535) (hl:xs.length≤1000) (hB:B≤w.heap.size):
  Calls Tryz.prog 200 #[v,.int .i64 x] w fun e w'=>∃v',e= .returned v'∧w'.ownsRow B 5 1 v' (xs++bA x).length (U (xs++bA x))∧Below B w w':=by
 obtain⟨i0,hi,hz0,hz1,hz2⟩:=info_parts iT
 go_enter Tryz.func200,Tryz.ntmps200
 go_wp2_with (at_builtin;refine wpList_append_own _ rfl _ _ 214 rfl B 5 i0 (.int .u8 0) 1 1 Tryz.underlying214 hi hz0 hz1 hz2 rfl (by decide) _ _ _ rfl (hown.alloc _) ⟨w.heap.size,0,none⟩ 2 2 (U (bA x)) rfl rfl ?c1 ?c2 ?c3 ?c4 ?c5 ?_)
 case c1=>
  intro j u hj
  match j,hj with
  | 0,hj=>simp [U,bA]at hj;subst hj;simp [Addr.add]
  | 1,hj=>simp [U,bA]at hj;subst hj;simp [Addr.add]
 case c2=>exact qK _
 case c3=>unfold maxLen;omega
 case c4=>omega
 case c5=>simp;omega
 intro v' w1 hown' hgrow _;have hbel:Below B w w1:=((Below.refl B w).alloc hB _).grown hgrow (by simp;omega) (aF hown)
 have hown2:w1.ownsRow B 5 1 v' (xs++bA x).length (U (xs++bA x)):=by rw [oe,List.length_append];exact hown'
 clear hown' hgrow hown
 go_wp2
 go_ret
 exact⟨v',rfl,hown2,hbel⟩
theorem dg (n:Int) (h0:0≤n) (h1:n<2 ^ 16):IntKind.i64.wrap n=n:=by
 simp [IntKind.wrap,IntKind.bits,IntKind.signed]
 split <;>omega
theorem ub (p q:Int) (h0:0≤p) (h1:p≤255) (h2:0≤q) (h3:q≤255):bits .or .i64 (p*256) q=p*256+q:=
 bits_join .i64 16 (by decide) dg 8 (p*256) q (by omega) (by omega) (by omega) h2 (by omega) (by omega)
def Lies (w:World) (b off:Nat) (xs:List Int):Prop:=∀i,i<xs.length→w.cell? ⟨b,off+i,none⟩=some (.int .u8 (xs.getD i 0))
def bt (xs:List Int) (i:Nat):Int:=xs.getD i 0
def wd (xs:List Int) (i:Nat):Int:=xs.getD i 0*256+xs.getD (i+1) 0
theorem fP (b off len cap:Nat) (xs:List Int) (i:Int) (w:World) (hl:xs.length=len) (hx:Bs xs) (hm:len≤140737488355328) (hlc:len≤cap) (hL:Lies w b off xs) (h0:0≤i) (h1:i+1<len):
  Calls Tryz.prog 202 #[.slice (some ⟨b,off,none⟩) len cap,.int .i64 i] w fun e w'=>e= .returned (.int .i64 (wd xs i.toNat))∧∃n,w'=w.drewN n:=by
 have c0:=hL i.toNat (by omega)
 have c1:=hL (i+1).toNat (by omega)
 have b0:=hx.at i.toNat;have b1:=hx.at (i+1).toNat;have HW:Hid (wd xs i.toNat=xs.getD i.toNat 0*256+xs.getD (i+1).toNat 0):=by show _=_;unfold wd;rw [show(i+1).toNat=i.toNat+1 by omega]
 generalize xs.getD i.toNat 0=p at c0 b0 HW;generalize xs.getD (i+1).toNat 0=q at c1 b1 HW;obtain⟨p0,p1⟩:=b0;obtain⟨q0,q1⟩:=b1;have hor:=ub p q p0 p1 q0 q1;clear hL hx hl;have h2:i<len:=by omega
 go_enter Tryz.func202,Tryz.ntmps202
 go_wp2
 go_quiet (fail)
 go_wp2
 go_ret
 exact⟨ap HW.out.symm,_,rfl⟩
theorem Lies.drewN {w:World} {b off:Nat} {xs:List Int} (h:Lies w b off xs) (n:Nat):Lies (w.drewN n) b off xs:=fun i hi=>by
 have:=h i hi
 simpa using this
theorem Lies.take {w:World} {b off:Nat} {xs:List Int} (h:Lies w b off xs) (k:Nat):Lies w b off (xs.take k):=fun i hi=>by
 have hk:i<k∧i<xs.length:=by rw [List.length_take]at hi;omega
 rw [h i hk.2]
 simp [hk.1]
theorem jb (b off len cap:Nat) (xs:List Int) (w:World) (hl:xs.length=len) (hx:Bs xs) (hm:len≤140737488355328) (hlc:len≤cap) (hL:Lies w b off xs) (h1:16≤len):
  Calls Tryz.prog 213 #[.slice (some ⟨b,off,none⟩) len cap] w fun e w'=>e= .returned (.int .i64 (wd xs 12))∧∃n,w'=w.drewN n:=by
 go_enter Tryz.func213,Tryz.ntmps213
 go_wp2_with fail
 refine(fP b off len cap xs 12 _ hl hx hm hlc hL (by omega) (by omega)).mono ?_
 rintro e w' ⟨rfl,n,rfl⟩
 go_wp2_with fail
 go_ret
 exact⟨rfl,n,rfl⟩
def chk (xs:List Int):Int:=
 if xs.length<16 then 5 else if 40<wd xs 12 then 1 else if(xs.length:Int)<16+wd xs 12 then 5 else if 16+wd xs 12<(xs.length:Int)then 4 else
  if wd xs (14+(wd xs 12).toNat)≠sm (xs.take (14+(wd xs 12).toNat))then 10 else 0
theorem s7 {xs:List Int} (hx:Bs xs) (i:Nat):0≤wd xs i∧wd xs i≤65535:=by
 have h1:=hx.at i;have h2:=hx.at (i+1);unfold wd;omega
theorem js (a:Option Addr) (len cap:Nat) (w:World) (h:len<16):
  Calls Tryz.prog 209 #[.slice a len cap] w fun e w'=>e= .returned (.int .i64 5)∧w'=w:=by
 go_enter Tryz.func209,Tryz.ntmps209
 go_wp2
 go_ret
 exact⟨rfl,rfl⟩
theorem gk (b off len cap:Nat) (xs:List Int) (w:World) (hl:xs.length=len) (hx:Bs xs) (hm:len≤140737488355328) (hlc:len≤cap) (hL:Lies w b off xs) (h1:16≤len):
  Calls Tryz.prog 209 #[.slice (some ⟨b,off,none⟩) len cap] w fun e w'=>e= .returned (.int .i64 (chk xs))∧∃n,w'=w.drewN n:=by
 have hw:=s7 hx 12;have HCK:Hid (chk xs=if 40<wd xs 12 then 1 else if(len:Int)<16+wd xs 12 then 5 else if 16+wd xs 12<(len:Int)then 4 else
  if wd xs (14+(wd xs 12).toNat)≠sm (xs.take (14+(wd xs 12).toNat))then 10 else 0):=by
  show _=_
  unfold chk;rw [if_neg (by omega),hl]
 have HB:=aa (fun w' (h:Lies w' b off xs)=>jb b off len cap xs w' hl hx hm hlc h h1)
 obtain⟨n,hn⟩:=Int.eq_ofNat_of_zero_le hw.1;have hnb:n≤65535:=by omega
 rw [hn]at HCK HB;rw [Int.toNat_natCast]at HCK;clear hw
 go_enter Tryz.func209,Tryz.ntmps209
 go_wp2_with fail
 refine(ag HB _ hL).mono ?_
 rintro e w' ⟨rfl,m,rfl⟩;have hL1:=hL.drewN m;clear HB hL hn
 by_cases c1:40<n
 ·go_wp2
  go_ret
  exact⟨ap (by rw [HCK.out,if_pos (by omega)]),m,rfl⟩
 ·by_cases c2:len<16+n
  ·go_wp2
   go_ret
   exact⟨ap (by rw [HCK.out,if_neg (by omega),if_pos (by omega)]),m,rfl⟩
  ·by_cases c3:16+n<len
   ·go_wp2
    go_ret
    exact⟨ap (by rw [HCK.out,if_neg (by omega),if_neg (by omega),if_pos (by omega)]),m,rfl⟩
   ·have hT:(xs.take (14+n)).length=14+n:=by simp;omega
    have HT:=aa hT;clear hT;have hT1:14+n≤cap:=by omega
    obtain⟨w1,hw1⟩:∃w1,w1=w.drewN m:=⟨_,rfl⟩;rw [←hw1]at hL1⊢;have HW1:=aa hw1;clear hw1
    go_wp2_with fail
    go_quiet ((first |(go_at_call 202;exact Calls.quiet_of (fP b off len cap xs _ _ hl hx hm hlc (hL1.drewN _) (by omega) (by omega))) |(go_at_call 208;exact Calls.quiet_of_same (qJ b off (14+n) cap (xs.take (14+n)) _ HT.out (hx.take _) (by omega) hT1 (fun i hi=>((hL1.take (14+n)).drewN _) i (by rw [HT.out];exact hi))))))
    have hck:chk xs=if wd xs (14+n)≠sm (xs.take (14+n))then 10 else 0:=by rw [HCK.out,if_neg (by omega),if_neg (by omega),if_neg (by omega)]
    have HK:=aa hck;clear hck HCK;generalize wd xs (14+n)=p at*
    generalize sm (xs.take (14+n))=q at*
    by_cases hpq:p=q
    ·have hne:(p != q)=false:=by simpa using hpq
     go_wp2
     go_ret
     exact⟨ap (by rw [HK.out,if_neg (by simpa using hpq)]),m+nq,by rw [HW1.out,World.drewN_drewN]⟩
    ·have hne:(p != q)=true:=by simpa using hpq
     go_wp2
     go_ret
     exact⟨ap (by rw [HK.out,if_pos hpq]),m+nq,by rw [HW1.out,World.drewN_drewN]⟩
theorem Lies.lt {w:World} {b off:Nat} {xs:List Int} (h:Lies w b off xs) (h0:0<xs.length):b<w.heap.size:=by
 have:=h 0 h0
 rcases Nat.lt_or_ge b w.heap.size with h' | h'
 ·exact h'
 ·simp [World.cell?,Array.getElem?_eq_none h']at this
theorem Lies.below {w w':World} {b off B:Nat} {xs:List Int} (h:Lies w b off xs) (hb:Below B w w') (hB:b<B):Lies w' b off xs:=fun i hi=>(hb.cell (p:=⟨b,off+i,none⟩) hB).trans (h i hi)
theorem kN (w:World) (b off:Nat) (xs:List Int) (n:Nat):Lies (w.drewN n) b off xs↔Lies w b off xs:=by
 constructor
 ·intro h i hi;have:=h i hi;simpa using this
 ·intro h;exact h.drewN n
theorem mi (w:World) (b off:Nat) (xs:List Int):Lies w.drew b off xs↔Lies w b off xs:=by
 constructor
 ·intro h i hi;have:=h i hi;simpa using this
 ·intro h i hi;have:=h i hi;simpa using this
theorem lj (w:World) (o:Obj) (b off:Nat) (xs:List Int) (h:b<w.heap.size):Lies (w.alloc o) b off xs↔Lies w b off xs:=by
 have hb:Below w.heap.size w (w.alloc o):=(Below.refl _ w).alloc zr o
 constructor
 ·intro hL i hi;rw [←hb.cell (p:=⟨b,off+i,none⟩) h];exact hL i hi
 ·intro hL;exact hL.below hb h
theorem gp (w:World) (a:Addr) (v:Value) (b o:Nat) (h:¬b=a.block):(w.setCell a v).cell? ⟨b,o,none⟩=w.cell? ⟨b,o,none⟩:=
 World.cell?_of_block (w:=w) (Below.heap_setCell w a v b h)
theorem jL (w:World) (a:Addr) (v:Value) (b off:Nat) (xs:List Int) (h:¬b=a.block):Lies (w.setCell a v) b off xs↔Lies w b off xs:=by
 constructor
 ·intro hL i hi;rw [←gp w a v b _ h];exact hL i hi
 ·intro hL i hi;rw [gp w a v b _ h];exact hL i hi
def eS (xs:List Int) (n:Nat):ByteArray:=strOfNums ((xs.drop 14).take n)
theorem n8 (xs:List Int) (n:Nat) (h:14+n≤xs.length):(eS xs n).size=n:=by
 unfold eS;rw [strOfNums_size];simp;omega
theorem rK (b off cap n:Nat) (xs:List Int) (hn:14+n≤xs.length) (w:World) (hL:Lies w b off xs):
  (convert 214 9 (.slice (some ⟨b,off+14,none⟩) n cap)).run Tryz.prog w= .ok (.string (eS xs n)) w:=
 run_convert_bytes_arg w 214 5 Tryz.underlying214 Tryz.underlying5 b (off+14) n cap ((xs.drop 14).take n) (by simp;omega) (fun i hi=>by
  rw [show off+14+i=off+(14+i) by omega,hL (14+i) (by omega)]
  simp [hi]) 9 Tryz.underlying9
abbrev nA (xs:List Int) (n:Nat):Value:=fr (wd xs 0) (wd xs 2) (bt xs 4) (wd xs 6) (wd xs 8) (bt xs 5) (wd xs 10) (eS xs n)
theorem rB (b off len cap n:Nat) (xs:List Int) (w:World) (hl:xs.length=len) (hx:Bs xs) (hm:len≤140737488355328) (hlc:len≤cap) (hL:Lies w b off xs) (hn:wd xs 12=n) (h1:16+n=len) (h40:n≤40):
  Calls Tryz.prog 210 #[.slice (some ⟨b,off,none⟩) len cap] w fun e w'=>e= .returned (nA xs n)∧Below w.heap.size w w':=by
 have hb:=hL.lt (by omega)
 have hL0:∀o:Obj,Lies (w.alloc o) b off xs:=fun o=>hL.below ((Below.refl _ w).alloc zr o) hb
 have c4:∀w',Lies w' b off xs→w'.cell? ⟨b,off+4,none⟩=some (.int .u8 (xs.getD 4 0)):=fun w' h=>h 4 (by omega)
 have c5:∀w',Lies w' b off xs→w'.cell? ⟨b,off+5,none⟩=some (.int .u8 (xs.getD 5 0)):=fun w' h=>h 5 (by omega)
 have b4:=hx.at 4;have b5:=hx.at 5;have HW:=aa (fun(w':World) (h:Lies w' b off xs) (i:Int) (h0:0≤i) (h1:i+1<len)=>fP b off len cap xs i w' hl hx hm hlc h h0 h1)
 have HB:=aa (fun(w':World) (h:Lies w' b off xs)=>jb b off len cap xs w' hl hx hm hlc h (by omega))
 rw [hn]at HB;have hcv:=fun(c:Nat) (w':World) (h:Lies w' b off xs)=>rK b off c n xs (by omega) w' h
 clear hL hx hn;have n14:¬cap=14:=by omega
 have hbn:¬b=w.heap.size:=by omega
 have HT:Hid (nA xs n=fr (wd xs 0) (wd xs 2) (xs.getD 4 0) (wd xs 6) (wd xs 8) (xs.getD 5 0) (wd xs 10) (eS xs n)):=rfl;generalize xs.getD 4 0=x4 at*
 generalize xs.getD 5 0=x5 at*
 obtain⟨b40,b41⟩:=b4;obtain⟨b50,b51⟩:=b5;have k0:(4:Int)<(len:Int):=by omega
 have k1:(5:Int)<(len:Int):=by omega
 have k2:(14:Int)≤14+(n:Int):=by omega
 have k3:14+(n:Int)≤(cap:Int):=by omega
 have k4:(0:Int)≤14+(n:Int):=by omega
 have k5:IntKind.i64.wrap (14+(n:Int))=14+(n:Int):=dg _ (by omega) (by omega)
 have k6:(14+(n:Int)).toNat-14=n:=by omega
 have k7:IntKind.i64.wrap x4=x4:=dg _ (by omega) (by omega)
 have k8:IntKind.i64.wrap x5=x5:=dg _ (by omega) (by omega)
 go_enter Tryz.func210,Tryz.ntmps210
 go_wp2_with fail
 go_region_held3 (fun w'=>Lies w' b off xs∧w'.cell? ⟨b,off+4,none⟩=some (.int .u8 x4)∧w'.cell? ⟨b,off+5,none⟩=some (.int .u8 x5)) (first |(simp [*,kN,mi];done) |(simp [*,jL];done))
  (first |(go_at_call 202;refine(ag HW _ (by first | assumption |(simp [*];done)) _ (by omega) (by omega)).mono ?_;rintro e w' ⟨rfl,m,rfl⟩) |(go_at_call 213;refine(ag HB _ (by first | assumption |(simp [*];done))).mono ?_;rintro e w' ⟨rfl,m,rfl⟩))
 go_wp2
 refine bodyPost_ret (v:=fr (wd xs 0) (wd xs 2) x4 (wd xs 6) (wd xs 8) x5 (wd xs 10) (eS xs n)) ?_ rfl ⟨by rw [HT.out],?_⟩
 ·simp [results,Tryz.results210,go_sem]
 ·refine Below.setCell (Below.setCell (Below.setCell (Below.setCell (Below.setCell (Below.setCell (Below.setCell (Below.setCell ?_ ?_ _) ?_ _) ?_ _) ?_ _) ?_ _) ?_ _) ?_ _) ?_ _
  ·exact below_drewN ((Below.refl _ _).alloc zr _) _
  all_goals exact Nat.le_refl _
theorem dw {dst src kind ips ipd ttl port:Int} {n:Nat} (h:aM dst src kind ips ipd ttl port n=0):
  (1≤kind∧kind≤3)∧(0≤dst∧dst≤65535)∧(0≤src∧src≤65535)∧(0≤ips∧ips≤65535)∧(0≤ipd∧ipd≤65535)∧(0≤port∧port≤65535)∧(0≤ttl∧ttl≤255)∧n≤40:=by
 unfold aM at h
 by_cases hk:iZ kind=true
 ·rw [if_pos hk]at h
  by_cases hb:dW dst src ips ipd ttl port=true
  ·rw [if_pos hb]at h
   by_cases hn:40<n
   ·rw [if_pos hn]at h;omega
   ·unfold dW au mt at hb
    unfold iZ at hk
    simp at hb hk
    omega
  ·rw [if_neg hb]at h;omega
 ·rw [if_neg hk]at h;omega
theorem km {dst src kind ips ipd ttl port:Int} {body:ByteArray} (hf:aM dst src kind ips ipd ttl port body.size=0):Bs (fe dst src kind ips ipd ttl port body):=by
 obtain⟨⟨hk0,hk1⟩,⟨hd0,hd1⟩,⟨hs0,hs1⟩,⟨hi0,hi1⟩,⟨hj0,hj1⟩,⟨hp0,hp1⟩,⟨ht0,ht1⟩,hn⟩:=dw hf;unfold fe
 exact(((((((ei _ hd0 hd1).append (ei _ hs0 hs1)).append (fun n h=>by simp at h;rcases h with rfl | rfl <;>omega)).append (ei _ hi0 hi1)).append (ei _ hj0 hj1)).append (ei _ hp0 hp1)).append (ei _ (by omega) (by omega))).append (uz body)
theorem pa (s:ByteArray):Lib.strCells s=U (lQ s):=by simp [Lib.strCells,U,lQ]
theorem kd {w:World} {B m:Nat} {v:Value} {xs ys:List Int} (h:w.ownsRow B 5 1 v (xs.length+m) (U xs++U ys)) (hm:ys.length=m):w.ownsRow B 5 1 v (xs++ys).length (U (xs++ys)):=by
 rw [oe,List.length_append,hm];exact h
theorem jx {w:World} {B:Nat} {v:Value} {xs:List Int} (h:w.ownsRow B 5 1 v xs.length (U xs)) (hne:0<xs.length):
  ∃g cap,v= .slice (some ⟨g,0,none⟩) xs.length cap∧(B≤g∧g<w.heap.size)∧xs.length≤cap∧∀i,i<xs.length→w.cell? ⟨g,0+i,none⟩=some (.int .u8 (xs.getD i 0)):=by
 have hc:=h;obtain⟨_,⟨_,h0⟩ |⟨g,cap,cur,rfl,hg,hgc,hcap,_⟩⟩:=h
 ·omega
 ·refine⟨g,cap,rfl,⟨hg,lt_of_block hgc⟩,hcap,fun i hi=>?_⟩
  have:=hc.cells (g:=g) rfl i (.int .u8 (xs.getD i 0)) (by simp [U,List.getD,hi])
  have hp:(⟨g,0,none⟩:Addr).add i=⟨g,0+i,none⟩:=by unfold Addr.add;split <;>simp_all
  rw [←hp];exact this
theorem rn (dst src kind ips ipd ttl port:Int) (body:ByteArray) (w:World) (hb:body.size≤maxLen) (hf:aM dst src kind ips ipd ttl port body.size≠0):
  Calls Tryz.prog 199 #[fr dst src kind ips ipd ttl port body] w fun e w'=>e= .returned (.tuple #[.slice none 0 0,.int .i64 (aM dst src kind ips ipd ttl port body.size)])∧Below w.heap.size w w':=by
 have hf':(aM dst src kind ips ipd ttl port body.size != 0)=true:=by simpa using hf
 go_enter Tryz.func199,Tryz.ntmps199
 go_wp2_with fail
 refine(fk _ _ _ _ _ _ _ _ _ hb).mono ?_
 rintro e w1 ⟨rfl,hb1⟩
 go_wp2_with fail
 go_ret2
 exact⟨rfl,((Below.refl _ _).alloc zr _).trans (hb1.mono (by simp))⟩
theorem pX (dst src kind ips ipd ttl port:Int) (body:ByteArray) (w:World) (hf:aM dst src kind ips ipd ttl port body.size=0):
  Calls Tryz.prog 199 #[fr dst src kind ips ipd ttl port body] w fun e w'=>∃v,e= .returned (.tuple #[v,.int .i64 0])∧
   w'.ownsRow w.heap.size 5 1 v (enc dst src kind ips ipd ttl port body).length (U (enc dst src kind ips ipd ttl port body))∧Below w.heap.size w w':=by
 obtain⟨⟨hk0,hk1⟩,⟨hd0,hd1⟩,⟨hs0,hs1⟩,⟨hi0,hi1⟩,⟨hj0,hj1⟩,⟨hp0,hp1⟩,⟨ht0,ht1⟩,hn⟩:=dw hf;have hbm:body.size≤maxLen:=by unfold maxLen;omega
 obtain⟨i0,hi,hz0,hz1,hz2⟩:=info_parts iT
 go_enter Tryz.func199,Tryz.ntmps199
 go_wp2_with fail
 refine(fk _ _ _ _ _ _ _ _ _ hbm).mono ?_
 rintro e w1 ⟨rfl,hb1⟩;have hB1:w.heap.size+1≤w1.heap.size:=by have:=hb1.size;simpa using this
 have hb1':=hb1.mono (B':=w.heap.size+1) (by simp)
 clear hb1;obtain⟨hc1,_⟩:=dO hb1'
 go_wp2_with fail
 refine(bo (w.heap.size+1) (.slice none 0 0) [] dst _ (World.ownsRow_nil _ _ _ _) hd0 hd1 (by simp) hB1).mono ?_
 rintro e w2 ⟨v2,rfl,ho2,hb2⟩;have hb2':=hb1'.trans hb2;have hB2:=Nat.le_trans hB1 hb2.size;clear hb2 hc1;obtain⟨hc2,_⟩:=dO hb2'
 go_wp2_with fail
 refine(bo (w.heap.size+1) v2 _ src _ ho2 hs0 hs1 (by simp [bA]) hB2).mono ?_
 rintro e w3 ⟨v3,rfl,ho3,hb3⟩;have hb3':=hb2'.trans hb3;have hB3:=Nat.le_trans hB2 hb3.size;clear hb3 hc2 ho2 hb1' hb2';obtain⟨hc3,_⟩:=dO hb3'
 go_wp2_with (at_builtin;refine wpList_append_own _ rfl _ _ 214 rfl (w.heap.size+1) 5 i0 (.int .u8 0) 1 1 Tryz.underlying214 hi hz0 hz1 hz2 rfl (by decide) _ _ _ rfl (ho3.alloc _) ⟨w3.heap.size,0,none⟩ 2 2 (U [kind,ttl]) rfl rfl ?c1 ?c2 ?c3 ?c4 ?c5 ?_)
 case c1=>
  intro j u hj
  match j,hj with
  | 0,hj=>simp [U]at hj;subst hj;simp [Addr.add]
  | 1,hj=>simp [U]at hj;subst hj;simp [Addr.add]
 case c2=>exact qK _
 case c3=>simp [bA,maxLen]
 case c4=>simp [bA]
 case c5=>simp;omega
 intro v4 w4 ho4 hg4 _;have hb4:Below (w.heap.size+1) w3 w4:=((Below.refl _ w3).alloc hB3 _).grown hg4 (by simp;omega) (aF ho3)
 have hb4':=hb3'.trans hb4;have hB4:=Nat.le_trans hB3 hb4.size;have ho4':=kd ho4 rfl;clear hb4 hc3 ho3 hb3' ho4 hg4;obtain⟨hc4,_⟩:=dO hb4'
 go_wp2_with fail
 refine(bo (w.heap.size+1) v4 _ ips _ ho4' hi0 hi1 (by simp [bA]) hB4).mono ?_
 rintro e w5 ⟨v5,rfl,ho5,hb5⟩;have hb5':=hb4'.trans hb5;have hB5:=Nat.le_trans hB4 hb5.size;clear hb5 hc4 ho4' hb4';obtain⟨hc5,_⟩:=dO hb5'
 go_wp2_with fail
 refine(bo (w.heap.size+1) v5 _ ipd _ ho5 hj0 hj1 (by simp [bA]) hB5).mono ?_
 rintro e w6 ⟨v6,rfl,ho6,hb6⟩;have hb6':=hb5'.trans hb6;have hB6:=Nat.le_trans hB5 hb6.size;clear hb6 hc5 ho5 hb5';obtain⟨hc6,_⟩:=dO hb6'
 go_wp2_with fail
 refine(bo (w.heap.size+1) v6 _ port _ ho6 hp0 hp1 (by simp [bA]) hB6).mono ?_
 rintro e w7 ⟨v7,rfl,ho7,hb7⟩;have hb7':=hb6'.trans hb7;have hB7:=Nat.le_trans hB6 hb7.size;clear hb7 hc6 ho6 hb6';obtain⟨hc7,_⟩:=dO hb7'
 go_wp2_with fail
 refine(bo (w.heap.size+1) v7 _ (body.size:Int) _ ho7 (by omega) (by omega) (by simp [bA]) hB7).mono ?_
 rintro e w8 ⟨v8,rfl,ho8,hb8⟩;have hb8':=hb7'.trans hb8;have hB8:=Nat.le_trans hB7 hb8.size;clear hb8 hc7 ho7 hb7';obtain⟨hc8,_⟩:=dO hb8'
 go_wp2_with (at_builtin;refine Lib.wpList_append_own_string _ rfl _ _ 214 9 rfl (w.heap.size+1) 5 i0 Tryz.underlying214 Tryz.underlying9 hi hz0 hz1 hz2 _ _ _ rfl ho8 body rfl ?d1 ?d2 ?d3 ?_)
 case d1=>simp [bA,maxLen];omega
 case d2=>simp [bA];omega
 case d3=>exact hB8
 intro v9 w9 ho9 hg9 _;have hb9:Below (w.heap.size+1) w8 w9:=(Below.refl _ w8).grown hg9 hB8 (aF ho8);have hb9':=hb8'.trans hb9;have hB9:=Nat.le_trans hB8 hb9.size;rw [pa]at ho9;have ho9':=kd ho9 (eN body);clear hb9 hc8 ho8 hb8' ho9 hg9;obtain⟨xs,hxs⟩:∃xs,xs=fe dst src kind ips ipd ttl port body:=⟨_,rfl⟩;have ho:w9.ownsRow (w.heap.size+1) 5 1 v9 xs.length (U xs):=by rw [hxs];exact ho9'
 have hxl:xs.length=14+body.size:=by rw [hxs];exact dJ _ _ _ _ _ _ _ _
 have hbs:Bs xs:=by rw [hxs];exact km hf
 have HE:Hid (enc dst src kind ips ipd ttl port body=xs++bA (sm xs)):=by show _=_;rw [hxs];rfl
 clear ho9' hxs;have hxl1:14≤xs.length:=by omega
 have hxl2:xs.length≤54:=by omega
 clear hxl;obtain⟨hsm0,hsm1⟩:=tv hbs;obtain⟨g,cap,rfl,hg,hcap,hcell⟩:=jx ho (by omega)
 go_wp2_with fail
 refine(qJ g 0 xs.length cap xs _ rfl hbs (by omega) hcap hcell).mono ?_
 rintro e w' ⟨rfl,rfl⟩;clear hcell
 go_wp2_with fail
 refine(bo (w.heap.size+1) _ xs (sm xs) _ ho hsm0 hsm1 (by omega) hB9).mono ?_
 rintro e w10 ⟨v10,rfl,ho10,hb10⟩;have hb10':=hb9'.trans hb10;clear ho hb9' hb10
 go_wp2_with fail
 go_ret2
 refine⟨v10,rfl,?_,((Below.refl _ _).alloc zr _).trans (hb10'.mono (by omega))⟩
 rw [HE.out]
 exact aw ho10 (by omega)
def IsB (w:World) (a:Option Addr) (len cap:Nat) (xs:List Int):Prop:=
 xs.length=len∧Bs xs∧len≤140737488355328∧(len=0∨∃b off,a=some ⟨b,off,none⟩∧len≤cap∧Lies w b off xs)
theorem IsB.below {w w':World} {a:Option Addr} {len cap:Nat} {xs:List Int} {B:Nat} (h:IsB w a len cap xs) (hb:Below B w w') (hB:w.heap.size≤B):IsB w' a len cap xs:=by
 obtain⟨h1,h2,h3,h0 |⟨b,off,ha,hc,hL⟩⟩:=h
 ·exact⟨h1,h2,h3,.inl h0⟩
 ·by_cases h0:len=0
  ·exact⟨h1,h2,h3,.inl h0⟩
  ·exact⟨h1,h2,h3,.inr ⟨b,off,ha,hc,hL.below hb (Nat.lt_of_lt_of_le (hL.lt (by omega)) hB)⟩⟩
theorem dy {B:Nat} {a w:World} (h:Below B a w) (g:Nat) (hg:B≤g) (v0 v1 v2 v3 v4 v5 v6 v7:Value):
  Below B a ((((((((w.setCell ⟨g,0,none⟩ v0).setCell ⟨g,1,none⟩ v1).setCell ⟨g,2,none⟩ v2).setCell ⟨g,3,none⟩ v3).setCell ⟨g,4,none⟩ v4).setCell ⟨g,5,none⟩ v5).setCell ⟨g,6,none⟩ v6).setCell ⟨g,7,none⟩ v7):=
 Below.setCell (Below.setCell (Below.setCell (Below.setCell (Below.setCell (Below.setCell (Below.setCell (Below.setCell h hg _) hg _) hg _) hg _) hg _) hg _) hg _) hg _
abbrev cQ:Value:=fr 0 0 0 0 0 0 0 ⟨#[]⟩
def jy (xs:List Int):Int:=aM (wd xs 0) (wd xs 2) (bt xs 4) (wd xs 6) (wd xs 8) (bt xs 5) (wd xs 10) (wd xs 12).toNat
def b9 (xs:List Int):Int:=if chk xs=0 then jy xs else chk xs
def fS (xs:List Int):Value:=if b9 xs=0 then nA xs (wd xs 12).toNat else cQ
theorem rW {xs:List Int} (hx:Bs xs) (h:chk xs=0):16≤xs.length∧wd xs 12≤40∧16+(wd xs 12).toNat=xs.length∧wd xs (14+(wd xs 12).toNat)=sm (xs.take (14+(wd xs 12).toNat)):=by
 have hw:=s7 hx 12;unfold chk at h
 by_cases c0:xs.length<16
 ·rw [if_pos c0]at h;omega
 ·rw [if_neg c0]at h
  by_cases c1:40<wd xs 12
  ·rw [if_pos c1]at h;omega
  ·rw [if_neg c1]at h
   by_cases c2:(xs.length:Int)<16+wd xs 12
   ·rw [if_pos c2]at h;omega
   ·rw [if_neg c2]at h
    by_cases c3:16+wd xs 12<(xs.length:Int)
    ·rw [if_pos c3]at h;omega
    ·rw [if_neg c3]at h
     by_cases c4:wd xs (14+(wd xs 12).toNat)=sm (xs.take (14+(wd xs 12).toNat))
     ·exact⟨by omega,by omega,by omega,c4⟩
     ·rw [if_pos c4]at h;omega
theorem pj (a:Option Addr) (len cap:Nat) (xs:List Int) (w:World) (hI:IsB w a len cap xs):
  Calls Tryz.prog 201 #[.slice a len cap] w fun e w'=>e= .returned (.tuple #[fS xs,.int .i64 (b9 xs)])∧Below w.heap.size w w':=by
 obtain⟨hl,hx,hm,hI⟩:=hI
 by_cases h16:len<16
 ·have hE:b9 xs=5:=by
   have hc:chk xs=5:=by unfold chk;rw [if_pos (by omega)]
   unfold b9;rw [hc];rfl
  have hV:fS xs=cQ:=by unfold fS;rw [hE];rfl
  have HR:Hid (Ending.returned (.tuple #[fS xs,.int .i64 (b9 xs)])= .returned (.tuple #[cQ,.int .i64 5])):=by show _=_;rw [hE,hV]
  clear hE hV hI
  go_enter Tryz.func201,Tryz.ntmps201
  go_wp2_with fail
  refine(js a len cap _ h16).mono ?_
  rintro e w' ⟨rfl,rfl⟩
  go_wp2_with fail
  refine bodyPost_ret (v:=.tuple #[cQ,.int .i64 5]) ?_ rfl ⟨HR.out.symm,?_⟩
  ·simp [results,Tryz.results201,go_sem]
  ·exact(Below.refl _ _).alloc zr _
 ·have h16':16≤len:=by omega
  obtain⟨b,off,rfl,hlc,hL⟩:∃b off,a=some ⟨b,off,none⟩∧len≤cap∧Lies w b off xs:=by
   rcases hI with h0 | h
   ·omega
   ·exact h
  clear hI h16;have hbw:=hL.lt (by omega)
  have hL0:∀o:Obj,Lies (w.alloc o) b off xs:=fun o=>hL.below ((Below.refl _ w).alloc zr o) hbw
  by_cases hc:chk xs=0
  ·obtain⟨_,hw40,hlen,_⟩:=rW hx hc
   have HC:=aa (fun w' h=>gk b off len cap xs w' hl hx hm hlc h h16')
   obtain⟨n,hn⟩:=Int.eq_ofNat_of_zero_le (s7 hx 12).1;have hn40:n≤40:=by omega
   have hn16:16+n=len:=by rw [hn,Int.toNat_natCast]at hlen;omega
   have HP:=aa (fun w' h=>rB b off len cap n xs w' hl hx hm hlc h hn hn16 hn40)
   have hbs:=n8 xs n (by omega)
   have hE:b9 xs=aM (wd xs 0) (wd xs 2) (bt xs 4) (wd xs 6) (wd xs 8) (bt xs 5) (wd xs 10) (eS xs n).size:=by unfold b9 jy;rw [if_pos hc,hn,Int.toNat_natCast,hbs]
   have hV:fS xs=if b9 xs=0 then nA xs n else cQ:=by unfold fS;rw [hn,Int.toNat_natCast]
   have HK:=aa (fun w'=>fk (wd xs 0) (wd xs 2) (bt xs 4) (wd xs 6) (wd xs 8) (bt xs 5) (wd xs 10) (eS xs n) w' (by rw [hbs];unfold maxLen;omega))
   rw [hc]at HC;rw [←hE]at HK;clear hE hn hbs hL hlen hw40 hc
   go_enter Tryz.func201,Tryz.ntmps201
   go_wp2_with fail
   refine(ag HC _ (hL0 _)).mono ?_
   rintro e w' ⟨rfl,m,rfl⟩
   go_wp2_with fail
   refine(ag HP _ ((hL0 _).drewN m)).mono ?_
   rintro e w2 ⟨rfl,hb2⟩;have hz2:w.heap.size<w2.heap.size:=by have:=hb2.size;simp at this;omega
   have hz2':¬w.heap.size=w2.heap.size:=by omega
   have hb2':=hb2.mono (B':=w.heap.size+1) (by simp)
   obtain⟨hc2,hf2⟩:=dO hb2'
   go_wp2_with fail
   refine(ag HK _).mono ?_
   rintro e w3 ⟨rfl,hb3⟩;have hb3':=hb3.mono (B':=w2.heap.size+1) (by simp)
   obtain⟨hc3,hf3⟩:=dO hb3';have hbel:Below w.heap.size w w3:=((below_drewN ((Below.refl w.heap.size w).alloc zr _) m).trans (hb2'.mono (by omega))).trans (((Below.refl _ w2).alloc (by omega) _).trans (hb3'.mono (by omega)))
   clear hb2 hb3 HC HP HK hb2' hb3' hL0;have HV:=aa hV;clear hV
   by_cases hz:b9 xs=0
   ·have hV0:fS xs=nA xs n:=by rw [HV.out,if_pos hz]
    have HR:Hid (Ending.returned (.tuple #[fS xs,.int .i64 (b9 xs)])= .returned (.tuple #[nA xs n,.int .i64 0])):=by show _=_;rw [hV0,hz]
    clear hV0 HV
    go_wp2_with fail
    refine bodyPost_ret (v:=.tuple #[nA xs n,.int .i64 0]) ?_ rfl ⟨HR.out.symm,?_⟩
    ·simp [results,Tryz.results201,go_sem,hc3,hc2,hz2,Nat.lt_succ_of_lt hz2]
    ·exact dy hbel _ zr _ _ _ _ _ _ _ _
   ·have hV0:fS xs=cQ:=by rw [HV.out,if_neg hz]
    have HR:Hid (Ending.returned (.tuple #[fS xs,.int .i64 (b9 xs)])= .returned (.tuple #[cQ,.int .i64 (b9 xs)])):=by show _=_;rw [hV0]
    have hne:(b9 xs != 0)=true:=by simpa using hz
    clear hV0 HV hz
    go_wp2_with fail
    refine bodyPost_ret (v:=.tuple #[cQ,.int .i64 (b9 xs)]) ?_ rfl ⟨HR.out.symm,?_⟩
    ·simp [results,Tryz.results201,go_sem,hc3,hc2,hz2,Nat.lt_succ_of_lt hz2]
    ·exact dy hbel _ zr _ _ _ _ _ _ _ _
  ·have hE:b9 xs=chk xs:=by unfold b9;rw [if_neg hc]
   have hV:fS xs=cQ:=by unfold fS;rw [hE,if_neg hc]
   have HR:Hid (Ending.returned (.tuple #[fS xs,.int .i64 (b9 xs)])= .returned (.tuple #[cQ,.int .i64 (chk xs)])):=by show _=_;rw [hE,hV]
   have HC:=aa (fun w' h=>gk b off len cap xs w' hl hx hm hlc h h16')
   have hne:(chk xs != 0)=true:=by simpa using hc
   clear hE hV hc hL;generalize chk xs=c at*
   go_enter Tryz.func201,Tryz.ntmps201
   go_wp2_with fail
   refine(ag HC _ (hL0 _)).mono ?_
   rintro e w' ⟨rfl,m,rfl⟩
   go_wp2_with fail
   refine bodyPost_ret (v:=.tuple #[cQ,.int .i64 c]) ?_ rfl ⟨HR.out.symm,?_⟩
   ·simp [results,Tryz.results201,go_sem]
   ·exact dy (below_drewN ((Below.refl _ _).alloc zr _) _) _ zr _ _ _ _ _ _ _ _
section
open Go.ChangeShapes Go.WideShapes Go.ChangeAt Go.RowKit
theorem own:ownKnob Tryz.prog.godebug=none:=by kernel_rfl
theorem xA:laidOutB Tryz.prog=true:=by kernel_rfl
theorem cH {H:Type} {enc:TypeId×Value→H} {w:World} {base:Nat} {spare:Nat→Bool} {held:Bool} {n i:Nat} {c:Value} {xs:List (DataW H×List MemPlace)} (hi:i<xs.length)
  (h:DataW.trod enc Tryz.prog w base spare held n 3 [c]=xs[i]?):∃k,c= .int .i64 k∧(Lit.int .i64 k).wf=true:=by
 rw [List.getElem?_eq_getElem hi]at h;obtain⟨k,hc,_,hw⟩:=DataW.trod_int Tryz.underlying3 h
 exact⟨k,by simpa using hc,hw⟩
theorem nB {H:Type} {enc:TypeId×Value→H} {w:World} {base:Nat} {spare:Nat→Bool} {held:Bool} {n i:Nat} {c:Value} {xs:List (DataW H×List MemPlace)} (hi:i<xs.length)
  (h:DataW.trod enc Tryz.prog w base spare held n 9 [c]=xs[i]?):∃s:ByteArray,c= .string s∧s.size≤maxLen:=by
 rw [List.getElem?_eq_getElem hi]at h;obtain⟨k,hc,_,hw⟩:=DataW.trod_string Tryz.underlying9 h
 exact⟨k,by simpa using hc,hw⟩
end
section
open Go.ChangeShapes Go.WideShapes Go.ChangeAt Go.RowKit
theorem qk:Tryz.prog.cellsOf 37=8:=by kernel_rfl
theorem vR {α:Type} {cs:Array α} (h:cs.size=8):∃c0 c1 c2 c3 c4 c5 c6 c7,cs= #[c0,c1,c2,c3,c4,c5,c6,c7]:=by
 obtain⟨l⟩:=cs
 match l,h with
 | [c0,c1,c2,c3,c4,c5,c6,c7],_=>exact⟨c0,c1,c2,c3,c4,c5,c6,c7,rfl⟩
theorem vZ {H:Type} {enc:TypeId×Value→H} {w:World} {base b0:Nat} {spare:Nat→Bool} {held:Bool} {r:Reach} {v:Value} {d:DataW H} {p:List MemPlace}
  (hv:Value.okWide Tryz.prog w r b0 37 v) (h:DataW.Trod enc Tryz.prog w base spare held 37 v d p):
  ∃dst src kind ips ipd ttl port:Int,∃body:ByteArray,v=fr dst src kind ips ipd ttl port body∧body.size≤maxLen∧(Lit.int .i64 dst).wf=true∧(Lit.int .i64 src).wf=true∧(Lit.int .i64 kind).wf=true
   ∧(Lit.int .i64 ips).wf=true∧(Lit.int .i64 ipd).wf=true∧(Lit.int .i64 ttl).wf=true∧(Lit.int .i64 port).wf=true:=by
 obtain⟨cs,rfl,hsz⟩:=okWide_struct Tryz.underlying37 hv;obtain⟨c0,c1,c2,c3,c4,c5,c6,c7,rfl⟩:=vR (hsz.trans qk);obtain⟨fuel,hf⟩:=h;obtain⟨xs,n,_,_,_,hlen,hf⟩:=DataW.trod_struct Tryz.underlying37 hf;have h8:xs.length=8:=by simpa using hlen
 have g0:=hf 0 _ rfl;have g1:=hf 1 _ rfl;have g2:=hf 2 _ rfl;have g3:=hf 3 _ rfl;have g4:=hf 4 _ rfl;have g5:=hf 5 _ rfl;have g6:=hf 6 _ rfl;have g7:=hf 7 _ rfl;simp only [Value.cells]at g0 g1 g2 g3 g4 g5 g6 g7;obtain⟨k0,rfl,w0⟩:=cH (i:=0) (by omega) g0
 obtain⟨k1,rfl,w1⟩:=cH (i:=1) (by omega) g1
 obtain⟨k2,rfl,w2⟩:=cH (i:=2) (by omega) g2
 obtain⟨k3,rfl,w3⟩:=cH (i:=3) (by omega) g3
 obtain⟨k4,rfl,w4⟩:=cH (i:=4) (by omega) g4
 obtain⟨k5,rfl,w5⟩:=cH (i:=5) (by omega) g5
 obtain⟨k6,rfl,w6⟩:=cH (i:=6) (by omega) g6
 obtain⟨s,rfl,hs⟩:=nB (i:=7) (by omega) g7
 exact⟨k0,k1,k2,k3,k4,k5,k6,s,rfl,hs,w0,w1,w2,w3,w4,w5,w6⟩
end
theorem xE (a b c d e f g:Int) (s:ByteArray) (w:World):(Op.equalIn 10000 37 (.agg #[.int .i64 a,.int .i64 b,.int .i64 c,.int .i64 d,.int .i64 e,.int .i64 f,.int .i64 g,.string s]) (.agg #[.int .i64 a,.int .i64 b,.int .i64 c,.int .i64 d,.int .i64 e,.int .i64 f,.int .i64 g,.string s])).run Tryz.prog w= .ok true w:=by
 have hS:Tryz.prog.underlying 37=some (.struct (Tryz.prog.fieldsOf 37)):=by kernel_rfl
 have hp:Tryz.prog.stoodInHeld 37=false:=by kernel_rfl
 rw [show(10000:Nat)=9999+1 from rfl,run_equalIn_agg w 9999 37 _ _ hS hp]
 simp only [Program.fieldsOf,Tryz.underlying37]
 go_simp
theorem vT:Tryz.prog.eqGuardType Tryz.prog.depth 37=false:=by kernel_rfl
section
open Go.ChangeShapes Go.WideShapes Go.ChangeAt Go.RowKit
theorem ug {w:World} {B:Nat} {v:Value} {xs:List Int} (h:w.ownsRow B 5 1 v xs.length (U xs)) (hx:Bs xs) (hm:xs.length≤140737488355328):∃a cap,v= .slice a xs.length cap∧IsB w a xs.length cap xs:=by
 by_cases h0:xs.length=0
 ·obtain⟨_,⟨rfl,_⟩ |⟨g,cap,cur,rfl,_⟩⟩:=h
  ·exact⟨none,0,by rw [h0],rfl,hx,hm,.inl h0⟩
  ·exact⟨_,cap,rfl,rfl,hx,hm,.inl h0⟩
 ·obtain⟨g,cap,rfl,_,hc,hcell⟩:=jx h (by omega)
  exact⟨_,cap,rfl,rfl,hx,hm,.inr ⟨g,0,rfl,hc,hcell⟩⟩
theorem IsB.news {w:World} {ad:Addr} {len cap:Nat} {xs:List Int} (h:IsB w (some ad) len cap xs):∀j u,(U xs)[j]?=some u→w.cell? (ad.add j)=some u:=by
 obtain⟨h1,h2,h3,h0 |⟨b,off,ha,hc,hL⟩⟩:=h
 ·intro j u hj
  have:xs= []:=List.eq_nil_of_length_eq_zero (by omega)
  subst this
  simp [U]at hj
 ·cases ha
  intro j u hj;have hjl:j<xs.length:=by
   rcases Nat.lt_or_ge j xs.length with h | h
   ·exact h
   ·simp [U,List.getElem?_eq_none h]at hj
  have hp:(⟨b,off,none⟩:Addr).add j=⟨b,off+j,none⟩:=by unfold Addr.add;split <;>simp_all
  rw [hp,hL j hjl]
  simp [U,List.getElem?_eq_getElem hjl]at hj
  subst hj
  simp [List.getD,List.getElem?_eq_getElem hjl]
theorem vI {H:Type} {enc:TypeId×Value→H} {w:World} {base b0:Nat} {spare:Nat→Bool} {held:Bool} {r:Reach} {v:Value} {d:DataW H} {p:List MemPlace}
  (hv:Value.okWide Tryz.prog w r b0 214 v) (h:DataW.Trod enc Tryz.prog w base spare held 214 v d p):
  ∃a len cap xs,v= .slice a len cap∧xs.length=len∧Bs xs∧(len=0∨∃b off,a=some ⟨b,off,none⟩∧len≤cap∧Lies w b off xs)∧(a=none→cap=0)∧
   (len=0∨∃elems sp,d= .slice elems sp∧elems.length=len):=by
 obtain⟨a,len,cap,rfl⟩:=okWide_slice Tryz.underlying214 hv;obtain⟨fuel,hf⟩:=h
 rcases open_ints Tryz.underlying214 Tryz.underlying5 (by kernel_rfl) hf with⟨hcs,_⟩ |⟨x,l,c,zs,hcs,_,hl,hm,hz,hd,hcell,hwz⟩
 ·simp [Value.cells]at hcs
  obtain⟨rfl,rfl,rfl⟩:=hcs
  exact⟨none,0,0,[],rfl,rfl,Bs.nil,.inl rfl,fun _=>rfl,.inl rfl⟩
 ·simp [Value.cells]at hcs
  obtain⟨rfl,rfl,rfl⟩:=hcs;have hzl:len≤zs.length:=by rw [hz];split <;>omega
  have hbz:Bs zs:=fun n hn=>by
   have:=hwz n hn
   simpa [Lit.wf,IntKind.min,IntKind.max,IntKind.signed,IntKind.bits] using this
  have htl:(zs.take len).length=len:=by simp;omega
  simp only [Prod.mk.injEq]at hd
  refine⟨some x,len,cap,zs.take len,rfl,htl,hbz.take len,?_,fun h=>by simp at h,.inr ⟨_,_,hd.1,by simp [lits];omega⟩⟩
  by_cases h0:len=0
  ·exact .inl h0
  ·right
   obtain⟨b,off,spot⟩:=x;have hc0:=hcell 0 (by omega)
   have hspot:spot=none:=by simpa [Addr.add] using World.cell?_spot hc0
   subst hspot
   refine⟨b,off,rfl,hl,fun i hi=>?_⟩
   have hi':i<len:=by omega
   have hp:(⟨b,off,none⟩:Addr).add i=⟨b,off+i,none⟩:=by unfold Addr.add;split <;>simp_all
   rw [←hp,hcell i (by omega)]
   simp [hi']
theorem xD:Tryz.prog.bytesOf 5=1:=by kernel_rfl
end
def dyB (xs:List Int):Bool:=(strOfNums (xs.take 2)).toList== [100,121]
def lH (xs:List Int):Int:=if xs.length<6 then 5 else if dyB xs=true then b9 (xs.drop 6)else 4
def unw (xs:List Int):Value:=if lH xs=0 then .tuple #[.int .i64 (wd xs 2),.int .i64 (wd xs 4),fS (xs.drop 6),.int .i64 0]else .tuple #[.int .i64 0,.int .i64 0,cQ,.int .i64 (lH xs)]
theorem rX (b off cap:Nat) (xs:List Int) (hn:2≤xs.length) (w:World) (hL:Lies w b off xs):
  (convert 214 9 (.slice (some ⟨b,off,none⟩) 2 cap)).run Tryz.prog w= .ok (.string (strOfNums (xs.take 2))) w:=
 run_convert_bytes_arg w 214 5 Tryz.underlying214 Tryz.underlying5 b off 2 cap (xs.take 2) (by simp;omega) (fun i hi=>by
  rw [hL i (by omega)]
  simp [hi]) 9 Tryz.underlying9
theorem lZ (xs:List Int):∃a b c d e f g:Int,∃s:ByteArray,fS xs=fr a b c d e f g s:=by
 unfold fS
 split
 ·exact⟨_,_,_,_,_,_,_,_,rfl⟩
 ·exact⟨_,_,_,_,_,_,_,_,rfl⟩
theorem wL (xs:List Int):∃n t a b c d e f g:Int,∃s:ByteArray,∃x:Int,unw xs= .tuple #[.int .i64 n,.int .i64 t,fr a b c d e f g s,.int .i64 x]:=by
 unfold unw
 split
 ·obtain⟨a,b,c,d,e,f,g,s,h⟩:=lZ (xs.drop 6)
  rw [h]
  exact⟨_,_,_,_,_,_,_,_,_,_,_,rfl⟩
 ·exact⟨_,_,_,_,_,_,_,_,_,_,_,rfl⟩
def bK (net tow dst src kind ips ipd ttl port:Int) (body:ByteArray):List Int:=[100,121]++bA net++bA tow++enc dst src kind ips ipd ttl port body
theorem eD (dst src kind ips ipd ttl port:Int) (body:ByteArray):(enc dst src kind ips ipd ttl port body).length=16+body.size:=by
 unfold enc;rw [List.length_append,dJ];simp [bA];omega
theorem nH (dst src kind ips ipd ttl port:Int) (body:ByteArray):∃q0 q1:Int,bA (sm (fe dst src kind ips ipd ttl port body))= [q0,q1]∧
  enc dst src kind ips ipd ttl port body=dst/256::dst%256::src/256::src%256::kind::ttl::ips/256::ips%256::ipd/256::ipd%256::port/256::port%256::(body.size:Int)/256::(body.size:Int)%256::(lQ body++ [q0,q1]):=by
 refine⟨_,_,rfl,?_⟩
 unfold enc;have h:bA (sm (fe dst src kind ips ipd ttl port body))= [sm (fe dst src kind ips ipd ttl port body)/256,sm (fe dst src kind ips ipd ttl port body)%256]:=rfl;rw [h];generalize sm (fe dst src kind ips ipd ttl port body)/256=q0;generalize sm (fe dst src kind ips ipd ttl port body)%256=q1
 simp [fe,bA]
theorem sg (s:ByteArray):strOfNums (lQ s)=s:=by
 apply ByteArray.ext
 apply Array.toList_inj.1
 rw [strOfNums_data,lQ,List.map_map]
 conv=>rhs;rw [←List.map_id s.data.toList]
 apply List.map_congr_left
 intro x _
 simp
theorem vM {dst src kind ips ipd ttl port:Int} {body:ByteArray} (hf:aM dst src kind ips ipd ttl port body.size=0):Bs (enc dst src kind ips ipd ttl port body):=by
 have h:=tv (km hf)
 exact(km hf).append (ei _ h.1 h.2)
theorem gN {dst src kind ips ipd ttl port:Int} {body:ByteArray} (z:List Int):
  wd (enc dst src kind ips ipd ttl port body++z) 0=dst∧wd (enc dst src kind ips ipd ttl port body++z) 2=src∧bt (enc dst src kind ips ipd ttl port body++z) 4=kind∧bt (enc dst src kind ips ipd ttl port body++z) 5=ttl∧
  wd (enc dst src kind ips ipd ttl port body++z) 6=ips∧wd (enc dst src kind ips ipd ttl port body++z) 8=ipd∧wd (enc dst src kind ips ipd ttl port body++z) 10=port∧wd (enc dst src kind ips ipd ttl port body++z) 12=body.size:=by
 obtain⟨q0,q1,_,h⟩:=nH dst src kind ips ipd ttl port body;rw [h];simp only [wd,bt,List.cons_append]
 refine⟨?_,?_,rfl,rfl,?_,?_,?_,?_⟩
 ·show dst/256*256+dst%256=dst;omega
 ·show src/256*256+src%256=src;omega
 ·show ips/256*256+ips%256=ips;omega
 ·show ipd/256*256+ipd%256=ipd;omega
 ·show port/256*256+port%256=port;omega
 ·show(body.size:Int)/256*256+(body.size:Int)%256=(body.size:Int);omega
theorem rq (dst src kind ips ipd ttl port:Int) (body:ByteArray):(enc dst src kind ips ipd ttl port body).take (14+body.size)=fe dst src kind ips ipd ttl port body:=by
 unfold enc;rw [List.take_append_of_le_length (by rw [dJ];omega),List.take_of_length_le (by rw [dJ];omega)]
theorem gj (a z:List Int) (i:Nat):(a++z).getD (a.length+i) 0=z.getD i 0:=by
 simp [List.getD,List.getElem?_append_right]
theorem uT {dst src kind ips ipd ttl port:Int} {body:ByteArray} (hf:aM dst src kind ips ipd ttl port body.size=0):chk (enc dst src kind ips ipd ttl port body)=0:=by
 have h40:=(dw hf).2.2.2.2.2.2.2;have hw:wd (enc dst src kind ips ipd ttl port body) 12=body.size:=by have:=(gN (dst:=dst) (src:=src) (kind:=kind) (ips:=ips) (ipd:=ipd) (ttl:=ttl) (port:=port) (body:=body) []).2.2.2.2.2.2.2;simpa using this
 have hl:=eD dst src kind ips ipd ttl port body;have hs:=tv (km hf);have hq:wd (enc dst src kind ips ipd ttl port body) (14+body.size)=sm (fe dst src kind ips ipd ttl port body):=by
  have h0:=dJ dst src kind ips ipd ttl port body;unfold wd enc;have e0:=gj (fe dst src kind ips ipd ttl port body) (bA (sm (fe dst src kind ips ipd ttl port body))) 0;have e1:=gj (fe dst src kind ips ipd ttl port body) (bA (sm (fe dst src kind ips ipd ttl port body))) 1;rw [h0]at e0 e1;rw [Nat.add_zero]at e0;rw [e0,e1]
  show sm _/256*256+sm _%256=sm _
  omega
 unfold chk;rw [hw,hl,Int.toNat_natCast,rq,hq,if_neg (by omega),if_neg (by omega),if_neg (by omega),if_neg (by omega)]
 simp
theorem sK (dst src kind ips ipd ttl port:Int) (body:ByteArray):eS (enc dst src kind ips ipd ttl port body) body.size=body:=by
 obtain⟨q0,q1,_,h⟩:=nH dst src kind ips ipd ttl port body;rw [h];unfold eS;simp only [List.drop_succ_cons,List.drop_zero];rw [List.take_append_of_le_length (by rw [eN];omega),List.take_of_length_le (by rw [eN];omega),sg]
theorem uJ {dst src kind ips ipd ttl port:Int} {body:ByteArray} (hf:aM dst src kind ips ipd ttl port body.size=0):
  b9 (enc dst src kind ips ipd ttl port body)=0∧fS (enc dst src kind ips ipd ttl port body)=fr dst src kind ips ipd ttl port body:=by
 have hc:=uT hf;have hw:=gN (dst:=dst) (src:=src) (kind:=kind) (ips:=ips) (ipd:=ipd) (ttl:=ttl) (port:=port) (body:=body) [];rw [List.append_nil]at hw;obtain⟨w0,w2,w4,w5,w6,w8,w10,w12⟩:=hw;have hE:b9 (enc dst src kind ips ipd ttl port body)=0:=by
  unfold b9 jy;rw [if_pos hc,w0,w2,w4,w5,w6,w8,w10,w12,Int.toNat_natCast]
  exact hf
 refine⟨hE,?_⟩
 unfold fS;rw [if_pos hE,w12,Int.toNat_natCast];unfold nA;rw [w0,w2,w4,w5,w6,w8,w10,sK]
theorem wn {dst src kind ips ipd ttl port:Int} {body:ByteArray} (hf:aM dst src kind ips ipd ttl port body.size=0) (k:Nat) (hk:k<(enc dst src kind ips ipd ttl port body).length):
  b9 ((enc dst src kind ips ipd ttl port body).take k)=5:=by
 have h40:=(dw hf).2.2.2.2.2.2.2;have hl:=eD dst src kind ips ipd ttl port body;have hc:chk ((enc dst src kind ips ipd ttl port body).take k)=5:=by
  have htl:((enc dst src kind ips ipd ttl port body).take k).length=k:=by rw [List.length_take];omega
  unfold chk;rw [htl]
  by_cases h16:k<16
  ·rw [if_pos h16]
  ·have hw:wd ((enc dst src kind ips ipd ttl port body).take k) 12=body.size:=by
    have:=(gN (dst:=dst) (src:=src) (kind:=kind) (ips:=ips) (ipd:=ipd) (ttl:=ttl) (port:=port) (body:=body) []).2.2.2.2.2.2.2;rw [List.append_nil]at this;rw [←this]
    simp [wd,show 12<k by omega,show 13<k by omega]
   rw [hw,if_neg h16,if_neg (by omega),if_pos (by omega)]
 unfold b9;rw [hc]
 rfl
theorem wV {dst src kind ips ipd ttl port:Int} {body:ByteArray} (hf:aM dst src kind ips ipd ttl port body.size=0) (x:Int):b9 (enc dst src kind ips ipd ttl port body++ [x])=4:=by
 have h40:=(dw hf).2.2.2.2.2.2.2;have hl:=eD dst src kind ips ipd ttl port body;have hw:=(gN (dst:=dst) (src:=src) (kind:=kind) (ips:=ips) (ipd:=ipd) (ttl:=ttl) (port:=port) (body:=body) [x]).2.2.2.2.2.2.2;have hc:chk (enc dst src kind ips ipd ttl port body++ [x])=4:=by
  unfold chk;rw [hw,List.length_append,hl,List.length_singleton,if_neg (by omega),if_neg (by omega),if_neg (by omega),if_pos (by omega)]
 unfold b9;rw [hc]
 rfl
theorem o9 {net tow dst src kind ips ipd ttl port:Int} {body:ByteArray} (hf:aM dst src kind ips ipd ttl port body.size=0):
  unw (bK net tow dst src kind ips ipd ttl port body)= .tuple #[.int .i64 net,.int .i64 tow,fr dst src kind ips ipd ttl port body,.int .i64 0]:=by
 obtain⟨hE,hV⟩:=uJ hf;have hx:bK net tow dst src kind ips ipd ttl port body=100::121::net/256::net%256::tow/256::tow%256::enc dst src kind ips ipd ttl port body:=by simp [bK,bA]
 generalize enc dst src kind ips ipd ttl port body=xs at*
 have hd:dyB (bK net tow dst src kind ips ipd ttl port body)=true:=by rw [hx];unfold dyB;simp only [List.take_succ_cons,List.take_zero];rw [ByteArray.toList_eq,strOfNums_data];decide
 have h6:(bK net tow dst src kind ips ipd ttl port body).drop 6=xs:=by rw [hx];rfl
 have hU:lH (bK net tow dst src kind ips ipd ttl port body)=0:=by
  unfold lH;rw [if_neg (by rw [hx];simp),if_pos hd,h6,hE]
 unfold unw;rw [if_pos hU,h6,hV,hx];have e1:wd (100::121::net/256::net%256::tow/256::tow%256::xs) 2=net:=by show net/256*256+net%256=net;omega
 have e2:wd (100::121::net/256::net%256::tow/256::tow%256::xs) 4=tow:=by show tow/256*256+tow%256=tow;omega
 rw [e1,e2]
theorem j2 (g:Nat) (p q x:Int) (w:World) (h0:w.cell? ⟨g,0,none⟩=some (.int .u8 p)) (h1:w.cell? ⟨g,1,none⟩=some (.int .u8 q)) (hx0:0≤x) (hx1:x≤65535):
  Calls Tryz.prog 200 #[.slice (some ⟨g,0,none⟩) 2 2,.int .i64 x] w fun e w'=>∃v',e= .returned v'∧w'.ownsRow w.heap.size 5 1 v' ([p,q]++bA x).length (U ([p,q]++bA x))∧Below w.heap.size w w':=by
 obtain⟨i0,hi,hz0,hz1,hz2⟩:=info_parts iT;have hlt:g<w.heap.size:=by
  rcases Nat.lt_or_ge g w.heap.size with h | h
  ·exact h
  ·simp [World.cell?,Array.getElem?_eq_none h]at h0
 have holds:∀o:Obj,∀j u,(U [p,q])[j]?=some u→(w.alloc o).cell? ((⟨g,0,none⟩:Addr).add j)=some u:=by
  intro o j u hj
  match j,hj with
  | 0,hj=>simp [U]at hj;subst hj;exact Lib.cell?_alloc_marked o (by simpa [Addr.add] using h0)
  | 1,hj=>simp [U]at hj;subst hj;exact Lib.cell?_alloc_marked o (by simpa [Addr.add] using h1)
 have HO:=aa holds;clear holds h0 h1
 go_enter Tryz.func200,Tryz.ntmps200
 go_wp2_with (at_builtin;refine wpList_append_grows _ rfl _ _ 214 rfl 5 i0 (.int .u8 0) 1 1 Tryz.underlying214 hi hz0 hz1 hz2 rfl (by decide) (some ⟨g,0,none⟩) 2 2 (U [p,q]) rfl ?n1 rfl ?n2 ⟨w.heap.size,0,none⟩ 2 2 (U (bA x)) rfl rfl ?n3 ?n4 ?n5 ?n6 ?n7 ?_)
 case n1=>simp
 case n2=>intro b hb;cases hb;exact ag HO _
 case n3=>
  intro j u hj
  match j,hj with
  | 0,hj=>simp [U,bA]at hj;subst hj;simp [Addr.add]
  | 1,hj=>simp [U,bA]at hj;subst hj;simp [Addr.add]
 case n4=>exact qK _
 case n5=>decide
 case n6=>decide
 case n7=>decide
 intro v' w1 hown' hgrow;have hbel:Below w.heap.size w w1:=((Below.refl _ w).alloc zr _).grown hgrow (by simp) (by simp)
 have hown2:w1.ownsRow w.heap.size 5 1 v' ([p,q]++bA x).length (U ([p,q]++bA x)):=aw (kd (xs:=[p,q]) hown' rfl) (by simp)
 clear hown' hgrow HO
 go_wp2
 go_ret
 exact⟨v',rfl,hown2,hbel⟩
theorem uG {w:World} {g:Nat} {xs:List Int} (h:∀i,i<xs.length→w.cell? ⟨g,0+i,none⟩=some (.int .u8 (xs.getD i 0))):∀j u,(U xs)[j]?=some u→w.cell? ((⟨g,0,none⟩:Addr).add j)=some u:=by
 intro j u hj;have hjl:j<xs.length:=by
  rcases Nat.lt_or_ge j xs.length with h | h
  ·exact h
  ·simp [U,List.getElem?_eq_none h]at hj
 have hp:(⟨g,0,none⟩:Addr).add j=⟨g,0+j,none⟩:=by unfold Addr.add;split <;>simp_all
 rw [hp,h j hjl]
 simp [U,List.getElem?_eq_getElem hjl]at hj
 subst hj
 simp [List.getD,List.getElem?_eq_getElem hjl]
theorem wv (net tow dst src kind ips ipd ttl port:Int) (body:ByteArray) (w:World) (hw:(au net&&au tow)=false):
  Calls Tryz.prog 177 #[.int .i64 net,.int .i64 tow,fr dst src kind ips ipd ttl port body] w fun e w'=>e= .returned (.tuple #[.slice none 0 0,.int .i64 2])∧Below w.heap.size w w':=by
 by_cases h1:au net=true
 ·have h2:au tow=false:=by simpa [h1] using hw
  clear hw
  go_enter Tryz.func177,Tryz.ntmps177
  go_wp2_with (go_at_call 128;refine(eA _ _).mono ?_;rintro e w' ⟨rfl,rfl⟩)
  go_ret2
  exact⟨rfl,(Below.refl _ _).alloc zr _⟩
 ·have h1':au net=false:=by simpa using h1
  clear hw h1
  go_enter Tryz.func177,Tryz.ntmps177
  go_wp2_with (go_at_call 128;refine(eA _ _).mono ?_;rintro e w' ⟨rfl,rfl⟩)
  go_ret2
  exact⟨rfl,(Below.refl _ _).alloc zr _⟩
theorem xh (net tow dst src kind ips ipd ttl port:Int) (body:ByteArray) (w:World) (h1:au net=true) (h2:au tow=true) (hb:body.size≤maxLen) (hf:aM dst src kind ips ipd ttl port body.size≠0):
  Calls Tryz.prog 177 #[.int .i64 net,.int .i64 tow,fr dst src kind ips ipd ttl port body] w fun e w'=>e= .returned (.tuple #[.slice none 0 0,.int .i64 (aM dst src kind ips ipd ttl port body.size)])∧Below w.heap.size w w':=by
 have hf':(aM dst src kind ips ipd ttl port body.size != 0)=true:=by simpa using hf
 go_enter Tryz.func177,Tryz.ntmps177
 go_wp2_with (go_at_call 128;refine(eA _ _).mono ?_;rintro e w' ⟨rfl,rfl⟩)
 refine(rn _ _ _ _ _ _ _ _ _ hb hf).mono ?_
 rintro e w1 ⟨rfl,hb1⟩
 go_wp2_with fail
 go_ret2
 exact⟨rfl,((Below.refl _ _).alloc zr _).trans (hb1.mono (by simp))⟩
theorem tJ (net tow dst src kind ips ipd ttl port:Int) (body:ByteArray) (w:World) (h1:au net=true) (h2:au tow=true) (hf:aM dst src kind ips ipd ttl port body.size=0):
  Calls Tryz.prog 177 #[.int .i64 net,.int .i64 tow,fr dst src kind ips ipd ttl port body] w fun e w'=>∃v,e= .returned (.tuple #[v,.int .i64 0])∧
   w'.ownsRow w.heap.size 5 1 v (bK net tow dst src kind ips ipd ttl port body).length (U (bK net tow dst src kind ips ipd ttl port body))∧Below w.heap.size w w':=by
 have hn:0≤net∧net≤65535:=by simpa [au] using h1
 have ht:0≤tow∧tow≤65535:=by simpa [au] using h2
 obtain⟨hn0,hn1⟩:=hn;obtain⟨ht0,ht1⟩:=ht;have hn40:=(dw hf).2.2.2.2.2.2.2;obtain⟨i0,hi,hz0,hz1,hz2⟩:=info_parts iT;have kc:=fun(w:World) (C:Array Value) (n c:Nat)=>Lib.run_convert_bytes_const (P:=Tryz.prog) w 214 5 C n c Tryz.underlying214 Tryz.underlying5
 have hlen:=eD dst src kind ips ipd ttl port body
 go_enter Tryz.func177,Tryz.ntmps177
 go_wp2_with (go_at_call 128;refine(eA _ _).mono ?_;rintro e w' ⟨rfl,rfl⟩)
 refine(pX _ _ _ _ _ _ _ _ _ hf).mono ?_
 rintro e w1 ⟨v1,rfl,ho1,hb1⟩;have HW:Hid (bK net tow dst src kind ips ipd ttl port body= [100,121]++bA net++bA tow++enc dst src kind ips ipd ttl port body):=rfl;generalize enc dst src kind ips ipd ttl port body=xs at*
 have hl1:16≤xs.length:=by omega
 have hl2:xs.length≤56:=by omega
 clear hlen hn40;obtain⟨g,cap,rfl,hg,_,hcell⟩:=jx ho1 (by omega)
 have hB1:w.heap.size+1≤w1.heap.size:=by have:=hb1.size;simpa using this
 have HC:=aa hcell;clear hcell ho1
 go_wp2_with fail
 refine(j2 w1.heap.size 100 121 net _ ?_ ?_ hn0 hn1).mono ?_
 ·rw [World.cell?_alloc_mark];rfl
 ·rw [World.cell?_alloc_mark];rfl
 rintro e w2 ⟨v2,rfl,ho2,hb2⟩;have hs2:w1.heap.size+1≤w2.heap.size:=by have:=hb2.size;simpa using this
 have hb2':Below (w1.heap.size+1) (w1.alloc (.cells #[.int .u8 100,.int .u8 121] 5 (2,3))) w2:=hb2.mono (by simp)
 have ho2':=aw ho2 (B':=w1.heap.size+1) (by simp)
 clear ho2 hb2
 go_wp2_with fail
 refine(bo (w1.heap.size+1) v2 _ tow _ ho2' ht0 ht1 (by simp [bA]) hs2).mono ?_
 rintro e w3 ⟨v3,rfl,ho3,hb3⟩;have hb3':=hb2'.trans hb3;have hs3:=Nat.le_trans hs2 hb3.size;have hb30:Below w1.heap.size w1 w3:=((Below.refl _ w1).alloc zr _).trans (hb3'.mono (by omega))
 have hc3:∀i,i<xs.length→w3.cell? ⟨g,0+i,none⟩=some (.int .u8 (xs.getD i 0)):=fun i hi=>(hb30.cell (p:=⟨g,0+i,none⟩) hg.2).trans (ag HC i hi)
 have HC3:=aa hc3;clear hb2' ho2' hb3 hc3 HC
 go_wp2_with (at_builtin;refine wpList_append_own _ rfl _ _ 214 rfl (w1.heap.size+1) 5 i0 (.int .u8 0) 1 1 Tryz.underlying214 hi hz0 hz1 hz2 rfl (by decide) _ _ _ rfl ho3 ⟨g,0,none⟩ xs.length cap (U xs) rfl ?m1 ?m2 ?m3 ?m4 ?m5 ?m6 ?_)
 case m1=>simp [s8]
 case m2=>exact uG (ag HC3)
 case m3=>exact qK _
 case m4=>simp [bA,maxLen];omega
 case m5=>simp [bA];omega
 case m6=>exact hs3
 intro v4 w4 ho4 hg4 _;have hb4:Below (w1.heap.size+1) w3 w4:=(Below.refl _ w3).grown hg4 hs3 (aF ho3);have ho4':=kd ho4 rfl;have hbel:Below w.heap.size w w4:=(((Below.refl w.heap.size w).alloc zr _).trans (hb1.mono (by simp))).trans ((hb30.mono (by omega)).trans (hb4.mono (by omega)))
 clear ho3 ho4 hg4 hb30 hb3' HC3 hb4
 go_wp2
 go_ret2
 refine⟨v4,rfl,?_,hbel⟩
 rw [HW.out]
 exact aw ho4' (by omega)
theorem pL (a:Option Addr) (len cap:Nat) (xs:List Int) (w:World) (hI:IsB w a len cap xs):
  Calls Tryz.prog 178 #[.slice a len cap] w fun e w'=>e= .returned (unw xs)∧Below w.heap.size w w':=by
 obtain⟨hl,hx,hm,hI⟩:=hI
 by_cases h6:len<6
 ·have HR:Hid (Ending.returned (unw xs)= .returned (.tuple #[.int .i64 0,.int .i64 0,cQ,.int .i64 5])):=by
   show _=_
   have hE:lH xs=5:=by unfold lH;rw [if_pos (by omega)]
   unfold unw;rw [hE];rfl
  clear hI
  go_enter Tryz.func178,Tryz.ntmps178
  go_wp2_with fail
  refine bodyPost_ret (v:=.tuple #[.int .i64 0,.int .i64 0,cQ,.int .i64 5]) ?_ rfl ⟨HR.out.symm,?_⟩
  ·simp [results,Tryz.results178,go_sem]
  ·exact(Below.refl _ _).alloc zr _
 ·obtain⟨b,off,rfl,hlc,hL⟩:∃b off,a=some ⟨b,off,none⟩∧len≤cap∧Lies w b off xs:=by
   rcases hI with h0 | h
   ·omega
   ·exact h
  clear hI;have hbw:=hL.lt (by omega)
  have hL0:∀o:Obj,Lies (w.alloc o) b off xs:=fun o=>hL.below ((Below.refl _ w).alloc zr o) hbw
  have hT:(xs.take 2).length=2:=by simp;omega
  have hcv:=fun(o:Obj) (c:Nat)=>rX b off c xs (by omega) (w.alloc o) (hL0 o)
  have k6:((6:Int))≤(len:Int):=by omega
  have k2:((2:Int))≤(cap:Int):=by omega
  by_cases hdy:dyB xs=true
  ·have hE:lH xs=b9 (xs.drop 6):=by unfold lH;rw [if_neg (by omega),if_pos hdy]
   have hU:unw xs=if b9 (xs.drop 6)=0 then .tuple #[.int .i64 (wd xs 2),.int .i64 (wd xs 4),fS (xs.drop 6),.int .i64 0]else .tuple #[.int .i64 0,.int .i64 0,cQ,.int .i64 (b9 (xs.drop 6))]:=by unfold unw;rw [hE]
   have HU:=aa hU;clear hU hE;have hdl:(xs.drop 6).length=len-6:=by simp;omega
   have HD:=aa (fun a' c' w' (h:IsB w' a' (len-6) c' (xs.drop 6))=>pj a' (len-6) c' (xs.drop 6) w' h)
   have HW:=aa (fun(w':World) (h:Lies w' b off xs) (i:Int) (h0:0≤i) (h1:i+1<len)=>fP b off len cap xs i w' hl hx hm hlc h h0 h1)
   have HI6:Hid (∀o:Obj,IsB (w.alloc o) (some ⟨b,off+6,none⟩) (len-6) (cap-6) (xs.drop 6)):=fun o=>
    ⟨hdl,hx.drop 6,by omega,.inr ⟨b,off+6,rfl,by omega,fun i hi=>by
     rw [show off+6+i=off+(6+i) by omega,hL0 o (6+i) (by omega)]
     simp⟩⟩
   have HI0:Hid (cap=6→∀(o:Obj) (a':Option Addr) (c':Nat),IsB (w.alloc o) a' (len-6) c' (xs.drop 6)):=fun hc o a' c'=>
    ⟨hdl,hx.drop 6,by omega,.inl (by omega)⟩
   unfold dyB at hdy;have HX:=aa hx;clear hx hdl hT;have hy0:cap=6→b9 (xs.drop 6)=5:=fun hc=>by
    have:xs.drop 6= []:=List.drop_eq_nil_of_le (by omega)
    rw [this];decide
   generalize xs.drop 6=ys at*
   obtain⟨d0,d1,d2,d3,d4,d5,d6,s,hV⟩:=lZ ys;rw [hV]at HD HU;clear hV
   by_cases n6:cap=6
   ·have hz:b9 ys≠0:=by rw [hy0 n6];decide
    obtain rfl:len=6:=by omega
    subst n6;have HI1:Hid (∀(o:Obj) (a':Option Addr) (c':Nat),IsB (w.alloc o) a' 0 c' ys):=HI0.out rfl;have HD1:Hid (∀a' c' w',IsB w' a' 0 c' ys→Calls Tryz.prog 201 #[.slice a' 0 c'] w' fun e w''=>e= .returned (.tuple #[fr d0 d1 d2 d3 d4 d5 d6 s,.int .i64 (b9 ys)])∧Below w'.heap.size w' w''):=HD
    clear hy0 HI0 HI6 HD
    go_enter Tryz.func178,Tryz.ntmps178
    go_wp2_with fail
    refine(ag HD1 _ _ _ (HI1.out _ _ _)).mono ?_
    rintro e w2 ⟨rfl,hb2⟩;have hz2:w.heap.size<w2.heap.size:=by have:=hb2.size;simp at this;omega
    have hz2':¬w.heap.size=w2.heap.size:=by omega
    have hb2':=hb2.mono (B':=w.heap.size+1) (by simp)
    obtain⟨hc2,hf2⟩:=dO hb2';have hbel:Below w.heap.size w w2:=((Below.refl _ w).alloc zr _).trans (hb2'.mono (by omega))
    have hs2:w.heap.size≤w2.heap.size:=by omega
    have HR:Hid (Ending.returned (unw xs)= .returned (.tuple #[.int .i64 0,.int .i64 0,cQ,.int .i64 (b9 ys)])):=by show _=_;rw [HU.out,if_neg hz]
    have hne:(b9 ys != 0)=true:=by simpa using hz
    clear HU hz hb2 hb2' HD1 HW HI1
    go_wp2_with fail
    refine bodyPost_ret (v:=.tuple #[.int .i64 0,.int .i64 0,cQ,.int .i64 (b9 ys)]) ?_ rfl ⟨HR.out.symm,?_⟩
    ·simp [results,Tryz.results178,go_sem,hc2,hz2]
    ·exact(dy hbel _ zr _ _ _ _ _ _ _ _).alloc (by simp;omega) _
   ·clear hy0
    go_enter Tryz.func178,Tryz.ntmps178
    go_wp2_with fail
    refine(ag HD _ _ _ (HI6.out _)).mono ?_
    rintro e w2 ⟨rfl,hb2⟩;have hz2:w.heap.size<w2.heap.size:=by have:=hb2.size;simp at this;omega
    have hz2':¬w.heap.size=w2.heap.size:=by omega
    have hb2':=hb2.mono (B':=w.heap.size+1) (by simp)
    obtain⟨hc2,hf2⟩:=dO hb2';have hbel:Below w.heap.size w w2:=((Below.refl _ w).alloc zr _).trans (hb2'.mono (by omega))
    have hs2:w.heap.size≤w2.heap.size:=by omega
    by_cases hz:b9 ys=0
    ·have HR:Hid (Ending.returned (unw xs)= .returned (.tuple #[.int .i64 (wd xs 2),.int .i64 (wd xs 4),fr d0 d1 d2 d3 d4 d5 d6 s,.int .i64 0])):=by show _=_;rw [HU.out,if_pos hz]
     have hL2:Lies w2 b off xs:=hL.below hbel hbw;clear HU hb2 hb2' HD HI6 HI0;have hbn:¬b=w.heap.size:=by omega
     have hbn2:¬b=w2.heap.size:=by omega
     have hbw2:b<w2.heap.size:=by omega
     have hz2'':¬w2.heap.size=w.heap.size:=by omega
     have k4:(4:Int)+1<(len:Int):=by omega
     have k3:(2:Int)+1<(len:Int):=by omega
     clear hcv hdy
     go_wp2_with fail
     go_region_held3 (fun w'=>Lies w' b off xs∧w'.cell? ⟨w2.heap.size,0,none⟩=some (Value.int .i64 d0)∧w'.cell? ⟨w2.heap.size,1,none⟩=some (Value.int .i64 d1)∧w'.cell? ⟨w2.heap.size,2,none⟩=some (Value.int .i64 d2)∧w'.cell? ⟨w2.heap.size,3,none⟩=some (Value.int .i64 d3)∧w'.cell? ⟨w2.heap.size,4,none⟩=some (Value.int .i64 d4)∧w'.cell? ⟨w2.heap.size,5,none⟩=some (Value.int .i64 d5)∧w'.cell? ⟨w2.heap.size,6,none⟩=some (Value.int .i64 d6)∧w'.cell? ⟨w2.heap.size,7,none⟩=some (Value.string s)) (first |(simp [*,lj,mi];done) |(simp [*,lj,kN];done) |(simp [*,jL,gp];done))
      (first |(go_at_call 202;refine(ag HW _ (by first | assumption |(simp [*];done)) _ (by omega) (by omega)).mono ?_;rintro e w' ⟨rfl,m,rfl⟩))
     go_wp2
     refine bodyPost_ret (v:=.tuple #[.int .i64 (wd xs 2),.int .i64 (wd xs 4),fr d0 d1 d2 d3 d4 d5 d6 s,.int .i64 0]) ?_ rfl ⟨HR.out.symm,?_⟩
     ·simp [results,Tryz.results178,go_sem,hc2,hz2]
     ·exact dy (below_drewN (hbel.alloc hs2 _) _) _ zr _ _ _ _ _ _ _ _
    ·have HR:Hid (Ending.returned (unw xs)= .returned (.tuple #[.int .i64 0,.int .i64 0,cQ,.int .i64 (b9 ys)])):=by show _=_;rw [HU.out,if_neg hz]
     have hne:(b9 ys != 0)=true:=by simpa using hz
     clear HU hz hb2 hb2' HD HW HI6 HI0
     go_wp2_with fail
     refine bodyPost_ret (v:=.tuple #[.int .i64 0,.int .i64 0,cQ,.int .i64 (b9 ys)]) ?_ rfl ⟨HR.out.symm,?_⟩
     ·simp [results,Tryz.results178,go_sem,hc2,hz2]
     ·exact(dy hbel _ zr _ _ _ _ _ _ _ _).alloc (by simp;omega) _
  ·have hdy':dyB xs=false:=by simpa using hdy
   have HR:Hid (Ending.returned (unw xs)= .returned (.tuple #[.int .i64 0,.int .i64 0,cQ,.int .i64 4])):=by
    show _=_
    have hE:lH xs=4:=by unfold lH;rw [if_neg (by omega),if_neg hdy]
    unfold unw;rw [hE];rfl
   unfold dyB at hdy';clear hdy
   go_enter Tryz.func178,Tryz.ntmps178
   go_wp2_with fail
   refine bodyPost_ret (v:=.tuple #[.int .i64 0,.int .i64 0,cQ,.int .i64 4]) ?_ rfl ⟨HR.out.symm,?_⟩
   ·simp [results,Tryz.results178,go_sem]
   ·exact(Below.refl _ _).alloc zr _
theorem uV {net tow dst src kind ips ipd ttl port:Int} {body:ByteArray} (hf:aM dst src kind ips ipd ttl port body.size=0) (h0:au net=true) (h2:au tow=true):Bs (bK net tow dst src kind ips ipd ttl port body):=by
 unfold bK;simp only [au,decide_eq_true_eq]at h0 h2
 refine(((?_:Bs [100,121]).append (ei _ h0.1 h0.2)).append (ei _ h2.1 h2.2)).append (vM hf)
 intro n h;simp at h;omega
theorem oU (net tow dst src kind ips ipd ttl port:Int) (body:ByteArray):(bK net tow dst src kind ips ipd ttl port body).length=22+body.size:=by
 unfold bK;simp [bA,eD];omega
theorem jC {dst src kind ips ipd ttl port:Int} {n:Nat} (h:aM dst src kind ips ipd ttl port n=0):n≤40∧(kind=1∨kind=2∨kind=3)∧(0≤ttl∧ttl≤255)∧(kind≠3→ttl=0∧port=0∧n=0)∧(au dst=true∧au src=true∧au ips=true∧au ipd=true∧au port=true):=by
 unfold aM at h
 split at h
 ·rename_i hk
  split at h
  ·rename_i hb
   split at h
   ·omega
   ·split at h
    ·omega
    ·rename_i h1 h2
     simp only [iZ,decide_eq_true_eq]at hk;simp only [dW,mt,Bool.and_eq_true,decide_eq_true_eq]at hb
     refine⟨by omega,by omega,by omega,fun h3=>?_,hb.1.1.1.1.1,hb.1.1.1.1.2,hb.1.1.1.2,hb.1.1.2,hb.1.2⟩
     have:jE ttl port n≠true:=fun h=>h2 ⟨h3,h⟩
     simp [jE]at this
     omega
  ·omega
 ·omega
theorem ga:(Tryz.prog.info? 37).map (·.size)=some 8:=by kernel_rfl
theorem fE:(Tryz.prog.info? 41).map (·.size)=some 11:=by kernel_rfl
theorem qo (g0 g1 g2 g3 g4 g5 g6 g7 g8 g9:Int) (body:ByteArray) (w:World) (hb:body.size≤maxLen) (hE:aM g1 g2 g3 g4 g5 g6 g7 body.size≠0):
  Calls Tryz.prog 141 #[pkt g0 g1 g2 g3 g4 g5 g6 g7 g8 g9 body] w fun e w'=>e= .returned (.tuple #[pkZ,.int .i64 (aM g1 g2 g3 g4 g5 g6 g7 body.size)])∧Below w.heap.size w w':=by
 have H1:=aa (fun W=>io g0 g1 g2 g3 g4 g5 g6 g7 g8 g9 body W hb)
 generalize aM g1 g2 g3 g4 g5 g6 g7 body.size=E at*
 have hEb:(E != 0)=true:=by simpa using hE
 obtain⟨W0,hW0⟩:∃W0,W0=(w.alloc (.cells #[.int .i64 g0,.int .i64 g1,.int .i64 g2,.int .i64 g3,.int .i64 g4,.int .i64 g5,.int .i64 g6,.int .i64 g7,.int .i64 g8,.int .i64 g9,.string body] 41)).alloc (.cells #[.int .i64 0,.int .i64 0,.int .i64 0,.int .i64 0,.int .i64 0,.int .i64 0,.int .i64 0,.int .i64 0,.int .i64 0,.int .i64 0,.string ⟨#[]⟩] 41):=⟨_,rfl⟩;have k0:Below w.heap.size w W0:=by rw [hW0];exact((Below.refl _ w).alloc zr _).alloc (by simp) _
 have R0:Box W0 (w.heap.size+1) [.int .i64 0,.int .i64 0,.int .i64 0,.int .i64 0,.int .i64 0,.int .i64 0,.int .i64 0,.int .i64 0,.int .i64 0,.int .i64 0,.string ⟨#[]⟩]:=by rw [hW0];simpa using Box.new (w.alloc (.cells #[.int .i64 g0,.int .i64 g1,.int .i64 g2,.int .i64 g3,.int .i64 g4,.int .i64 g5,.int .i64 g6,.int .i64 g7,.int .i64 g8,.int .i64 g9,.string body] 41)) [.int .i64 0,.int .i64 0,.int .i64 0,.int .i64 0,.int .i64 0,.int .i64 0,.int .i64 0,.int .i64 0,.int .i64 0,.int .i64 0,.string ⟨#[]⟩] 41
 have P0:Box W0 w.heap.size [.int .i64 g0,.int .i64 g1,.int .i64 g2,.int .i64 g3,.int .i64 g4,.int .i64 g5,.int .i64 g6,.int .i64 g7,.int .i64 g8,.int .i64 g9,.string body]:=by rw [hW0];exact(Box.new w [.int .i64 g0,.int .i64 g1,.int .i64 g2,.int .i64 g3,.int .i64 g4,.int .i64 g5,.int .i64 g6,.int .i64 g7,.int .i64 g8,.int .i64 g9,.string body] 41).alloc _
 have HR:=aa R0;have HP:=aa P0;clear R0 P0
 go_enter Tryz.func141,Tryz.ntmps141
 go_wp2_with fail
 rw [←hW0];clear hW0
 refine(ag H1 _).mono ?_
 rintro e w1 ⟨rfl,hb1⟩;replace HR:=aa (HR.out.below hb1);replace HP:=aa (HP.out.below hb1);replace k0:=k0.trans (hb1.mono k0.size);have l1:=HR.out.lt;clear hb1;rw [if_neg hE];have HR1:=aa (HR.out.alloc (.cells #[.int .i64 0,.int .i64 0,.int .i64 0,.int .i64 0,.int .i64 0,.int .i64 0,.int .i64 0,.string ⟨#[]⟩] 37))
 go_wp2_with (first |(refine wpList_store_mid rfl 41 (.tmp 2) (.tmp 16) rfl (w.heap.size+1) 0 _ rfl rfl (HR1.out.fit 11 rfl) fE (oV rfl) ?_))
 refine bodyPost_ret (v:=.tuple #[pkZ,.int .i64 E]) ?_ rfl ⟨rfl,bH _ (by omega) _ _ (k0.alloc k0.size _)⟩
 exact fQ (cs:=[.int .i64 0,.int .i64 0,.int .i64 0,.int .i64 0,.int .i64 0,.int .i64 0,.int .i64 0,.int .i64 0,.int .i64 0,.int .i64 0,.string ⟨#[]⟩]) Tryz.results141 rfl (HR1.out.set ([.int .i64 0,.int .i64 0,.int .i64 0,.int .i64 0,.int .i64 0,.int .i64 0,.int .i64 0,.int .i64 0,.int .i64 0,.int .i64 0,.string ⟨#[]⟩]:List Value) rfl).range Tryz.underlying41 rfl fE
theorem nW {g1 g2 g3 g4 g5 g6 g7 g8 g9:Int} {n:Nat} (hf:aM g1 g2 g3 g4 g5 g6 g7 n=0) (h8:au g8=true) (h9:au g9=true):pkE g1 g2 g3 g4 g5 g6 g7 n 0 g8 g9=0:=by
 unfold pkE;rw [if_pos hf];obtain⟨a,b,c,d,e1,e2,e3,e4,e5⟩:=jC hf;unfold bG;rw [if_pos,if_neg (by omega)]
 have hk:au g3=true:=by simp [au];omega
 have ht:au g6=true:=by simp [au];omega
 simp [e1,e2,e3,e4,e5,h8,h9,hk,ht]
 decide
theorem nO (g0 g1 g2 g3 g4 g5 g6 g7 g8 g9:Int) (body:ByteArray) (w:World) (hf:aM g1 g2 g3 g4 g5 g6 g7 body.size=0) (h8:au g8=true) (h9:au g9=true):
  Calls Tryz.prog 141 #[pkt g0 g1 g2 g3 g4 g5 g6 g7 g8 g9 body] w fun e w'=>e= .returned (.tuple #[pkt 0 g1 g2 g3 g4 g5 g6 g7 g8 g9 body,.int .i64 0])∧Below w.heap.size w w':=by
 have hb40:=(jC hf).1;have hb:body.size≤maxLen:=by unfold maxLen;omega
 have H1:Hid (∀W,Calls Tryz.prog 13 #[pkt g0 g1 g2 g3 g4 g5 g6 g7 g8 g9 body] W fun e w'=>e= .returned (.tuple #[fr g1 g2 g3 g4 g5 g6 g7 body,.int .i64 0])∧Below W.heap.size W w'):=fun W=>by
  have:=io g0 g1 g2 g3 g4 g5 g6 g7 g8 g9 body W hb
  rwa [if_pos hf,hf]at this
 have H2:=aa (fun W=>tJ g8 g9 g1 g2 g3 g4 g5 g6 g7 body W h8 h9 hf)
 have H3:Hid (∀a' c' W,IsB W a' (bK g8 g9 g1 g2 g3 g4 g5 g6 g7 body).length c' (bK g8 g9 g1 g2 g3 g4 g5 g6 g7 body)→Calls Tryz.prog 178 #[.slice a' (bK g8 g9 g1 g2 g3 g4 g5 g6 g7 body).length c'] W fun e w'=>e= .returned (.tuple #[.int .i64 g8,.int .i64 g9,fr g1 g2 g3 g4 g5 g6 g7 body,.int .i64 0])∧Below W.heap.size W w'):=fun a' c' W h=>by
  have:=pL a' _ c' _ W h
  rwa [o9 hf]at this
 have H4:Hid (∀W,Calls Tryz.prog 12 #[fr g1 g2 g3 g4 g5 g6 g7 body,.int .i64 0,.int .i64 g8,.int .i64 g9] W fun e w'=>e= .returned (.tuple #[pkt 0 g1 g2 g3 g4 g5 g6 g7 g8 g9 body,.int .i64 0])∧Below W.heap.size W w'):=fun W=>by
  have:=jO g1 g2 g3 g4 g5 g6 g7 body 0 g8 g9 W hb
  rwa [if_pos (nW hf h8 h9),nW hf h8 h9]at this
 have HBS:=aa (uV hf h8 h9);have hlen:(bK g8 g9 g1 g2 g3 g4 g5 g6 g7 body).length≤62:=by rw [oU];omega
 clear hf h8 h9 hb;generalize bK g8 g9 g1 g2 g3 g4 g5 g6 g7 body=ys at*
 obtain⟨W0,hW0⟩:∃W0,W0=(w.alloc (.cells #[.int .i64 g0,.int .i64 g1,.int .i64 g2,.int .i64 g3,.int .i64 g4,.int .i64 g5,.int .i64 g6,.int .i64 g7,.int .i64 g8,.int .i64 g9,.string body] 41)).alloc (.cells #[.int .i64 0,.int .i64 0,.int .i64 0,.int .i64 0,.int .i64 0,.int .i64 0,.int .i64 0,.int .i64 0,.int .i64 0,.int .i64 0,.string ⟨#[]⟩] 41):=⟨_,rfl⟩;have k0:Below w.heap.size w W0:=by rw [hW0];exact((Below.refl _ w).alloc zr _).alloc (by simp) _
 have R0:Box W0 (w.heap.size+1) [.int .i64 0,.int .i64 0,.int .i64 0,.int .i64 0,.int .i64 0,.int .i64 0,.int .i64 0,.int .i64 0,.int .i64 0,.int .i64 0,.string ⟨#[]⟩]:=by rw [hW0];simpa using Box.new (w.alloc (.cells #[.int .i64 g0,.int .i64 g1,.int .i64 g2,.int .i64 g3,.int .i64 g4,.int .i64 g5,.int .i64 g6,.int .i64 g7,.int .i64 g8,.int .i64 g9,.string body] 41)) [.int .i64 0,.int .i64 0,.int .i64 0,.int .i64 0,.int .i64 0,.int .i64 0,.int .i64 0,.int .i64 0,.int .i64 0,.int .i64 0,.string ⟨#[]⟩] 41
 have P0:Box W0 w.heap.size [.int .i64 g0,.int .i64 g1,.int .i64 g2,.int .i64 g3,.int .i64 g4,.int .i64 g5,.int .i64 g6,.int .i64 g7,.int .i64 g8,.int .i64 g9,.string body]:=by rw [hW0];exact(Box.new w [.int .i64 g0,.int .i64 g1,.int .i64 g2,.int .i64 g3,.int .i64 g4,.int .i64 g5,.int .i64 g6,.int .i64 g7,.int .i64 g8,.int .i64 g9,.string body] 41).alloc _
 have HR:=aa R0;have HP:=aa P0;clear R0 P0
 go_enter Tryz.func141,Tryz.ntmps141
 go_wp2_with fail
 rw [←hW0];clear hW0
 refine(ag H1 _).mono ?_
 rintro e w1 ⟨rfl,hb1⟩;replace HR:=aa (HR.out.below hb1);replace HP:=aa (HP.out.below hb1);replace k0:=k0.trans (hb1.mono k0.size);have l1:=HR.out.lt;clear hb1;obtain⟨W2,hW2⟩:∃W2,W2=w1.alloc (.cells #[.int .i64 g1,.int .i64 g2,.int .i64 g3,.int .i64 g4,.int .i64 g5,.int .i64 g6,.int .i64 g7,.string body] 37):=⟨_,rfl⟩;have hbN:Below w1.heap.size w1 W2:=by rw [hW2];exact(Below.refl _ _).alloc zr _
 have F2:Box W2 w1.heap.size [.int .i64 g1,.int .i64 g2,.int .i64 g3,.int .i64 g4,.int .i64 g5,.int .i64 g6,.int .i64 g7,.string body]:=by rw [hW2];exact Box.new w1 [.int .i64 g1,.int .i64 g2,.int .i64 g3,.int .i64 g4,.int .i64 g5,.int .i64 g6,.int .i64 g7,.string body] 37
 have HF:=aa F2;replace HR:=aa (HR.out.below hbN);replace HP:=aa (HP.out.below hbN);replace k0:=k0.trans (hbN.mono k0.size);have p8:=HP.out.cell 8 _ rfl;have p9:=HP.out.cell 9 _ rfl;have HW2:=aa hW2;clear F2 hbN hW2;have l2:=HF.out.lt
 go_wp2_with (first | rw [←HW2.out] |(refine wpList_load_mid rfl 37 (.tmp 4) rfl w1.heap.size 0 rfl _ _ HF.out.range Tryz.underlying37 rfl ga ?_))
 refine(ag H2 _).mono ?_
 rintro e w3 ⟨v3,rfl,ho3,hb3⟩;obtain⟨a3,c3,rfl,hI3⟩:=ug ho3 HBS.out (by omega)
 have HI:=aa hI3;replace HR:=aa (HR.out.below hb3);replace HF:=aa (HF.out.below hb3);replace k0:=k0.trans (hb3.mono k0.size);clear p8 p9 HP ho3 hI3 hb3 H2 HBS HW2
 go_wp2_with fail
 refine(ag H3 _ _ _ HI.out).mono ?_
 rintro e w4 ⟨rfl,hb4⟩;replace HR:=aa (HR.out.below hb4);replace HF:=aa (HF.out.below hb4);replace k0:=k0.trans (hb4.mono k0.size);obtain⟨W5,hW5⟩:∃W5,W5=w4.setCells w1.heap.size 0 [.int .i64 g1,.int .i64 g2,.int .i64 g3,.int .i64 g4,.int .i64 g5,.int .i64 g6,.int .i64 g7,.string body]:=⟨_,rfl⟩;have HR1:Hid (Box W5 (w.heap.size+1) [.int .i64 0,.int .i64 0,.int .i64 0,.int .i64 0,.int .i64 0,.int .i64 0,.int .i64 0,.int .i64 0,.int .i64 0,.int .i64 0,.string ⟨#[]⟩]):=by rw [hW5];exact aa (HR.out.set_far (by omega) 0 _)
 have HF1:Hid (Box W5 w1.heap.size [.int .i64 g1,.int .i64 g2,.int .i64 g3,.int .i64 g4,.int .i64 g5,.int .i64 g6,.int .i64 g7,.string body]):=by rw [hW5];exact aa (HF.out.set _ rfl)
 replace k0:Below w.heap.size w W5:=by rw [hW5];exact bH w1.heap.size (by omega) _ 0 k0
 have HW5:Hid (w4.setCells w1.heap.size 0 [.int .i64 g1,.int .i64 g2,.int .i64 g3,.int .i64 g4,.int .i64 g5,.int .i64 g6,.int .i64 g7,.string body]=W5):=hW5.symm;clear hb4 H3 HI HR hW5
 go_wp2_with (first |(refine wpList_store_mid rfl 37 (.tmp 4) (.tmp 38) rfl w1.heap.size 0 _ rfl rfl (HF.out.fit 8 rfl) ga (oV rfl) ?_;rw [show(#[.int .i64 g1,.int .i64 g2,.int .i64 g3,.int .i64 g4,.int .i64 g5,.int .i64 g6,.int .i64 g7,.string body]:Array Value).toList= [.int .i64 g1,.int .i64 g2,.int .i64 g3,.int .i64 g4,.int .i64 g5,.int .i64 g6,.int .i64 g7,.string body]from rfl,HW5.out]) |(refine wpList_load_mid rfl 37 (.tmp 4) rfl w1.heap.size 0 rfl _ _ HF1.out.range Tryz.underlying37 rfl ga ?_))
 refine(ag H4 _).mono ?_
 rintro e w5 ⟨rfl,hb5⟩;replace HR1:=aa (HR1.out.below hb5);replace k0:=k0.trans (hb5.mono k0.size);clear hb5 H4 HF HF1
 go_wp2_with (refine wpList_store_mid rfl 41 (.tmp 2) (.tmp 48) rfl (w.heap.size+1) 0 _ rfl rfl (HR1.out.fit 11 rfl) fE (oV rfl) ?_)
 refine bodyPost_ret (v:=.tuple #[pkt 0 g1 g2 g3 g4 g5 g6 g7 g8 g9 body,.int .i64 0]) ?_ rfl ⟨rfl,bH _ (by omega) _ _ k0⟩
 exact fQ (cs:=[.int .i64 0,.int .i64 g1,.int .i64 g2,.int .i64 g3,.int .i64 g4,.int .i64 g5,.int .i64 g6,.int .i64 g7,.int .i64 g8,.int .i64 g9,.string body]) Tryz.results141 rfl (HR1.out.set ([.int .i64 0,.int .i64 g1,.int .i64 g2,.int .i64 g3,.int .i64 g4,.int .i64 g5,.int .i64 g6,.int .i64 g7,.int .i64 g8,.int .i64 g9,.string body]:List Value) rfl).range Tryz.underlying41 rfl fE
def cX (fs:List Fl) (F:List Int) (n:Nat):Int:=if aV fs=0 then bG F n else aV fs
def ii (fs:List Fl) (F:List Int) (n:Nat):List Sn:=if cX fs F n=0 then ran fs F else []
theorem t6 {fs:List Fl} (h:aV fs=0):fs.length≤5000:=by
 rcases Nat.lt_or_ge 5000 fs.length with h' | h'
 ·unfold aV at h;rw [if_pos h']at h;omega
 ·exact h'
theorem oG (f0 f1 f2 f3 f4 f5 f6 f7 f8 f9:Int) (body:ByteArray) (v:Value) (fs:List Fl) (w:World) (hL:FsAt w v fs) (hb:body.size≤maxLen) (hm:fs.length≤140737488355328):
  Calls Tryz.prog 96 #[v,pkt f0 f1 f2 f3 f4 f5 f6 f7 f8 f9 body] w fun e w'=>∃u,e= .returned (.tuple #[u,.int .i64 (cX fs [f0,f1,f2,f3,f4,f5,f6,f7,f8,f9] body.size)])∧w'.ownsRow w.heap.size 145 13 u (ii fs [f0,f1,f2,f3,f4,f5,f6,f7,f8,f9] body.size).length (S body (ii fs [f0,f1,f2,f3,f4,f5,f6,f7,f8,f9] body.size))∧Below w.heap.size w w':=by
 by_cases hz:aV fs=0
 ·by_cases hp:bG [f0,f1,f2,f3,f4,f5,f6,f7,f8,f9] body.size=0
  ·have h1:cX fs [f0,f1,f2,f3,f4,f5,f6,f7,f8,f9] body.size=0:=by unfold cX;rw [if_pos hz];exact hp
   have h2:ii fs [f0,f1,f2,f3,f4,f5,f6,f7,f8,f9] body.size=ran fs [f0,f1,f2,f3,f4,f5,f6,f7,f8,f9]:=by unfold ii;rw [if_pos h1]
   rw [h1,h2]
   exact uN f0 f1 f2 f3 f4 f5 f6 f7 f8 f9 body v fs w hL hz hp (t6 hz)
  ·have h1:cX fs [f0,f1,f2,f3,f4,f5,f6,f7,f8,f9] body.size=bG [f0,f1,f2,f3,f4,f5,f6,f7,f8,f9] body.size:=by unfold cX;rw [if_pos hz]
   have h2:ii fs [f0,f1,f2,f3,f4,f5,f6,f7,f8,f9] body.size= []:=by unfold ii;rw [if_neg (by rw [h1];exact hp)]
   rw [h1,h2];have HL:=aa hL;have HZ:=aa hz;obtain⟨a,cap,rfl,hn,_⟩:=hL;have HC:=aa (fun W=>dQ f0 f1 f2 f3 f4 f5 f6 f7 f8 f9 body W hb)
   generalize bG [f0,f1,f2,f3,f4,f5,f6,f7,f8,f9] body.size=R at*
   clear h1 h2 hz
   go_enter Tryz.func96,Tryz.ntmps96
   go_wp2_with fail
   obtain⟨W0,hW0⟩:∃W0,W0=w.alloc (.cells #[.int .i64 f0,.int .i64 f1,.int .i64 f2,.int .i64 f3,.int .i64 f4,.int .i64 f5,.int .i64 f6,.int .i64 f7,.int .i64 f8,.int .i64 f9,.string body] 41):=⟨_,rfl⟩;have c0:W0.cell? ⟨w.heap.size,0,none⟩=some (.int .i64 f0):=by rw [hW0];simp
   have c1:W0.cell? ⟨w.heap.size,1,none⟩=some (.int .i64 f1):=by rw [hW0];simp
   have c2:W0.cell? ⟨w.heap.size,2,none⟩=some (.int .i64 f2):=by rw [hW0];simp
   have c3:W0.cell? ⟨w.heap.size,3,none⟩=some (.int .i64 f3):=by rw [hW0];simp
   have c4:W0.cell? ⟨w.heap.size,4,none⟩=some (.int .i64 f4):=by rw [hW0];simp
   have c5:W0.cell? ⟨w.heap.size,5,none⟩=some (.int .i64 f5):=by rw [hW0];simp
   have c6:W0.cell? ⟨w.heap.size,6,none⟩=some (.int .i64 f6):=by rw [hW0];simp
   have c7:W0.cell? ⟨w.heap.size,7,none⟩=some (.int .i64 f7):=by rw [hW0];simp
   have c8:W0.cell? ⟨w.heap.size,8,none⟩=some (.int .i64 f8):=by rw [hW0];simp
   have c9:W0.cell? ⟨w.heap.size,9,none⟩=some (.int .i64 f9):=by rw [hW0];simp
   have cb:W0.cell? ⟨w.heap.size,10,none⟩=some (.string body):=by rw [hW0];simp
   have hb0:Below w.heap.size w W0:=by rw [hW0];exact(Below.refl _ _).alloc zr _
   rw [←hW0];clear hW0
   refine(iu _ fs _ (HL.out.below hb0 zr) hm).mono ?_
   rintro e w1 ⟨rfl,hb1⟩;rw [HZ.out];replace c0:=ae c0 hb1 zr;replace c1:=ae c1 hb1 zr;replace c2:=ae c2 hb1 zr;replace c3:=ae c3 hb1 zr;replace c4:=ae c4 hb1 zr;replace c5:=ae c5 hb1 zr;replace c6:=ae c6 hb1 zr;replace c7:=ae c7 hb1 zr;replace c8:=ae c8 hb1 zr;replace c9:=ae c9 hb1 zr;replace cb:=ae cb hb1 zr
   go_wp2_with fail
   refine(ag HC _).mono ?_
   rintro e w2 ⟨rfl,hb2⟩;have hb02:=(hb0.trans (hb1.mono hb0.size)).trans (hb2.mono (Nat.le_trans hb0.size hb1.size));clear c0 c1 c2 c3 c4 c5 c6 c7 c8 c9 cb;have hne:(R != 0)=true:=by simpa using hp
   go_wp2_with fail
   go_ret2
   exact⟨_,rfl,World.ownsRow_nil _ _ _ _,hb02⟩
 ·have h1:cX fs [f0,f1,f2,f3,f4,f5,f6,f7,f8,f9] body.size=aV fs:=by unfold cX;rw [if_neg hz]
  have h2:ii fs [f0,f1,f2,f3,f4,f5,f6,f7,f8,f9] body.size= []:=by unfold ii;rw [if_neg (by rw [h1];exact hz)]
  rw [h1,h2];have HL:=aa hL;obtain⟨a,cap,rfl,hn,_⟩:=hL;clear h1 h2;have HC:=aa (fun W h=>iu (.slice a fs.length cap) fs W h hm)
  generalize aV fs=R at*
  have hA:Below w.heap.size w (w.alloc (.cells #[.int .i64 f0,.int .i64 f1,.int .i64 f2,.int .i64 f3,.int .i64 f4,.int .i64 f5,.int .i64 f6,.int .i64 f7,.int .i64 f8,.int .i64 f9,.string body] 41)):=(Below.refl _ _).alloc zr _
  go_enter Tryz.func96,Tryz.ntmps96
  go_wp2_with fail
  refine(ag HC _ (HL.out.below hA zr)).mono ?_
  rintro e w1 ⟨rfl,hb1⟩;have hne:(R != 0)=true:=by simpa using hz
  have hb01:=hA.trans (hb1.mono hA.size)
  go_wp2_with fail
  go_ret2
  exact⟨_,rfl,World.ownsRow_nil _ _ _ _,hb01⟩
theorem oN {fs:List Fl} (hz:aV fs=0) (s:St) (hF:WF s.F) (ht:s.t≤7):Ok s.t (s.out.length+100) (cT fs s):=by
 have key:∀ds:List Do,ds.length≤100→(∀k,k<ds.length→doB s.t ds k=true)→Ok s.t (s.out.length+100) (stepTo ⟨s.F,8,s.out⟩ ds ds.length):=fun ds h1 h2=>by
  have h:=Ok.stepTo (t:=s.t) (c:=s.out.length) (s:=⟨s.F,8,s.out⟩) (ds:=ds) ⟨hF,by simp;omega,by simp,by simp⟩ h2 ds.length zr
  exact⟨h.1,h.2.1,h.2.2.1,by have:=h.2.2.2;omega⟩
 unfold cT;have hbi:=cW fs s.F s.t fs.length
 rcases hbi with⟨hb,_⟩ |⟨i,hb,_,hi,hf,_⟩
 ·rw [hb]
  exact key [] (by simp) (fun k hk=>by simp at hk)
 ·have hd:gW fs (aS fs s.F s.t fs.length)=(fs.getD i fl0).ds:=by rw [hb];unfold gW;rw [if_neg (by omega),Int.toNat_natCast]
  have hk:=ki hz hi;have hft:(fs.getD i fl0).t=s.t:=by
   unfold bl at hf;simp only [Bool.and_eq_true,beq_iff_eq]at hf
   exact hf.1
  rw [hd]
  exact key _ hk.2.2.1 (by rw [←hft];exact hk.2.2.2.2.2.2.2.2)
theorem om {fs:List Fl} (hz:aV fs=0):∀(n:Nat) (s:St),WF s.F→(ed fs n s).out.length≤s.out.length+100*n
 | 0,s,_=>by simp [ed]
 | n+1,s,hF=>by
  unfold ed
  split
  ·omega
  ·have h:=oN hz s hF (by omega)
   have ih:=om hz n (cT fs s) h.1;have:=h.2.2.2
   omega
theorem sW (fs:List Fl) (F:List Int) (n:Nat) (h10:F.length=10):(ii fs F n).length≤1000000:=by
 unfold ii
 split
 ·rename_i h
  unfold cX at h
  split at h
  ·rename_i hz
   have:=om hz 8 ⟨F,0,[]⟩ (gR h10 (jq h).1);unfold ran
   simp at this
   omega
  ·rename_i hz;exact absurd h hz
 ·simp
def uL (s:Sn):Prop:=WF s.F∧(s.k=5∧au s.n=true∨s.k=6∧0≤s.n∧s.n≤5)
def OutOk (l:List Sn):Prop:=∀s∈l,uL s
theorem OutOk.step {t:Int} {s:St} {ds:List Do} {k:Nat} (hF:WF s.F) (h:OutOk s.out) (hd:doB t ds k=true):OutOk (step s (ds.getD k do0)).out:=by
 have hp:=jr hd;generalize ds.getD k do0=d at hp;simp only at hp;have hx:∀x,uL x→OutOk (s.out++ [x]):=fun x hx y hy=>by
  rcases List.mem_append.1 hy with hy | hy
  ·exact h y hy
  ·obtain rfl:y=x:=by simpa using hy
   exact hx
 rcases hp with⟨e,_⟩ |⟨e,_⟩ |⟨e,_⟩ |⟨e,_⟩ |⟨e,hn⟩ |⟨e,n0,n1⟩
 ·unfold Go.Proofs.YtncdininppehkaaGreat.step;simp [e];exact h
 ·unfold Go.Proofs.YtncdininppehkaaGreat.step;simp [e];exact h
 ·unfold Go.Proofs.YtncdininppehkaaGreat.step;simp [e];exact h
 ·unfold Go.Proofs.YtncdininppehkaaGreat.step;simp [e];exact h
 ·unfold Go.Proofs.YtncdininppehkaaGreat.step;simp only [e,true_or,if_true];exact hx _ ⟨hF,.inl ⟨rfl,hn⟩⟩
 ·unfold Go.Proofs.YtncdininppehkaaGreat.step;simp only [e,or_true,if_true];exact hx _ ⟨hF,.inr ⟨rfl,n0,n1⟩⟩
theorem OutOk.stepTo {t:Int} {c:Nat} {s:St} {ds:List Do} (hk:Ok t c s) (h:OutOk s.out) (hd:∀k,k<ds.length→doB t ds k=true):∀k,k≤ds.length→OutOk (stepTo s ds k).out
 | 0,_=>h
 | k+1,hkl=>OutOk.step (Ok.stepTo hk hd k (by omega)).1 (OutOk.stepTo hk h hd k (by omega)) (hd k (by omega))
theorem rR {fs:List Fl} (hz:aV fs=0) (s:St) (hF:WF s.F) (ht:s.t≤7) (h:OutOk s.out):OutOk (cT fs s).out:=by
 have key:∀ds:List Do,(∀k,k<ds.length→doB s.t ds k=true)→OutOk (Go.Proofs.YtncdininppehkaaGreat.stepTo ⟨s.F,8,s.out⟩ ds ds.length).out:=fun ds h2=>
  OutOk.stepTo (t:=s.t) (c:=s.out.length) (s:=⟨s.F,8,s.out⟩) (ds:=ds) ⟨hF,by simp;omega,by simp,by simp⟩ h h2 ds.length zr
 unfold cT
 rcases cW fs s.F s.t fs.length with⟨hb,_⟩ |⟨i,hb,_,hi,hf,_⟩
 ·rw [hb]
  exact key [] (fun k hk=>by simp at hk)
 ·have hd:gW fs (aS fs s.F s.t fs.length)=(fs.getD i fl0).ds:=by rw [hb];unfold gW;rw [if_neg (by omega),Int.toNat_natCast]
  have hk:=ki hz hi;have hft:(fs.getD i fl0).t=s.t:=by
   unfold bl at hf;simp only [Bool.and_eq_true,beq_iff_eq]at hf
   exact hf.1
  rw [hd]
  exact key _ (by rw [←hft];exact hk.2.2.2.2.2.2.2.2)
theorem oL {fs:List Fl} (hz:aV fs=0):∀(n:Nat) (s:St),WF s.F→OutOk s.out→OutOk (ed fs n s).out
 | 0,s,_,h=>h
 | n+1,s,hF,h=>by
  unfold ed
  split
  ·exact h
  ·exact oL hz n (cT fs s) (oN hz s hF (by omega)).1 (rR hz s hF (by omega) h)
theorem ne {fs:List Fl} {F:List Int} {n:Nat} (h10:F.length=10) (h:cX fs F n=0):OutOk (ran fs F)∧(ran fs F).length≤1000000:=by
 have hl:=sW fs F n h10;unfold ii at hl;rw [if_pos h]at hl
 refine⟨?_,hl⟩
 unfold cX at h
 split at h
 ·rename_i hz
  exact oL hz 8 ⟨F,0,[]⟩ (gR h10 (jq h).1) (fun s hs=>by cases hs)
 ·rename_i hz;exact absurd h hz
def KAt (w:World) (ks:List Value) (K:Nat→List Fl):Prop:=ks.length=6∧∀i,i<6→∀v,ks[i]?=some v→FsAt w v (K i)∧(K i).length≤140737488355328
theorem KAt.below {w w':World} {ks:List Value} {K:Nat→List Fl} (h:KAt w ks K) (hb:Below w.heap.size w w'):KAt w' ks K:=⟨h.1,fun i hi v hv=>⟨(h.2 i hi v hv).1.below hb zr,(h.2 i hi v hv).2⟩⟩
def fp (F:List Int):List Int:=[0,F.getD 1 0,F.getD 2 0,F.getD 3 0,F.getD 4 0,F.getD 5 0,F.getD 6 0,F.getD 7 0,F.getD 8 0,F.getD 9 0]
def kI (K:Nat→List Fl) (n:Nat) (s:Sn):Int:=
 if s.k=6 then(if ff s.F n=0 then(if cX (K s.n.toNat) (fp s.F) n=0 then atE n (ran (K s.n.toNat) (fp s.F))else cX (K s.n.toNat) (fp s.F) n)else ff s.F n)else atE n [s]
def lU (K:Nat→List Fl) (n:Nat) (s:Sn):List Ar:=
 if s.k=6 then(if ff s.F n=0 then(if cX (K s.n.toNat) (fp s.F) n=0 then atL n (ran (K s.n.toNat) (fp s.F))else [])else [])else atL n [s]
theorem six {l:List Value} (h:l.length=6):∃k0 k1 k2 k3 k4 k5,l= [k0,k1,k2,k3,k4,k5]:=by
 match l,h with
 | [a,b,c,d,e,f],_=>exact⟨a,b,c,d,e,f,rfl⟩
theorem pJ {l:List Value} {m:Nat} (h:l.length=6) (hm:m<6):∃v,l[m]?=some v:=⟨l[m],List.getElem?_eq_getElem (by omega)⟩
theorem et:(Tryz.prog.info? 106).map (·.size)=some 6:=by kernel_rfl
theorem oO (ks:List Value) (K:Nat→List Fl) (x:Sn) (body:ByteArray) (w:World) (hK:KAt w ks K) (hx:uL x) (hb:body.size≤maxLen):
  Calls Tryz.prog 97 #[.agg ks.toArray,.agg (snC body x).toArray] w fun e w'=>∃u,e= .returned (.tuple #[u,.int .i64 (kI K body.size x)])∧w'.ownsRow w.heap.size 56 9 u (lU K body.size x).length (AR body (lU K body.size x))∧Below w.heap.size w w':=by
 have HK:=aa hK;obtain⟨k0,k1,k2,k3,k4,k5,rfl⟩:=six hK.1;clear hK;have HXC:Hid (snC body x= [.int .i64 x.k,.int .i64 x.n,.int .i64 (x.F.getD 0 0),.int .i64 (x.F.getD 1 0),.int .i64 (x.F.getD 2 0),.int .i64 (x.F.getD 3 0),.int .i64 (x.F.getD 4 0),.int .i64 (x.F.getD 5 0),.int .i64 (x.F.getD 6 0),.int .i64 (x.F.getD 7 0),.int .i64 (x.F.getD 8 0),.int .i64 (x.F.getD 9 0),.string body]):=rfl;rw [HXC.out];have HAT:=aa (fun W B v (h:W.ownsRow B 145 13 v 1 (S body [x]))=>jJ v [x] body B W h hb (by simp))
 have HS1:Hid (S body [x]= [.int .i64 x.k,.int .i64 x.n,.int .i64 (x.F.getD 0 0),.int .i64 (x.F.getD 1 0),.int .i64 (x.F.getD 2 0),.int .i64 (x.F.getD 3 0),.int .i64 (x.F.getD 4 0),.int .i64 (x.F.getD 5 0),.int .i64 (x.F.getD 6 0),.int .i64 (x.F.getD 7 0),.int .i64 (x.F.getD 8 0),.int .i64 (x.F.getD 9 0),.string body]):=by rw [←HXC.out];simp [S,snC,Hid]
 rw [HS1.out]at HAT;have h8:au (x.F.getD 8 0)=true:=hx.1.2 8;have h9:au (x.F.getD 9 0)=true:=hx.1.2 9;have HT0:=aa (fun W=>qo (x.F.getD 0 0) (x.F.getD 1 0) (x.F.getD 2 0) (x.F.getD 3 0) (x.F.getD 4 0) (x.F.getD 5 0) (x.F.getD 6 0) (x.F.getD 7 0) (x.F.getD 8 0) (x.F.getD 9 0) body W hb)
 have HT1:=aa (fun W hf=>nO (x.F.getD 0 0) (x.F.getD 1 0) (x.F.getD 2 0) (x.F.getD 3 0) (x.F.getD 4 0) (x.F.getD 5 0) (x.F.getD 6 0) (x.F.getD 7 0) (x.F.getD 8 0) (x.F.getD 9 0) body W hf h8 h9)
 have HFF:Hid (ff x.F body.size=aM (x.F.getD 1 0) (x.F.getD 2 0) (x.F.getD 3 0) (x.F.getD 4 0) (x.F.getD 5 0) (x.F.getD 6 0) (x.F.getD 7 0) body.size):=rfl;have HTH:Hid (fp x.F= [0,x.F.getD 1 0,x.F.getD 2 0,x.F.getD 3 0,x.F.getD 4 0,x.F.getD 5 0,x.F.getD 6 0,x.F.getD 7 0,x.F.getD 8 0,x.F.getD 9 0]):=rfl;have HRN:=aa (fun W v (h:FsAt W v (K x.n.toNat)) (hl:(K x.n.toNat).length≤140737488355328)=>oG 0 (x.F.getD 1 0) (x.F.getD 2 0) (x.F.getD 3 0) (x.F.getD 4 0) (x.F.getD 5 0) (x.F.getD 6 0) (x.F.getD 7 0) (x.F.getD 8 0) (x.F.getD 9 0) body v (K x.n.toNat) W h hb hl)
 rw [←HTH.out]at HRN;have HRL:Hid (cX (K x.n.toNat) (fp x.F) body.size=0→ii (K x.n.toNat) (fp x.F) body.size=ran (K x.n.toNat) (fp x.F)):=fun h=>by unfold ii;rw [if_pos h]
 have HRO:Hid (cX (K x.n.toNat) (fp x.F) body.size=0→(ran (K x.n.toNat) (fp x.F)).length≤1000000):=fun h=>(ne (by simp [fp]) h).2
 have HCE:Hid (kI K body.size x=if x.k=6 then(if ff x.F body.size=0 then(if cX (K x.n.toNat) (fp x.F) body.size=0 then atE body.size (ran (K x.n.toNat) (fp x.F))else cX (K x.n.toNat) (fp x.F) body.size)else ff x.F body.size)else atE body.size [x]):=rfl
 have HCL:Hid (lU K body.size x=if x.k=6 then(if ff x.F body.size=0 then(if cX (K x.n.toNat) (fp x.F) body.size=0 then atL body.size (ran (K x.n.toNat) (fp x.F))else [])else [])else atL body.size [x]):=rfl
 rw [HFF.out]at HCE HCL;have h6:x.k=6→0≤x.n∧x.n≤5:=fun h=>by rcases hx.2 with⟨e,_⟩ |⟨_,h⟩;omega;exact h
 clear HXC HS1 HFF HTH h8 h9 hx;generalize x.F.getD 0 0=y0 at*
 generalize x.F.getD 1 0=y1 at*
 generalize x.F.getD 2 0=y2 at*
 generalize x.F.getD 3 0=y3 at*
 generalize x.F.getD 4 0=y4 at*
 generalize x.F.getD 5 0=y5 at*
 generalize x.F.getD 6 0=y6 at*
 generalize x.F.getD 7 0=y7 at*
 generalize x.F.getD 8 0=y8 at*
 generalize x.F.getD 9 0=y9 at*
 generalize hE:aM y1 y2 y3 y4 y5 y6 y7 body.size=E at*
 generalize x.k=xk at*
 generalize x.n=xn at*
 obtain⟨W0,hW0⟩:∃W0,W0=(w.alloc (.cells #[k0,k1,k2,k3,k4,k5] 106)).alloc (.cells #[.int .i64 xk,.int .i64 xn,.int .i64 y0,.int .i64 y1,.int .i64 y2,.int .i64 y3,.int .i64 y4,.int .i64 y5,.int .i64 y6,.int .i64 y7,.int .i64 y8,.int .i64 y9,.string body] 145):=⟨_,rfl⟩;have kb:Below w.heap.size w W0:=by rw [hW0];exact((Below.refl _ w).alloc zr _).alloc (by simp) _
 have B0:Box W0 w.heap.size [k0,k1,k2,k3,k4,k5]:=by rw [hW0];exact(Box.new w [k0,k1,k2,k3,k4,k5] 106).alloc _
 have S0:Box W0 (w.heap.size+1) [.int .i64 xk,.int .i64 xn,.int .i64 y0,.int .i64 y1,.int .i64 y2,.int .i64 y3,.int .i64 y4,.int .i64 y5,.int .i64 y6,.int .i64 y7,.int .i64 y8,.int .i64 y9,.string body]:=by rw [hW0];simpa using Box.new (w.alloc (.cells #[k0,k1,k2,k3,k4,k5] 106)) [.int .i64 xk,.int .i64 xn,.int .i64 y0,.int .i64 y1,.int .i64 y2,.int .i64 y3,.int .i64 y4,.int .i64 y5,.int .i64 y6,.int .i64 y7,.int .i64 y8,.int .i64 y9,.string body] 145
 have HKB:=aa B0;have HSB:=aa S0;clear B0 S0;replace HK:=aa (HK.out.below kb);have HW0:Hid ((w.alloc (.cells #[k0,k1,k2,k3,k4,k5] 106)).alloc (.cells #[.int .i64 xk,.int .i64 xn,.int .i64 y0,.int .i64 y1,.int .i64 y2,.int .i64 y3,.int .i64 y4,.int .i64 y5,.int .i64 y6,.int .i64 y7,.int .i64 y8,.int .i64 y9,.string body] 145)=W0):=hW0.symm;clear hW0;have c0:=HSB.out.cell 0 _ rfl;have c1:=HSB.out.cell 1 _ rfl
 go_enter Tryz.func97,Tryz.ntmps97
 by_cases hk6:xk=6
 ·subst hk6
  obtain⟨n0,n1⟩:=h6 rfl;rw [if_pos rfl]at HCE HCL;clear HAT
  skip
  have PKR:Hid (W0.rangeAt (w.heap.size+1) 2 [.int .i64 y0,.int .i64 y1,.int .i64 y2,.int .i64 y3,.int .i64 y4,.int .i64 y5,.int .i64 y6,.int .i64 y7,.int .i64 y8,.int .i64 y9,.string body]):=aa (fun j v hj=>by have:=HSB.out.range (2+j) v (by rw [Nat.add_comm];simpa using hj);simpa using this)
  go_wp2_with (first | rw [HW0.out] |(refine wpList_load_mid rfl 41 (.tmp 18) rfl (w.heap.size+1) 2 rfl _ _ PKR.out Tryz.underlying41 rfl fE ?_))
  by_cases hE0:E=0
  ·subst hE0
   rw [if_pos rfl]at HCE HCL
   refine(ag HT1 _ rfl).mono ?_
   rintro e w1 ⟨rfl,hb1⟩;replace HKB:=aa (HKB.out.below hb1);replace HSB:=aa (HSB.out.below hb1);replace HK:=aa (HK.out.below hb1);replace kb:=kb.trans (hb1.mono kb.size);clear hb1 HT0 HT1 PKR HW0 hE c0 c1;obtain⟨W2,hW2⟩:∃W2,W2=w1.alloc (.cells #[.int .i64 0,.int .i64 y1,.int .i64 y2,.int .i64 y3,.int .i64 y4,.int .i64 y5,.int .i64 y6,.int .i64 y7,.int .i64 y8,.int .i64 y9,.string body] 41):=⟨_,rfl⟩;have hbN:Below w1.heap.size w1 W2:=by rw [hW2];exact(Below.refl _ _).alloc zr _
   have HPB:Hid (Box W2 w1.heap.size [.int .i64 0,.int .i64 y1,.int .i64 y2,.int .i64 y3,.int .i64 y4,.int .i64 y5,.int .i64 y6,.int .i64 y7,.int .i64 y8,.int .i64 y9,.string body]):=by rw [hW2];exact aa (Box.new w1 [.int .i64 0,.int .i64 y1,.int .i64 y2,.int .i64 y3,.int .i64 y4,.int .i64 y5,.int .i64 y6,.int .i64 y7,.int .i64 y8,.int .i64 y9,.string body] 41)
   replace HKB:=aa (HKB.out.below hbN);replace HSB:=aa (HSB.out.below hbN);replace HK:=aa (HK.out.below hbN);replace kb:=kb.trans (hbN.mono kb.size);have HW2:=aa hW2.symm;clear hbN hW2;obtain⟨m,rfl⟩:=Int.eq_ofNat_of_zero_le n0;have hm6:m<6:=by omega
   simp only [Int.toNat_natCast]at HRN HRL HRO HCE HCL;obtain⟨kv,hkv⟩:=pJ HK.out.1 hm6;have HF:=aa (HK.out.2 m hm6 kv hkv).1;have HLN:=aa (HK.out.2 m hm6 kv hkv).2;have ck:=HKB.out.cell m kv hkv;have c1:=HSB.out.cell 1 _ rfl;obtain⟨fa,fc,rfl,_⟩:=id HF.out;have HKV:=aa hkv;clear hkv
   go_wp2_with (rw [HW2.out])
   clear HW2;have q0:(0:Int)≤(m:Int):=by omega
   have q6:(m:Int)<6:=by omega
   refine wp_region_held_drew (S:=(fun w'=>w'.cell? ⟨w.heap.size+1,1,none⟩=some (.int .i64 (m:Int))∧w'.cell? ⟨w.heap.size,m,none⟩=some (.slice fa (K m).length fc)∧w'.rangeAt w1.heap.size 0 [.int .i64 0,.int .i64 y1,.int .i64 y2,.int .i64 y3,.int .i64 y4,.int .i64 y5,.int .i64 y6,.int .i64 y7,.int .i64 y8,.int .i64 y9,.string body])) (by kernel_rfl) ⟨c1,ck,HPB.out.range⟩ (fun hHeld=>?_)
   refine tk (i:=0) (d:=27) rfl (by kernel_rfl) (fun _ _ _ h=>h) rfl ‹_› (by intro w h;(try dsimp only at h);go_simp <;>with_reducible rfl) ?_
   simp only [nz]
   refine tk (i:=1) (d:=28) rfl (by kernel_rfl) (fun _ _ _ h=>h) rfl ‹_› (by intro w h;(try dsimp only at h);go_simp <;>with_reducible rfl) ?_
   simp only [nz]
   refine tk (i:=2) (d:=29) rfl (by kernel_rfl) (fun _ _ _ h=>h) rfl ‹_› (by intro w h;(try dsimp only at h);go_simp <;>with_reducible rfl) ?_
   simp only [nz]
   refine tk (i:=3) (d:=30) rfl (by kernel_rfl) (fun _ _ _ h=>h) rfl ‹_› (by intro w h;(try dsimp only at h);go_simp <;>with_reducible rfl) ?_
   simp only [nz]
   refine wpAnyH_take (i:=4) (oi:=⟨some 31,_,_,_,_,_⟩) (v:=.agg #[.int .i64 0,.int .i64 y1,.int .i64 y2,.int .i64 y3,.int .i64 y4,.int .i64 y5,.int .i64 y6,.int .i64 y7,.int .i64 y8,.int .i64 y9,.string body]) rfl (by kernel_rfl) (by kernel_rfl) (by kernel_rfl) (fun _ _ _ h=>h) (yieldsIf_load_mid (by rfl) 41 (.tmp 6) rfl w1.heap.size 0 rfl [.int .i64 0,.int .i64 y1,.int .i64 y2,.int .i64 y3,.int .i64 y4,.int .i64 y5,.int .i64 y6,.int .i64 y7,.int .i64 y8,.int .i64 y9,.string body] _ (fun w h=>h.2.2) Tryz.underlying41 rfl fE) (by assumption) ?_
   (try simp only [nz])
   refine rd (i:=5) (o:=⟨some 32,_,_,_,_,_⟩) (by kernel_rfl) rfl (fun Kk hKk=>?_)
   go_simp
   have hbD:Below W2.heap.size W2 W2.drew:=(Below.refl _ _).drew
   refine(ag HRN W2.drew _ (HF.out.below hbD zr) HLN.out).mono ?_
   rintro e w3 ⟨v3,rfl,ho3,hb3⟩;have hb23:Below W2.heap.size W2 w3:=hbD.trans hb3;replace kb:=kb.trans (hb23.mono kb.size);have HO:=aa ho3
   go_wp2_with fail
   refine hKk.out _ _ ⟨zC c1 hb23,zC ck hb23,dI HPB.out.range hb23 HPB.out.lt⟩ (fun hHeld=>?_)
   clear hKk Kk ho3 hb3 hbD hb23 ck c1
   (try simp only [nz])
   refine tk (i:=6) (d:=26) rfl (by kernel_rfl) (fun _ _ _ h=>h) rfl ‹_› (by intro w h;(try dsimp only at h);go_simp <;>with_reducible rfl) ?_
   simp only [nz]
   refine tk (i:=7) (d:=33) rfl (by kernel_rfl) (fun _ _ _ h=>h) rfl ‹_› (by intro w h;(try dsimp only at h);go_simp <;>with_reducible rfl) ?_
   simp only [nz]
   refine tk (i:=8) (d:=34) rfl (by kernel_rfl) (fun _ _ _ h=>h) rfl ‹_› (by intro w h;(try dsimp only at h);go_simp <;>with_reducible rfl) ?_
   simp only [nz]
   refine tk (i:=9) (d:=8) rfl (by kernel_rfl) (fun _ _ _ h=>h) rfl ‹_› (by intro w h;(try dsimp only at h);go_simp <;>with_reducible rfl) ?_
   simp only [nz]
   refine tk (i:=10) (d:=7) rfl (by kernel_rfl) (fun _ _ _ h=>h) rfl ‹_› (by intro w h;(try dsimp only at h);go_simp <;>with_reducible rfl) ?_
   simp only [nz]
   refine wpAnyH_done (by kernel_rfl) ?_ _
   clear hHeld HRN;generalize hR:cX (K m) (fp x.F) body.size=R at*
   by_cases hR0:R=0
   ·subst hR0
    rw [HRL.out rfl]at HO;rw [if_pos rfl]at HCE HCL;have HLE:=aa (HRO.out rfl);obtain⟨oo,oc,rfl,_⟩:=em HO.out;clear hR HRL HRO
    go_wp2_with fail
    refine(jJ _ _ body _ _ HO.out hb HLE.out).mono ?_
    rintro e w4 ⟨u4,rfl,ho4,hb4⟩;have hlt:=kb.size;replace kb:=kb.trans (hb4.mono kb.size)
    go_wp2_with fail
    rw [HCE.out,HCL.out]
    go_ret2
    exact⟨u4,rfl,aw ho4 hlt,kb⟩
   ·have hRb:(R != 0)=true:=by simpa using hR0
    rw [if_neg hR0]at HCE HCL;obtain⟨oo,oc,rfl,_⟩:=em HO.out
    go_wp2_with fail
    rw [HCE.out,HCL.out]
    go_ret2
    exact⟨_,rfl,World.ownsRow_nil _ _ _ _,kb⟩
  ·rw [if_neg hE0]at HCE HCL
   have hEb:(E != 0)=true:=by simpa using hE0
   refine(ag HT0 _ hE0).mono ?_
   rintro e w1 ⟨rfl,hb1⟩;replace kb:=kb.trans (hb1.mono kb.size);clear hb1 HT0 HT1 PKR HW0 hE c0 c1
   go_wp2_with fail
   rw [HCE.out,HCL.out]
   go_ret2
   exact⟨_,rfl,World.ownsRow_nil _ _ _ _,kb.alloc kb.size _⟩
 ·have hkb:(xk != 6)=true:=by simpa using hk6
  rw [if_neg hk6]at HCE HCL;clear HT0 HT1 HRN HRL HRO;have HSR:Hid ((W0.alloc (.cells #[.int .i64 xk,.int .i64 xn,.int .i64 y0,.int .i64 y1,.int .i64 y2,.int .i64 y3,.int .i64 y4,.int .i64 y5,.int .i64 y6,.int .i64 y7,.int .i64 y8,.int .i64 y9,.string body] 145)).ownsRow w.heap.size 145 13 (.slice (some ⟨W0.heap.size,0,none⟩) 1 1) 1 [.int .i64 xk,.int .i64 xn,.int .i64 y0,.int .i64 y1,.int .i64 y2,.int .i64 y3,.int .i64 y4,.int .i64 y5,.int .i64 y6,.int .i64 y7,.int .i64 y8,.int .i64 y9,.string body]):=aa (World.ownsRow_lit W0 _ 1 kb.size (by decide) rfl)
  go_wp2_with (first | rw [HW0.out] |(refine wpList_load_mid rfl 145 (.tmp 3) rfl (w.heap.size+1) 0 rfl _ _ HSB.out.range Tryz.underlying145 rfl gf ?_))
  refine(ag HAT _ _ _ HSR.out).mono ?_
  rintro e w1 ⟨u1,rfl,ho1,hb1⟩;have kb1:=(kb.alloc kb.size _).trans (hb1.mono (kb.alloc kb.size _).size);have hlt:=(kb.alloc kb.size (.cells #[.int .i64 xk,.int .i64 xn,.int .i64 y0,.int .i64 y1,.int .i64 y2,.int .i64 y3,.int .i64 y4,.int .i64 y5,.int .i64 y6,.int .i64 y7,.int .i64 y8,.int .i64 y9,.string body] 145)).size
  go_wp2_with fail
  rw [HCE.out,HCL.out]
  go_ret2
  exact⟨u1,rfl,aw ho1 hlt,kb1⟩
theorem Box.set1 {w:World} {b:Nat} {cs:List Value} (h:Box w b cs) (j:Nat) (v:Value) (hj:j<cs.length):Box (w.setCell ⟨b,j,none⟩ v) b (cs.set j v):=by
 have e:w.setCell ⟨b,j,none⟩ v=w.setCells b j [v]:=rfl;rw [e]
 refine⟨⟨by rw [cP];exact h.1.1,fun i u hi=>?_⟩,fun i hi=>by rw [cR];exact h.2 i (by simpa using hi)⟩
 rw [Nat.zero_add]
 by_cases hij:i=j
 ·subst hij
  have:=World.rangeAt_setCells_same w b i [v] (fun k hk=>by
   obtain rfl:k=0:=by simp at hk;exact hk
   exact⟨by rw [Nat.add_zero,h.cell i _ (List.getElem?_eq_getElem hj)];rfl,by rw [Nat.add_zero];exact h.2 i hj⟩) 0 v rfl
  rw [List.getElem?_set_self hj]at hi
  cases hi
  simpa using this
 ·rw [World.cell?_setCells_out b [v] j w ⟨b,i,none⟩ (fun _ _=>by simp only [List.length_singleton];omega)]
  rw [List.getElem?_set_ne (Ne.symm hij)]at hi
  exact h.cell i u hi
theorem Box.set1_far {w:World} {b b':Nat} {cs:List Value} (h:Box w b cs) (hne:b≠b') (j:Nat) (v:Value):Box (w.setCell ⟨b',j,none⟩ v) b cs:=h.set_far hne j [v]
theorem tB {w:World} {ks:List Value} {K:Nat→List Fl} (h:KAt w ks K):ks.toArray.all (·.oneCell')=true:=oV (by
 rw [List.all_eq_true];intro v hv;obtain⟨i,hi,e⟩:=List.getElem_of_mem hv;obtain⟨a,c,rfl,_⟩:=(h.2 i (by have:=h.1;omega) v (by rw [List.getElem?_eq_getElem hi,e])).1
 rfl)
def I (l:List Int):List Value:=l.map (Value.int .i64)
theorem wK (l:List Int):(I l).length=l.length:=by simp [I]
theorem si (a b:List Int):I (a++b)=I a++I b:=by simp [I]
theorem xV (l:List Int):∀u∈I l,u.oneCell'=true:=fun u hu=>by
 simp only [I,List.mem_map]at hu;obtain⟨n,_,rfl⟩:=hu
 rfl
theorem xJ:(Tryz.prog.info? 3).map (fun i=>(i.zero,i.size,i.bytes))=some (some (.int .i64 0),1,8):=by kernel_rfl
def Two (w:World) (B gx cx:Nat) (lx:List Int) (gy cy:Nat) (ly:List Int):Prop:=
 w.ownsRow B 3 1 (.slice (some ⟨gx,0,none⟩) lx.length cx) lx.length (I lx)∧w.ownsRow B 3 1 (.slice (some ⟨gy,0,none⟩) ly.length cy) ly.length (I ly)∧gx≠gy
theorem eT {w:World} {B e size n cap g:Nat} {xs:List Value} (h:w.ownsRow B e size (.slice (some ⟨g,0,none⟩) n cap) n xs):B≤g∧g<w.heap.size:=by
 obtain⟨_,⟨h,_⟩ |⟨g',cap',cur,h,hB,hg,_⟩⟩:=h
 ·simp at h
 ·simp only [Value.slice.injEq,Option.some.injEq,Addr.mk.injEq,and_true]at h
  obtain⟨rfl,_⟩:=h
  exact⟨hB,lt_of_block hg⟩
theorem Two.swap {w:World} {B gx cx gy cy:Nat} {lx ly:List Int} (h:Two w B gx cx lx gy cy ly):Two w B gy cy ly gx cx lx:=⟨h.2.1,h.1,h.2.2.symm⟩
theorem Two.alloc {w:World} {B gx cx gy cy:Nat} {lx ly:List Int} (h:Two w B gx cx lx gy cy ly) (o:Obj):Two (w.alloc o) B gx cx lx gy cy ly:=⟨h.1.alloc o,h.2.1.alloc o,h.2.2⟩
theorem Two.drew {w:World} {B gx cx gy cy:Nat} {lx ly:List Int} (h:Two w B gx cx lx gy cy ly):Two w.drew B gx cx lx gy cy ly:=⟨h.1.drew,h.2.1.drew,h.2.2⟩
theorem Two.app {w w':World} {B gx cx gy cy g cap m:Nat} {lx ly news:List Int} (h:Two w B gx cx lx gy cy ly) (ho:w'.ownsRow B 3 1 (.slice (some ⟨g,0,none⟩) (lx.length+m) cap) (lx.length+m) (I lx++I news)) (hm:news.length=m)
  (hg:w.grownBy w' (Value.slice (some ⟨gx,0,none⟩) lx.length cx).ownBlock) (hl:(Value.slice (some ⟨gx,0,none⟩) lx.length cx).ownBlock=some g∨g=w.heap.size):Two w' B g cap (lx++news) gy cy ly:=by
 obtain⟨h1,h2,h3⟩:=h;have hy:=eT h2
 refine⟨?_,h2.kept hg ?_,?_⟩
 ·rw [si,List.length_append,hm];exact ho
 ·right
  simp [Value.ownBlock]
  exact fun e=>h3 e.symm
 ·rcases hl with hl | hl
  ·simp [Value.ownBlock]at hl
   rw [←hl];exact h3
  ·omega
theorem Two.cellx {w:World} {B gx cx gy cy:Nat} {lx ly:List Int} (h:Two w B gx cx lx gy cy ly) (k:Nat) (hk:k<lx.length):w.cell? ⟨gx,k,none⟩=some (.int .i64 (lx.getD k 0)):=by
 rw [h.1.cellAt k (by omega)]
 simp [I,List.getD,List.getElem?_eq_getElem hk]
theorem Two.capx {w:World} {B gx cx gy cy:Nat} {lx ly:List Int} (h:Two w B gx cx lx gy cy ly):lx.length≤cx:=by
 obtain⟨_,⟨h,_⟩ |⟨g',cap',cur,h,_,_,hc,_⟩⟩:=h.1
 ·simp at h
 ·simp only [Value.slice.injEq]at h
  omega
def fm (ms:List Mt):List Int:=ms.flatMap fun x=>[x.f,x.m,x.v]
def fd (ds:List Do):List Int:=ds.flatMap fun x=>[x.k,x.a,x.n]
theorem xq (ms:List Mt) (k:Nat) (h:k<ms.length):fm (ms.take (k+1))=fm (ms.take k)++ [(ms.getD k mt0).f,(ms.getD k mt0).m,(ms.getD k mt0).v]:=by
 unfold fm;rw [List.take_succ_eq_append_getElem h,List.flatMap_append];simp only [List.flatMap_cons,List.flatMap_nil,List.append_nil,List.getD,List.getElem?_eq_getElem h,Option.getD_some]
theorem xv (ds:List Do) (k:Nat) (h:k<ds.length):fd (ds.take (k+1))=fd (ds.take k)++ [(ds.getD k do0).k,(ds.getD k do0).a,(ds.getD k do0).n]:=by
 unfold fd;rw [List.take_succ_eq_append_getElem h,List.flatMap_append];simp only [List.flatMap_cons,List.flatMap_nil,List.append_nil,List.getD,List.getElem?_eq_getElem h,Option.getD_some]
theorem l0 (ms:List Mt):(fm ms).length=3*ms.length:=by
 induction ms with
 | nil=>rfl
 | cons x r ih=>simp [fm]at ih⊢;omega
theorem wi (ds:List Do):(fd ds).length=3*ds.length:=by
 induction ds with
 | nil=>rfl
 | cons x r ih=>simp [fd]at ih⊢;omega
def dz:List Int→List Int→Int
 | a::x,b::y=>if a<b then-1 else if b<a then 1 else dz x y
 | x,y=>(x.length:Int)-(y.length:Int)
theorem rl:∀(k:Nat) (x y:List Int),k<x.length→k<y.length→(∀j,j<k→x.getD j 0=y.getD j 0)→x.getD k 0≠y.getD k 0→dz x y=if x.getD k 0<y.getD k 0 then-1 else 1
 | 0,a::x,b::y,_,_,_,hn=>by
  simp at hn
  simp only [dz,List.getD_cons_zero]
  by_cases h:a<b
  ·rw [if_pos h,if_pos h]
  ·rw [if_neg h,if_neg h,if_pos (by omega)]
 | k+1,a::x,b::y,h1,h2,ha,hn=>by
  have h0:=ha 0 (by omega)
  simp at h0
  subst h0;simp only [dz,List.getD_cons_succ];rw [if_neg (by omega),if_neg (by omega)]
  exact rl k x y (by simpa using h1) (by simpa using h2) (fun j hj=>by simpa using ha (j+1) (by omega)) (by simpa using hn)
 | _,[],_,h1,_,_,_=>by simp at h1
 | _,_::_,[],_,h2,_,_=>by simp at h2
theorem tw:∀(k:Nat) (x y:List Int),k≤x.length→k≤y.length→(k=x.length∨k=y.length)→(∀j,j<k→x.getD j 0=y.getD j 0)→dz x y=(x.length:Int)-(y.length:Int)
 | 0,[],y,_,_,_,_=>by cases y <;>rfl
 | 0,a::x,[],_,_,_,_=>rfl
 | 0,a::x,b::y,_,_,h,_=>by simp at h
 | k+1,a::x,b::y,h1,h2,h,ha=>by
  have h0:=ha 0 (by omega)
  simp at h0
  subst h0;simp only [dz];rw [if_neg (by omega),if_neg (by omega),tw k x y (by simpa using h1) (by simpa using h2) (by simpa using h) (fun j hj=>by simpa using ha (j+1) (by omega))]
  simp;omega
 | k+1,[],_,h1,_,_,_=>by simp at h1
 | k+1,_::_,[],_,h2,_,_=>by simp at h2
def vV (a b:Fl):List Int:=[a.t,b.p,(a.ms.length:Int),(a.ds.length:Int)]++fm a.ms++fd a.ds
def plc (a b:Fl):Int:=dz (vV a b) ([b.t,a.p,(b.ms.length:Int),(b.ds.length:Int)]++fm b.ms++fd b.ds)
def M (l:List Mt):List Value:=l.flatMap fun x=>[.int .i64 x.f,.int .i64 x.m,.int .i64 x.v]
def D (l:List Do):List Value:=l.flatMap fun x=>[.int .i64 x.k,.int .i64 x.a,.int .i64 x.n]
theorem es:(Tryz.prog.info? 95).map (fun i=>(i.zero,i.size,i.bytes))=some (some (.agg #[.int .i64 0,.int .i64 0,.int .i64 0]),3,24):=by kernel_rfl
theorem eZ:(Tryz.prog.info? 98).map (fun i=>(i.zero,i.size,i.bytes))=some (some (.agg #[.int .i64 0,.int .i64 0,.int .i64 0]),3,24):=by kernel_rfl
theorem xP (ms:List Mt) (k:Nat) (h:k<ms.length):M (ms.take (k+1))=M (ms.take k)++ [.int .i64 (ms.getD k mt0).f,.int .i64 (ms.getD k mt0).m,.int .i64 (ms.getD k mt0).v]:=by
 unfold M;rw [List.take_succ_eq_append_getElem h,List.flatMap_append];simp only [List.flatMap_cons,List.flatMap_nil,List.append_nil,List.getD,List.getElem?_eq_getElem h,Option.getD_some]
theorem xN (ds:List Do) (k:Nat) (h:k<ds.length):D (ds.take (k+1))=D (ds.take k)++ [.int .i64 (ds.getD k do0).k,.int .i64 (ds.getD k do0).a,.int .i64 (ds.getD k do0).n]:=by
 unfold D;rw [List.take_succ_eq_append_getElem h,List.flatMap_append];simp only [List.flatMap_cons,List.flatMap_nil,List.append_nil,List.getD,List.getElem?_eq_getElem h,Option.getD_some]
theorem ui {w:World} {b o b' o':Nat} {v:Value} (h:b'≠b):(w.setCell ⟨b',o',none⟩ v).cell? ⟨b,o,none⟩=w.cell? ⟨b,o,none⟩:=World.cell?_setCell_other _ _ _ _ (fun e=>h (by simpa using congrArg Addr.block e))
theorem mN {w:World} {B e size n:Nat} {v:Value} {xs:List Value} (h:w.ownsRow B e size v n xs) {g:Nat} (hg:v.ownBlock=some g):g<w.heap.size:=by
 obtain⟨_,⟨rfl,_⟩ |⟨g',cap',cur,rfl,hB,hb,_⟩⟩:=h
 ·simp [Value.ownBlock]at hg
 ·simp [Value.ownBlock]at hg
  subst hg
  exact lt_of_block hb
theorem we {w:World} {B e size n:Nat} {v:Value} {xs:List Value} (h:w.ownsRow B e size v n xs):∃o m c,v= .slice o m c:=by
 obtain⟨_,⟨rfl,_⟩ |⟨g',cap',cur,rfl,_⟩⟩:=h
 ·exact⟨_,_,_,rfl⟩
 ·exact⟨_,_,_,rfl⟩
theorem xu {w:World} {B e size n H g:Nat} {u v:Value} {xs:List Value} (h:w.ownsRow B e size u n xs) (hs:u.ownBlock=none∨u.ownBlock≠v.ownBlock) (ha:v.ownBlock=some g∨g=H) (hH:w.heap.size≤H):u.ownBlock=none∨u.ownBlock≠some g:=by
 rcases hs with hs | hs
 ·exact .inl hs
 ·refine .inr fun e=>?_
  rcases ha with ha | ha
  ·exact hs (e.trans ha.symm)
  ·have:=mN h e
   omega
theorem wW (x y z:Int):∀u∈ [Value.int .i64 x,.int .i64 y,.int .i64 z],u.oneCell'=true:=by
 intro u hu
 simp at hu
 rcases hu with rfl | rfl | rfl <;>rfl
theorem MsAt.kept {w w':World} {v:Value} {ms:List Mt} {row:Option Nat} (h:MsAt w v ms) (hg:w.grownBy w' row) (hne:v.ownBlock=none∨v.ownBlock≠row):MsAt w' v ms:=by
 obtain⟨a,cap,rfl,hn,h0 |⟨b,off,rfl,hc,hL⟩⟩:=h
 ·exact⟨a,cap,rfl,hn,.inl h0⟩
 ·have hne':some b≠row:=by
   rcases hne with h | h
   ·simp [Value.ownBlock]at h
   ·simpa [Value.ownBlock] using h
  refine⟨_,cap,rfl,hn,.inr ⟨b,off,rfl,hc,fun i hi=>?_⟩⟩
  obtain⟨e0,e1,e2⟩:=hL i hi
  exact⟨(hg.cell_far _ (bn e0) hne').trans e0,(hg.cell_far _ (bn e1) hne').trans e1,(hg.cell_far _ (bn e2) hne').trans e2⟩
theorem DsAt.kept {w w':World} {v:Value} {ds:List Do} {row:Option Nat} (h:DsAt w v ds) (hg:w.grownBy w' row) (hne:v.ownBlock=none∨v.ownBlock≠row):DsAt w' v ds:=by
 obtain⟨a,cap,rfl,hn,h0 |⟨b,off,rfl,hc,hL⟩⟩:=h
 ·exact⟨a,cap,rfl,hn,.inl h0⟩
 ·have hne':some b≠row:=by
   rcases hne with h | h
   ·simp [Value.ownBlock]at h
   ·simpa [Value.ownBlock] using h
  refine⟨_,cap,rfl,hn,.inr ⟨b,off,rfl,hc,fun i hi=>?_⟩⟩
  obtain⟨e0,e1,e2⟩:=hL i hi
  exact⟨(hg.cell_far _ (bn e0) hne').trans e0,(hg.cell_far _ (bn e1) hne').trans e1,(hg.cell_far _ (bn e2) hne').trans e2⟩
theorem nK (l:List Mt):(M l).length=3*l.length:=by
 induction l with
 | nil=>rfl
 | cons x r ih=>simp [M]at ih⊢;omega
theorem vF:∀(l:List Mt) (i:Nat),i<l.length→(M l)[i*3]?=some (.int .i64 (l.getD i mt0).f)∧(M l)[i*3+1]?=some (.int .i64 (l.getD i mt0).m)∧(M l)[i*3+2]?=some (.int .i64 (l.getD i mt0).v)
 | [],i,h=>by simp at h
 | x::r,0,_=>⟨rfl,rfl,rfl⟩
 | x::r,i+1,h=>by
  have ih:=vF r i (by simpa using h)
  have e:∀j,(M (x::r))[(i+1)*3+j]?=(M r)[i*3+j]?:=fun j=>by
   have:(i+1)*3+j=i*3+j+3:=by omega
   rw [this];rfl
  refine⟨?_,?_,?_⟩
  ·have:=e 0;simp only [Nat.add_zero]at this;rw [this];simpa using ih.1
  ·rw [e 1];simpa using ih.2.1
  ·rw [e 2];simpa using ih.2.2
theorem vG:∀(l:List Do) (i:Nat),i<l.length→(D l)[i*3]?=some (.int .i64 (l.getD i do0).k)∧(D l)[i*3+1]?=some (.int .i64 (l.getD i do0).a)∧(D l)[i*3+2]?=some (.int .i64 (l.getD i do0).n)
 | [],i,h=>by simp at h
 | x::r,0,_=>⟨rfl,rfl,rfl⟩
 | x::r,i+1,h=>by
  have ih:=vG r i (by simpa using h)
  have e:∀j,(D (x::r))[(i+1)*3+j]?=(D r)[i*3+j]?:=fun j=>by
   have:(i+1)*3+j=i*3+j+3:=by omega
   rw [this];rfl
  refine⟨?_,?_,?_⟩
  ·have:=e 0;simp only [Nat.add_zero]at this;rw [this];simpa using ih.1
  ·rw [e 1];simpa using ih.2.1
  ·rw [e 2];simpa using ih.2.2
theorem MsAt.of_own {w:World} {B:Nat} {v:Value} {ms:List Mt} (h:w.ownsRow B 95 3 v ms.length (M ms)):MsAt w v ms:=by
 by_cases h0:ms.length=0
 ·obtain⟨_,⟨rfl,hn⟩ |⟨g,cap,cur,rfl,_⟩⟩:=h
  ·exact⟨none,0,by rw [h0],fun _=>rfl,.inl h0⟩
  ·exact⟨_,cap,rfl,by simp,.inl h0⟩
 ·obtain⟨g,cap,rfl,_,_⟩:=h.form (by omega)
  have hc:ms.length≤cap:=by
   obtain⟨_,⟨h,_⟩ |⟨g',cap',cur,h,_,_,hc,_⟩⟩:=h
   ·simp at h
   ·simp only [Value.slice.injEq]at h
    omega
  refine⟨_,cap,rfl,by simp,.inr ⟨g,0,rfl,hc,fun i hi=>?_⟩⟩
  obtain⟨e0,e1,e2⟩:=vF ms i hi;simp only [Nat.zero_add]
  exact⟨(h.cellAt _ (by omega)).trans e0,(h.cellAt _ (by omega)).trans e1,(h.cellAt _ (by omega)).trans e2⟩
theorem DsAt.of_own {w:World} {B:Nat} {v:Value} {ds:List Do} (h:w.ownsRow B 98 3 v ds.length (D ds)):DsAt w v ds:=by
 by_cases h0:ds.length=0
 ·obtain⟨_,⟨rfl,hn⟩ |⟨g,cap,cur,rfl,_⟩⟩:=h
  ·exact⟨none,0,by rw [h0],fun _=>rfl,.inl h0⟩
  ·exact⟨_,cap,rfl,by simp,.inl h0⟩
 ·obtain⟨g,cap,rfl,_,_⟩:=h.form (by omega)
  have hc:ds.length≤cap:=by
   obtain⟨_,⟨h,_⟩ |⟨g',cap',cur,h,_,_,hc,_⟩⟩:=h
   ·simp at h
   ·simp only [Value.slice.injEq]at h
    omega
  refine⟨_,cap,rfl,by simp,.inr ⟨g,0,rfl,hc,fun i hi=>?_⟩⟩
  obtain⟨e0,e1,e2⟩:=vG ds i hi;simp only [Nat.zero_add]
  exact⟨(h.cellAt _ (by omega)).trans e0,(h.cellAt _ (by omega)).trans e1,(h.cellAt _ (by omega)).trans e2⟩
def nx (f:Fl) (out:List Fl):Nat→List Fl×Bool
 | 0=>([],false)
 | k+1=>
  let d1:=(nx f out k).2|| (plc f (out.getD k fl0)==0)
  if plc f (out.getD k fl0)<0∧d1=false then((nx f out k).1++ [f,out.getD k fl0],true)else((nx f out k).1++ [out.getD k fl0],d1)
def oQ (f:Fl) (out:List Fl):List Fl:=if(nx f out out.length).2 then(nx f out out.length).1 else(nx f out out.length).1++ [f]
def srt (l:List Fl):Nat→List Fl
 | 0=>[]
 | k+1=>oQ (l.getD k fl0) (srt l k)
theorem mx (f:Fl) (out:List Fl):∀k,(nx f out k).1.length≤k+1∧((nx f out k).2=false→(nx f out k).1.length=k)
 | 0=>⟨by simp [nx],fun _=>by simp [nx]⟩
 | k+1=>by
  obtain⟨h1,h2⟩:=mx f out k;unfold nx;simp only
  split
  ·rename_i h
   have h3:(nx f out k).2=false:=by
    have:=h.2
    simp at this
    exact this.1
   exact⟨by simp [h2 h3],fun h=>by simp at h⟩
  ·refine⟨by simp;omega,fun h=>?_⟩
   simp at h
   simp [h2 h.1]
theorem nI (f:Fl) (out:List Fl):(oQ f out).length≤out.length+1:=by
 obtain⟨h1,h2⟩:=mx f out out.length;unfold oQ
 split
 ·exact h1
 ·rename_i h
  simp [h2 (by simpa using h)]
theorem fB (l:List Fl):∀k,(srt l k).length≤k
 | 0=>by simp [srt]
 | k+1=>by
  have:=fB l k;have:=nI (l.getD k fl0) (srt l k);unfold srt
  omega
structure Fv where
 f:Fl
 mv:Value
 dv:Value
def C (l:List Fv):List Value:=l.flatMap fun x=>[.int .i64 x.f.t,.int .i64 x.f.p,x.mv,x.dv]
def fv0:Fv:=⟨fl0,.slice none 0 0,.slice none 0 0⟩
theorem gi (a b:List Fv):C (a++b)=C a++C b:=by simp [C]
theorem uy:∀(l:List Fv) (i:Nat),i<l.length→(C l)[i*4]?=some (.int .i64 (l.getD i fv0).f.t)∧(C l)[i*4+1]?=some (.int .i64 (l.getD i fv0).f.p)∧(C l)[i*4+2]?=some (l.getD i fv0).mv∧(C l)[i*4+3]?=some (l.getD i fv0).dv
 | [],i,h=>by simp at h
 | x::r,0,_=>⟨rfl,rfl,rfl,rfl⟩
 | x::r,i+1,h=>by
  have ih:=uy r i (by simpa using h)
  have e:∀j,(C (x::r))[(i+1)*4+j]?=(C r)[i*4+j]?:=fun j=>by
   have:(i+1)*4+j=i*4+j+4:=by omega
   rw [this];rfl
  refine⟨?_,?_,?_,?_⟩
  ·have:=e 0;simp only [Nat.add_zero]at this;rw [this];simpa using ih.1
  ·rw [e 1];simpa using ih.2.1
  ·rw [e 2];simpa using ih.2.2.1
  ·rw [e 3];simpa using ih.2.2.2
def Apart (u v:Value):Prop:=u.ownBlock=none∨u.ownBlock≠v.ownBlock
def FvOk (w:World) (x:Fv):Prop:=MsAt w x.mv x.f.ms∧DsAt w x.dv x.f.ds∧(∀g,x.mv.ownBlock=some g→g<w.heap.size)∧(∀g,x.dv.ownBlock=some g→g<w.heap.size)
theorem FvOk.below {w w':World} {x:Fv} (h:FvOk w x) (hb:Below w.heap.size w w'):FvOk w' x:=
 ⟨h.1.below hb zr,h.2.1.below hb zr,fun g e=>Nat.lt_of_lt_of_le (h.2.2.1 g e) hb.size,fun g e=>Nat.lt_of_lt_of_le (h.2.2.2 g e) hb.size⟩
theorem FvOk.kept {w w':World} {x:Fv} {v:Value} (h:FvOk w x) (hg:w.grownBy w' v.ownBlock) (h1:Apart x.mv v) (h2:Apart x.dv v):FvOk w' x:=
 ⟨h.1.kept hg h1,h.2.1.kept hg h2,fun g e=>Nat.lt_of_lt_of_le (h.2.2.1 g e) hg.size,fun g e=>Nat.lt_of_lt_of_le (h.2.2.2 g e) hg.size⟩
theorem FvOk.slices {w:World} {x:Fv} (h:FvOk w x):(∃o c,x.mv= .slice o x.f.ms.length c)∧(∃o c,x.dv= .slice o x.f.ds.length c):=by
 obtain⟨⟨a,c,h1,_⟩,⟨a',c',h2,_⟩,_⟩:=h
 exact⟨⟨a,c,h1⟩,⟨a',c',h2⟩⟩
theorem FvOk.one {w:World} {x:Fv} (h:FvOk w x):∀u∈C [x],u.oneCell'=true:=by
 obtain⟨⟨o,c,h1⟩,⟨o',c',h2⟩⟩:=h.slices;intro u hu
 simp [C]at hu
 rcases hu with rfl | rfl | rfl | rfl
 ·rfl
 ·rfl
 ·rw [h1];rfl
 ·rw [h2];rfl
structure Rows2 (w:World) (B:Nat) (vo:Value) (lo:List Fv) (vn:Value) (ln:List Fv):Prop where
 out:w.ownsRow B 90 4 vo lo.length (C lo)
 next:w.ownsRow B 90 4 vn ln.length (C ln)
 two:Apart vo vn
 oks:∀x∈lo++ln,FvOk w x∧Apart x.mv vo∧Apart x.dv vo∧Apart x.mv vn∧Apart x.dv vn
theorem Rows2.below {w w':World} {B:Nat} {vo vn:Value} {lo ln:List Fv} (h:Rows2 w B vo lo vn ln) (hb:Below w.heap.size w w'):Rows2 w' B vo lo vn ln:=
 ⟨az h.out hb,az h.next hb,h.two,fun x hx=>⟨(h.oks x hx).1.below hb,(h.oks x hx).2⟩⟩
theorem Apart.app {w:World} {u v:Value} {g H n c:Nat} (h:Apart u v) (hu:∀g,u.ownBlock=some g→g<H) (ha:v.ownBlock=some g∨g=H):Apart u (.slice (some ⟨g,0,none⟩) n c):=by
 rcases h with h | h
 ·exact .inl h
 ·cases e:u.ownBlock with
  | none=>exact .inl e
  | some b=>
   refine .inr ?_
   rw [e];simp only [Value.ownBlock]
   rcases ha with ha | ha
   ·rw [ha,e]at h;exact h
   ·have:=hu b e
    simp;omega
theorem Rows2.app {w w':World} {B g cap H:Nat} {vo vn:Value} {lo ln:List Fv} {x:Fv} (h:Rows2 w B vo lo vn ln) (hx:FvOk w x) (x1:Apart x.mv vo) (x2:Apart x.dv vo) (x3:Apart x.mv vn) (x4:Apart x.dv vn)
  (ho:w'.ownsRow B 90 4 (.slice (some ⟨g,0,none⟩) (ln.length+1) cap) (ln.length+1) (C ln++C [x])) (hg:w.grownBy w' vn.ownBlock) (ha:vn.ownBlock=some g∨g=H) (hH:w.heap.size=H):
  Rows2 w' B vo lo (.slice (some ⟨g,0,none⟩) (ln.length+1) cap) (ln++ [x]):=by
 refine⟨h.out.kept hg h.two,?_,?_,?_⟩
 ·rw [gi,List.length_append];exact ho
 ·exact Apart.app (w:=w) h.two (fun g e=>hH ▸ mN h.out e) ha
 ·intro y hy
  have hy':(FvOk w y∧Apart y.mv vo∧Apart y.dv vo∧Apart y.mv vn∧Apart y.dv vn):=by
   simp only [List.mem_append,List.mem_singleton]at hy
   rcases hy with hy | hy | rfl
   ·exact h.oks y (by simp [hy])
   ·exact h.oks y (by simp [hy])
   ·exact⟨hx,x1,x2,x3,x4⟩
  obtain⟨k0,k1,k2,k3,k4⟩:=hy'
  exact⟨k0.kept hg k3 k4,k1,k2,Apart.app (w:=w) k3 (fun g e=>hH ▸ k0.2.2.1 g e) ha,Apart.app (w:=w) k4 (fun g e=>hH ▸ k0.2.2.2 g e) ha⟩
theorem ez:(Tryz.prog.info? 90).map (fun i=>(i.zero,i.size,i.bytes))=some (some (.agg #[.int .i64 0,.int .i64 0,.slice none 0 0,.slice none 0 0]),4,64):=by kernel_rfl
theorem je {w:World} {B e size n:Nat} {v:Value} {xs:List Value} (h:w.ownsRow B e size v n xs):∃o c,v= .slice o n c∧n≤c∧(0<n→∃g,o=some ⟨g,0,none⟩):=by
 obtain⟨_,⟨rfl,rfl⟩ |⟨g,cap,cur,rfl,_,_,hc,_⟩⟩:=h
 ·exact⟨none,0,rfl,Nat.le_refl _,fun h=>absurd h (by omega)⟩
 ·exact⟨_,cap,rfl,hc,fun _=>⟨g,rfl⟩⟩
theorem en (u:Value):Apart u (.slice none 0 0):=by
 unfold Apart
 cases u.ownBlock with
 | none=>exact .inl rfl
 | some g=>exact .inr (by simp [Value.ownBlock])
theorem ws (w:World) (B:Nat):Rows2 w B (.slice none 0 0) [] (.slice none 0 0) []:=
 ⟨⟨rfl,.inl ⟨rfl,rfl⟩⟩,⟨rfl,.inl ⟨rfl,rfl⟩⟩,en _,fun x hx=>by simp at hx⟩
theorem Rows2.shift {w:World} {B:Nat} {vo vn:Value} {lo ln:List Fv} (h:Rows2 w B vo lo vn ln):Rows2 w B vn ln (.slice none 0 0) []:=
 ⟨h.next,⟨rfl,.inl ⟨rfl,rfl⟩⟩,en _,fun x hx=>by
  have:=h.oks x (by simp at hx;simp [hx])
  exact⟨this.1,this.2.2.2.1,this.2.2.2.2,en _,en _⟩⟩
theorem wu {w:World} {B e size n:Nat} {u v:Value} {xs:List Value} (h:w.ownsRow B e size u n xs) (hv:∀g,v.ownBlock=some g→g<B):Apart u v:=by
 obtain⟨_,⟨rfl,_⟩ |⟨g,cap,cur,rfl,hB,_⟩⟩:=h
 ·exact .inl rfl
 ·refine .inr fun e=>?_
  have:=hv g (by rw [←e];rfl)
  omega
theorem xw {w:World} {B:Nat} {f:Fl} {mv dv:Value} (h1:w.ownsRow B 95 3 mv f.ms.length (M f.ms)) (h2:w.ownsRow B 98 3 dv f.ds.length (D f.ds)):FvOk w ⟨f,mv,dv⟩:=
 ⟨.of_own h1,.of_own h2,fun g e=>mN h1 e,fun g e=>mN h2 e⟩
theorem xX (w:World) (x:Fv):∀j u,(C [x])[j]?=some u→(w.alloc (.cells #[.int .i64 x.f.t,.int .i64 x.f.p,x.mv,x.dv] 90)).cell? ((⟨w.heap.size,0,none⟩:Addr).add j)=some u:=by
 intro j u hj
 match j,hj with
 | 0,hj=>simp [C]at hj;subst hj;simp [Addr.add]
 | 1,hj=>simp [C]at hj;subst hj;simp [Addr.add]
 | 2,hj=>simp [C]at hj;subst hj;simp [Addr.add]
 | 3,hj=>simp [C]at hj;subst hj;simp [Addr.add]
theorem tL (f:Fl) (out:List Fl):∀k,k≤out.length→∀x∈(nx f out k).1,x=f∨x∈out
 | 0,_,x,hx=>by simp [nx]at hx
 | k+1,hk,x,hx=>by
  have ho:out.getD k fl0∈out:=by
   rw [List.getD_eq_getElem?_getD,List.getElem?_eq_getElem (by omega:k<out.length)]
   exact List.getElem_mem _
  have ih:=tL f out k (by omega) x
  unfold nx at hx;simp only at hx
  split at hx
  ·simp only [List.mem_append,List.mem_cons,List.not_mem_nil,or_false]at hx
   rcases hx with hx | rfl | rfl
   ·exact ih hx
   ·exact .inl rfl
   ·exact .inr ho
  ·simp only [List.mem_append,List.mem_cons,List.not_mem_nil,or_false]at hx
   rcases hx with hx | rfl
   ·exact ih hx
   ·exact .inr ho
theorem qU (l:List Fl):∀k,k≤l.length→∀x∈srt l k,x∈l
 | 0,_,x,hx=>by simp [srt]at hx
 | k+1,hk,x,hx=>by
  have hf:l.getD k fl0∈l:=by
   rw [List.getD_eq_getElem?_getD,List.getElem?_eq_getElem (by omega:k<l.length)]
   exact List.getElem_mem _
  have ih:=qU l k (by omega) x
  have hm:=tL (l.getD k fl0) (srt l k) (srt l k).length zr x;unfold srt oQ at hx
  split at hx
  ·rcases hm hx with rfl | h
   ·exact hf
   ·exact ih h
  ·simp only [List.mem_append,List.mem_singleton]at hx
   rcases hx with hx | rfl
   ·rcases hm hx with rfl | h
    ·exact hf
    ·exact ih h
   ·exact hf
theorem aj (w:World) (o:Obj):Below w.heap.size w (w.alloc o):=(Below.refl _ _).alloc zr _
theorem bk (f v:Int) (w:World):Calls Tryz.prog 55 #[.int .i64 f,.int .i64 v] w fun e w'=>e= .returned (.agg #[.int .i64 f,.int .i64 65535,.int .i64 v])∧Below w.heap.size w w':=by
 go_enter Tryz.func55,Tryz.ntmps55
 go_wp2
 refine bodyPost_ret (v:=.agg #[.int .i64 f,.int .i64 65535,.int .i64 v]) ?_ rfl ⟨rfl,aj _ _⟩
 simp [results,Tryz.results55,go_sem]
theorem aQ (k a n:Int) (w:World):Calls Tryz.prog 58 #[.int .i64 k,.int .i64 a,.int .i64 n] w fun e w'=>e= .returned (.agg #[.int .i64 k,.int .i64 a,.int .i64 n])∧Below w.heap.size w w':=by
 go_enter Tryz.func58,Tryz.ntmps58
 go_wp2
 refine bodyPost_ret (v:=.agg #[.int .i64 k,.int .i64 a,.int .i64 n]) ?_ rfl ⟨rfl,aj _ _⟩
 simp [results,Tryz.results58,go_sem]
theorem ax (t p:Int) (ma da:Option Addr) (ml mc dl dc:Nat) (w:World):Calls Tryz.prog 56 #[.int .i64 t,.int .i64 p,.slice ma ml mc,.slice da dl dc] w fun e w'=>e= .returned (.agg #[.int .i64 t,.int .i64 p,.slice ma ml mc,.slice da dl dc])∧Below w.heap.size w w':=by
 go_enter Tryz.func56,Tryz.ntmps56
 go_wp2
 refine bodyPost_ret (v:=.agg #[.int .i64 t,.int .i64 p,.slice ma ml mc,.slice da dl dc]) ?_ rfl ⟨rfl,aj _ _⟩
 simp [results,Tryz.results56,go_sem]
theorem fT (n:Int) (w:World) (h0:0≤n) (h1:n≤100000):Calls Tryz.prog 119 #[.int .i64 n] w fun e w'=>e= .returned (.int .i64 (60000+n))∧w'=w:=by
 go_enter Tryz.func119,Tryz.ntmps119
 go_wp2
 go_ret
 exact⟨by go_num,rfl⟩
theorem nT (b:Int) (h0:0≤b) (h1:b≤16):1≤(2:Int) ^ (16-b).toNat∧(2:Int) ^ (16-b).toNat≤65536:=by
 obtain⟨n,rfl⟩:=Int.eq_ofNat_of_zero_le h0;have:n=0∨n=1∨n=2∨n=3∨n=4∨n=5∨n=6∨n=7∨n=8∨n=9∨n=10∨n=11∨n=12∨n=13∨n=14∨n=15∨n=16:=by omega
 rcases this with rfl | rfl | rfl | rfl | rfl | rfl | rfl | rfl | rfl | rfl | rfl | rfl | rfl | rfl | rfl | rfl | rfl <;>decide
theorem uD (b:Int) (h0:0≤b) (h1:b≤16):bits .andNot .i64 65535 (2 ^ (16-b).toNat-1)=65536-2 ^ (16-b).toNat:=by
 obtain⟨n,rfl⟩:=Int.eq_ofNat_of_zero_le h0;have:n=0∨n=1∨n=2∨n=3∨n=4∨n=5∨n=6∨n=7∨n=8∨n=9∨n=10∨n=11∨n=12∨n=13∨n=14∨n=15∨n=16:=by omega
 rcases this with rfl | rfl | rfl | rfl | rfl | rfl | rfl | rfl | rfl | rfl | rfl | rfl | rfl | rfl | rfl | rfl | rfl <;>decide
theorem jH (f v b:Int) (w:World) (h0:0≤b) (h1:b≤16):Calls Tryz.prog 158 #[.int .i64 f,.int .i64 v,.int .i64 b] w fun e w'=>e= .returned (.agg #[.int .i64 f,.int .i64 (65536-2 ^ (16-b).toNat),.int .i64 v])∧Below w.heap.size w w':=by
 go_enter Tryz.func158,Tryz.ntmps158
 go_wp2
 have e1:wrap64 (2 ^ (16-b).toNat)=2 ^ (16-b).toNat:=by
  have hx:=nT b h0 h1;generalize (2:Int) ^ (16-b).toNat=x at hx⊢;unfold wrap64;omega
 have e2:wrap64 (2 ^ (16-b).toNat-1)=2 ^ (16-b).toNat-1:=by
  have hx:=nT b h0 h1;generalize (2:Int) ^ (16-b).toNat=x at hx⊢;unfold wrap64;omega
 rw [e1,e2,uD b h0 h1]
 refine bodyPost_ret (v:=.agg #[.int .i64 f,.int .i64 (65536-2 ^ (16-b).toNat),.int .i64 v]) ?_ rfl ⟨rfl,aj _ _⟩
 simp [results,Tryz.results158,go_sem]
theorem bP (w:World):Calls Tryz.prog 57 #[] w fun e w'=>∃u,e= .returned u∧w'.ownsRow w.heap.size 95 3 u 2 (M bp)∧Below w.heap.size w w':=by
 go_enter Tryz.func57,Tryz.ntmps57
 go_wp2_with fail
 refine(bk _ _ _).mono ?_
 rintro e w1 ⟨rfl,hb1⟩
 go_wp2_with fail
 go_ret
 exact⟨_,rfl,World.ownsRow_lit _ _ _ hb1.size (by decide) rfl,hb1.alloc hb1.size _⟩
theorem gv {α:Type} (p:α→Bool) (d:α) {l:List α} {k:Nat} (h:k<l.length):(l.take (k+1)).filter p=(l.take k).filter p++(if p (l.getD k d)then [l.getD k d]else []):=by
 rw [List.take_succ_eq_append_getElem h,List.filter_append];have e:l.getD k d=l[k]:=by simp [List.getD,List.getElem?_eq_getElem h]
 rw [e]
 by_cases hp:p l[k]=true
 ·simp [hp]
 ·simp [hp]
theorem dM (W:World) (cs:List Value) (t:TypeId):∀j u,cs[j]?=some u→(W.alloc (.cells cs.toArray t)).cell? ((⟨W.heap.size,0,none⟩:Addr).add j)=some u:=fun j u h=>by
 rw [sL,Nat.zero_add]
 exact ak W _ rfl _ _ _ _ (by simpa using h)
def bm (f:Nat):Prop:=∀args W,Sem.run Tryz.prog (callFunc f args) W= .ok (.enter f args) W
def PicksPr (w:World) (f:Nat) (cs:Array Value) (p:Pr→Bool):Prop:=∀(W:World) (x:Pr),Below w.heap.size w W→Calls Tryz.prog f (#[.agg #[.int .i64 x.i,.int .i64 x.s,.int .i64 x.m,.int .i64 x.p,.int .i64 x.c]]++cs) W fun e w'=>e= .returned (.bool (p x))∧Below W.heap.size W w'
theorem cJ (l:List Pr) (p:Pr→Bool) (v:Value) (f:Nat) (cs:Array Value) (w:World) (hF:dH w v l) (hT:PicksPr w f cs p) (hE:bm f) (hl:l.length≤1000):
  Calls Tryz.prog 25 #[v,.func (.func f) #[] cs] w fun e w'=>∃u,e= .returned u∧w'.ownsRow w.heap.size 71 5 u (l.filter p).length ((l.filter p).flatMap prC)∧Below w.heap.size w w':=by
 obtain⟨i0,hi,hz0,hz1,hz2⟩:=info_parts vD;have HF:=aa hF;have HT:=aa hT;have HEN:=aa hE;obtain⟨a,cap,rfl⟩:=hF.slice;clear hF hT hE
 go_enter Tryz.func25,Tryz.ntmps25
 go_wp2_with fail
 go_loopw [5,10] (fun u i wr=>∃k:Nat,k≤l.length∧i= .int .i64 k∧Hid (wr.ownsRow w.heap.size 71 5 u ((l.take k).filter p).length (((l.take k).filter p).flatMap prC))∧Below w.heap.size w wr) (fun _ i _=>l.length-(intOf i).toNat)
 case atStart=>exact⟨0,by omega,rfl,aa (by simpa using World.ownsRow_nil w w.heap.size 71 5),Below.refl _ _⟩
 case round=>
  obtain⟨k,hk,rfl,HO,hbr⟩:=hrel
  by_cases hlt:k<l.length
  ·obtain⟨b,off,cap',e1,hcap, -,g0,g1,g2,g3,g4⟩:=fX (RowAt.below HF.out hbr zr) hlt
   simp only [Value.slice.injEq,true_and]at e1;obtain⟨rfl,rfl⟩:=e1;have HST:Hid (∀W:World,Below w.heap.size w W→Calls Tryz.prog f (#[.agg #[.int .i64 (l.getD k pr0).i,.int .i64 (l.getD k pr0).s,.int .i64 (l.getD k pr0).m,.int .i64 (l.getD k pr0).p,.int .i64 (l.getD k pr0).c]]++cs) W fun e w'=>e= .returned (.bool (p (l.getD k pr0)))∧Below W.heap.size W w'):=fun W hW=>HT.out W _ hW
   have HN:=aa (gv p pr0 hlt);have HC:Hid (prC (l.getD k pr0)= [.int .i64 (l.getD k pr0).i,.int .i64 (l.getD k pr0).s,.int .i64 (l.getD k pr0).m,.int .i64 (l.getD k pr0).p,.int .i64 (l.getD k pr0).c]):=rfl;have hlen:((l.take k).filter p).length≤k:=Nat.le_trans (List.length_filter_le _ _) (by rw [List.length_take];omega)
   obtain⟨o,c,rfl⟩:=aD HO.out;obtain⟨N,hN⟩:∃N,N=((l.take k).filter p).length:=⟨_,rfl⟩;rw [←hN]at HO hlen⊢;have HNN:=aa hN;clear hN;generalize hR:p (l.getD k pr0)=R at*
   have HR:=aa hR;clear hR;generalize (l.getD k pr0).i=y0 at*
   generalize (l.getD k pr0).s=y1 at*
   generalize (l.getD k pr0).m=y2 at*
   generalize (l.getD k pr0).p=y3 at*
   generalize (l.getD k pr0).c=y4 at*
   have q1:(0:Int)≤(k:Int):=by omega
   have q2:(k:Int)<(l.length:Int):=by omega
   obtain⟨W1,hW1⟩:∃W1,W1=wr.alloc (.cells #[.int .i64 y0,.int .i64 y1,.int .i64 y2,.int .i64 y3,.int .i64 y4] 71):=⟨_,rfl⟩;have hbW:Below wr.heap.size wr W1:=by rw [hW1];exact aj _ _
   have d0:W1.cell? ⟨wr.heap.size,0,none⟩=some (.int .i64 y0):=zN1 hW1 rfl;have d1:W1.cell? ⟨wr.heap.size,1,none⟩=some (.int .i64 y1):=zN1 hW1 rfl;have d2:W1.cell? ⟨wr.heap.size,2,none⟩=some (.int .i64 y2):=zN1 hW1 rfl;have d3:W1.cell? ⟨wr.heap.size,3,none⟩=some (.int .i64 y3):=zN1 hW1 rfl;have d4:W1.cell? ⟨wr.heap.size,4,none⟩=some (.int .i64 y4):=zN1 hW1 rfl
   go_wp2_with fail
   rw [←hW1];clear hW1;rw [ag HEN]
   refine(ag HST _ (hbr.trans (hbW.mono hbr.size))).mono ?_
   rintro e w1 ⟨rfl,hb1⟩;have hb01:Below wr.heap.size wr w1:=hbW.trans (hb1.mono hbW.size);have HO1:=aa (az HO.out hb01);have HB1:Hid (Below w.heap.size w w1):=hbr.trans (hb01.mono hbr.size);have q3:=zC d0 hb1;have q4:=zC d1 hb1;have q5:=zC d2 hb1;have q6:=zC d3 hb1;have q7:=zC d4 hb1;have hs1:w.heap.size≤w1.heap.size:=HB1.out.size;clear g0 g1 g2 g3 g4 d0 d1 d2 d3 d4 hb1 hbr HST HO hb01 hbW
   cases R
   ·have HE:Hid (w1.ownsRow w.heap.size 71 5 (.slice o N c) ((l.take (k+1)).filter p).length (((l.take (k+1)).filter p).flatMap prC)):=by
     refine aa ?_
     rw [HN.out,if_neg (by simp),List.append_nil]
     rw [←HNN.out]
     exact HO1.out
    go_wp2_with fail
    go_roundw
    case rel=>exact⟨k+1,by omega,by go_num,HE,HB1.out⟩
    case measure=>simp [intOf];omega
   ·obtain⟨W2,hW2⟩:∃W2,W2=w1.alloc (.cells #[.int .i64 y0,.int .i64 y1,.int .i64 y2,.int .i64 y3,.int .i64 y4] 71):=⟨_,rfl⟩
    have hbW2:Below w1.heap.size w1 W2:=by rw [hW2];exact aj _ _
    have NEWS:Hid (∀j u,[.int .i64 y0,.int .i64 y1,.int .i64 y2,.int .i64 y3,.int .i64 y4][j]?=some u→W2.cell? ((⟨w1.heap.size,0,none⟩:Addr).add j)=some u):=by rw [hW2];exact aa (dM w1 _ _)
    have HO2:=aa (az HO1.out hbW2);have hs2:w.heap.size≤W2.heap.size:=Nat.le_trans hs1 hbW2.size;have HW2:Hid (w1.alloc (.cells #[.int .i64 y0,.int .i64 y1,.int .i64 y2,.int .i64 y3,.int .i64 y4] 71)=W2):=hW2.symm;clear hW2
    go_wp2_with (at_builtin;rw [ag HW2];refine wpList_append_own _ rfl _ _ 26 rfl w.heap.size 71 i0 _ 5 40 Tryz.underlying26 hi hz0 hz1 hz2 rfl (by decide) _ _ _ rfl (ag HO2) ⟨w1.heap.size,0,none⟩ 1 1 [.int .i64 y0,.int .i64 y1,.int .i64 y2,.int .i64 y3,.int .i64 y4] rfl rfl (ag NEWS) (fA rfl) ?a1 ?a2 ?a3 ?_)
    case a1=>unfold maxLen;omega
    case a2=>omega
    case a3=>exact hs2
    intro v3 w3 ho3 hg3 _;have hb3:Below w.heap.size w w3:=(HB1.out.trans (hbW2.mono hs1)).grown hg3 hs2 (aF HO2.out);have HE:Hid (w3.ownsRow w.heap.size 71 5 v3 ((l.take (k+1)).filter p).length (((l.take (k+1)).filter p).flatMap prC)):=by
     refine aa ?_
     rw [HN.out,if_pos trivial,List.length_append,List.flatMap_append, ←HNN.out];simp only [List.flatMap_cons,List.flatMap_nil,List.append_nil,HC.out,List.length_singleton]
     exact ho3
    clear ho3 hg3 HO2 NEWS HO1 HW2 hbW2 q3 q4 q5 q6 q7 HN HC
    go_wp2_with fail
    go_roundw
    case rel=>exact⟨k+1,by omega,by go_num,HE,hb3⟩
    case measure=>simp [intOf];omega
  ·have hke:k=l.length:=by omega
   have HE:Hid (wr.ownsRow w.heap.size 71 5 u5 (l.filter p).length ((l.filter p).flatMap prC)):=by
    have:=HO.out;rw [hke,List.take_length]at this
    exact aa this
   obtain⟨o,c,rfl⟩:=aD HE.out;clear HO;have hkk:¬((k:Int)<(l.length:Int)):=by omega
   go_wp2_with fail
   go_ret
   exact⟨_,rfl,HE.out,hbr⟩
def iB (w:World) (f:Nat) (cs:Array Value) (p:Sw→Bool):Prop:=∀(W:World) (x:Sw),Below w.heap.size w W→Calls Tryz.prog f (#[.agg #[.int .i64 x.i,.int .i64 x.t,.int .i64 x.g]]++cs) W fun e w'=>e= .returned (.bool (p x))∧Below W.heap.size W w'
theorem nd (l:List Sw) (p:Sw→Bool) (v:Value) (f:Nat) (cs:Array Value) (w:World) (hF:dm w v l) (hT:iB w f cs p) (hE:bm f) (hl:l.length≤1000):
  Calls Tryz.prog 29 #[v,.func (.func f) #[] cs] w fun e w'=>∃u,e= .returned u∧w'.ownsRow w.heap.size 59 3 u (l.filter p).length ((l.filter p).flatMap swC)∧Below w.heap.size w w':=by
 obtain⟨i0,hi,hz0,hz1,hz2⟩:=info_parts vX;have HF:=aa hF;have HT:=aa hT;have HEN:=aa hE;obtain⟨a,cap,rfl⟩:=hF.slice;clear hF hT hE
 go_enter Tryz.func29,Tryz.ntmps29
 go_wp2_with fail
 go_loopw [5,10] (fun u i wr=>∃k:Nat,k≤l.length∧i= .int .i64 k∧Hid (wr.ownsRow w.heap.size 59 3 u ((l.take k).filter p).length (((l.take k).filter p).flatMap swC))∧Below w.heap.size w wr) (fun _ i _=>l.length-(intOf i).toNat)
 case atStart=>exact⟨0,by omega,rfl,aa (by simpa using World.ownsRow_nil w w.heap.size 59 3),Below.refl _ _⟩
 case round=>
  obtain⟨k,hk,rfl,HO,hbr⟩:=hrel
  by_cases hlt:k<l.length
  ·obtain⟨b,off,cap',e1,hcap, -,g0,g1,g2⟩:=jK (RowAt.below HF.out hbr zr) hlt
   simp only [Value.slice.injEq,true_and]at e1;obtain⟨rfl,rfl⟩:=e1;have HST:Hid (∀W:World,Below w.heap.size w W→Calls Tryz.prog f (#[.agg #[.int .i64 (l.getD k sw0).i,.int .i64 (l.getD k sw0).t,.int .i64 (l.getD k sw0).g]]++cs) W fun e w'=>e= .returned (.bool (p (l.getD k sw0)))∧Below W.heap.size W w'):=fun W hW=>HT.out W _ hW
   have HN:=aa (gv p sw0 hlt);have HC:Hid (swC (l.getD k sw0)= [.int .i64 (l.getD k sw0).i,.int .i64 (l.getD k sw0).t,.int .i64 (l.getD k sw0).g]):=rfl;have hlen:((l.take k).filter p).length≤k:=Nat.le_trans (List.length_filter_le _ _) (by rw [List.length_take];omega)
   obtain⟨o,c,rfl⟩:=aD HO.out;obtain⟨N,hN⟩:∃N,N=((l.take k).filter p).length:=⟨_,rfl⟩;rw [←hN]at HO hlen⊢;have HNN:=aa hN;clear hN;generalize hR:p (l.getD k sw0)=R at*
   have HR:=aa hR;clear hR;generalize (l.getD k sw0).i=y0 at*
   generalize (l.getD k sw0).t=y1 at*
   generalize (l.getD k sw0).g=y2 at*
   have q1:(0:Int)≤(k:Int):=by omega
   have q2:(k:Int)<(l.length:Int):=by omega
   obtain⟨W1,hW1⟩:∃W1,W1=wr.alloc (.cells #[.int .i64 y0,.int .i64 y1,.int .i64 y2] 59):=⟨_,rfl⟩;have hbW:Below wr.heap.size wr W1:=by rw [hW1];exact aj _ _
   have d0:W1.cell? ⟨wr.heap.size,0,none⟩=some (.int .i64 y0):=zN1 hW1 rfl;have d1:W1.cell? ⟨wr.heap.size,1,none⟩=some (.int .i64 y1):=zN1 hW1 rfl;have d2:W1.cell? ⟨wr.heap.size,2,none⟩=some (.int .i64 y2):=zN1 hW1 rfl
   go_wp2_with fail
   rw [←hW1];clear hW1;rw [ag HEN]
   refine(ag HST _ (hbr.trans (hbW.mono hbr.size))).mono ?_
   rintro e w1 ⟨rfl,hb1⟩;have hb01:Below wr.heap.size wr w1:=hbW.trans (hb1.mono hbW.size);have HO1:=aa (az HO.out hb01);have HB1:Hid (Below w.heap.size w w1):=hbr.trans (hb01.mono hbr.size);have q3:=zC d0 hb1;have q4:=zC d1 hb1;have q5:=zC d2 hb1;have hs1:w.heap.size≤w1.heap.size:=HB1.out.size;clear g0 g1 g2 d0 d1 d2 hb1 hbr HST HO hb01 hbW
   cases R
   ·have HE:Hid (w1.ownsRow w.heap.size 59 3 (.slice o N c) ((l.take (k+1)).filter p).length (((l.take (k+1)).filter p).flatMap swC)):=by
     refine aa ?_
     rw [HN.out,if_neg (by simp),List.append_nil]
     rw [←HNN.out]
     exact HO1.out
    go_wp2_with fail
    go_roundw
    case rel=>exact⟨k+1,by omega,by go_num,HE,HB1.out⟩
    case measure=>simp [intOf];omega
   ·obtain⟨W2,hW2⟩:∃W2,W2=w1.alloc (.cells #[.int .i64 y0,.int .i64 y1,.int .i64 y2] 59):=⟨_,rfl⟩
    have hbW2:Below w1.heap.size w1 W2:=by rw [hW2];exact aj _ _
    have NEWS:Hid (∀j u,[.int .i64 y0,.int .i64 y1,.int .i64 y2][j]?=some u→W2.cell? ((⟨w1.heap.size,0,none⟩:Addr).add j)=some u):=by rw [hW2];exact aa (dM w1 _ _)
    have HO2:=aa (az HO1.out hbW2);have hs2:w.heap.size≤W2.heap.size:=Nat.le_trans hs1 hbW2.size;have HW2:Hid (w1.alloc (.cells #[.int .i64 y0,.int .i64 y1,.int .i64 y2] 59)=W2):=hW2.symm;clear hW2
    go_wp2_with (at_builtin;rw [ag HW2];refine wpList_append_own _ rfl _ _ 25 rfl w.heap.size 59 i0 _ 3 24 Tryz.underlying25 hi hz0 hz1 hz2 rfl (by decide) _ _ _ rfl (ag HO2) ⟨w1.heap.size,0,none⟩ 1 1 [.int .i64 y0,.int .i64 y1,.int .i64 y2] rfl rfl (ag NEWS) (fA rfl) ?a1 ?a2 ?a3 ?_)
    case a1=>unfold maxLen;omega
    case a2=>omega
    case a3=>exact hs2
    intro v3 w3 ho3 hg3 _;have hb3:Below w.heap.size w w3:=(HB1.out.trans (hbW2.mono hs1)).grown hg3 hs2 (aF HO2.out);have HE:Hid (w3.ownsRow w.heap.size 59 3 v3 ((l.take (k+1)).filter p).length (((l.take (k+1)).filter p).flatMap swC)):=by
     refine aa ?_
     rw [HN.out,if_pos trivial,List.length_append,List.flatMap_append, ←HNN.out];simp only [List.flatMap_cons,List.flatMap_nil,List.append_nil,HC.out,List.length_singleton]
     exact ho3
    clear ho3 hg3 HO2 NEWS HO1 HW2 hbW2 q3 q4 q5 HN HC
    go_wp2_with fail
    go_roundw
    case rel=>exact⟨k+1,by omega,by go_num,HE,hb3⟩
    case measure=>simp [intOf];omega
  ·have hke:k=l.length:=by omega
   have HE:Hid (wr.ownsRow w.heap.size 59 3 u5 (l.filter p).length ((l.filter p).flatMap swC)):=by
    have:=HO.out;rw [hke,List.take_length]at this
    exact aa this
   obtain⟨o,c,rfl⟩:=aD HE.out;clear HO;have hkk:¬((k:Int)<(l.length:Int)):=by omega
   go_wp2_with fail
   go_ret
   exact⟨_,rfl,HE.out,hbr⟩
def qM (w:World) (f:Nat) (cs:Array Value) (p:Ac→Bool):Prop:=∀(W:World) (x:Ac),Below w.heap.size w W→Calls Tryz.prog f (#[.agg #[.int .i64 x.s,.int .i64 x.p,.bool x.n,.int .i64 x.src,.int .i64 x.sb,.int .i64 x.dst,.int .i64 x.db,.int .i64 x.o,.bool x.d]]++cs) W fun e w'=>e= .returned (.bool (p x))∧Below W.heap.size W w'
theorem m8 (l:List Ac) (p:Ac→Bool) (v:Value) (f:Nat) (cs:Array Value) (w:World) (hF:qO w v l) (hT:qM w f cs p) (hE:bm f) (hl:l.length≤1000):
  Calls Tryz.prog 123 #[v,.func (.func f) #[] cs] w fun e w'=>∃u,e= .returned u∧w'.ownsRow w.heap.size 65 9 u (l.filter p).length ((l.filter p).flatMap acC)∧Below w.heap.size w w':=by
 obtain⟨i0,hi,hz0,hz1,hz2⟩:=info_parts sS;have HF:=aa hF;have HT:=aa hT;have HEN:=aa hE;obtain⟨a,cap,rfl⟩:=hF.slice;clear hF hT hE
 go_enter Tryz.func123,Tryz.ntmps123
 go_wp2_with fail
 go_loopw [5,10] (fun u i wr=>∃k:Nat,k≤l.length∧i= .int .i64 k∧Hid (wr.ownsRow w.heap.size 65 9 u ((l.take k).filter p).length (((l.take k).filter p).flatMap acC))∧Below w.heap.size w wr) (fun _ i _=>l.length-(intOf i).toNat)
 case atStart=>exact⟨0,by omega,rfl,aa (by simpa using World.ownsRow_nil w w.heap.size 65 9),Below.refl _ _⟩
 case round=>
  obtain⟨k,hk,rfl,HO,hbr⟩:=hrel
  by_cases hlt:k<l.length
  ·obtain⟨b,off,cap',e1,hcap, -,g0,g1,g2,g3,g4,g5,g6,g7,g8⟩:=sU (RowAt.below HF.out hbr zr) hlt
   simp only [Value.slice.injEq,true_and]at e1;obtain⟨rfl,rfl⟩:=e1;have HST:Hid (∀W:World,Below w.heap.size w W→Calls Tryz.prog f (#[.agg #[.int .i64 (l.getD k ac0).s,.int .i64 (l.getD k ac0).p,.bool (l.getD k ac0).n,.int .i64 (l.getD k ac0).src,.int .i64 (l.getD k ac0).sb,.int .i64 (l.getD k ac0).dst,.int .i64 (l.getD k ac0).db,.int .i64 (l.getD k ac0).o,.bool (l.getD k ac0).d]]++cs) W fun e w'=>e= .returned (.bool (p (l.getD k ac0)))∧Below W.heap.size W w'):=fun W hW=>HT.out W _ hW
   have HN:=aa (gv p ac0 hlt);have HC:Hid (acC (l.getD k ac0)= [.int .i64 (l.getD k ac0).s,.int .i64 (l.getD k ac0).p,.bool (l.getD k ac0).n,.int .i64 (l.getD k ac0).src,.int .i64 (l.getD k ac0).sb,.int .i64 (l.getD k ac0).dst,.int .i64 (l.getD k ac0).db,.int .i64 (l.getD k ac0).o,.bool (l.getD k ac0).d]):=rfl;have hlen:((l.take k).filter p).length≤k:=Nat.le_trans (List.length_filter_le _ _) (by rw [List.length_take];omega)
   obtain⟨o,c,rfl⟩:=aD HO.out;obtain⟨N,hN⟩:∃N,N=((l.take k).filter p).length:=⟨_,rfl⟩;rw [←hN]at HO hlen⊢;have HNN:=aa hN;clear hN;generalize hR:p (l.getD k ac0)=R at*
   have HR:=aa hR;clear hR;generalize (l.getD k ac0).s=y0 at*
   generalize (l.getD k ac0).p=y1 at*
   generalize (l.getD k ac0).n=y2 at*
   generalize (l.getD k ac0).src=y3 at*
   generalize (l.getD k ac0).sb=y4 at*
   generalize (l.getD k ac0).dst=y5 at*
   generalize (l.getD k ac0).db=y6 at*
   generalize (l.getD k ac0).o=y7 at*
   generalize (l.getD k ac0).d=y8 at*
   have q1:(0:Int)≤(k:Int):=by omega
   have q2:(k:Int)<(l.length:Int):=by omega
   obtain⟨W1,hW1⟩:∃W1,W1=wr.alloc (.cells #[.int .i64 y0,.int .i64 y1,.bool y2,.int .i64 y3,.int .i64 y4,.int .i64 y5,.int .i64 y6,.int .i64 y7,.bool y8] 65):=⟨_,rfl⟩;have hbW:Below wr.heap.size wr W1:=by rw [hW1];exact aj _ _
   have d0:W1.cell? ⟨wr.heap.size,0,none⟩=some (.int .i64 y0):=zN1 hW1 rfl;have d1:W1.cell? ⟨wr.heap.size,1,none⟩=some (.int .i64 y1):=zN1 hW1 rfl;have d2:W1.cell? ⟨wr.heap.size,2,none⟩=some (.bool y2):=zN1 hW1 rfl;have d3:W1.cell? ⟨wr.heap.size,3,none⟩=some (.int .i64 y3):=zN1 hW1 rfl;have d4:W1.cell? ⟨wr.heap.size,4,none⟩=some (.int .i64 y4):=zN1 hW1 rfl;have d5:W1.cell? ⟨wr.heap.size,5,none⟩=some (.int .i64 y5):=zN1 hW1 rfl;have d6:W1.cell? ⟨wr.heap.size,6,none⟩=some (.int .i64 y6):=zN1 hW1 rfl;have d7:W1.cell? ⟨wr.heap.size,7,none⟩=some (.int .i64 y7):=zN1 hW1 rfl;have d8:W1.cell? ⟨wr.heap.size,8,none⟩=some (.bool y8):=zN1 hW1 rfl
   go_wp2_with fail
   rw [←hW1];clear hW1;rw [ag HEN]
   refine(ag HST _ (hbr.trans (hbW.mono hbr.size))).mono ?_
   rintro e w1 ⟨rfl,hb1⟩;have hb01:Below wr.heap.size wr w1:=hbW.trans (hb1.mono hbW.size);have HO1:=aa (az HO.out hb01);have HB1:Hid (Below w.heap.size w w1):=hbr.trans (hb01.mono hbr.size);have q3:=zC d0 hb1;have q4:=zC d1 hb1;have q5:=zC d2 hb1;have q6:=zC d3 hb1;have q7:=zC d4 hb1;have q8:=zC d5 hb1;have q9:=zC d6 hb1;have q10:=zC d7 hb1;have q11:=zC d8 hb1;have hs1:w.heap.size≤w1.heap.size:=HB1.out.size;clear g0 g1 g2 g3 g4 g5 g6 g7 g8 d0 d1 d2 d3 d4 d5 d6 d7 d8 hb1 hbr HST HO hb01 hbW
   cases R
   ·have HE:Hid (w1.ownsRow w.heap.size 65 9 (.slice o N c) ((l.take (k+1)).filter p).length (((l.take (k+1)).filter p).flatMap acC)):=by
     refine aa ?_
     rw [HN.out,if_neg (by simp),List.append_nil]
     rw [←HNN.out]
     exact HO1.out
    go_wp2_with fail
    go_roundw
    case rel=>exact⟨k+1,by omega,by go_num,HE,HB1.out⟩
    case measure=>simp [intOf];omega
   ·obtain⟨W2,hW2⟩:∃W2,W2=w1.alloc (.cells #[.int .i64 y0,.int .i64 y1,.bool y2,.int .i64 y3,.int .i64 y4,.int .i64 y5,.int .i64 y6,.int .i64 y7,.bool y8] 65):=⟨_,rfl⟩
    have hbW2:Below w1.heap.size w1 W2:=by rw [hW2];exact aj _ _
    have NEWS:Hid (∀j u,[.int .i64 y0,.int .i64 y1,.bool y2,.int .i64 y3,.int .i64 y4,.int .i64 y5,.int .i64 y6,.int .i64 y7,.bool y8][j]?=some u→W2.cell? ((⟨w1.heap.size,0,none⟩:Addr).add j)=some u):=by rw [hW2];exact aa (dM w1 _ _)
    have HO2:=aa (az HO1.out hbW2);have hs2:w.heap.size≤W2.heap.size:=Nat.le_trans hs1 hbW2.size;have HW2:Hid (w1.alloc (.cells #[.int .i64 y0,.int .i64 y1,.bool y2,.int .i64 y3,.int .i64 y4,.int .i64 y5,.int .i64 y6,.int .i64 y7,.bool y8] 65)=W2):=hW2.symm;clear hW2
    go_wp2_with (at_builtin;rw [ag HW2];refine wpList_append_own _ rfl _ _ 27 rfl w.heap.size 65 i0 _ 9 72 Tryz.underlying27 hi hz0 hz1 hz2 rfl (by decide) _ _ _ rfl (ag HO2) ⟨w1.heap.size,0,none⟩ 1 1 [.int .i64 y0,.int .i64 y1,.bool y2,.int .i64 y3,.int .i64 y4,.int .i64 y5,.int .i64 y6,.int .i64 y7,.bool y8] rfl rfl (ag NEWS) (fA rfl) ?a1 ?a2 ?a3 ?_)
    case a1=>unfold maxLen;omega
    case a2=>omega
    case a3=>exact hs2
    intro v3 w3 ho3 hg3 _;have hb3:Below w.heap.size w w3:=(HB1.out.trans (hbW2.mono hs1)).grown hg3 hs2 (aF HO2.out);have HE:Hid (w3.ownsRow w.heap.size 65 9 v3 ((l.take (k+1)).filter p).length (((l.take (k+1)).filter p).flatMap acC)):=by
     refine aa ?_
     rw [HN.out,if_pos trivial,List.length_append,List.flatMap_append, ←HNN.out];simp only [List.flatMap_cons,List.flatMap_nil,List.append_nil,HC.out,List.length_singleton]
     exact ho3
    clear ho3 hg3 HO2 NEWS HO1 HW2 hbW2 q3 q4 q5 q6 q7 q8 q9 q10 q11 HN HC
    go_wp2_with fail
    go_roundw
    case rel=>exact⟨k+1,by omega,by go_num,HE,hb3⟩
    case measure=>simp [intOf];omega
  ·have hke:k=l.length:=by omega
   have HE:Hid (wr.ownsRow w.heap.size 65 9 u5 (l.filter p).length ((l.filter p).flatMap acC)):=by
    have:=HO.out;rw [hke,List.take_length]at this
    exact aa this
   obtain⟨o,c,rfl⟩:=aD HE.out;clear HO;have hkk:¬((k:Int)<(l.length:Int)):=by omega
   go_wp2_with fail
   go_ret
   exact⟨_,rfl,HE.out,hbr⟩
end Go.Proofs.YtncdininppehkaaGreat
