/- Texts joined: Wd, We, We2, Oa, Op, Ef, Eq, Un, Wf, Fm, Ww, Wu, Xc, Fn2, Rk, Xd, Xk2, Two, Rf0, So, Sv, Rs0, Pa, Pb, Pc, Px, Pg, Ph, Kp, Pi. -/
import Derived.Deep.RegionHeld3
import Derived.Lib.AppendStr
import Derived.ProofKit
import Derived.OpenShut
import Derived.ShutString
import Derived.ChangeOld
import Derived.Laws.StructEq
import Derived.Laws.AppendOwnNone
import Derived.SizedLaws
import Derived.Lib.SlBytesConst
import Derived.ArgAppend
import Derived.Deep.AppendLies
import Derived.Deep.QuietTactic
import Derived.BigQuiet
import Derived.Deep.RegionLaw
import Derived.Laws.OwnMore
import Derived.Lib.AppendZeros
import Derived.Laws.EntriesVeiled
import Derived.Test.YtjiajblbpokfgaaGreatJD2
namespace Go.Proofs.YtjiajblbpokfgaaGreat
open Go.RowKit
set_option linter.unusedVariables false
set_option maxRecDepth 100000
set_option maxHeartbeats 16000000
theorem Lies.lt {w:World} {b off:Nat} {xs:List Int} (h:Lies w b off xs) (h0:0<xs.length):b<w.heap.size:=by
 have:=h 0 h0;rcases Nat.lt_or_ge b w.heap.size with h' | h'
 ·exact h'
 ·simp [World.cell?,Array.getElem?_eq_none h']at this
theorem Lies.below {w w':World} {b off B:Nat} {xs:List Int} (h:Lies w b off xs) (hb:Below B w w') (hB:b<B):Lies w' b off xs:=fun i hi=>(hb.cell (p:=⟨b,off+i,none⟩) hB).trans (h i hi)
theorem mM (w:World) (b off:Nat) (xs:List Int) (n:Nat):Lies (w.drewN n) b off xs↔Lies w b off xs:=by
 constructor
 ·intro h i hi;have:=h i hi;simpa using this
 ·intro h;exact h.drewN n
theorem ow (w:World) (b off:Nat) (xs:List Int):Lies w.drew b off xs↔Lies w b off xs:=by
 constructor
 ·intro h i hi;have:=h i hi;simpa using this
 ·intro h i hi;have:=h i hi;simpa using this
theorem mA (w:World) (o:Obj) (b off:Nat) (xs:List Int) (h:b<w.heap.size):Lies (w.alloc o) b off xs↔Lies w b off xs:=by
 have hb:Below w.heap.size w (w.alloc o):=(Below.refl _ w).alloc zr o;constructor
 ·intro hL i hi;rw [←hb.cell (p:=⟨b,off+i,none⟩) h];exact hL i hi
 ·intro hL;exact hL.below hb h
theorem ix (w:World) (a:Addr) (v:Value) (b o:Nat) (h:¬b=a.block):(w.setCell a v).cell? ⟨b,o,none⟩=w.cell? ⟨b,o,none⟩:=
 World.cell?_of_block (w:=w) (Below.heap_setCell w a v b h)
theorem kS (w:World) (a:Addr) (v:Value) (b off:Nat) (xs:List Int) (h:¬b=a.block):Lies (w.setCell a v) b off xs↔Lies w b off xs:=by
 constructor
 ·intro hL i hi;rw [←ix w a v b _ h];exact hL i hi
 ·intro hL i hi;rw [ix w a v b _ h];exact hL i hi
def fR (xs:List Int) (n:Nat):ByteArray:=strOfNums ((xs.drop 14).take n)
theorem qL (xs:List Int) (n:Nat) (h:14+n≤xs.length):(fR xs n).size=n:=by
 unfold fR;rw [strOfNums_size];simp;omega
theorem vC (b off cap n:Nat) (xs:List Int) (hn:14+n≤xs.length) (w:World) (hL:Lies w b off xs):
  (convert 162 9 (.slice (some ⟨b,off+14,none⟩) n cap)).run Tryz.prog w= .ok (.string (fR xs n)) w:=
 run_convert_bytes_arg w 162 5 Tryz.underlying162 Tryz.underlying5 b (off+14) n cap ((xs.drop 14).take n) (by simp;omega) (fun i hi=>by
  rw [show off+14+i=off+(14+i) by omega,hL (14+i) (by omega)];simp [hi]) 9 Tryz.underlying9
abbrev rB (xs:List Int) (n:Nat):Value:=fr (wd xs 0) (wd xs 2) (bt xs 4) (wd xs 6) (wd xs 8) (bt xs 5) (wd xs 10) (fR xs n)
theorem vx (b off len cap n:Nat) (xs:List Int) (w:World) (hl:xs.length=len) (hx:Bs xs) (hm:len≤140737488355328) (hlc:len≤cap) (hL:Lies w b off xs) (hn:wd xs 12=n) (h1:16+n=len) (h40:n≤40):
  Calls Tryz.prog 198 #[.slice (some ⟨b,off,none⟩) len cap] w fun e w'=>e= .returned (rB xs n)∧Below w.heap.size w w':=by
 have hb:=hL.lt (by omega);have hL0:∀o:Obj,Lies (w.alloc o) b off xs:=fun o=>hL.below ((Below.refl _ w).alloc zr o) hb;have c4:∀w',Lies w' b off xs→w'.cell? ⟨b,off+4,none⟩=some (.int .u8 (xs.getD 4 0)):=fun w' h=>h 4 (by omega);have c5:∀w',Lies w' b off xs→w'.cell? ⟨b,off+5,none⟩=some (.int .u8 (xs.getD 5 0)):=fun w' h=>h 5 (by omega);have b4:=hx.at 4;have b5:=hx.at 5;have HW:=aa (fun(w':World) (h:Lies w' b off xs) (i:Int) (h0:0≤i) (h1:i+1<len)=>gS b off len cap xs i w' hl hx hm hlc h h0 h1);have HB:=aa (fun(w':World) (h:Lies w' b off xs)=>ke b off len cap xs w' hl hx hm hlc h (by omega));rw [hn]at HB;have hcv:=fun(c:Nat) (w':World) (h:Lies w' b off xs)=>vC b off c n xs (by omega) w' h;clear hL hx hn;have n14:¬cap=14:=by omega
 have hbn:¬b=w.heap.size:=by omega
 have HT:Hid (rB xs n=fr (wd xs 0) (wd xs 2) (xs.getD 4 0) (wd xs 6) (wd xs 8) (xs.getD 5 0) (wd xs 10) (fR xs n)):=rfl;generalize xs.getD 4 0=x4 at*;generalize xs.getD 5 0=x5 at*;obtain⟨b40,b41⟩:=b4;obtain⟨b50,b51⟩:=b5;have k0:(4:Int)<(len:Int):=by omega
 have k1:(5:Int)<(len:Int):=by omega
 have k2:(14:Int)≤14+(n:Int):=by omega
 have k3:14+(n:Int)≤(cap:Int):=by omega
 have k4:(0:Int)≤14+(n:Int):=by omega
 have k5:IntKind.i64.wrap (14+(n:Int))=14+(n:Int):=dT _ (by omega) (by omega);have k6:(14+(n:Int)).toNat-14=n:=by omega
 have k7:IntKind.i64.wrap x4=x4:=dT _ (by omega) (by omega);have k8:IntKind.i64.wrap x5=x5:=dT _ (by omega) (by omega);go_enter Tryz.func198,Tryz.ntmps198;go_wp2_with fail
 go_region_held3 (fun w'=>Lies w' b off xs∧w'.cell? ⟨b,off+4,none⟩=some (.int .u8 x4)∧w'.cell? ⟨b,off+5,none⟩=some (.int .u8 x5)) (first |(simp [*,mM,ow];done) |(simp [*,kS];done))
  (first |(go_at_call 164;refine(ag HW _ (by first | assumption |(simp [*];done)) _ (by omega) (by omega)).mono ?_;rintro e w' ⟨rfl,m,rfl⟩) |(go_at_call 214;refine(ag HB _ (by first | assumption |(simp [*];done))).mono ?_;rintro e w' ⟨rfl,m,rfl⟩))
 go_wp2;refine bodyPost_ret (v:=fr (wd xs 0) (wd xs 2) x4 (wd xs 6) (wd xs 8) x5 (wd xs 10) (fR xs n)) ?_ rfl ⟨by rw [HT.out],?_⟩
 ·simp [results,Tryz.results198,go_sem]
 ·refine Below.setCell (Below.setCell (Below.setCell (Below.setCell (Below.setCell (Below.setCell (Below.setCell (Below.setCell ?_ ?_ _) ?_ _) ?_ _) ?_ _) ?_ _) ?_ _) ?_ _) ?_ _
  ·exact below_drewN ((Below.refl _ _).alloc zr _) _
  all_goals exact Nat.le_refl _
theorem gC {dst src kind ips ipd ttl port:Int} {n:Nat} (h:aQ dst src kind ips ipd ttl port n=0):
  (1≤kind∧kind≤3)∧(0≤dst∧dst≤65535)∧(0≤src∧src≤65535)∧(0≤ips∧ips≤65535)∧(0≤ipd∧ipd≤65535)∧(0≤port∧port≤65535)∧(0≤ttl∧ttl≤255)∧n≤40:=by
 unfold aQ at h;by_cases hk:gY kind=true
 ·rw [if_pos hk]at h;by_cases hb:cB dst src ips ipd ttl port=true
  ·rw [if_pos hb]at h;by_cases hn:40<n
   ·rw [if_pos hn]at h;omega
   ·unfold cB ap jc at hb;unfold gY at hk;simp at hb hk;omega
  ·rw [if_neg hb]at h;omega
 ·rw [if_neg hk]at h;omega
theorem lQ {dst src kind ips ipd ttl port:Int} {body:ByteArray} (hf:aQ dst src kind ips ipd ttl port body.size=0):Bs (gj dst src kind ips ipd ttl port body):=by
 obtain⟨⟨hk0,hk1⟩,⟨hd0,hd1⟩,⟨hs0,hs1⟩,⟨hi0,hi1⟩,⟨hj0,hj1⟩,⟨hp0,hp1⟩,⟨ht0,ht1⟩,hn⟩:=gC hf;unfold gj;exact(((((((eS _ hd0 hd1).append (eS _ hs0 hs1)).append (fun n h=>by simp at h;rcases h with rfl | rfl <;>omega)).append (eS _ hi0 hi1)).append (eS _ hj0 hj1)).append (eS _ hp0 hp1)).append (eS _ (by omega) (by omega))).append (zJ body)
theorem sQ (s:ByteArray):Lib.strCells s=U (nD s):=by simp [Lib.strCells,U,nD]
theorem lX {w:World} {B m:Nat} {v:Value} {xs ys:List Int} (h:w.ownsRow B 5 1 v (xs.length+m) (U xs++U ys)) (hm:ys.length=m):w.ownsRow B 5 1 v (xs++ys).length (U (xs++ys)):=by
 rw [rE,List.length_append,hm];exact h
theorem kD {w:World} {B:Nat} {v:Value} {xs:List Int} (h:w.ownsRow B 5 1 v xs.length (U xs)) (hne:0<xs.length):
  ∃g cap,v= .slice (some ⟨g,0,none⟩) xs.length cap∧(B≤g∧g<w.heap.size)∧xs.length≤cap∧∀i,i<xs.length→w.cell? ⟨g,0+i,none⟩=some (.int .u8 (xs.getD i 0)):=by
 have hc:=h;obtain⟨_,⟨_,h0⟩ |⟨g,cap,cur,rfl,hg,hgc,hcap,_⟩⟩:=h
 ·omega
 ·refine⟨g,cap,rfl,⟨hg,lt_of_block hgc⟩,hcap,fun i hi=>?_⟩;have:=hc.cells (g:=g) rfl i (.int .u8 (xs.getD i 0)) (by simp [U,List.getD,hi]);have hp:(⟨g,0,none⟩:Addr).add i=⟨g,0+i,none⟩:=by unfold Addr.add;split <;>simp_all
  rw [←hp];exact this
theorem tO (dst src kind ips ipd ttl port:Int) (body:ByteArray) (w:World) (hf:aQ dst src kind ips ipd ttl port body.size=0):
  Calls Tryz.prog 161 #[fr dst src kind ips ipd ttl port body] w fun e w'=>∃v,e= .returned (.tuple #[v,.int .i64 0])∧
   w'.ownsRow w.heap.size 5 1 v (enc dst src kind ips ipd ttl port body).length (U (enc dst src kind ips ipd ttl port body))∧Below w.heap.size w w':=by
 obtain⟨⟨hk0,hk1⟩,⟨hd0,hd1⟩,⟨hs0,hs1⟩,⟨hi0,hi1⟩,⟨hj0,hj1⟩,⟨hp0,hp1⟩,⟨ht0,ht1⟩,hn⟩:=gC hf;have hbm:body.size≤maxLen:=by unfold maxLen;omega
 obtain⟨i0,hi,hz0,hz1,hz2⟩:=info_parts jY;go_enter Tryz.func161,Tryz.ntmps161;go_wp2_with fail
 refine(iH _ _ _ _ _ _ _ _ _ hbm).mono ?_;rintro e w1 ⟨rfl,hb1⟩;have hB1:w.heap.size+1≤w1.heap.size:=by have:=hb1.size;simpa using this
 have hb1':=hb1.mono (B':=w.heap.size+1) (by simp);clear hb1;obtain⟨hc1,_⟩:=eJ hb1';go_wp2_with fail
 refine(bC (w.heap.size+1) (.slice none 0 0) [] dst _ (World.ownsRow_nil _ _ _ _) hd0 hd1 (by simp) hB1).mono ?_;rintro e w2 ⟨v2,rfl,ho2,hb2⟩;have hb2':=hb1'.trans hb2;have hB2:=Nat.le_trans hB1 hb2.size;clear hb2 hc1;obtain⟨hc2,_⟩:=eJ hb2';go_wp2_with fail
 refine(bC (w.heap.size+1) v2 _ src _ ho2 hs0 hs1 (by simp [bO]) hB2).mono ?_;rintro e w3 ⟨v3,rfl,ho3,hb3⟩;have hb3':=hb2'.trans hb3;have hB3:=Nat.le_trans hB2 hb3.size;clear hb3 hc2 ho2 hb1' hb2';obtain⟨hc3,_⟩:=eJ hb3';go_wp2_with (at_builtin;refine wpList_append_own _ rfl _ _ 162 rfl (w.heap.size+1) 5 i0 (.int .u8 0) 1 1 Tryz.underlying162 hi hz0 hz1 hz2 rfl (by decide) _ _ _ rfl (ho3.alloc _) ⟨w3.heap.size,0,none⟩ 2 2 (U [kind,ttl]) rfl rfl ?c1 ?c2 ?c3 ?c4 ?c5 ?_)
 case c1=>
  intro j u hj
  match j,hj with
  | 0,hj=>simp [U]at hj;subst hj;simp [Addr.add]
  | 1,hj=>simp [U]at hj;subst hj;simp [Addr.add]
 case c2=>exact ug _
 case c3=>simp [bO,maxLen]
 case c4=>simp [bO]
 case c5=>simp;omega
 intro v4 w4 ho4 hg4 _;have hb4:Below (w.heap.size+1) w3 w4:=((Below.refl _ w3).alloc hB3 _).grown hg4 (by simp;omega) (aS ho3);have hb4':=hb3'.trans hb4;have hB4:=Nat.le_trans hB3 hb4.size;have ho4':=lX ho4 rfl;clear hb4 hc3 ho3 hb3' ho4 hg4;obtain⟨hc4,_⟩:=eJ hb4';go_wp2_with fail
 refine(bC (w.heap.size+1) v4 _ ips _ ho4' hi0 hi1 (by simp [bO]) hB4).mono ?_;rintro e w5 ⟨v5,rfl,ho5,hb5⟩;have hb5':=hb4'.trans hb5;have hB5:=Nat.le_trans hB4 hb5.size;clear hb5 hc4 ho4' hb4';obtain⟨hc5,_⟩:=eJ hb5';go_wp2_with fail
 refine(bC (w.heap.size+1) v5 _ ipd _ ho5 hj0 hj1 (by simp [bO]) hB5).mono ?_;rintro e w6 ⟨v6,rfl,ho6,hb6⟩;have hb6':=hb5'.trans hb6;have hB6:=Nat.le_trans hB5 hb6.size;clear hb6 hc5 ho5 hb5';obtain⟨hc6,_⟩:=eJ hb6';go_wp2_with fail
 refine(bC (w.heap.size+1) v6 _ port _ ho6 hp0 hp1 (by simp [bO]) hB6).mono ?_;rintro e w7 ⟨v7,rfl,ho7,hb7⟩;have hb7':=hb6'.trans hb7;have hB7:=Nat.le_trans hB6 hb7.size;clear hb7 hc6 ho6 hb6';obtain⟨hc7,_⟩:=eJ hb7';go_wp2_with fail
 refine(bC (w.heap.size+1) v7 _ (body.size:Int) _ ho7 (by omega) (by omega) (by simp [bO]) hB7).mono ?_;rintro e w8 ⟨v8,rfl,ho8,hb8⟩;have hb8':=hb7'.trans hb8;have hB8:=Nat.le_trans hB7 hb8.size;clear hb8 hc7 ho7 hb7';obtain⟨hc8,_⟩:=eJ hb8';go_wp2_with (at_builtin;refine Lib.wpList_append_own_string _ rfl _ _ 162 9 rfl (w.heap.size+1) 5 i0 Tryz.underlying162 Tryz.underlying9 hi hz0 hz1 hz2 _ _ _ rfl ho8 body rfl ?d1 ?d2 ?d3 ?_)
 case d1=>simp [bO,maxLen];omega
 case d2=>simp [bO];omega
 case d3=>exact hB8
 intro v9 w9 ho9 hg9 _;have hb9:Below (w.heap.size+1) w8 w9:=(Below.refl _ w8).grown hg9 hB8 (aS ho8);have hb9':=hb8'.trans hb9;have hB9:=Nat.le_trans hB8 hb9.size;rw [sQ]at ho9;have ho9':=lX ho9 (fJ body);clear hb9 hc8 ho8 hb8' ho9 hg9;obtain⟨xs,hxs⟩:∃xs,xs=gj dst src kind ips ipd ttl port body:=⟨_,rfl⟩;have ho:w9.ownsRow (w.heap.size+1) 5 1 v9 xs.length (U xs):=by rw [hxs];exact ho9'
 have hxl:xs.length=14+body.size:=by rw [hxs];exact ew _ _ _ _ _ _ _ _
 have hbs:Bs xs:=by rw [hxs];exact lQ hf
 have HE:Hid (enc dst src kind ips ipd ttl port body=xs++bO (sm xs)):=by show _=_;rw [hxs];rfl
 clear ho9' hxs;have hxl1:14≤xs.length:=by omega
 have hxl2:xs.length≤54:=by omega
 clear hxl;obtain⟨hsm0,hsm1⟩:=wM hbs;obtain⟨g,cap,rfl,hg,hcap,hcell⟩:=kD ho (by omega);go_wp2_with fail
 refine(ue g 0 xs.length cap xs _ rfl hbs (by omega) hcap hcell).mono ?_;rintro e w' ⟨rfl,rfl⟩;clear hcell;go_wp2_with fail
 refine(bC (w.heap.size+1) _ xs (sm xs) _ ho hsm0 hsm1 (by omega) hB9).mono ?_;rintro e w10 ⟨v10,rfl,ho10,hb10⟩;have hb10':=hb9'.trans hb10;clear ho hb9' hb10;go_wp2_with fail
 go_ret2;refine⟨v10,rfl,?_,((Below.refl _ _).alloc zr _).trans (hb10'.mono (by omega))⟩;rw [HE.out];exact aA ho10 (by omega)
def IsB (w:World) (a:Option Addr) (len cap:Nat) (xs:List Int):Prop:=
 xs.length=len∧Bs xs∧len≤140737488355328∧(len=0∨∃b off,a=some ⟨b,off,none⟩∧len≤cap∧Lies w b off xs)
theorem IsB.below {w w':World} {a:Option Addr} {len cap:Nat} {xs:List Int} {B:Nat} (h:IsB w a len cap xs) (hb:Below B w w') (hB:w.heap.size≤B):IsB w' a len cap xs:=by
 obtain⟨h1,h2,h3,h0 |⟨b,off,ha,hc,hL⟩⟩:=h
 ·exact⟨h1,h2,h3,.inl h0⟩
 ·by_cases h0:len=0
  ·exact⟨h1,h2,h3,.inl h0⟩
  ·exact⟨h1,h2,h3,.inr ⟨b,off,ha,hc,hL.below hb (Nat.lt_of_lt_of_le (hL.lt (by omega)) hB)⟩⟩
theorem dZ {B:Nat} {a w:World} (h:Below B a w) (g:Nat) (hg:B≤g) (v0 v1 v2 v3 v4 v5 v6 v7:Value):
  Below B a ((((((((w.setCell ⟨g,0,none⟩ v0).setCell ⟨g,1,none⟩ v1).setCell ⟨g,2,none⟩ v2).setCell ⟨g,3,none⟩ v3).setCell ⟨g,4,none⟩ v4).setCell ⟨g,5,none⟩ v5).setCell ⟨g,6,none⟩ v6).setCell ⟨g,7,none⟩ v7):=
 Below.setCell (Below.setCell (Below.setCell (Below.setCell (Below.setCell (Below.setCell (Below.setCell (Below.setCell h hg _) hg _) hg _) hg _) hg _) hg _) hg _) hg _
abbrev dr:Value:=fr 0 0 0 0 0 0 0 ⟨#[]⟩
def kw (xs:List Int):Int:=aQ (wd xs 0) (wd xs 2) (bt xs 4) (wd xs 6) (wd xs 8) (bt xs 5) (wd xs 10) (wd xs 12).toNat
def df (xs:List Int):Int:=if chk xs=0 then kw xs else chk xs
def gN (xs:List Int):Value:=if df xs=0 then rB xs (wd xs 12).toNat else dr
theorem wY {xs:List Int} (hx:Bs xs) (h:chk xs=0):16≤xs.length∧wd xs 12≤40∧16+(wd xs 12).toNat=xs.length∧wd xs (14+(wd xs 12).toNat)=sm (xs.take (14+(wd xs 12).toNat)):=by
 have hw:=wX hx 12;unfold chk at h;by_cases c0:xs.length<16
 ·rw [if_pos c0]at h;omega
 ·rw [if_neg c0]at h;by_cases c1:40<wd xs 12
  ·rw [if_pos c1]at h;omega
  ·rw [if_neg c1]at h;by_cases c2:(xs.length:Int)<16+wd xs 12
   ·rw [if_pos c2]at h;omega
   ·rw [if_neg c2]at h;by_cases c3:16+wd xs 12<(xs.length:Int)
    ·rw [if_pos c3]at h;omega
    ·rw [if_neg c3]at h;by_cases c4:wd xs (14+(wd xs 12).toNat)=sm (xs.take (14+(wd xs 12).toNat))
     ·exact⟨by omega,by omega,by omega,c4⟩
     ·rw [if_pos c4]at h;omega
theorem sO (a:Option Addr) (len cap:Nat) (xs:List Int) (w:World) (hI:IsB w a len cap xs):
  Calls Tryz.prog 163 #[.slice a len cap] w fun e w'=>e= .returned (.tuple #[gN xs,.int .i64 (df xs)])∧Below w.heap.size w w':=by
 obtain⟨hl,hx,hm,hI⟩:=hI;by_cases h16:len<16
 ·have hE:df xs=5:=by
   have hc:chk xs=5:=by unfold chk;rw [if_pos (by omega)]
   unfold df;rw [hc];rfl
  have hV:gN xs=dr:=by unfold gN;rw [hE];rfl
  have HR:Hid (Ending.returned (.tuple #[gN xs,.int .i64 (df xs)])= .returned (.tuple #[dr,.int .i64 5])):=by show _=_;rw [hE,hV]
  clear hE hV hI;go_enter Tryz.func163,Tryz.ntmps163;go_wp2_with fail
  refine(kP a len cap _ h16).mono ?_;rintro e w' ⟨rfl,rfl⟩;go_wp2_with fail
  refine bodyPost_ret (v:=.tuple #[dr,.int .i64 5]) ?_ rfl ⟨HR.out.symm,?_⟩
  ·simp [results,Tryz.results163,go_sem]
  ·exact(Below.refl _ _).alloc zr _
 ·have h16':16≤len:=(by omega);obtain⟨b,off,rfl,hlc,hL⟩:∃b off,a=some ⟨b,off,none⟩∧len≤cap∧Lies w b off xs:=by
   rcases hI with h0 | h
   ·omega
   ·exact h
  clear hI h16;have hbw:=hL.lt (by omega);have hL0:∀o:Obj,Lies (w.alloc o) b off xs:=fun o=>hL.below ((Below.refl _ w).alloc zr o) hbw;by_cases hc:chk xs=0
  ·obtain⟨_,hw40,hlen,_⟩:=wY hx hc;have HC:=aa (fun w' h=>ie b off len cap xs w' hl hx hm hlc h h16');obtain⟨n,hn⟩:=Int.eq_ofNat_of_zero_le (wX hx 12).1;have hn40:n≤40:=(by omega);have hn16:16+n=len:=by rw [hn,Int.toNat_natCast]at hlen;omega
   have HP:=aa (fun w' h=>vx b off len cap n xs w' hl hx hm hlc h hn hn16 hn40);have hbs:=qL xs n (by omega);have hE:df xs=aQ (wd xs 0) (wd xs 2) (bt xs 4) (wd xs 6) (wd xs 8) (bt xs 5) (wd xs 10) (fR xs n).size:=by unfold df kw;rw [if_pos hc,hn,Int.toNat_natCast,hbs]
   have hV:gN xs=if df xs=0 then rB xs n else dr:=by unfold gN;rw [hn,Int.toNat_natCast]
   have HK:=aa (fun w'=>iH (wd xs 0) (wd xs 2) (bt xs 4) (wd xs 6) (wd xs 8) (bt xs 5) (wd xs 10) (fR xs n) w' (by rw [hbs];unfold maxLen;omega));rw [hc]at HC;rw [←hE]at HK;clear hE hn hbs hL hlen hw40 hc;go_enter Tryz.func163,Tryz.ntmps163;go_wp2_with fail
   refine(ag HC _ (hL0 _)).mono ?_;rintro e w' ⟨rfl,m,rfl⟩;go_wp2_with fail
   refine(ag HP _ ((hL0 _).drewN m)).mono ?_;rintro e w2 ⟨rfl,hb2⟩;have hz2:w.heap.size<w2.heap.size:=by have:=hb2.size;simp at this;omega
   have hz2':¬w.heap.size=w2.heap.size:=(by omega);have hb2':=hb2.mono (B':=w.heap.size+1) (by simp);obtain⟨hc2,hf2⟩:=eJ hb2';go_wp2_with fail
   refine(ag HK _).mono ?_;rintro e w3 ⟨rfl,hb3⟩;have hb3':=hb3.mono (B':=w2.heap.size+1) (by simp);obtain⟨hc3,hf3⟩:=eJ hb3';have hbel:Below w.heap.size w w3:=((below_drewN ((Below.refl w.heap.size w).alloc zr _) m).trans (hb2'.mono (by omega))).trans (((Below.refl _ w2).alloc (by omega) _).trans (hb3'.mono (by omega)));clear hb2 hb3 HC HP HK hb2' hb3' hL0;have HV:=aa hV;clear hV;by_cases hz:df xs=0
   ·have hV0:gN xs=rB xs n:=(by rw [HV.out,if_pos hz]);have HR:Hid (Ending.returned (.tuple #[gN xs,.int .i64 (df xs)])= .returned (.tuple #[rB xs n,.int .i64 0])):=by show _=_;rw [hV0,hz]
    clear hV0 HV;go_wp2_with fail
    refine bodyPost_ret (v:=.tuple #[rB xs n,.int .i64 0]) ?_ rfl ⟨HR.out.symm,?_⟩
    ·simp [results,Tryz.results163,go_sem,hc3,hc2,hz2,Nat.lt_succ_of_lt hz2]
    ·exact dZ hbel _ zr _ _ _ _ _ _ _ _
   ·have hV0:gN xs=dr:=(by rw [HV.out,if_neg hz]);have HR:Hid (Ending.returned (.tuple #[gN xs,.int .i64 (df xs)])= .returned (.tuple #[dr,.int .i64 (df xs)])):=by show _=_;rw [hV0]
    have hne:(df xs != 0)=true:=(by simpa using hz);clear hV0 HV hz;go_wp2_with fail
    refine bodyPost_ret (v:=.tuple #[dr,.int .i64 (df xs)]) ?_ rfl ⟨HR.out.symm,?_⟩
    ·simp [results,Tryz.results163,go_sem,hc3,hc2,hz2,Nat.lt_succ_of_lt hz2]
    ·exact dZ hbel _ zr _ _ _ _ _ _ _ _
  ·have hE:df xs=chk xs:=by unfold df;rw [if_neg hc]
   have hV:gN xs=dr:=by unfold gN;rw [hE,if_neg hc]
   have HR:Hid (Ending.returned (.tuple #[gN xs,.int .i64 (df xs)])= .returned (.tuple #[dr,.int .i64 (chk xs)])):=by show _=_;rw [hE,hV]
   have HC:=aa (fun w' h=>ie b off len cap xs w' hl hx hm hlc h h16');have hne:(chk xs != 0)=true:=(by simpa using hc);clear hE hV hc hL;generalize chk xs=c at*;go_enter Tryz.func163,Tryz.ntmps163;go_wp2_with fail
   refine(ag HC _ (hL0 _)).mono ?_;rintro e w' ⟨rfl,m,rfl⟩;go_wp2_with fail
   refine bodyPost_ret (v:=.tuple #[dr,.int .i64 c]) ?_ rfl ⟨HR.out.symm,?_⟩
   ·simp [results,Tryz.results163,go_sem]
   ·exact dZ (below_drewN ((Below.refl _ _).alloc zr _) _) _ zr _ _ _ _ _ _ _ _
section
open Go.ChangeShapes Go.WideShapes Go.ChangeAt Go.RowKit
theorem own:ownKnob Tryz.prog.godebug=none:=by kernel_rfl
theorem uJ:laidOutB Tryz.prog=true:=by kernel_rfl
theorem bg {H:Type} {enc:TypeId×Value→H} {w:World} {base:Nat} {spare:Nat→Bool} {held:Bool} {n i:Nat} {c:Value} {xs:List (DataW H×List MemPlace)} (hi:i<xs.length)
  (h:DataW.trod enc Tryz.prog w base spare held n 3 [c]=xs[i]?):∃k,c= .int .i64 k∧(Lit.int .i64 k).wf=true:=by
 rw [List.getElem?_eq_getElem hi]at h;obtain⟨k,hc,_,hw⟩:=DataW.trod_int Tryz.underlying3 h;exact⟨k,by simpa using hc,hw⟩
theorem rh {H:Type} {enc:TypeId×Value→H} {w:World} {base:Nat} {spare:Nat→Bool} {held:Bool} {n i:Nat} {c:Value} {xs:List (DataW H×List MemPlace)} (hi:i<xs.length)
  (h:DataW.trod enc Tryz.prog w base spare held n 9 [c]=xs[i]?):∃s:ByteArray,c= .string s∧s.size≤maxLen:=by
 rw [List.getElem?_eq_getElem hi]at h;obtain⟨k,hc,_,hw⟩:=DataW.trod_string Tryz.underlying9 h;exact⟨k,by simpa using hc,hw⟩
end
section
open Go.ChangeShapes Go.WideShapes Go.ChangeAt Go.RowKit
theorem tw:Tryz.prog.cellsOf 28=8:=by kernel_rfl
theorem Bd {α:Type} {cs:Array α} (h:cs.size=8):∃c0 c1 c2 c3 c4 c5 c6 c7,cs= #[c0,c1,c2,c3,c4,c5,c6,c7]:=by
 obtain⟨l⟩:=cs
 match l,h with
 | [c0,c1,c2,c3,c4,c5,c6,c7],_=>exact⟨c0,c1,c2,c3,c4,c5,c6,c7,rfl⟩
theorem sT {H:Type} {enc:TypeId×Value→H} {w:World} {base b0:Nat} {spare:Nat→Bool} {held:Bool} {r:Reach} {v:Value} {d:DataW H} {p:List MemPlace}
  (hv:Value.okWide Tryz.prog w r b0 28 v) (h:DataW.Trod enc Tryz.prog w base spare held 28 v d p):
  ∃dst src kind ips ipd ttl port:Int,∃body:ByteArray,v=fr dst src kind ips ipd ttl port body∧body.size≤maxLen∧(Lit.int .i64 dst).wf=true∧(Lit.int .i64 src).wf=true∧(Lit.int .i64 kind).wf=true
   ∧(Lit.int .i64 ips).wf=true∧(Lit.int .i64 ipd).wf=true∧(Lit.int .i64 ttl).wf=true∧(Lit.int .i64 port).wf=true:=by
 obtain⟨cs,rfl,hsz⟩:=okWide_struct Tryz.underlying28 hv;obtain⟨c0,c1,c2,c3,c4,c5,c6,c7,rfl⟩:=Bd (hsz.trans tw);obtain⟨fuel,hf⟩:=h;obtain⟨xs,n,_,_,_,hlen,hf⟩:=DataW.trod_struct Tryz.underlying28 hf;have h8:xs.length=8:=by simpa using hlen
 have g0:=hf 0 _ rfl;have g1:=hf 1 _ rfl;have g2:=hf 2 _ rfl;have g3:=hf 3 _ rfl;have g4:=hf 4 _ rfl;have g5:=hf 5 _ rfl;have g6:=hf 6 _ rfl;have g7:=hf 7 _ rfl;simp only [Value.cells]at g0 g1 g2 g3 g4 g5 g6 g7;obtain⟨k0,rfl,w0⟩:=bg (i:=0) (by omega) g0;obtain⟨k1,rfl,w1⟩:=bg (i:=1) (by omega) g1;obtain⟨k2,rfl,w2⟩:=bg (i:=2) (by omega) g2;obtain⟨k3,rfl,w3⟩:=bg (i:=3) (by omega) g3;obtain⟨k4,rfl,w4⟩:=bg (i:=4) (by omega) g4;obtain⟨k5,rfl,w5⟩:=bg (i:=5) (by omega) g5;obtain⟨k6,rfl,w6⟩:=bg (i:=6) (by omega) g6;obtain⟨s,rfl,hs⟩:=rh (i:=7) (by omega) g7;exact⟨k0,k1,k2,k3,k4,k5,k6,s,rfl,hs,w0,w1,w2,w3,w4,w5,w6⟩
end

section
open Go.ChangeShapes Go.WideShapes Go.ChangeAt Go.RowKit
theorem zS {w:World} {B:Nat} {v:Value} {xs:List Int} (h:w.ownsRow B 5 1 v xs.length (U xs)) (hx:Bs xs) (hm:xs.length≤140737488355328):∃a cap,v= .slice a xs.length cap∧IsB w a xs.length cap xs:=by
 by_cases h0:xs.length=0
 ·obtain⟨_,⟨rfl,_⟩ |⟨g,cap,cur,rfl,_⟩⟩:=h
  ·exact⟨none,0,by rw [h0],rfl,hx,hm,.inl h0⟩
  ·exact⟨_,cap,rfl,rfl,hx,hm,.inl h0⟩
 ·obtain⟨g,cap,rfl,_,hc,hcell⟩:=kD h (by omega);exact⟨_,cap,rfl,rfl,hx,hm,.inr ⟨g,0,rfl,hc,hcell⟩⟩
theorem IsB.news {w:World} {ad:Addr} {len cap:Nat} {xs:List Int} (h:IsB w (some ad) len cap xs):∀j u,(U xs)[j]? =some u→w.cell? (ad.add j)=some u:=by
 obtain⟨h1,h2,h3,h0 |⟨b,off,ha,hc,hL⟩⟩:=h
 ·intro j u hj;have:xs= []:=List.eq_nil_of_length_eq_zero (by omega);subst this;simp [U]at hj
 ·cases ha;intro j u hj;have hjl:j<xs.length:=by
   rcases Nat.lt_or_ge j xs.length with h | h
   ·exact h
   ·simp [U,List.getElem?_eq_none h]at hj
  have hp:(⟨b,off,none⟩:Addr).add j=⟨b,off+j,none⟩:=by unfold Addr.add;split <;>simp_all
  rw [hp,hL j hjl];simp [U,List.getElem?_eq_getElem hjl]at hj;subst hj;simp [List.getD,List.getElem?_eq_getElem hjl]
end
def dyB (xs:List Int):Bool:=(strOfNums (xs.take 2)).toList== [100,121]
def nM (xs:List Int):Int:=if xs.length<6 then 5 else if dyB xs=true then df (xs.drop 6)else 4
def unw (xs:List Int):Value:=if nM xs=0 then .tuple #[.int .i64 (wd xs 2),.int .i64 (wd xs 4),gN (xs.drop 6),.int .i64 0]else .tuple #[.int .i64 0,.int .i64 0,dr,.int .i64 (nM xs)]
theorem yD (b off cap:Nat) (xs:List Int) (hn:2≤xs.length) (w:World) (hL:Lies w b off xs):
  (convert 162 9 (.slice (some ⟨b,off,none⟩) 2 cap)).run Tryz.prog w= .ok (.string (strOfNums (xs.take 2))) w:=
 run_convert_bytes_arg w 162 5 Tryz.underlying162 Tryz.underlying5 b off 2 cap (xs.take 2) (by simp;omega) (fun i hi=>by
  rw [hL i (by omega)];simp [hi]) 9 Tryz.underlying9
theorem vy (xs:List Int):∃a b c d e f g:Int,∃s:ByteArray,gN xs=fr a b c d e f g s:=by
 unfold gN;split
 ·exact⟨_,_,_,_,_,_,_,_,rfl⟩
 ·exact⟨_,_,_,_,_,_,_,_,rfl⟩
def bW (net tow dst src kind ips ipd ttl port:Int) (body:ByteArray):List Int:=[100,121]++bO net++bO tow++enc dst src kind ips ipd ttl port body
theorem jw (dst src kind ips ipd ttl port:Int) (body:ByteArray):(enc dst src kind ips ipd ttl port body).length=16+body.size:=by
 unfold enc;rw [List.length_append,ew];simp [bO];omega
theorem qi (dst src kind ips ipd ttl port:Int) (body:ByteArray):∃q0 q1:Int,bO (sm (gj dst src kind ips ipd ttl port body))= [q0,q1]∧
  enc dst src kind ips ipd ttl port body=dst/256::dst%256::src/256::src%256::kind::ttl::ips/256::ips%256::ipd/256::ipd%256::port/256::port%256::(body.size:Int)/256::(body.size:Int)%256::(nD body++ [q0,q1]):=by
 refine⟨_,_,rfl,?_⟩;unfold enc;have h:bO (sm (gj dst src kind ips ipd ttl port body))= [sm (gj dst src kind ips ipd ttl port body)/256,sm (gj dst src kind ips ipd ttl port body)%256]:=rfl;rw [h];generalize sm (gj dst src kind ips ipd ttl port body)/256=q0;generalize sm (gj dst src kind ips ipd ttl port body)%256=q1;simp [gj,bO]
theorem yh (s:ByteArray):strOfNums (nD s)=s:=by
 apply ByteArray.ext;apply Array.toList_inj.1;rw [strOfNums_data,nD,List.map_map]
 conv=>rhs;rw [←List.map_id s.data.toList]
 apply List.map_congr_left;intro x _;simp
theorem Bf {dst src kind ips ipd ttl port:Int} {body:ByteArray} (hf:aQ dst src kind ips ipd ttl port body.size=0):Bs (enc dst src kind ips ipd ttl port body):=by
 have h:=wM (lQ hf);exact(lQ hf).append (eS _ h.1 h.2)
theorem oh {dst src kind ips ipd ttl port:Int} {body:ByteArray} (z:List Int):
  wd (enc dst src kind ips ipd ttl port body++z) 0=dst∧wd (enc dst src kind ips ipd ttl port body++z) 2=src∧bt (enc dst src kind ips ipd ttl port body++z) 4=kind∧bt (enc dst src kind ips ipd ttl port body++z) 5=ttl∧
  wd (enc dst src kind ips ipd ttl port body++z) 6=ips∧wd (enc dst src kind ips ipd ttl port body++z) 8=ipd∧wd (enc dst src kind ips ipd ttl port body++z) 10=port∧wd (enc dst src kind ips ipd ttl port body++z) 12=body.size:=by
 obtain⟨q0,q1,_,h⟩:=qi dst src kind ips ipd ttl port body;rw [h];simp only [wd,bt,List.cons_append];refine⟨?_,?_,rfl,rfl,?_,?_,?_,?_⟩
 ·show dst/256*256+dst%256=dst;omega
 ·show src/256*256+src%256=src;omega
 ·show ips/256*256+ips%256=ips;omega
 ·show ipd/256*256+ipd%256=ipd;omega
 ·show port/256*256+port%256=port;omega
 ·show(body.size:Int)/256*256+(body.size:Int)%256=(body.size:Int);omega
theorem vS (dst src kind ips ipd ttl port:Int) (body:ByteArray):(enc dst src kind ips ipd ttl port body).take (14+body.size)=gj dst src kind ips ipd ttl port body:=by
 unfold enc;rw [List.take_append_of_le_length (by rw [ew];omega),List.take_of_length_le (by rw [ew];omega)]
theorem iB (a z:List Int) (i:Nat):(a++z).getD (a.length+i) 0=z.getD i 0:=by
 simp [List.getD,List.getElem?_append_right]
theorem zD {dst src kind ips ipd ttl port:Int} {body:ByteArray} (hf:aQ dst src kind ips ipd ttl port body.size=0):chk (enc dst src kind ips ipd ttl port body)=0:=by
 have h40:=(gC hf).2.2.2.2.2.2.2;have hw:wd (enc dst src kind ips ipd ttl port body) 12=body.size:=by have:=(oh (dst:=dst) (src:=src) (kind:=kind) (ips:=ips) (ipd:=ipd) (ttl:=ttl) (port:=port) (body:=body) []).2.2.2.2.2.2.2;simpa using this
 have hl:=jw dst src kind ips ipd ttl port body;have hs:=wM (lQ hf);have hq:wd (enc dst src kind ips ipd ttl port body) (14+body.size)=sm (gj dst src kind ips ipd ttl port body):=by
  have h0:=ew dst src kind ips ipd ttl port body;unfold wd enc;have e0:=iB (gj dst src kind ips ipd ttl port body) (bO (sm (gj dst src kind ips ipd ttl port body))) 0;have e1:=iB (gj dst src kind ips ipd ttl port body) (bO (sm (gj dst src kind ips ipd ttl port body))) 1;rw [h0]at e0 e1;rw [Nat.add_zero]at e0;rw [e0,e1];show sm _/256*256+sm _%256=sm _;omega
 unfold chk;rw [hw,hl,Int.toNat_natCast,vS,hq,if_neg (by omega),if_neg (by omega),if_neg (by omega),if_neg (by omega)];simp
theorem wj (dst src kind ips ipd ttl port:Int) (body:ByteArray):fR (enc dst src kind ips ipd ttl port body) body.size=body:=by
 obtain⟨q0,q1,_,h⟩:=qi dst src kind ips ipd ttl port body;rw [h];unfold fR;simp only [List.drop_succ_cons,List.drop_zero];rw [List.take_append_of_le_length (by rw [fJ];omega),List.take_of_length_le (by rw [fJ];omega),yh]
theorem Aj {dst src kind ips ipd ttl port:Int} {body:ByteArray} (hf:aQ dst src kind ips ipd ttl port body.size=0):
  df (enc dst src kind ips ipd ttl port body)=0∧gN (enc dst src kind ips ipd ttl port body)=fr dst src kind ips ipd ttl port body:=by
 have hc:=zD hf;have hw:=oh (dst:=dst) (src:=src) (kind:=kind) (ips:=ips) (ipd:=ipd) (ttl:=ttl) (port:=port) (body:=body) [];rw [List.append_nil]at hw;obtain⟨w0,w2,w4,w5,w6,w8,w10,w12⟩:=hw;have hE:df (enc dst src kind ips ipd ttl port body)=0:=by
  unfold df kw;rw [if_pos hc,w0,w2,w4,w5,w6,w8,w10,w12,Int.toNat_natCast];exact hf
 refine⟨hE,?_⟩;unfold gN;rw [if_pos hE,w12,Int.toNat_natCast];unfold rB;rw [w0,w2,w4,w5,w6,w8,w10,wj]
theorem qs {net tow dst src kind ips ipd ttl port:Int} {body:ByteArray} (hf:aQ dst src kind ips ipd ttl port body.size=0):
  unw (bW net tow dst src kind ips ipd ttl port body)= .tuple #[.int .i64 net,.int .i64 tow,fr dst src kind ips ipd ttl port body,.int .i64 0]:=by
 obtain⟨hE,hV⟩:=Aj hf;have hx:bW net tow dst src kind ips ipd ttl port body=100::121::net/256::net%256::tow/256::tow%256::enc dst src kind ips ipd ttl port body:=by simp [bW,bO]
 generalize enc dst src kind ips ipd ttl port body=xs at*;have hd:dyB (bW net tow dst src kind ips ipd ttl port body)=true:=by rw [hx];unfold dyB;simp only [List.take_succ_cons,List.take_zero];rw [ByteArray.toList_eq,strOfNums_data];decide
 have h6:(bW net tow dst src kind ips ipd ttl port body).drop 6=xs:=by rw [hx];rfl
 have hU:nM (bW net tow dst src kind ips ipd ttl port body)=0:=by
  unfold nM;rw [if_neg (by rw [hx];simp),if_pos hd,h6,hE]
 unfold unw;rw [if_pos hU,h6,hV,hx];have e1:wd (100::121::net/256::net%256::tow/256::tow%256::xs) 2=net:=by show net/256*256+net%256=net;omega
 have e2:wd (100::121::net/256::net%256::tow/256::tow%256::xs) 4=tow:=by show tow/256*256+tow%256=tow;omega
 rw [e1,e2]
theorem lv (g:Nat) (p q x:Int) (w:World) (h0:w.cell? ⟨g,0,none⟩=some (.int .u8 p)) (h1:w.cell? ⟨g,1,none⟩=some (.int .u8 q)) (hx0:0≤x) (hx1:x≤65535):
  Calls Tryz.prog 162 #[.slice (some ⟨g,0,none⟩) 2 2,.int .i64 x] w fun e w'=>∃v',e= .returned v'∧w'.ownsRow w.heap.size 5 1 v' ([p,q]++bO x).length (U ([p,q]++bO x))∧Below w.heap.size w w':=by
 obtain⟨i0,hi,hz0,hz1,hz2⟩:=info_parts jY;have hlt:g<w.heap.size:=by
  rcases Nat.lt_or_ge g w.heap.size with h | h
  ·exact h
  ·simp [World.cell?,Array.getElem?_eq_none h]at h0
 have holds:∀o:Obj,∀j u,(U [p,q])[j]? =some u→(w.alloc o).cell? ((⟨g,0,none⟩:Addr).add j)=some u:=by
  intro o j u hj
  match j,hj with
  | 0,hj=>simp [U]at hj;subst hj;exact Lib.cell?_alloc_marked o (by simpa [Addr.add] using h0)
  | 1,hj=>simp [U]at hj;subst hj;exact Lib.cell?_alloc_marked o (by simpa [Addr.add] using h1)
 have HO:=aa holds;clear holds h0 h1;go_enter Tryz.func162,Tryz.ntmps162;go_wp2_with (at_builtin;refine wpList_append_grows _ rfl _ _ 162 rfl 5 i0 (.int .u8 0) 1 1 Tryz.underlying162 hi hz0 hz1 hz2 rfl (by decide) (some ⟨g,0,none⟩) 2 2 (U [p,q]) rfl ?n1 rfl ?n2 ⟨w.heap.size,0,none⟩ 2 2 (U (bO x)) rfl rfl ?n3 ?n4 ?n5 ?n6 ?n7 ?_)
 case n1=>simp
 case n2=>intro b hb;cases hb;exact ag HO _
 case n3=>
  intro j u hj
  match j,hj with
  | 0,hj=>simp [U,bO]at hj;subst hj;simp [Addr.add]
  | 1,hj=>simp [U,bO]at hj;subst hj;simp [Addr.add]
 case n4=>exact ug _
 case n5=>decide
 case n6=>decide
 case n7=>decide
 intro v' w1 hown' hgrow;have hbel:Below w.heap.size w w1:=((Below.refl _ w).alloc zr _).grown hgrow (by simp) (by simp);have hown2:w1.ownsRow w.heap.size 5 1 v' ([p,q]++bO x).length (U ([p,q]++bO x)):=aA (lX (xs:=[p,q]) hown' rfl) (by simp);clear hown' hgrow HO;go_wp2;go_ret;exact⟨v',rfl,hown2,hbel⟩
theorem zR {w:World} {g:Nat} {xs:List Int} (h:∀i,i<xs.length→w.cell? ⟨g,0+i,none⟩=some (.int .u8 (xs.getD i 0))):∀j u,(U xs)[j]? =some u→w.cell? ((⟨g,0,none⟩:Addr).add j)=some u:=by
 intro j u hj;have hjl:j<xs.length:=by
  rcases Nat.lt_or_ge j xs.length with h | h
  ·exact h
  ·simp [U,List.getElem?_eq_none h]at hj
 have hp:(⟨g,0,none⟩:Addr).add j=⟨g,0+j,none⟩:=by unfold Addr.add;split <;>simp_all
 rw [hp,h j hjl];simp [U,List.getElem?_eq_getElem hjl]at hj;subst hj;simp [List.getD,List.getElem?_eq_getElem hjl]
theorem yE (net tow dst src kind ips ipd ttl port:Int) (body:ByteArray) (w:World) (h1:ap net=true) (h2:ap tow=true) (hf:aQ dst src kind ips ipd ttl port body.size=0):
  Calls Tryz.prog 102 #[.int .i64 net,.int .i64 tow,fr dst src kind ips ipd ttl port body] w fun e w'=>∃v,e= .returned (.tuple #[v,.int .i64 0])∧
   w'.ownsRow w.heap.size 5 1 v (bW net tow dst src kind ips ipd ttl port body).length (U (bW net tow dst src kind ips ipd ttl port body))∧Below w.heap.size w w':=by
 have hn:0≤net∧net≤65535:=by simpa [ap] using h1
 have ht:0≤tow∧tow≤65535:=by simpa [ap] using h2
 obtain⟨hn0,hn1⟩:=hn;obtain⟨ht0,ht1⟩:=ht;have hn40:=(gC hf).2.2.2.2.2.2.2;obtain⟨i0,hi,hz0,hz1,hz2⟩:=info_parts jY;have kc:=fun(w:World) (C:Array Value) (n c:Nat)=>Lib.run_convert_bytes_const (P:=Tryz.prog) w 162 5 C n c Tryz.underlying162 Tryz.underlying5;have hlen:=jw dst src kind ips ipd ttl port body;go_enter Tryz.func102,Tryz.ntmps102;go_wp2_with (go_at_call 156;refine(mU _ _).mono ?_;rintro e w' ⟨rfl,rfl⟩)
 refine(tO _ _ _ _ _ _ _ _ _ hf).mono ?_;rintro e w1 ⟨v1,rfl,ho1,hb1⟩;have HW:Hid (bW net tow dst src kind ips ipd ttl port body= [100,121]++bO net++bO tow++enc dst src kind ips ipd ttl port body):=rfl;generalize enc dst src kind ips ipd ttl port body=xs at*;have hl1:16≤xs.length:=by omega
 have hl2:xs.length≤56:=by omega
 clear hlen hn40;obtain⟨g,cap,rfl,hg,_,hcell⟩:=kD ho1 (by omega);have hB1:w.heap.size+1≤w1.heap.size:=by have:=hb1.size;simpa using this
 have HC:=aa hcell;clear hcell ho1;go_wp2_with fail
 refine(lv w1.heap.size 100 121 net _ ?_ ?_ hn0 hn1).mono ?_
 ·rw [World.cell?_alloc_mark];rfl
 ·rw [World.cell?_alloc_mark];rfl
 rintro e w2 ⟨v2,rfl,ho2,hb2⟩;have hs2:w1.heap.size+1≤w2.heap.size:=by have:=hb2.size;simpa using this
 have hb2':Below (w1.heap.size+1) (w1.alloc (.cells #[.int .u8 100,.int .u8 121] 5 (2,3))) w2:=hb2.mono (by simp);have ho2':=aA ho2 (B':=w1.heap.size+1) (by simp);clear ho2 hb2;go_wp2_with fail
 refine(bC (w1.heap.size+1) v2 _ tow _ ho2' ht0 ht1 (by simp [bO]) hs2).mono ?_;rintro e w3 ⟨v3,rfl,ho3,hb3⟩;have hb3':=hb2'.trans hb3;have hs3:=Nat.le_trans hs2 hb3.size;have hb30:Below w1.heap.size w1 w3:=((Below.refl _ w1).alloc zr _).trans (hb3'.mono (by omega));have hc3:∀i,i<xs.length→w3.cell? ⟨g,0+i,none⟩=some (.int .u8 (xs.getD i 0)):=fun i hi=>(hb30.cell (p:=⟨g,0+i,none⟩) hg.2).trans (ag HC i hi);have HC3:=aa hc3;clear hb2' ho2' hb3 hc3 HC;go_wp2_with (at_builtin;refine wpList_append_own _ rfl _ _ 162 rfl (w1.heap.size+1) 5 i0 (.int .u8 0) 1 1 Tryz.underlying162 hi hz0 hz1 hz2 rfl (by decide) _ _ _ rfl ho3 ⟨g,0,none⟩ xs.length cap (U xs) rfl ?m1 ?m2 ?m3 ?m4 ?m5 ?m6 ?_)
 case m1=>simp [wJ]
 case m2=>exact zR (ag HC3)
 case m3=>exact ug _
 case m4=>simp [bO,maxLen];omega
 case m5=>simp [bO];omega
 case m6=>exact hs3
 intro v4 w4 ho4 hg4 _;have hb4:Below (w1.heap.size+1) w3 w4:=(Below.refl _ w3).grown hg4 hs3 (aS ho3);have ho4':=lX ho4 rfl;have hbel:Below w.heap.size w w4:=(((Below.refl w.heap.size w).alloc zr _).trans (hb1.mono (by simp))).trans ((hb30.mono (by omega)).trans (hb4.mono (by omega)));clear ho3 ho4 hg4 hb30 hb3' HC3 hb4;go_wp2;go_ret2;refine⟨v4,rfl,?_,hbel⟩;rw [HW.out];exact aA ho4' (by omega)
theorem sD (a:Option Addr) (len cap:Nat) (xs:List Int) (w:World) (hI:IsB w a len cap xs):
  Calls Tryz.prog 103 #[.slice a len cap] w fun e w'=>e= .returned (unw xs)∧Below w.heap.size w w':=by
 obtain⟨hl,hx,hm,hI⟩:=hI;by_cases h6:len<6
 ·have HR:Hid (Ending.returned (unw xs)= .returned (.tuple #[.int .i64 0,.int .i64 0,dr,.int .i64 5])):=by
   show _=_;have hE:nM xs=5:=by unfold nM;rw [if_pos (by omega)]
   unfold unw;rw [hE];rfl
  clear hI;go_enter Tryz.func103,Tryz.ntmps103;go_wp2_with fail
  refine bodyPost_ret (v:=.tuple #[.int .i64 0,.int .i64 0,dr,.int .i64 5]) ?_ rfl ⟨HR.out.symm,?_⟩
  ·simp [results,Tryz.results103,go_sem]
  ·exact(Below.refl _ _).alloc zr _
 ·obtain⟨b,off,rfl,hlc,hL⟩:∃b off,a=some ⟨b,off,none⟩∧len≤cap∧Lies w b off xs:=by
   rcases hI with h0 | h
   ·omega
   ·exact h
  clear hI;have hbw:=hL.lt (by omega);have hL0:∀o:Obj,Lies (w.alloc o) b off xs:=fun o=>hL.below ((Below.refl _ w).alloc zr o) hbw;have hT:(xs.take 2).length=2:=by simp;omega
  have hcv:=fun(o:Obj) (c:Nat)=>yD b off c xs (by omega) (w.alloc o) (hL0 o);have k6:((6:Int))≤(len:Int):=(by omega);have k2:((2:Int))≤(cap:Int):=(by omega);by_cases hdy:dyB xs=true
  ·have hE:nM xs=df (xs.drop 6):=by unfold nM;rw [if_neg (by omega),if_pos hdy]
   have hU:unw xs=if df (xs.drop 6)=0 then .tuple #[.int .i64 (wd xs 2),.int .i64 (wd xs 4),gN (xs.drop 6),.int .i64 0]else .tuple #[.int .i64 0,.int .i64 0,dr,.int .i64 (df (xs.drop 6))]:=by unfold unw;rw [hE]
   have HU:=aa hU;clear hU hE;have hdl:(xs.drop 6).length=len-6:=by simp;omega
   have HD:=aa (fun a' c' w' (h:IsB w' a' (len-6) c' (xs.drop 6))=>sO a' (len-6) c' (xs.drop 6) w' h);have HW:=aa (fun(w':World) (h:Lies w' b off xs) (i:Int) (h0:0≤i) (h1:i+1<len)=>gS b off len cap xs i w' hl hx hm hlc h h0 h1);have HI6:Hid (∀o:Obj,IsB (w.alloc o) (some ⟨b,off+6,none⟩) (len-6) (cap-6) (xs.drop 6)):=fun o=>
    ⟨hdl,hx.drop 6,by omega,.inr ⟨b,off+6,rfl,by omega,fun i hi=>by
     rw [show off+6+i=off+(6+i) by omega,hL0 o (6+i) (by omega)];simp⟩⟩
   have HI0:Hid (cap=6→∀(o:Obj) (a':Option Addr) (c':Nat),IsB (w.alloc o) a' (len-6) c' (xs.drop 6)):=fun hc o a' c'=>
    ⟨hdl,hx.drop 6,by omega,.inl (by omega)⟩
   unfold dyB at hdy;have HX:=aa hx;clear hx hdl hT;have hy0:cap=6→df (xs.drop 6)=5:=fun hc=>by
    have:xs.drop 6= []:=List.drop_eq_nil_of_le (by omega);rw [this];decide
   generalize xs.drop 6=ys at*;obtain⟨d0,d1,d2,d3,d4,d5,d6,s,hV⟩:=vy ys;rw [hV]at HD HU;clear hV;by_cases n6:cap=6
   ·have hz:df ys≠0:=by rw [hy0 n6];decide
    obtain rfl:len=6:=(by omega);subst n6;have HI1:Hid (∀(o:Obj) (a':Option Addr) (c':Nat),IsB (w.alloc o) a' 0 c' ys):=HI0.out rfl;have HD1:Hid (∀a' c' w',IsB w' a' 0 c' ys→Calls Tryz.prog 163 #[.slice a' 0 c'] w' fun e w''=>e= .returned (.tuple #[fr d0 d1 d2 d3 d4 d5 d6 s,.int .i64 (df ys)])∧Below w'.heap.size w' w''):=HD;clear hy0 HI0 HI6 HD;go_enter Tryz.func103,Tryz.ntmps103;go_wp2_with fail
    refine(ag HD1 _ _ _ (HI1.out _ _ _)).mono ?_;rintro e w2 ⟨rfl,hb2⟩;have hz2:w.heap.size<w2.heap.size:=by have:=hb2.size;simp at this;omega
    have hz2':¬w.heap.size=w2.heap.size:=(by omega);have hb2':=hb2.mono (B':=w.heap.size+1) (by simp);obtain⟨hc2,hf2⟩:=eJ hb2';have hbel:Below w.heap.size w w2:=((Below.refl _ w).alloc zr _).trans (hb2'.mono (by omega));have hs2:w.heap.size≤w2.heap.size:=(by omega);have HR:Hid (Ending.returned (unw xs)= .returned (.tuple #[.int .i64 0,.int .i64 0,dr,.int .i64 (df ys)])):=by show _=_;rw [HU.out,if_neg hz]
    have hne:(df ys != 0)=true:=(by simpa using hz);clear HU hz hb2 hb2' HD1 HW HI1;go_wp2_with fail
    refine bodyPost_ret (v:=.tuple #[.int .i64 0,.int .i64 0,dr,.int .i64 (df ys)]) ?_ rfl ⟨HR.out.symm,?_⟩
    ·simp [results,Tryz.results103,go_sem,hc2,hz2]
    ·exact(dZ hbel _ zr _ _ _ _ _ _ _ _).alloc (by simp;omega) _
   ·clear hy0;go_enter Tryz.func103,Tryz.ntmps103;go_wp2_with fail
    refine(ag HD _ _ _ (HI6.out _)).mono ?_;rintro e w2 ⟨rfl,hb2⟩;have hz2:w.heap.size<w2.heap.size:=by have:=hb2.size;simp at this;omega
    have hz2':¬w.heap.size=w2.heap.size:=(by omega);have hb2':=hb2.mono (B':=w.heap.size+1) (by simp);obtain⟨hc2,hf2⟩:=eJ hb2';have hbel:Below w.heap.size w w2:=((Below.refl _ w).alloc zr _).trans (hb2'.mono (by omega));have hs2:w.heap.size≤w2.heap.size:=(by omega);by_cases hz:df ys=0
    ·have HR:Hid (Ending.returned (unw xs)= .returned (.tuple #[.int .i64 (wd xs 2),.int .i64 (wd xs 4),fr d0 d1 d2 d3 d4 d5 d6 s,.int .i64 0])):=by show _=_;rw [HU.out,if_pos hz]
     have hL2:Lies w2 b off xs:=hL.below hbel hbw;clear HU hb2 hb2' HD HI6 HI0;have hbn:¬b=w.heap.size:=(by omega);have hbn2:¬b=w2.heap.size:=(by omega);have hbw2:b<w2.heap.size:=(by omega);have hz2'':¬w2.heap.size=w.heap.size:=(by omega);have k4:(4:Int)+1<(len:Int):=(by omega);have k3:(2:Int)+1<(len:Int):=(by omega);clear hcv hdy;go_wp2_with fail
     go_region_held3 (fun w'=>Lies w' b off xs∧w'.cell? ⟨w2.heap.size,0,none⟩=some (Value.int .i64 d0)∧w'.cell? ⟨w2.heap.size,1,none⟩=some (Value.int .i64 d1)∧w'.cell? ⟨w2.heap.size,2,none⟩=some (Value.int .i64 d2)∧w'.cell? ⟨w2.heap.size,3,none⟩=some (Value.int .i64 d3)∧w'.cell? ⟨w2.heap.size,4,none⟩=some (Value.int .i64 d4)∧w'.cell? ⟨w2.heap.size,5,none⟩=some (Value.int .i64 d5)∧w'.cell? ⟨w2.heap.size,6,none⟩=some (Value.int .i64 d6)∧w'.cell? ⟨w2.heap.size,7,none⟩=some (Value.string s)) (first |(simp [*,mA,ow];done) |(simp [*,mA,mM];done) |(simp [*,kS,ix];done))
      (first |(go_at_call 164;refine(ag HW _ (by first | assumption |(simp [*];done)) _ (by omega) (by omega)).mono ?_;rintro e w' ⟨rfl,m,rfl⟩))
     go_wp2;refine bodyPost_ret (v:=.tuple #[.int .i64 (wd xs 2),.int .i64 (wd xs 4),fr d0 d1 d2 d3 d4 d5 d6 s,.int .i64 0]) ?_ rfl ⟨HR.out.symm,?_⟩
     ·simp [results,Tryz.results103,go_sem,hc2,hz2]
     ·exact dZ (below_drewN (hbel.alloc hs2 _) _) _ zr _ _ _ _ _ _ _ _
    ·have HR:Hid (Ending.returned (unw xs)= .returned (.tuple #[.int .i64 0,.int .i64 0,dr,.int .i64 (df ys)])):=by show _=_;rw [HU.out,if_neg hz]
     have hne:(df ys != 0)=true:=(by simpa using hz);clear HU hz hb2 hb2' HD HW HI6 HI0;go_wp2_with fail
     refine bodyPost_ret (v:=.tuple #[.int .i64 0,.int .i64 0,dr,.int .i64 (df ys)]) ?_ rfl ⟨HR.out.symm,?_⟩
     ·simp [results,Tryz.results103,go_sem,hc2,hz2]
     ·exact(dZ hbel _ zr _ _ _ _ _ _ _ _).alloc (by simp;omega) _
  ·have hdy':dyB xs=false:=(by simpa using hdy);have HR:Hid (Ending.returned (unw xs)= .returned (.tuple #[.int .i64 0,.int .i64 0,dr,.int .i64 4])):=by
    show _=_;have hE:nM xs=4:=by unfold nM;rw [if_neg (by omega),if_neg hdy]
    unfold unw;rw [hE];rfl
   unfold dyB at hdy';clear hdy;go_enter Tryz.func103,Tryz.ntmps103;go_wp2_with fail
   refine bodyPost_ret (v:=.tuple #[.int .i64 0,.int .i64 0,dr,.int .i64 4]) ?_ rfl ⟨HR.out.symm,?_⟩
   ·simp [results,Tryz.results103,go_sem]
   ·exact(Below.refl _ _).alloc zr _
theorem zb {net tow dst src kind ips ipd ttl port:Int} {body:ByteArray} (hf:aQ dst src kind ips ipd ttl port body.size=0) (h0:ap net=true) (h2:ap tow=true):Bs (bW net tow dst src kind ips ipd ttl port body):=by
 unfold bW;simp only [ap,decide_eq_true_eq]at h0 h2;refine(((?_:Bs [100,121]).append (eS _ h0.1 h0.2)).append (eS _ h2.1 h2.2)).append (Bf hf);intro n h;simp at h;omega
theorem qT (net tow dst src kind ips ipd ttl port:Int) (body:ByteArray):(bW net tow dst src kind ips ipd ttl port body).length=22+body.size:=by
 unfold bW;simp [bO,jw];omega
theorem kR {dst src kind ips ipd ttl port:Int} {n:Nat} (h:aQ dst src kind ips ipd ttl port n=0):n≤40∧(kind=1∨kind=2∨kind=3)∧(0≤ttl∧ttl≤255)∧(kind≠3→ttl=0∧port=0∧n=0)∧(ap dst=true∧ap src=true∧ap ips=true∧ap ipd=true∧ap port=true):=by
 unfold aQ at h;split at h
 ·rename_i hk;split at h
  ·rename_i hb;split at h
   ·omega
   ·split at h
    ·omega
    ·rename_i h1 h2;simp only [gY,decide_eq_true_eq]at hk;simp only [cB,jc,Bool.and_eq_true,decide_eq_true_eq]at hb;refine⟨by omega,by omega,by omega,fun h3=>?_,hb.1.1.1.1.1,hb.1.1.1.1.2,hb.1.1.1.2,hb.1.1.2,hb.1.2⟩;have:jO ttl port n≠true:=fun h=>h2 ⟨h3,h⟩;simp [jO]at this;omega
  ·omega
 ·omega
theorem mS:(Tryz.prog.info? 28).map (·.size)=some 8:=by kernel_rfl
theorem gw:(Tryz.prog.info? 78).map (·.size)=some 11:=by kernel_rfl
theorem tt (g0 g1 g2 g3 g4 g5 g6 g7 g8 g9:Int) (body:ByteArray) (w:World) (hb:body.size≤maxLen) (hE:aQ g1 g2 g3 g4 g5 g6 g7 body.size≠0):
  Calls Tryz.prog 56 #[pkt g0 g1 g2 g3 g4 g5 g6 g7 g8 g9 body] w fun e w'=>e= .returned (.tuple #[pkZ,.int .i64 (aQ g1 g2 g3 g4 g5 g6 g7 body.size)])∧Below w.heap.size w w':=by
 have H1:=aa (fun W=>jt g0 g1 g2 g3 g4 g5 g6 g7 g8 g9 body W hb);generalize aQ g1 g2 g3 g4 g5 g6 g7 body.size=E at*;have hEb:(E != 0)=true:=by simpa using hE
 obtain⟨W0,hW0⟩:∃W0,W0=(w.alloc (.cells #[.int .i64 g0,.int .i64 g1,.int .i64 g2,.int .i64 g3,.int .i64 g4,.int .i64 g5,.int .i64 g6,.int .i64 g7,.int .i64 g8,.int .i64 g9,.string body] 78)).alloc (.cells #[.int .i64 0,.int .i64 0,.int .i64 0,.int .i64 0,.int .i64 0,.int .i64 0,.int .i64 0,.int .i64 0,.int .i64 0,.int .i64 0,.string ⟨#[]⟩] 78):=⟨_,rfl⟩;have k0:Below w.heap.size w W0:=by rw [hW0];exact((Below.refl _ w).alloc zr _).alloc (by simp) _
 have R0:Box W0 (w.heap.size+1) [.int .i64 0,.int .i64 0,.int .i64 0,.int .i64 0,.int .i64 0,.int .i64 0,.int .i64 0,.int .i64 0,.int .i64 0,.int .i64 0,.string ⟨#[]⟩]:=by rw [hW0];simpa using Box.new (w.alloc (.cells #[.int .i64 g0,.int .i64 g1,.int .i64 g2,.int .i64 g3,.int .i64 g4,.int .i64 g5,.int .i64 g6,.int .i64 g7,.int .i64 g8,.int .i64 g9,.string body] 78)) [.int .i64 0,.int .i64 0,.int .i64 0,.int .i64 0,.int .i64 0,.int .i64 0,.int .i64 0,.int .i64 0,.int .i64 0,.int .i64 0,.string ⟨#[]⟩] 78
 have P0:Box W0 w.heap.size [.int .i64 g0,.int .i64 g1,.int .i64 g2,.int .i64 g3,.int .i64 g4,.int .i64 g5,.int .i64 g6,.int .i64 g7,.int .i64 g8,.int .i64 g9,.string body]:=by rw [hW0];exact(Box.new w [.int .i64 g0,.int .i64 g1,.int .i64 g2,.int .i64 g3,.int .i64 g4,.int .i64 g5,.int .i64 g6,.int .i64 g7,.int .i64 g8,.int .i64 g9,.string body] 78).alloc _
 have HR:=aa R0;have HP:=aa P0;clear R0 P0;go_enter Tryz.func56,Tryz.ntmps56;go_wp2_with fail
 rw [←hW0];clear hW0;refine(ag H1 _).mono ?_;rintro e w1 ⟨rfl,hb1⟩;replace HR:=aa (HR.out.below hb1);replace HP:=aa (HP.out.below hb1);replace k0:=k0.trans (hb1.mono k0.size);have l1:=HR.out.lt;clear hb1;rw [if_neg hE];have HR1:=aa (HR.out.alloc (.cells #[.int .i64 0,.int .i64 0,.int .i64 0,.int .i64 0,.int .i64 0,.int .i64 0,.int .i64 0,.string ⟨#[]⟩] 28));go_wp2_with (first |(refine wpList_store_mid rfl 78 (.tmp 2) (.tmp 16) rfl (w.heap.size+1) 0 _ rfl rfl (HR1.out.fit 11 rfl) gw (fu rfl) ?_))
 refine bodyPost_ret (v:=.tuple #[pkZ,.int .i64 E]) ?_ rfl ⟨rfl,bj _ (by omega) _ _ (k0.alloc k0.size _)⟩;exact dC (cs:=[.int .i64 0,.int .i64 0,.int .i64 0,.int .i64 0,.int .i64 0,.int .i64 0,.int .i64 0,.int .i64 0,.int .i64 0,.int .i64 0,.string ⟨#[]⟩]) Tryz.results56 rfl (HR1.out.set ([.int .i64 0,.int .i64 0,.int .i64 0,.int .i64 0,.int .i64 0,.int .i64 0,.int .i64 0,.int .i64 0,.int .i64 0,.int .i64 0,.string ⟨#[]⟩]:List Value) rfl).range Tryz.underlying78 rfl gw
theorem rK {g1 g2 g3 g4 g5 g6 g7 g8 g9:Int} {n:Nat} (hf:aQ g1 g2 g3 g4 g5 g6 g7 n=0) (h8:ap g8=true) (h9:ap g9=true):pkE g1 g2 g3 g4 g5 g6 g7 n 0 g8 g9=0:=by
 unfold pkE;rw [if_pos hf];obtain⟨a,b,c,d,e1,e2,e3,e4,e5⟩:=kR hf;unfold bV;rw [if_pos,if_neg (by omega)];have hk:ap g3=true:=by simp [ap];omega
 have ht:ap g6=true:=by simp [ap];omega
 simp [e1,e2,e3,e4,e5,h8,h9,hk,ht];decide
theorem rm (g0 g1 g2 g3 g4 g5 g6 g7 g8 g9:Int) (body:ByteArray) (w:World) (hf:aQ g1 g2 g3 g4 g5 g6 g7 body.size=0) (h8:ap g8=true) (h9:ap g9=true):
  Calls Tryz.prog 56 #[pkt g0 g1 g2 g3 g4 g5 g6 g7 g8 g9 body] w fun e w'=>e= .returned (.tuple #[pkt 0 g1 g2 g3 g4 g5 g6 g7 g8 g9 body,.int .i64 0])∧Below w.heap.size w w':=by
 have hb40:=(kR hf).1;have hb:body.size≤maxLen:=by unfold maxLen;omega
 have H1:Hid (∀W,Calls Tryz.prog 101 #[pkt g0 g1 g2 g3 g4 g5 g6 g7 g8 g9 body] W fun e w'=>e= .returned (.tuple #[fr g1 g2 g3 g4 g5 g6 g7 body,.int .i64 0])∧Below W.heap.size W w'):=fun W=>by
  have:=jt g0 g1 g2 g3 g4 g5 g6 g7 g8 g9 body W hb
  rwa [if_pos hf,hf]at this
 have H2:=aa (fun W=>yE g8 g9 g1 g2 g3 g4 g5 g6 g7 body W h8 h9 hf);have H3:Hid (∀a' c' W,IsB W a' (bW g8 g9 g1 g2 g3 g4 g5 g6 g7 body).length c' (bW g8 g9 g1 g2 g3 g4 g5 g6 g7 body)→Calls Tryz.prog 103 #[.slice a' (bW g8 g9 g1 g2 g3 g4 g5 g6 g7 body).length c'] W fun e w'=>e= .returned (.tuple #[.int .i64 g8,.int .i64 g9,fr g1 g2 g3 g4 g5 g6 g7 body,.int .i64 0])∧Below W.heap.size W w'):=fun a' c' W h=>by
  have:=sD a' _ c' _ W h
  rwa [qs hf]at this
 have H4:Hid (∀W,Calls Tryz.prog 26 #[fr g1 g2 g3 g4 g5 g6 g7 body,.int .i64 0,.int .i64 g8,.int .i64 g9] W fun e w'=>e= .returned (.tuple #[pkt 0 g1 g2 g3 g4 g5 g6 g7 g8 g9 body,.int .i64 0])∧Below W.heap.size W w'):=fun W=>by
  have:=kW g1 g2 g3 g4 g5 g6 g7 body 0 g8 g9 W hb
  rwa [if_pos (rK hf h8 h9),rK hf h8 h9]at this
 have HBS:=aa (zb hf h8 h9);have hlen:(bW g8 g9 g1 g2 g3 g4 g5 g6 g7 body).length≤62:=by rw [qT];omega
 clear hf h8 h9 hb;generalize bW g8 g9 g1 g2 g3 g4 g5 g6 g7 body=ys at*;obtain⟨W0,hW0⟩:∃W0,W0=(w.alloc (.cells #[.int .i64 g0,.int .i64 g1,.int .i64 g2,.int .i64 g3,.int .i64 g4,.int .i64 g5,.int .i64 g6,.int .i64 g7,.int .i64 g8,.int .i64 g9,.string body] 78)).alloc (.cells #[.int .i64 0,.int .i64 0,.int .i64 0,.int .i64 0,.int .i64 0,.int .i64 0,.int .i64 0,.int .i64 0,.int .i64 0,.int .i64 0,.string ⟨#[]⟩] 78):=⟨_,rfl⟩;have k0:Below w.heap.size w W0:=by rw [hW0];exact((Below.refl _ w).alloc zr _).alloc (by simp) _
 have R0:Box W0 (w.heap.size+1) [.int .i64 0,.int .i64 0,.int .i64 0,.int .i64 0,.int .i64 0,.int .i64 0,.int .i64 0,.int .i64 0,.int .i64 0,.int .i64 0,.string ⟨#[]⟩]:=by rw [hW0];simpa using Box.new (w.alloc (.cells #[.int .i64 g0,.int .i64 g1,.int .i64 g2,.int .i64 g3,.int .i64 g4,.int .i64 g5,.int .i64 g6,.int .i64 g7,.int .i64 g8,.int .i64 g9,.string body] 78)) [.int .i64 0,.int .i64 0,.int .i64 0,.int .i64 0,.int .i64 0,.int .i64 0,.int .i64 0,.int .i64 0,.int .i64 0,.int .i64 0,.string ⟨#[]⟩] 78
 have P0:Box W0 w.heap.size [.int .i64 g0,.int .i64 g1,.int .i64 g2,.int .i64 g3,.int .i64 g4,.int .i64 g5,.int .i64 g6,.int .i64 g7,.int .i64 g8,.int .i64 g9,.string body]:=by rw [hW0];exact(Box.new w [.int .i64 g0,.int .i64 g1,.int .i64 g2,.int .i64 g3,.int .i64 g4,.int .i64 g5,.int .i64 g6,.int .i64 g7,.int .i64 g8,.int .i64 g9,.string body] 78).alloc _
 have HR:=aa R0;have HP:=aa P0;clear R0 P0;go_enter Tryz.func56,Tryz.ntmps56;go_wp2_with fail
 rw [←hW0];clear hW0;refine(ag H1 _).mono ?_;rintro e w1 ⟨rfl,hb1⟩;replace HR:=aa (HR.out.below hb1);replace HP:=aa (HP.out.below hb1);replace k0:=k0.trans (hb1.mono k0.size);have l1:=HR.out.lt;clear hb1;obtain⟨W2,hW2⟩:∃W2,W2=w1.alloc (.cells #[.int .i64 g1,.int .i64 g2,.int .i64 g3,.int .i64 g4,.int .i64 g5,.int .i64 g6,.int .i64 g7,.string body] 28):=⟨_,rfl⟩;have hbN:Below w1.heap.size w1 W2:=by rw [hW2];exact(Below.refl _ _).alloc zr _
 have F2:Box W2 w1.heap.size [.int .i64 g1,.int .i64 g2,.int .i64 g3,.int .i64 g4,.int .i64 g5,.int .i64 g6,.int .i64 g7,.string body]:=by rw [hW2];exact Box.new w1 [.int .i64 g1,.int .i64 g2,.int .i64 g3,.int .i64 g4,.int .i64 g5,.int .i64 g6,.int .i64 g7,.string body] 28
 have HF:=aa F2;replace HR:=aa (HR.out.below hbN);replace HP:=aa (HP.out.below hbN);replace k0:=k0.trans (hbN.mono k0.size);have p8:=HP.out.cell 8 _ rfl;have p9:=HP.out.cell 9 _ rfl;have HW2:=aa hW2;clear F2 hbN hW2;have l2:=HF.out.lt;go_wp2_with (first | rw [←HW2.out] |(refine wpList_load_mid rfl 28 (.tmp 4) rfl w1.heap.size 0 rfl _ _ HF.out.range Tryz.underlying28 rfl mS ?_))
 refine(ag H2 _).mono ?_;rintro e w3 ⟨v3,rfl,ho3,hb3⟩;obtain⟨a3,c3,rfl,hI3⟩:=zS ho3 HBS.out (by omega);have HI:=aa hI3;replace HR:=aa (HR.out.below hb3);replace HF:=aa (HF.out.below hb3);replace k0:=k0.trans (hb3.mono k0.size);clear p8 p9 HP ho3 hI3 hb3 H2 HBS HW2;go_wp2_with fail
 refine(ag H3 _ _ _ HI.out).mono ?_;rintro e w4 ⟨rfl,hb4⟩;replace HR:=aa (HR.out.below hb4);replace HF:=aa (HF.out.below hb4);replace k0:=k0.trans (hb4.mono k0.size);obtain⟨W5,hW5⟩:∃W5,W5=w4.setCells w1.heap.size 0 [.int .i64 g1,.int .i64 g2,.int .i64 g3,.int .i64 g4,.int .i64 g5,.int .i64 g6,.int .i64 g7,.string body]:=⟨_,rfl⟩;have HR1:Hid (Box W5 (w.heap.size+1) [.int .i64 0,.int .i64 0,.int .i64 0,.int .i64 0,.int .i64 0,.int .i64 0,.int .i64 0,.int .i64 0,.int .i64 0,.int .i64 0,.string ⟨#[]⟩]):=by rw [hW5];exact aa (HR.out.set_far (by omega) 0 _)
 have HF1:Hid (Box W5 w1.heap.size [.int .i64 g1,.int .i64 g2,.int .i64 g3,.int .i64 g4,.int .i64 g5,.int .i64 g6,.int .i64 g7,.string body]):=by rw [hW5];exact aa (HF.out.set _ rfl)
 replace k0:Below w.heap.size w W5:=by rw [hW5];exact bj w1.heap.size (by omega) _ 0 k0
 have HW5:Hid (w4.setCells w1.heap.size 0 [.int .i64 g1,.int .i64 g2,.int .i64 g3,.int .i64 g4,.int .i64 g5,.int .i64 g6,.int .i64 g7,.string body]=W5):=hW5.symm;clear hb4 H3 HI HR hW5;go_wp2_with (first |(refine wpList_store_mid rfl 28 (.tmp 4) (.tmp 38) rfl w1.heap.size 0 _ rfl rfl (HF.out.fit 8 rfl) mS (fu rfl) ?_;rw [show(#[.int .i64 g1,.int .i64 g2,.int .i64 g3,.int .i64 g4,.int .i64 g5,.int .i64 g6,.int .i64 g7,.string body]:Array Value).toList= [.int .i64 g1,.int .i64 g2,.int .i64 g3,.int .i64 g4,.int .i64 g5,.int .i64 g6,.int .i64 g7,.string body]from rfl,HW5.out]) |(refine wpList_load_mid rfl 28 (.tmp 4) rfl w1.heap.size 0 rfl _ _ HF1.out.range Tryz.underlying28 rfl mS ?_))
 refine(ag H4 _).mono ?_;rintro e w5 ⟨rfl,hb5⟩;replace HR1:=aa (HR1.out.below hb5);replace k0:=k0.trans (hb5.mono k0.size);clear hb5 H4 HF HF1;go_wp2_with (refine wpList_store_mid rfl 78 (.tmp 2) (.tmp 48) rfl (w.heap.size+1) 0 _ rfl rfl (HR1.out.fit 11 rfl) gw (fu rfl) ?_)
 refine bodyPost_ret (v:=.tuple #[pkt 0 g1 g2 g3 g4 g5 g6 g7 g8 g9 body,.int .i64 0]) ?_ rfl ⟨rfl,bj _ (by omega) _ _ k0⟩;exact dC (cs:=[.int .i64 0,.int .i64 g1,.int .i64 g2,.int .i64 g3,.int .i64 g4,.int .i64 g5,.int .i64 g6,.int .i64 g7,.int .i64 g8,.int .i64 g9,.string body]) Tryz.results56 rfl (HR1.out.set ([.int .i64 0,.int .i64 g1,.int .i64 g2,.int .i64 g3,.int .i64 g4,.int .i64 g5,.int .i64 g6,.int .i64 g7,.int .i64 g8,.int .i64 g9,.string body]:List Value) rfl).range Tryz.underlying78 rfl gw
def dM (fs:List Fl) (F:List Int) (n:Nat):Int:=if bh fs=0 then bV F n else bh fs
def jC (fs:List Fl) (F:List Int) (n:Nat):List Sn:=if dM fs F n=0 then ran fs F else []
theorem yi {fs:List Fl} (h:bh fs=0):fs.length≤5000:=by
 rcases Nat.lt_or_ge 5000 fs.length with h' | h'
 ·unfold bh at h;rw [if_pos h']at h;omega
 ·exact h'
theorem rF (f0 f1 f2 f3 f4 f5 f6 f7 f8 f9:Int) (body:ByteArray) (v:Value) (fs:List Fl) (w:World) (hL:FsAt w v fs) (hb:body.size≤maxLen) (hm:fs.length≤140737488355328):
  Calls Tryz.prog 27 #[v,pkt f0 f1 f2 f3 f4 f5 f6 f7 f8 f9 body] w fun e w'=>∃u,e= .returned (.tuple #[u,.int .i64 (dM fs [f0,f1,f2,f3,f4,f5,f6,f7,f8,f9] body.size)])∧w'.ownsRow w.heap.size 85 13 u (jC fs [f0,f1,f2,f3,f4,f5,f6,f7,f8,f9] body.size).length (S body (jC fs [f0,f1,f2,f3,f4,f5,f6,f7,f8,f9] body.size))∧Below w.heap.size w w':=by
 by_cases hz:bh fs=0
 ·by_cases hp:bV [f0,f1,f2,f3,f4,f5,f6,f7,f8,f9] body.size=0
  ·have h1:dM fs [f0,f1,f2,f3,f4,f5,f6,f7,f8,f9] body.size=0:=by unfold dM;rw [if_pos hz];exact hp
   have h2:jC fs [f0,f1,f2,f3,f4,f5,f6,f7,f8,f9] body.size=ran fs [f0,f1,f2,f3,f4,f5,f6,f7,f8,f9]:=by unfold jC;rw [if_pos h1]
   rw [h1,h2];exact yX f0 f1 f2 f3 f4 f5 f6 f7 f8 f9 body v fs w hL hz hp (yi hz)
  ·have h1:dM fs [f0,f1,f2,f3,f4,f5,f6,f7,f8,f9] body.size=bV [f0,f1,f2,f3,f4,f5,f6,f7,f8,f9] body.size:=by unfold dM;rw [if_pos hz]
   have h2:jC fs [f0,f1,f2,f3,f4,f5,f6,f7,f8,f9] body.size= []:=by unfold jC;rw [if_neg (by rw [h1];exact hp)]
   rw [h1,h2];have HL:=aa hL;have HZ:=aa hz;obtain⟨a,cap,rfl,hn,_⟩:=hL;have HC:=aa (fun W=>eG f0 f1 f2 f3 f4 f5 f6 f7 f8 f9 body W hb);generalize bV [f0,f1,f2,f3,f4,f5,f6,f7,f8,f9] body.size=R at*;clear h1 h2 hz;go_enter Tryz.func27,Tryz.ntmps27;go_wp2_with fail
   obtain⟨W0,hW0⟩:∃W0,W0=w.alloc (.cells #[.int .i64 f0,.int .i64 f1,.int .i64 f2,.int .i64 f3,.int .i64 f4,.int .i64 f5,.int .i64 f6,.int .i64 f7,.int .i64 f8,.int .i64 f9,.string body] 78):=⟨_,rfl⟩;have c0:W0.cell? ⟨w.heap.size,0,none⟩=some (.int .i64 f0):=by rw [hW0];simp
   have c1:W0.cell? ⟨w.heap.size,1,none⟩=some (.int .i64 f1):=by rw [hW0];simp
   have c2:W0.cell? ⟨w.heap.size,2,none⟩=some (.int .i64 f2):=by rw [hW0];simp
   have c3:W0.cell? ⟨w.heap.size,3,none⟩=some (.int .i64 f3):=by rw [hW0];simp
   have c4:W0.cell? ⟨w.heap.size,4,none⟩=some (.int .i64 f4):=by rw [hW0];simp
   have c5:W0.cell? ⟨w.heap.size,5,none⟩=some (.int .i64 f5):=by rw [hW0];simp
   have c6:W0.cell? ⟨w.heap.size,6,none⟩=some (.int .i64 f6):=by rw [hW0];simp
   have c7:W0.cell? ⟨w.heap.size,7,none⟩=some (.int .i64 f7):=by rw [hW0];simp
   have c8:W0.cell? ⟨w.heap.size,8,none⟩=some (.int .i64 f8):=by rw [hW0];simp
   have c9:W0.cell? ⟨w.heap.size,9,none⟩=some (.int .i64 f9):=by rw [hW0];simp
   have cb:W0.cell? ⟨w.heap.size,10,none⟩=some (.string body):=by rw [hW0];simp
   have hb0:Below w.heap.size w W0:=by rw [hW0];exact(Below.refl _ _).alloc zr _
   rw [←hW0];clear hW0;refine(jq _ fs _ (HL.out.below hb0 zr) hm).mono ?_;rintro e w1 ⟨rfl,hb1⟩;rw [HZ.out];replace c0:=ae c0 hb1 zr;replace c1:=ae c1 hb1 zr;replace c2:=ae c2 hb1 zr;replace c3:=ae c3 hb1 zr;replace c4:=ae c4 hb1 zr;replace c5:=ae c5 hb1 zr;replace c6:=ae c6 hb1 zr;replace c7:=ae c7 hb1 zr;replace c8:=ae c8 hb1 zr;replace c9:=ae c9 hb1 zr;replace cb:=ae cb hb1 zr;go_wp2_with fail
   refine(ag HC _).mono ?_;rintro e w2 ⟨rfl,hb2⟩;have hb02:=(hb0.trans (hb1.mono hb0.size)).trans (hb2.mono (Nat.le_trans hb0.size hb1.size));clear c0 c1 c2 c3 c4 c5 c6 c7 c8 c9 cb;have hne:(R != 0)=true:=(by simpa using hp);go_wp2_with fail
   go_ret2;exact⟨_,rfl,World.ownsRow_nil _ _ _ _,hb02⟩
 ·have h1:dM fs [f0,f1,f2,f3,f4,f5,f6,f7,f8,f9] body.size=bh fs:=by unfold dM;rw [if_neg hz]
  have h2:jC fs [f0,f1,f2,f3,f4,f5,f6,f7,f8,f9] body.size= []:=by unfold jC;rw [if_neg (by rw [h1];exact hz)]
  rw [h1,h2];have HL:=aa hL;obtain⟨a,cap,rfl,hn,_⟩:=hL;clear h1 h2;have HC:=aa (fun W h=>jq (.slice a fs.length cap) fs W h hm);generalize bh fs=R at*;have hA:Below w.heap.size w (w.alloc (.cells #[.int .i64 f0,.int .i64 f1,.int .i64 f2,.int .i64 f3,.int .i64 f4,.int .i64 f5,.int .i64 f6,.int .i64 f7,.int .i64 f8,.int .i64 f9,.string body] 78)):=(Below.refl _ _).alloc zr _;go_enter Tryz.func27,Tryz.ntmps27;go_wp2_with fail
  refine(ag HC _ (HL.out.below hA zr)).mono ?_;rintro e w1 ⟨rfl,hb1⟩;have hne:(R != 0)=true:=(by simpa using hz);have hb01:=hA.trans (hb1.mono hA.size);go_wp2_with fail
  go_ret2;exact⟨_,rfl,World.ownsRow_nil _ _ _ _,hb01⟩
theorem qD {fs:List Fl} (hz:bh fs=0) (s:St) (hF:WF s.F) (ht:s.t≤7):Ok s.t (s.out.length+100) (dK fs s):=by
 have key:∀ds:List Do,ds.length≤100→(∀k,k<ds.length→doB s.t ds k=true)→Ok s.t (s.out.length+100) (stepTo ⟨s.F,8,s.out⟩ ds ds.length):=fun ds h1 h2=>by
  have h:=Ok.stepTo (t:=s.t) (c:=s.out.length) (s:=⟨s.F,8,s.out⟩) (ds:=ds) ⟨hF,by simp;omega,by simp,by simp⟩ h2 ds.length zr;exact⟨h.1,h.2.1,h.2.2.1,by have:=h.2.2.2;omega⟩
 unfold dK;have hbi:=dJ fs s.F s.t fs.length;rcases hbi with⟨hb,_⟩ |⟨i,hb,_,hi,hf,_⟩
 ·rw [hb];exact key [] (by simp) (fun k hk=>by simp at hk)
 ·have hd:iZ fs (aY fs s.F s.t fs.length)=(fs.getD i fl0).ds:=by rw [hb];unfold iZ;rw [if_neg (by omega),Int.toNat_natCast]
  have hk:=lM hz hi;have hft:(fs.getD i fl0).t=s.t:=by
   unfold bF at hf;simp only [Bool.and_eq_true,beq_iff_eq]at hf;exact hf.1
  rw [hd];exact key _ hk.2.2.1 (by rw [←hft];exact hk.2.2.2.2.2.2.2.2)
theorem rD {fs:List Fl} (hz:bh fs=0):∀(n:Nat) (s:St),WF s.F→(eY fs n s).out.length≤s.out.length+100*n
 | 0,s,_=>by simp [eY]
 | n+1,s,hF=>by
  unfold eY;split
  ·omega
  ·have h:=qD hz s hF (by omega);have ih:=rD hz n (dK fs s) h.1;have:=h.2.2.2;omega
theorem yn (fs:List Fl) (F:List Int) (n:Nat) (h10:F.length=10):(jC fs F n).length≤1000000:=by
 unfold jC;split
 ·rename_i h;unfold dM at h;split at h
  ·rename_i hz;have:=rD hz 8 ⟨F,0,[]⟩ (iU h10 (kC h).1);unfold ran;simp at this;omega
  ·rename_i hz;exact absurd h hz
 ·simp
def zn (s:Sn):Prop:=WF s.F∧(s.k=5∧ap s.n=true∨s.k=6∧0≤s.n∧s.n≤5)
def OutOk (l:List Sn):Prop:=∀s∈l,zn s
theorem OutOk.step {t:Int} {s:St} {ds:List Do} {k:Nat} (hF:WF s.F) (h:OutOk s.out) (hd:doB t ds k=true):OutOk (step s (ds.getD k do0)).out:=by
 have hp:=kN hd;generalize ds.getD k do0=d at hp;simp only at hp;have hx:∀x,zn x→OutOk (s.out++ [x]):=fun x hx y hy=>by
  rcases List.mem_append.1 hy with hy | hy
  ·exact h y hy
  ·obtain rfl:y=x:=(by simpa using hy);exact hx
 rcases hp with⟨e,_⟩ |⟨e,_⟩ |⟨e,_⟩ |⟨e,_⟩ |⟨e,hn⟩ |⟨e,n0,n1⟩
 ·unfold Go.Proofs.YtjiajblbpokfgaaGreat.step;simp [e];exact h
 ·unfold Go.Proofs.YtjiajblbpokfgaaGreat.step;simp [e];exact h
 ·unfold Go.Proofs.YtjiajblbpokfgaaGreat.step;simp [e];exact h
 ·unfold Go.Proofs.YtjiajblbpokfgaaGreat.step;simp [e];exact h
 ·unfold Go.Proofs.YtjiajblbpokfgaaGreat.step;simp only [e,true_or,if_true];exact hx _ ⟨hF,.inl ⟨rfl,hn⟩⟩
 ·unfold Go.Proofs.YtjiajblbpokfgaaGreat.step;simp only [e,or_true,if_true];exact hx _ ⟨hF,.inr ⟨rfl,n0,n1⟩⟩
theorem OutOk.stepTo {t:Int} {c:Nat} {s:St} {ds:List Do} (hk:Ok t c s) (h:OutOk s.out) (hd:∀k,k<ds.length→doB t ds k=true):∀k,k≤ds.length→OutOk (stepTo s ds k).out
 | 0,_=>h
 | k+1,hkl=>OutOk.step (Ok.stepTo hk hd k (by omega)).1 (OutOk.stepTo hk h hd k (by omega)) (hd k (by omega))
theorem vr {fs:List Fl} (hz:bh fs=0) (s:St) (hF:WF s.F) (ht:s.t≤7) (h:OutOk s.out):OutOk (dK fs s).out:=by
 have key:∀ds:List Do,(∀k,k<ds.length→doB s.t ds k=true)→OutOk (Go.Proofs.YtjiajblbpokfgaaGreat.stepTo ⟨s.F,8,s.out⟩ ds ds.length).out:=fun ds h2=>
  OutOk.stepTo (t:=s.t) (c:=s.out.length) (s:=⟨s.F,8,s.out⟩) (ds:=ds) ⟨hF,by simp;omega,by simp,by simp⟩ h h2 ds.length zr
 unfold dK;rcases dJ fs s.F s.t fs.length with⟨hb,_⟩ |⟨i,hb,_,hi,hf,_⟩
 ·rw [hb];exact key [] (fun k hk=>by simp at hk)
 ·have hd:iZ fs (aY fs s.F s.t fs.length)=(fs.getD i fl0).ds:=by rw [hb];unfold iZ;rw [if_neg (by omega),Int.toNat_natCast]
  have hk:=lM hz hi;have hft:(fs.getD i fl0).t=s.t:=by
   unfold bF at hf;simp only [Bool.and_eq_true,beq_iff_eq]at hf;exact hf.1
  rw [hd];exact key _ (by rw [←hft];exact hk.2.2.2.2.2.2.2.2)
theorem rC {fs:List Fl} (hz:bh fs=0):∀(n:Nat) (s:St),WF s.F→OutOk s.out→OutOk (eY fs n s).out
 | 0,s,_,h=>h
 | n+1,s,hF,h=>by
  unfold eY;split
  ·exact h
  ·exact rC hz n (dK fs s) (qD hz s hF (by omega)).1 (vr hz s hF (by omega) h)
theorem pS {fs:List Fl} {F:List Int} {n:Nat} (h10:F.length=10) (h:dM fs F n=0):OutOk (ran fs F)∧(ran fs F).length≤1000000:=by
 have hl:=yn fs F n h10;unfold jC at hl;rw [if_pos h]at hl;refine⟨?_,hl⟩;unfold dM at h;split at h
 ·rename_i hz;exact rC hz 8 ⟨F,0,[]⟩ (iU h10 (kC h).1) (fun s hs=>by cases hs)
 ·rename_i hz;exact absurd h hz
def KAt (w:World) (ks:List Value) (K:Nat→List Fl):Prop:=ks.length=6∧∀i,i<6→∀v,ks[i]? =some v→FsAt w v (K i)∧(K i).length≤140737488355328
theorem KAt.below {w w':World} {ks:List Value} {K:Nat→List Fl} (h:KAt w ks K) (hb:Below w.heap.size w w'):KAt w' ks K:=⟨h.1,fun i hi v hv=>⟨(h.2 i hi v hv).1.below hb zr,(h.2 i hi v hv).2⟩⟩
def fU (F:List Int):List Int:=[0,F.getD 1 0,F.getD 2 0,F.getD 3 0,F.getD 4 0,F.getD 5 0,F.getD 6 0,F.getD 7 0,F.getD 8 0,F.getD 9 0]
def m8 (K:Nat→List Fl) (n:Nat) (s:Sn):Int:=
 if s.k=6 then(if ff s.F n=0 then(if dM (K s.n.toNat) (fU s.F) n=0 then atE n (ran (K s.n.toNat) (fU s.F))else dM (K s.n.toNat) (fU s.F) n)else ff s.F n)else atE n [s]
def jN (K:Nat→List Fl) (n:Nat) (s:Sn):List Ar:=
 if s.k=6 then(if ff s.F n=0 then(if dM (K s.n.toNat) (fU s.F) n=0 then atL n (ran (K s.n.toNat) (fU s.F))else [])else [])else atL n [s]
theorem six {l:List Value} (h:l.length=6):∃k0 k1 k2 k3 k4 k5,l= [k0,k1,k2,k3,k4,k5]:=by
 match l,h with
 | [a,b,c,d,e,f],_=>exact⟨a,b,c,d,e,f,rfl⟩
theorem sM {l:List Value} {m:Nat} (h:l.length=6) (hm:m<6):∃v,l[m]? =some v:=⟨l[m],List.getElem?_eq_getElem (by omega)⟩
theorem fq:(Tryz.prog.info? 45).map (·.size)=some 6:=by kernel_rfl
theorem ql (ks:List Value) (K:Nat→List Fl) (x:Sn) (body:ByteArray) (w:World) (hK:KAt w ks K) (hx:zn x) (hb:body.size≤maxLen):
  Calls Tryz.prog 28 #[.agg ks.toArray,.agg (snC body x).toArray] w fun e w'=>∃u,e= .returned (.tuple #[u,.int .i64 (m8 K body.size x)])∧w'.ownsRow w.heap.size 58 9 u (jN K body.size x).length (AR body (jN K body.size x))∧Below w.heap.size w w':=by
 have HK:=aa hK;obtain⟨k0,k1,k2,k3,k4,k5,rfl⟩:=six hK.1;clear hK;have HXC:Hid (snC body x= [.int .i64 x.k,.int .i64 x.n,.int .i64 (x.F.getD 0 0),.int .i64 (x.F.getD 1 0),.int .i64 (x.F.getD 2 0),.int .i64 (x.F.getD 3 0),.int .i64 (x.F.getD 4 0),.int .i64 (x.F.getD 5 0),.int .i64 (x.F.getD 6 0),.int .i64 (x.F.getD 7 0),.int .i64 (x.F.getD 8 0),.int .i64 (x.F.getD 9 0),.string body]):=rfl;rw [HXC.out];have HAT:=aa (fun W B v (h:W.ownsRow B 85 13 v 1 (S body [x]))=>lf v [x] body B W h hb (by simp));have HS1:Hid (S body [x]= [.int .i64 x.k,.int .i64 x.n,.int .i64 (x.F.getD 0 0),.int .i64 (x.F.getD 1 0),.int .i64 (x.F.getD 2 0),.int .i64 (x.F.getD 3 0),.int .i64 (x.F.getD 4 0),.int .i64 (x.F.getD 5 0),.int .i64 (x.F.getD 6 0),.int .i64 (x.F.getD 7 0),.int .i64 (x.F.getD 8 0),.int .i64 (x.F.getD 9 0),.string body]):=by rw [←HXC.out];simp [S,snC,Hid]
 rw [HS1.out]at HAT;have h8:ap (x.F.getD 8 0)=true:=hx.1.2 8;have h9:ap (x.F.getD 9 0)=true:=hx.1.2 9;have HT0:=aa (fun W=>tt (x.F.getD 0 0) (x.F.getD 1 0) (x.F.getD 2 0) (x.F.getD 3 0) (x.F.getD 4 0) (x.F.getD 5 0) (x.F.getD 6 0) (x.F.getD 7 0) (x.F.getD 8 0) (x.F.getD 9 0) body W hb);have HT1:=aa (fun W hf=>rm (x.F.getD 0 0) (x.F.getD 1 0) (x.F.getD 2 0) (x.F.getD 3 0) (x.F.getD 4 0) (x.F.getD 5 0) (x.F.getD 6 0) (x.F.getD 7 0) (x.F.getD 8 0) (x.F.getD 9 0) body W hf h8 h9);have HFF:Hid (ff x.F body.size=aQ (x.F.getD 1 0) (x.F.getD 2 0) (x.F.getD 3 0) (x.F.getD 4 0) (x.F.getD 5 0) (x.F.getD 6 0) (x.F.getD 7 0) body.size):=rfl;have HTH:Hid (fU x.F= [0,x.F.getD 1 0,x.F.getD 2 0,x.F.getD 3 0,x.F.getD 4 0,x.F.getD 5 0,x.F.getD 6 0,x.F.getD 7 0,x.F.getD 8 0,x.F.getD 9 0]):=rfl;have HRN:=aa (fun W v (h:FsAt W v (K x.n.toNat)) (hl:(K x.n.toNat).length≤140737488355328)=>rF 0 (x.F.getD 1 0) (x.F.getD 2 0) (x.F.getD 3 0) (x.F.getD 4 0) (x.F.getD 5 0) (x.F.getD 6 0) (x.F.getD 7 0) (x.F.getD 8 0) (x.F.getD 9 0) body v (K x.n.toNat) W h hb hl);rw [←HTH.out]at HRN;have HRL:Hid (dM (K x.n.toNat) (fU x.F) body.size=0→jC (K x.n.toNat) (fU x.F) body.size=ran (K x.n.toNat) (fU x.F)):=fun h=>by unfold jC;rw [if_pos h]
 have HRO:Hid (dM (K x.n.toNat) (fU x.F) body.size=0→(ran (K x.n.toNat) (fU x.F)).length≤1000000):=fun h=>(pS (by simp [fU]) h).2;have HCE:Hid (m8 K body.size x=if x.k=6 then(if ff x.F body.size=0 then(if dM (K x.n.toNat) (fU x.F) body.size=0 then atE body.size (ran (K x.n.toNat) (fU x.F))else dM (K x.n.toNat) (fU x.F) body.size)else ff x.F body.size)else atE body.size [x]):=rfl;have HCL:Hid (jN K body.size x=if x.k=6 then(if ff x.F body.size=0 then(if dM (K x.n.toNat) (fU x.F) body.size=0 then atL body.size (ran (K x.n.toNat) (fU x.F))else [])else [])else atL body.size [x]):=rfl;rw [HFF.out]at HCE HCL;have h6:x.k=6→0≤x.n∧x.n≤5:=fun h=>by rcases hx.2 with⟨e,_⟩ |⟨_,h⟩;omega;exact h
 clear HXC HS1 HFF HTH h8 h9 hx;generalize x.F.getD 0 0=y0 at*;generalize x.F.getD 1 0=y1 at*;generalize x.F.getD 2 0=y2 at*;generalize x.F.getD 3 0=y3 at*;generalize x.F.getD 4 0=y4 at*;generalize x.F.getD 5 0=y5 at*;generalize x.F.getD 6 0=y6 at*;generalize x.F.getD 7 0=y7 at*;generalize x.F.getD 8 0=y8 at*;generalize x.F.getD 9 0=y9 at*;generalize hE:aQ y1 y2 y3 y4 y5 y6 y7 body.size=E at*;generalize x.k=xk at*;generalize x.n=xn at*;obtain⟨W0,hW0⟩:∃W0,W0=(w.alloc (.cells #[k0,k1,k2,k3,k4,k5] 45)).alloc (.cells #[.int .i64 xk,.int .i64 xn,.int .i64 y0,.int .i64 y1,.int .i64 y2,.int .i64 y3,.int .i64 y4,.int .i64 y5,.int .i64 y6,.int .i64 y7,.int .i64 y8,.int .i64 y9,.string body] 85):=⟨_,rfl⟩;have kb:Below w.heap.size w W0:=by rw [hW0];exact((Below.refl _ w).alloc zr _).alloc (by simp) _
 have B0:Box W0 w.heap.size [k0,k1,k2,k3,k4,k5]:=by rw [hW0];exact(Box.new w [k0,k1,k2,k3,k4,k5] 45).alloc _
 have S0:Box W0 (w.heap.size+1) [.int .i64 xk,.int .i64 xn,.int .i64 y0,.int .i64 y1,.int .i64 y2,.int .i64 y3,.int .i64 y4,.int .i64 y5,.int .i64 y6,.int .i64 y7,.int .i64 y8,.int .i64 y9,.string body]:=by rw [hW0];simpa using Box.new (w.alloc (.cells #[k0,k1,k2,k3,k4,k5] 45)) [.int .i64 xk,.int .i64 xn,.int .i64 y0,.int .i64 y1,.int .i64 y2,.int .i64 y3,.int .i64 y4,.int .i64 y5,.int .i64 y6,.int .i64 y7,.int .i64 y8,.int .i64 y9,.string body] 85
 have HKB:=aa B0;have HSB:=aa S0;clear B0 S0;replace HK:=aa (HK.out.below kb);have HW0:Hid ((w.alloc (.cells #[k0,k1,k2,k3,k4,k5] 45)).alloc (.cells #[.int .i64 xk,.int .i64 xn,.int .i64 y0,.int .i64 y1,.int .i64 y2,.int .i64 y3,.int .i64 y4,.int .i64 y5,.int .i64 y6,.int .i64 y7,.int .i64 y8,.int .i64 y9,.string body] 85)=W0):=hW0.symm;clear hW0;have c0:=HSB.out.cell 0 _ rfl;have c1:=HSB.out.cell 1 _ rfl;go_enter Tryz.func28,Tryz.ntmps28;by_cases hk6:xk=6
 ·subst hk6;obtain⟨n0,n1⟩:=h6 rfl;rw [if_pos rfl]at HCE HCL;clear HAT
  skip
  have PKR:Hid (W0.rangeAt (w.heap.size+1) 2 [.int .i64 y0,.int .i64 y1,.int .i64 y2,.int .i64 y3,.int .i64 y4,.int .i64 y5,.int .i64 y6,.int .i64 y7,.int .i64 y8,.int .i64 y9,.string body]):=aa (fun j v hj=>by have:=HSB.out.range (2+j) v (by rw [Nat.add_comm];simpa using hj);simpa using this);go_wp2_with (first | rw [HW0.out] |(refine wpList_load_mid rfl 78 (.tmp 18) rfl (w.heap.size+1) 2 rfl _ _ PKR.out Tryz.underlying78 rfl gw ?_))
  by_cases hE0:E=0
  ·subst hE0;rw [if_pos rfl]at HCE HCL;refine(ag HT1 _ rfl).mono ?_;rintro e w1 ⟨rfl,hb1⟩;replace HKB:=aa (HKB.out.below hb1);replace HSB:=aa (HSB.out.below hb1);replace HK:=aa (HK.out.below hb1);replace kb:=kb.trans (hb1.mono kb.size);clear hb1 HT0 HT1 PKR HW0 hE c0 c1;obtain⟨W2,hW2⟩:∃W2,W2=w1.alloc (.cells #[.int .i64 0,.int .i64 y1,.int .i64 y2,.int .i64 y3,.int .i64 y4,.int .i64 y5,.int .i64 y6,.int .i64 y7,.int .i64 y8,.int .i64 y9,.string body] 78):=⟨_,rfl⟩;have hbN:Below w1.heap.size w1 W2:=by rw [hW2];exact(Below.refl _ _).alloc zr _
   have HPB:Hid (Box W2 w1.heap.size [.int .i64 0,.int .i64 y1,.int .i64 y2,.int .i64 y3,.int .i64 y4,.int .i64 y5,.int .i64 y6,.int .i64 y7,.int .i64 y8,.int .i64 y9,.string body]):=by rw [hW2];exact aa (Box.new w1 [.int .i64 0,.int .i64 y1,.int .i64 y2,.int .i64 y3,.int .i64 y4,.int .i64 y5,.int .i64 y6,.int .i64 y7,.int .i64 y8,.int .i64 y9,.string body] 78)
   replace HKB:=aa (HKB.out.below hbN);replace HSB:=aa (HSB.out.below hbN);replace HK:=aa (HK.out.below hbN);replace kb:=kb.trans (hbN.mono kb.size);have HW2:=aa hW2.symm;clear hbN hW2;obtain⟨m,rfl⟩:=Int.eq_ofNat_of_zero_le n0;have hm6:m<6:=(by omega);simp only [Int.toNat_natCast]at HRN HRL HRO HCE HCL;obtain⟨kv,hkv⟩:=sM HK.out.1 hm6;have HF:=aa (HK.out.2 m hm6 kv hkv).1;have HLN:=aa (HK.out.2 m hm6 kv hkv).2;have ck:=HKB.out.cell m kv hkv;have c1:=HSB.out.cell 1 _ rfl;obtain⟨fa,fc,rfl,_⟩:=id HF.out;have HKV:=aa hkv;clear hkv;go_wp2_with (rw [HW2.out])
   clear HW2;have q0:(0:Int)≤(m:Int):=(by omega);have q6:(m:Int)<6:=(by omega);refine wp_region_held_drew (S:=(fun w'=>w'.cell? ⟨w.heap.size+1,1,none⟩=some (.int .i64 (m:Int))∧w'.cell? ⟨w.heap.size,m,none⟩=some (.slice fa (K m).length fc)∧w'.rangeAt w1.heap.size 0 [.int .i64 0,.int .i64 y1,.int .i64 y2,.int .i64 y3,.int .i64 y4,.int .i64 y5,.int .i64 y6,.int .i64 y7,.int .i64 y8,.int .i64 y9,.string body])) (by kernel_rfl) ⟨c1,ck,HPB.out.range⟩ (fun hHeld=>?_);refine sqA [(0,27),(1,28),(2,29),(3,30)] ?_;(iterate 4 (refine sqN rfl (by kernel_rfl) (fun _ _ _ h=>h) rfl ‹_› (by intro w h;go_simp <;>with_reducible rfl) ?_;simp only [nz]));refine sqZ ?_;refine wpAnyH_take (i:=4) (oi:=⟨some 31,_,_,_,_,_⟩) (v:=.agg #[.int .i64 0,.int .i64 y1,.int .i64 y2,.int .i64 y3,.int .i64 y4,.int .i64 y5,.int .i64 y6,.int .i64 y7,.int .i64 y8,.int .i64 y9,.string body]) rfl (by kernel_rfl) (by kernel_rfl) (by kernel_rfl) (fun _ _ _ h=>h) (yieldsIf_load_mid (by rfl) 78 (.tmp 6) rfl w1.heap.size 0 rfl [.int .i64 0,.int .i64 y1,.int .i64 y2,.int .i64 y3,.int .i64 y4,.int .i64 y5,.int .i64 y6,.int .i64 y7,.int .i64 y8,.int .i64 y9,.string body] _ (fun w h=>h.2.2) Tryz.underlying78 rfl gw) (by assumption) ?_;(try simp only [nz]);refine rsq 5 32 (by kernel_rfl) rfl (fun Kk hKk=>?_);go_simp;have hbD:Below W2.heap.size W2 W2.drew:=(Below.refl _ _).drew;refine(ag HRN W2.drew _ (HF.out.below hbD zr) HLN.out).mono ?_;rintro e w3 ⟨v3,rfl,ho3,hb3⟩;have hb23:Below W2.heap.size W2 w3:=hbD.trans hb3;replace kb:=kb.trans (hb23.mono kb.size);have HO:=aa ho3;go_wp2_with fail
   refine hKk.out _ _ ⟨zC c1 hb23,zC ck hb23,eD HPB.out.range hb23 HPB.out.lt⟩ (fun hHeld=>?_);clear hKk Kk ho3 hb3 hbD hb23 ck c1;(try simp only [nz]);refine sqA [(6,26),(7,33),(8,34),(9,8),(10,7)] ?_;(iterate 5 (refine sqN rfl (by kernel_rfl) (fun _ _ _ h=>h) rfl ‹_› (by intro w h;go_simp <;>with_reducible rfl) ?_;simp only [nz]));refine sqZ ?_;refine wpAnyH_done (by kernel_rfl) ?_ _;clear hHeld HRN;generalize hR:dM (K m) (fU x.F) body.size=R at*;by_cases hR0:R=0
   ·subst hR0;rw [HRL.out rfl]at HO;rw [if_pos rfl]at HCE HCL;have HLE:=aa (HRO.out rfl);obtain⟨oo,oc,rfl,_⟩:=eh HO.out;clear hR HRL HRO;go_wp2_with fail
    refine(lf _ _ body _ _ HO.out hb HLE.out).mono ?_;rintro e w4 ⟨u4,rfl,ho4,hb4⟩;have hlt:=kb.size;replace kb:=kb.trans (hb4.mono kb.size);go_wp2_with fail
    rw [HCE.out,HCL.out];go_ret2;exact⟨u4,rfl,aA ho4 hlt,kb⟩
   ·have hRb:(R != 0)=true:=(by simpa using hR0);rw [if_neg hR0]at HCE HCL;obtain⟨oo,oc,rfl,_⟩:=eh HO.out;go_wp2_with fail
    rw [HCE.out,HCL.out];go_ret2;exact⟨_,rfl,World.ownsRow_nil _ _ _ _,kb⟩
  ·rw [if_neg hE0]at HCE HCL;have hEb:(E != 0)=true:=(by simpa using hE0);refine(ag HT0 _ hE0).mono ?_;rintro e w1 ⟨rfl,hb1⟩;replace kb:=kb.trans (hb1.mono kb.size);clear hb1 HT0 HT1 PKR HW0 hE c0 c1;go_wp2_with fail
   rw [HCE.out,HCL.out];go_ret2;exact⟨_,rfl,World.ownsRow_nil _ _ _ _,kb.alloc kb.size _⟩
 ·have hkb:(xk != 6)=true:=(by simpa using hk6);rw [if_neg hk6]at HCE HCL;clear HT0 HT1 HRN HRL HRO;have HSR:Hid ((W0.alloc (.cells #[.int .i64 xk,.int .i64 xn,.int .i64 y0,.int .i64 y1,.int .i64 y2,.int .i64 y3,.int .i64 y4,.int .i64 y5,.int .i64 y6,.int .i64 y7,.int .i64 y8,.int .i64 y9,.string body] 85)).ownsRow w.heap.size 85 13 (.slice (some ⟨W0.heap.size,0,none⟩) 1 1) 1 [.int .i64 xk,.int .i64 xn,.int .i64 y0,.int .i64 y1,.int .i64 y2,.int .i64 y3,.int .i64 y4,.int .i64 y5,.int .i64 y6,.int .i64 y7,.int .i64 y8,.int .i64 y9,.string body]):=aa (World.ownsRow_lit W0 _ 1 kb.size (by decide) rfl);go_wp2_with (first | rw [HW0.out] |(refine wpList_load_mid rfl 85 (.tmp 3) rfl (w.heap.size+1) 0 rfl _ _ HSB.out.range Tryz.underlying85 rfl iu ?_))
  refine(ag HAT _ _ _ HSR.out).mono ?_;rintro e w1 ⟨u1,rfl,ho1,hb1⟩;have kb1:=(kb.alloc kb.size _).trans (hb1.mono (kb.alloc kb.size _).size);have hlt:=(kb.alloc kb.size (.cells #[.int .i64 xk,.int .i64 xn,.int .i64 y0,.int .i64 y1,.int .i64 y2,.int .i64 y3,.int .i64 y4,.int .i64 y5,.int .i64 y6,.int .i64 y7,.int .i64 y8,.int .i64 y9,.string body] 85)).size;go_wp2_with fail
  rw [HCE.out,HCL.out];go_ret2;exact⟨u1,rfl,aA ho1 hlt,kb1⟩
theorem Box.set1 {w:World} {b:Nat} {cs:List Value} (h:Box w b cs) (j:Nat) (v:Value) (hj:j<cs.length):Box (w.setCell ⟨b,j,none⟩ v) b (cs.set j v):=by
 have e:w.setCell ⟨b,j,none⟩ v=w.setCells b j [v]:=rfl;rw [e];refine⟨⟨by rw [dm];exact h.1.1,fun i u hi=>?_⟩,fun i hi=>by rw [dw];exact h.2 i (by simpa using hi)⟩;rw [Nat.zero_add];by_cases hij:i=j
 ·subst hij;have:=World.rangeAt_setCells_same w b i [v] (fun k hk=>by
   obtain rfl:k=0:=by simp at hk;exact hk
   exact⟨by rw [Nat.add_zero,h.cell i _ (List.getElem?_eq_getElem hj)];rfl,by rw [Nat.add_zero];exact h.2 i hj⟩) 0 v rfl
  rw [List.getElem?_set_self hj]at hi;cases hi;simpa using this
 ·rw [World.cell?_setCells_out b [v] j w ⟨b,i,none⟩ (fun _ _=>by simp only [List.length_singleton];omega)];rw [List.getElem?_set_ne (Ne.symm hij)]at hi;exact h.cell i u hi
theorem Box.set1_far {w:World} {b b':Nat} {cs:List Value} (h:Box w b cs) (hne:b≠b') (j:Nat) (v:Value):Box (w.setCell ⟨b',j,none⟩ v) b cs:=h.set_far hne j [v]
theorem xL {w:World} {ks:List Value} {K:Nat→List Fl} (h:KAt w ks K):ks.toArray.all (·.oneCell')=true:=fu (by
 rw [List.all_eq_true];intro v hv;obtain⟨i,hi,e⟩:=List.getElem_of_mem hv;obtain⟨a,c,rfl,_⟩:=(h.2 i (by have:=h.1;omega) v (by rw [List.getElem?_eq_getElem hi,e])).1;rfl)
def I (l:List Int):List Value:=l.map (Value.int .i64)
theorem yj (a b:List Int):I (a++b)=I a++I b:=by simp [I]
def Two (w:World) (B gx cx:Nat) (lx:List Int) (gy cy:Nat) (ly:List Int):Prop:=
 w.ownsRow B 3 1 (.slice (some ⟨gx,0,none⟩) lx.length cx) lx.length (I lx)∧w.ownsRow B 3 1 (.slice (some ⟨gy,0,none⟩) ly.length cy) ly.length (I ly)∧gx≠gy
theorem fV {w:World} {B e size n cap g:Nat} {xs:List Value} (h:w.ownsRow B e size (.slice (some ⟨g,0,none⟩) n cap) n xs):B≤g∧g<w.heap.size:=by
 obtain⟨_,⟨h,_⟩ |⟨g',cap',cur,h,hB,hg,_⟩⟩:=h
 ·simp at h
 ·simp only [Value.slice.injEq,Option.some.injEq,Addr.mk.injEq,and_true]at h;obtain⟨rfl,_⟩:=h;exact⟨hB,lt_of_block hg⟩
theorem Two.alloc {w:World} {B gx cx gy cy:Nat} {lx ly:List Int} (h:Two w B gx cx lx gy cy ly) (o:Obj):Two (w.alloc o) B gx cx lx gy cy ly:=⟨h.1.alloc o,h.2.1.alloc o,h.2.2⟩
theorem Two.drew {w:World} {B gx cx gy cy:Nat} {lx ly:List Int} (h:Two w B gx cx lx gy cy ly):Two w.drew B gx cx lx gy cy ly:=⟨h.1.drew,h.2.1.drew,h.2.2⟩
theorem Two.app {w w':World} {B gx cx gy cy g cap m:Nat} {lx ly news:List Int} (h:Two w B gx cx lx gy cy ly) (ho:w'.ownsRow B 3 1 (.slice (some ⟨g,0,none⟩) (lx.length+m) cap) (lx.length+m) (I lx++I news)) (hm:news.length=m)
  (hg:w.grownBy w' (Value.slice (some ⟨gx,0,none⟩) lx.length cx).ownBlock) (hl:(Value.slice (some ⟨gx,0,none⟩) lx.length cx).ownBlock=some g∨g=w.heap.size):Two w' B g cap (lx++news) gy cy ly:=by
 obtain⟨h1,h2,h3⟩:=h;have hy:=fV h2;refine⟨?_,h2.kept hg ?_,?_⟩
 ·rw [yj,List.length_append,hm];exact ho
 ·right;simp [Value.ownBlock];exact fun e=>h3 e.symm
 ·rcases hl with hl | hl
  ·simp [Value.ownBlock]at hl;rw [←hl];exact h3
  ·omega
def fm (ms:List Mt):List Int:=ms.flatMap fun x=>[x.f,x.m,x.v]
def fd (ds:List Do):List Int:=ds.flatMap fun x=>[x.k,x.a,x.n]
theorem oe (ms:List Mt):(fm ms).length=3*ms.length:=by
 induction ms with
 | nil=>rfl
 | cons x r ih=>simp [fm]at ih⊢;omega
def fH:List Int→List Int→Int
 | a::x,b::y=>if a<b then-1 else if b<a then 1 else fH x y
 | x,y=>(x.length:Int)-(y.length:Int)
def AW (a b:Fl):List Int:=[a.t,b.p,(a.ms.length:Int),(a.ds.length:Int)]++fm a.ms++fd a.ds
def plc (a b:Fl):Int:=fH (AW a b) ([b.t,a.p,(b.ms.length:Int),(b.ds.length:Int)]++fm b.ms++fd b.ds)
def M (l:List Mt):List Value:=l.flatMap fun x=>[.int .i64 x.f,.int .i64 x.m,.int .i64 x.v]
def D (l:List Do):List Value:=l.flatMap fun x=>[.int .i64 x.k,.int .i64 x.a,.int .i64 x.n]
theorem fh:(Tryz.prog.info? 131).map (fun i=>(i.zero,i.size,i.bytes))=some (some (.agg #[.int .i64 0,.int .i64 0,.int .i64 0]),3,24):=by kernel_rfl
theorem ga:(Tryz.prog.info? 115).map (fun i=>(i.zero,i.size,i.bytes))=some (some (.agg #[.int .i64 0,.int .i64 0,.int .i64 0]),3,24):=by kernel_rfl
theorem AN {w:World} {B e size n:Nat} {v:Value} {xs:List Value} (h:w.ownsRow B e size v n xs) {g:Nat} (hg:v.ownBlock=some g):g<w.heap.size:=by
 obtain⟨_,⟨rfl,_⟩ |⟨g',cap',cur,rfl,hB,hb,_⟩⟩:=h
 ·simp [Value.ownBlock]at hg
 ·simp [Value.ownBlock]at hg;subst hg;exact lt_of_block hb
theorem Bn (x y z:Int):∀u∈ [Value.int .i64 x,.int .i64 y,.int .i64 z],u.oneCell'=true:=by
 intro u hu;simp at hu;rcases hu with rfl | rfl | rfl <;>rfl
theorem MsAt.kept {w w':World} {v:Value} {ms:List Mt} {row:Option Nat} (h:MsAt w v ms) (hg:w.grownBy w' row) (hne:v.ownBlock=none∨v.ownBlock≠row):MsAt w' v ms:=by
 obtain⟨a,cap,rfl,hn,h0 |⟨b,off,rfl,hc,hL⟩⟩:=h
 ·exact⟨a,cap,rfl,hn,.inl h0⟩
 ·have hne':some b≠row:=by
   rcases hne with h | h
   ·simp [Value.ownBlock]at h
   ·simpa [Value.ownBlock] using h
  refine⟨_,cap,rfl,hn,.inr ⟨b,off,rfl,hc,fun i hi=>?_⟩⟩;obtain⟨e0,e1,e2⟩:=hL i hi;exact⟨(hg.cell_far _ (bw e0) hne').trans e0,(hg.cell_far _ (bw e1) hne').trans e1,(hg.cell_far _ (bw e2) hne').trans e2⟩
theorem DsAt.kept {w w':World} {v:Value} {ds:List Do} {row:Option Nat} (h:DsAt w v ds) (hg:w.grownBy w' row) (hne:v.ownBlock=none∨v.ownBlock≠row):DsAt w' v ds:=by
 obtain⟨a,cap,rfl,hn,h0 |⟨b,off,rfl,hc,hL⟩⟩:=h
 ·exact⟨a,cap,rfl,hn,.inl h0⟩
 ·have hne':some b≠row:=by
   rcases hne with h | h
   ·simp [Value.ownBlock]at h
   ·simpa [Value.ownBlock] using h
  refine⟨_,cap,rfl,hn,.inr ⟨b,off,rfl,hc,fun i hi=>?_⟩⟩;obtain⟨e0,e1,e2⟩:=hL i hi;exact⟨(hg.cell_far _ (bw e0) hne').trans e0,(hg.cell_far _ (bw e1) hne').trans e1,(hg.cell_far _ (bw e2) hne').trans e2⟩
theorem rH (l:List Mt):(M l).length=3*l.length:=by
 induction l with
 | nil=>rfl
 | cons x r ih=>simp [M]at ih⊢;omega
theorem Ba:∀(l:List Mt) (i:Nat),i<l.length→(M l)[i*3]? =some (.int .i64 (l.getD i mt0).f)∧(M l)[i*3+1]? =some (.int .i64 (l.getD i mt0).m)∧(M l)[i*3+2]? =some (.int .i64 (l.getD i mt0).v)
 | [],i,h=>by simp at h
 | x::r,0,_=>⟨rfl,rfl,rfl⟩
 | x::r,i+1,h=>by
  have ih:=Ba r i (by simpa using h);have e:∀j,(M (x::r))[(i+1)*3+j]? =(M r)[i*3+j]?:=fun j=>by
   have:(i+1)*3+j=i*3+j+3:=(by omega);rw [this];rfl
  refine⟨?_,?_,?_⟩
  ·have:=e 0;simp only [Nat.add_zero]at this;rw [this];simpa using ih.1
  ·rw [e 1];simpa using ih.2.1
  ·rw [e 2];simpa using ih.2.2
theorem AH:∀(l:List Do) (i:Nat),i<l.length→(D l)[i*3]? =some (.int .i64 (l.getD i do0).k)∧(D l)[i*3+1]? =some (.int .i64 (l.getD i do0).a)∧(D l)[i*3+2]? =some (.int .i64 (l.getD i do0).n)
 | [],i,h=>by simp at h
 | x::r,0,_=>⟨rfl,rfl,rfl⟩
 | x::r,i+1,h=>by
  have ih:=AH r i (by simpa using h);have e:∀j,(D (x::r))[(i+1)*3+j]? =(D r)[i*3+j]?:=fun j=>by
   have:(i+1)*3+j=i*3+j+3:=(by omega);rw [this];rfl
  refine⟨?_,?_,?_⟩
  ·have:=e 0;simp only [Nat.add_zero]at this;rw [this];simpa using ih.1
  ·rw [e 1];simpa using ih.2.1
  ·rw [e 2];simpa using ih.2.2
theorem MsAt.of_own {w:World} {B:Nat} {v:Value} {ms:List Mt} (h:w.ownsRow B 131 3 v ms.length (M ms)):MsAt w v ms:=by
 by_cases h0:ms.length=0
 ·obtain⟨_,⟨rfl,hn⟩ |⟨g,cap,cur,rfl,_⟩⟩:=h
  ·exact⟨none,0,by rw [h0],fun _=>rfl,.inl h0⟩
  ·exact⟨_,cap,rfl,by simp,.inl h0⟩
 ·obtain⟨g,cap,rfl,_,_⟩:=h.form (by omega);have hc:ms.length≤cap:=by
   obtain⟨_,⟨h,_⟩ |⟨g',cap',cur,h,_,_,hc,_⟩⟩:=h
   ·simp at h
   ·simp only [Value.slice.injEq]at h;omega
  refine⟨_,cap,rfl,by simp,.inr ⟨g,0,rfl,hc,fun i hi=>?_⟩⟩;obtain⟨e0,e1,e2⟩:=Ba ms i hi;simp only [Nat.zero_add];exact⟨(h.cellAt _ (by omega)).trans e0,(h.cellAt _ (by omega)).trans e1,(h.cellAt _ (by omega)).trans e2⟩
theorem DsAt.of_own {w:World} {B:Nat} {v:Value} {ds:List Do} (h:w.ownsRow B 115 3 v ds.length (D ds)):DsAt w v ds:=by
 by_cases h0:ds.length=0
 ·obtain⟨_,⟨rfl,hn⟩ |⟨g,cap,cur,rfl,_⟩⟩:=h
  ·exact⟨none,0,by rw [h0],fun _=>rfl,.inl h0⟩
  ·exact⟨_,cap,rfl,by simp,.inl h0⟩
 ·obtain⟨g,cap,rfl,_,_⟩:=h.form (by omega);have hc:ds.length≤cap:=by
   obtain⟨_,⟨h,_⟩ |⟨g',cap',cur,h,_,_,hc,_⟩⟩:=h
   ·simp at h
   ·simp only [Value.slice.injEq]at h;omega
  refine⟨_,cap,rfl,by simp,.inr ⟨g,0,rfl,hc,fun i hi=>?_⟩⟩;obtain⟨e0,e1,e2⟩:=AH ds i hi;simp only [Nat.zero_add];exact⟨(h.cellAt _ (by omega)).trans e0,(h.cellAt _ (by omega)).trans e1,(h.cellAt _ (by omega)).trans e2⟩
def nx (f:Fl) (out:List Fl):Nat→List Fl×Bool
 | 0=>([],false)
 | k+1=>
  let d1:=(nx f out k).2|| (plc f (out.getD k fl0)==0)
  if plc f (out.getD k fl0)<0∧d1=false then((nx f out k).1++ [f,out.getD k fl0],true)else((nx f out k).1++ [out.getD k fl0],d1)
def ra (f:Fl) (out:List Fl):List Fl:=if(nx f out out.length).2 then(nx f out out.length).1 else(nx f out out.length).1++ [f]
def srt (l:List Fl):Nat→List Fl
 | 0=>[]
 | k+1=>ra (l.getD k fl0) (srt l k)
theorem oC (f:Fl) (out:List Fl):∀k,(nx f out k).1.length≤k+1∧((nx f out k).2=false→(nx f out k).1.length=k)
 | 0=>⟨by simp [nx],fun _=>by simp [nx]⟩
 | k+1=>by
  obtain⟨h1,h2⟩:=oC f out k;unfold nx;simp only;split
  ·rename_i h;have h3:(nx f out k).2=false:=by
    have:=h.2;simp at this;exact this.1
   exact⟨by simp [h2 h3],fun h=>by simp at h⟩
  ·refine⟨by simp;omega,fun h=>?_⟩;simp at h;simp [h2 h.1]
theorem rQ (f:Fl) (out:List Fl):(ra f out).length≤out.length+1:=by
 obtain⟨h1,h2⟩:=oC f out out.length;unfold ra;split
 ·exact h1
 ·rename_i h;simp [h2 (by simpa using h)]
theorem gP (l:List Fl):∀k,(srt l k).length≤k
 | 0=>by simp [srt]
 | k+1=>by
  have:=gP l k;have:=rQ (l.getD k fl0) (srt l k);unfold srt;omega
structure Fv where
 f:Fl
 mv:Value
 dv:Value
def C (l:List Fv):List Value:=l.flatMap fun x=>[.int .i64 x.f.t,.int .i64 x.f.p,x.mv,x.dv]
def fv0:Fv:=⟨fl0,.slice none 0 0,.slice none 0 0⟩
theorem im (a b:List Fv):C (a++b)=C a++C b:=by simp [C]
theorem zd:∀(l:List Fv) (i:Nat),i<l.length→(C l)[i*4]? =some (.int .i64 (l.getD i fv0).f.t)∧(C l)[i*4+1]? =some (.int .i64 (l.getD i fv0).f.p)∧(C l)[i*4+2]? =some (l.getD i fv0).mv∧(C l)[i*4+3]? =some (l.getD i fv0).dv
 | [],i,h=>by simp at h
 | x::r,0,_=>⟨rfl,rfl,rfl,rfl⟩
 | x::r,i+1,h=>by
  have ih:=zd r i (by simpa using h);have e:∀j,(C (x::r))[(i+1)*4+j]? =(C r)[i*4+j]?:=fun j=>by
   have:(i+1)*4+j=i*4+j+4:=(by omega);rw [this];rfl
  refine⟨?_,?_,?_,?_⟩
  ·have:=e 0;simp only [Nat.add_zero]at this;rw [this];simpa using ih.1
  ·rw [e 1];simpa using ih.2.1
  ·rw [e 2];simpa using ih.2.2.1
  ·rw [e 3];simpa using ih.2.2.2
def Apart (u v:Value):Prop:=u.ownBlock=none∨u.ownBlock≠v.ownBlock
def FvOk (w:World) (x:Fv):Prop:=MsAt w x.mv x.f.ms∧DsAt w x.dv x.f.ds∧(∀g,x.mv.ownBlock=some g→g<w.heap.size)∧(∀g,x.dv.ownBlock=some g→g<w.heap.size)
theorem FvOk.below {w w':World} {x:Fv} (h:FvOk w x) (hb:Below w.heap.size w w'):FvOk w' x:=
 ⟨h.1.below hb zr,h.2.1.below hb zr,fun g e=>Nat.lt_of_lt_of_le (h.2.2.1 g e) hb.size,fun g e=>Nat.lt_of_lt_of_le (h.2.2.2 g e) hb.size⟩
theorem FvOk.kept {w w':World} {x:Fv} {v:Value} (h:FvOk w x) (hg:w.grownBy w' v.ownBlock) (h1:Apart x.mv v) (h2:Apart x.dv v):FvOk w' x:=
 ⟨h.1.kept hg h1,h.2.1.kept hg h2,fun g e=>Nat.lt_of_lt_of_le (h.2.2.1 g e) hg.size,fun g e=>Nat.lt_of_lt_of_le (h.2.2.2 g e) hg.size⟩
theorem FvOk.slices {w:World} {x:Fv} (h:FvOk w x):(∃o c,x.mv= .slice o x.f.ms.length c)∧(∃o c,x.dv= .slice o x.f.ds.length c):=by
 obtain⟨⟨a,c,h1,_⟩,⟨a',c',h2,_⟩,_⟩:=h;exact⟨⟨a,c,h1⟩,⟨a',c',h2⟩⟩
theorem FvOk.one {w:World} {x:Fv} (h:FvOk w x):∀u∈C [x],u.oneCell'=true:=by
 obtain⟨⟨o,c,h1⟩,⟨o',c',h2⟩⟩:=h.slices;intro u hu;simp [C]at hu;rcases hu with rfl | rfl | rfl | rfl
 ·rfl
 ·rfl
 ·rw [h1];rfl
 ·rw [h2];rfl
structure Rows2 (w:World) (B:Nat) (vo:Value) (lo:List Fv) (vn:Value) (ln:List Fv):Prop where
 out:w.ownsRow B 135 4 vo lo.length (C lo)
 next:w.ownsRow B 135 4 vn ln.length (C ln)
 two:Apart vo vn
 oks:∀x∈lo++ln,FvOk w x∧Apart x.mv vo∧Apart x.dv vo∧Apart x.mv vn∧Apart x.dv vn
theorem Rows2.below {w w':World} {B:Nat} {vo vn:Value} {lo ln:List Fv} (h:Rows2 w B vo lo vn ln) (hb:Below w.heap.size w w'):Rows2 w' B vo lo vn ln:=
 ⟨ar h.out hb,ar h.next hb,h.two,fun x hx=>⟨(h.oks x hx).1.below hb,(h.oks x hx).2⟩⟩
theorem Apart.app {w:World} {u v:Value} {g H n c:Nat} (h:Apart u v) (hu:∀g,u.ownBlock=some g→g<H) (ha:v.ownBlock=some g∨g=H):Apart u (.slice (some ⟨g,0,none⟩) n c):=by
 rcases h with h | h
 ·exact .inl h
 ·cases e:u.ownBlock with
  | none=>exact .inl e
  | some b=>
   refine .inr ?_;rw [e];simp only [Value.ownBlock];rcases ha with ha | ha
   ·rw [ha,e]at h;exact h
   ·have:=hu b e;simp;omega
theorem Rows2.app {w w':World} {B g cap H:Nat} {vo vn:Value} {lo ln:List Fv} {x:Fv} (h:Rows2 w B vo lo vn ln) (hx:FvOk w x) (x1:Apart x.mv vo) (x2:Apart x.dv vo) (x3:Apart x.mv vn) (x4:Apart x.dv vn)
  (ho:w'.ownsRow B 135 4 (.slice (some ⟨g,0,none⟩) (ln.length+1) cap) (ln.length+1) (C ln++C [x])) (hg:w.grownBy w' vn.ownBlock) (ha:vn.ownBlock=some g∨g=H) (hH:w.heap.size=H):
  Rows2 w' B vo lo (.slice (some ⟨g,0,none⟩) (ln.length+1) cap) (ln++ [x]):=by
 refine⟨h.out.kept hg h.two,?_,?_,?_⟩
 ·rw [im,List.length_append];exact ho
 ·exact Apart.app (w:=w) h.two (fun g e=>hH ▸ AN h.out e) ha
 ·intro y hy;have hy':(FvOk w y∧Apart y.mv vo∧Apart y.dv vo∧Apart y.mv vn∧Apart y.dv vn):=by
   simp only [List.mem_append,List.mem_singleton]at hy;rcases hy with hy | hy | rfl
   ·exact h.oks y (by simp [hy])
   ·exact h.oks y (by simp [hy])
   ·exact⟨hx,x1,x2,x3,x4⟩
  obtain⟨k0,k1,k2,k3,k4⟩:=hy';exact⟨k0.kept hg k3 k4,k1,k2,Apart.app (w:=w) k3 (fun g e=>hH ▸ k0.2.2.1 g e) ha,Apart.app (w:=w) k4 (fun g e=>hH ▸ k0.2.2.2 g e) ha⟩
theorem fD:(Tryz.prog.info? 135).map (fun i=>(i.zero,i.size,i.bytes))=some (some (.agg #[.int .i64 0,.int .i64 0,.slice none 0 0,.slice none 0 0]),4,64):=by kernel_rfl
theorem jJ {w:World} {B e size n:Nat} {v:Value} {xs:List Value} (h:w.ownsRow B e size v n xs):∃o c,v= .slice o n c∧n≤c∧(0<n→∃g,o=some ⟨g,0,none⟩):=by
 obtain⟨_,⟨rfl,rfl⟩ |⟨g,cap,cur,rfl,_,_,hc,_⟩⟩:=h
 ·exact⟨none,0,rfl,Nat.le_refl _,fun h=>absurd h (by omega)⟩
 ·exact⟨_,cap,rfl,hc,fun _=>⟨g,rfl⟩⟩
theorem ol (u:Value):Apart u (.slice none 0 0):=by
 unfold Apart;cases u.ownBlock with
 | none=>exact .inl rfl
 | some g=>exact .inr (by simp [Value.ownBlock])
theorem yg (f:Fl) (out:List Fl):∀k,k≤out.length→∀x∈(nx f out k).1,x=f∨x∈out
 | 0,_,x,hx=>by simp [nx]at hx
 | k+1,hk,x,hx=>by
  have ho:out.getD k fl0∈out:=by
   rw [List.getD_eq_getElem?_getD,List.getElem?_eq_getElem (by omega:k<out.length)];exact List.getElem_mem _
  have ih:=yg f out k (by omega) x;unfold nx at hx;simp only at hx;split at hx
  ·simp only [List.mem_append,List.mem_cons,List.not_mem_nil,or_false]at hx;rcases hx with hx | rfl | rfl
   ·exact ih hx
   ·exact .inl rfl
   ·exact .inr ho
  ·simp only [List.mem_append,List.mem_cons,List.not_mem_nil,or_false]at hx;rcases hx with hx | rfl
   ·exact ih hx
   ·exact .inr ho
theorem tY (l:List Fl):∀k,k≤l.length→∀x∈srt l k,x∈l
 | 0,_,x,hx=>by simp [srt]at hx
 | k+1,hk,x,hx=>by
  have hf:l.getD k fl0∈l:=by
   rw [List.getD_eq_getElem?_getD,List.getElem?_eq_getElem (by omega:k<l.length)];exact List.getElem_mem _
  have ih:=tY l k (by omega) x;have hm:=yg (l.getD k fl0) (srt l k) (srt l k).length zr x;unfold srt ra at hx;split at hx
  ·rcases hm hx with rfl | h
   ·exact hf
   ·exact ih h
  ·simp only [List.mem_append,List.mem_singleton]at hx;rcases hx with hx | rfl
   ·rcases hm hx with rfl | h
    ·exact hf
    ·exact ih h
   ·exact hf
theorem ak (w:World) (o:Obj):Below w.heap.size w (w.alloc o):=(Below.refl _ _).alloc zr _
theorem bK (f v:Int) (w:World):Calls Tryz.prog 70 #[.int .i64 f,.int .i64 v] w fun e w'=>e= .returned (.agg #[.int .i64 f,.int .i64 65535,.int .i64 v])∧Below w.heap.size w w':=by
 go_enter Tryz.func70,Tryz.ntmps70;go_wp2;refine bodyPost_ret (v:=.agg #[.int .i64 f,.int .i64 65535,.int .i64 v]) ?_ rfl ⟨rfl,ak _ _⟩;simp [results,Tryz.results70,go_sem]
theorem bm (k a n:Int) (w:World):Calls Tryz.prog 73 #[.int .i64 k,.int .i64 a,.int .i64 n] w fun e w'=>e= .returned (.agg #[.int .i64 k,.int .i64 a,.int .i64 n])∧Below w.heap.size w w':=by
 go_enter Tryz.func73,Tryz.ntmps73;go_wp2;refine bodyPost_ret (v:=.agg #[.int .i64 k,.int .i64 a,.int .i64 n]) ?_ rfl ⟨rfl,ak _ _⟩;simp [results,Tryz.results73,go_sem]
theorem bp (t p:Int) (ma da:Option Addr) (ml mc dl dc:Nat) (w:World):Calls Tryz.prog 71 #[.int .i64 t,.int .i64 p,.slice ma ml mc,.slice da dl dc] w fun e w'=>e= .returned (.agg #[.int .i64 t,.int .i64 p,.slice ma ml mc,.slice da dl dc])∧Below w.heap.size w w':=by
 go_enter Tryz.func71,Tryz.ntmps71;go_wp2;refine bodyPost_ret (v:=.agg #[.int .i64 t,.int .i64 p,.slice ma ml mc,.slice da dl dc]) ?_ rfl ⟨rfl,ak _ _⟩;simp [results,Tryz.results71,go_sem]
theorem gL (n:Int) (w:World) (h0:0≤n) (h1:n≤100000):Calls Tryz.prog 134 #[.int .i64 n] w fun e w'=>e= .returned (.int .i64 (60000+n))∧w'=w:=by
 go_enter Tryz.func134,Tryz.ntmps134;go_wp2;go_ret;exact⟨by go_num,rfl⟩
theorem ru (b:Int) (h0:0≤b) (h1:b≤16):1≤(2:Int) ^ (16-b).toNat∧(2:Int) ^ (16-b).toNat≤65536:=by
 obtain⟨n,rfl⟩:=Int.eq_ofNat_of_zero_le h0;have:n=0∨n=1∨n=2∨n=3∨n=4∨n=5∨n=6∨n=7∨n=8∨n=9∨n=10∨n=11∨n=12∨n=13∨n=14∨n=15∨n=16:=by omega
 rcases this with rfl | rfl | rfl | rfl | rfl | rfl | rfl | rfl | rfl | rfl | rfl | rfl | rfl | rfl | rfl | rfl | rfl <;>decide
theorem Ak (b:Int) (h0:0≤b) (h1:b≤16):bits .andNot .i64 65535 (2 ^ (16-b).toNat-1)=65536-2 ^ (16-b).toNat:=by
 obtain⟨n,rfl⟩:=Int.eq_ofNat_of_zero_le h0;have:n=0∨n=1∨n=2∨n=3∨n=4∨n=5∨n=6∨n=7∨n=8∨n=9∨n=10∨n=11∨n=12∨n=13∨n=14∨n=15∨n=16:=by omega
 rcases this with rfl | rfl | rfl | rfl | rfl | rfl | rfl | rfl | rfl | rfl | rfl | rfl | rfl | rfl | rfl | rfl | rfl <;>decide
theorem lk (f v b:Int) (w:World) (h0:0≤b) (h1:b≤16):Calls Tryz.prog 185 #[.int .i64 f,.int .i64 v,.int .i64 b] w fun e w'=>e= .returned (.agg #[.int .i64 f,.int .i64 (65536-2 ^ (16-b).toNat),.int .i64 v])∧Below w.heap.size w w':=by
 go_enter Tryz.func185,Tryz.ntmps185;go_wp2;have e1:wrap64 (2 ^ (16-b).toNat)=2 ^ (16-b).toNat:=by
  have hx:=ru b h0 h1;generalize (2:Int) ^ (16-b).toNat=x at hx⊢;unfold wrap64;omega
 have e2:wrap64 (2 ^ (16-b).toNat-1)=2 ^ (16-b).toNat-1:=by
  have hx:=ru b h0 h1;generalize (2:Int) ^ (16-b).toNat=x at hx⊢;unfold wrap64;omega
 rw [e1,e2,Ak b h0 h1];refine bodyPost_ret (v:=.agg #[.int .i64 f,.int .i64 (65536-2 ^ (16-b).toNat),.int .i64 v]) ?_ rfl ⟨rfl,ak _ _⟩;simp [results,Tryz.results185,go_sem]
theorem gZ (w:World):Calls Tryz.prog 72 #[] w fun e w'=>∃u,e= .returned u∧w'.ownsRow w.heap.size 131 3 u 2 (M cX)∧Below w.heap.size w w':=by
 go_enter Tryz.func72,Tryz.ntmps72;go_wp2_with fail
 refine(bK _ _ _).mono ?_;rintro e w1 ⟨rfl,hb1⟩;go_wp2_with fail
 go_ret;exact⟨_,rfl,World.ownsRow_lit _ _ _ hb1.size (by decide) rfl,hb1.alloc hb1.size _⟩
theorem dL {α:Type} (p:α→Bool) (d:α) {l:List α} {k:Nat} (h:k<l.length):(l.take (k+1)).filter p=(l.take k).filter p++(if p (l.getD k d)then [l.getD k d]else []):=by
 rw [List.take_succ_eq_append_getElem h,List.filter_append];have e:l.getD k d=l[k]:=by simp [List.getD,List.getElem?_eq_getElem h]
 rw [e];by_cases hp:p l[k]=true
 ·simp [hp]
 ·simp [hp]
theorem eA (W:World) (cs:List Value) (t:TypeId):∀j u,cs[j]? =some u→(W.alloc (.cells cs.toArray t)).cell? ((⟨W.heap.size,0,none⟩:Addr).add j)=some u:=fun j u h=>by
 rw [jy,Nat.zero_add];exact aj W _ rfl _ _ _ _ (by simpa using h)
def bv (f:Nat):Prop:=∀args W,Sem.run Tryz.prog (callFunc f args) W= .ok (.enter f args) W
def PicksPr (w:World) (f:Nat) (cs:Array Value) (p:Pr→Bool):Prop:=∀(W:World) (x:Pr),Below w.heap.size w W→Calls Tryz.prog f (#[.agg #[.int .i64 x.i,.int .i64 x.s,.int .i64 x.m,.int .i64 x.p,.int .i64 x.c]]++cs) W fun e w'=>e= .returned (.bool (p x))∧Below W.heap.size W w'
theorem dg (l:List Pr) (p:Pr→Bool) (v:Value) (f:Nat) (cs:Array Value) (w:World) (hF:ft w v l) (hT:PicksPr w f cs p) (hE:bv f) (hl:l.length≤1000):
  Calls Tryz.prog 39 #[v,.func (.func f) #[] cs] w fun e w'=>∃u,e= .returned u∧w'.ownsRow w.heap.size 51 5 u (l.filter p).length ((l.filter p).flatMap prC)∧Below w.heap.size w w':=by
 obtain⟨i0,hi,hz0,hz1,hz2⟩:=info_parts xK;have HF:=aa hF;have HT:=aa hT;have HEN:=aa hE;obtain⟨a,cap,rfl⟩:=hF.slice;clear hF hT hE;go_enter Tryz.func39,Tryz.ntmps39;go_wp2_with fail
 go_loopw [5,10] (fun u i wr=>∃k:Nat,k≤l.length∧i= .int .i64 k∧Hid (wr.ownsRow w.heap.size 51 5 u ((l.take k).filter p).length (((l.take k).filter p).flatMap prC))∧Below w.heap.size w wr) (fun _ i _=>l.length-(intOf i).toNat)
 case atStart=>exact⟨0,by omega,rfl,aa (by simpa using World.ownsRow_nil w w.heap.size 51 5),Below.refl _ _⟩
 case round=>
  obtain⟨k,hk,rfl,HO,hbr⟩:=hrel;by_cases hlt:k<l.length
  ·obtain⟨b,off,cap',e1,hcap, -,g0,g1,g2,g3,g4⟩:=eO (RowAt.below HF.out hbr zr) hlt;simp only [Value.slice.injEq,true_and]at e1;obtain⟨rfl,rfl⟩:=e1;have HST:Hid (∀W:World,Below w.heap.size w W→Calls Tryz.prog f (#[.agg #[.int .i64 (l.getD k pr0).i,.int .i64 (l.getD k pr0).s,.int .i64 (l.getD k pr0).m,.int .i64 (l.getD k pr0).p,.int .i64 (l.getD k pr0).c]]++cs) W fun e w'=>e= .returned (.bool (p (l.getD k pr0)))∧Below W.heap.size W w'):=fun W hW=>HT.out W _ hW;have HN:=aa (dL p pr0 hlt);have HC:Hid (prC (l.getD k pr0)= [.int .i64 (l.getD k pr0).i,.int .i64 (l.getD k pr0).s,.int .i64 (l.getD k pr0).m,.int .i64 (l.getD k pr0).p,.int .i64 (l.getD k pr0).c]):=rfl;have hlen:((l.take k).filter p).length≤k:=Nat.le_trans (List.length_filter_le _ _) (by rw [List.length_take];omega);obtain⟨o,c,rfl⟩:=az HO.out;obtain⟨N,hN⟩:∃N,N=((l.take k).filter p).length:=⟨_,rfl⟩;rw [←hN]at HO hlen⊢;have HNN:=aa hN;clear hN;generalize hR:p (l.getD k pr0)=R at*;have HR:=aa hR;clear hR;generalize (l.getD k pr0).i=y0 at*;generalize (l.getD k pr0).s=y1 at*;generalize (l.getD k pr0).m=y2 at*;generalize (l.getD k pr0).p=y3 at*;generalize (l.getD k pr0).c=y4 at*;have q1:(0:Int)≤(k:Int):=(by omega);have q2:(k:Int)<(l.length:Int):=(by omega);obtain⟨W1,hW1⟩:∃W1,W1=wr.alloc (.cells #[.int .i64 y0,.int .i64 y1,.int .i64 y2,.int .i64 y3,.int .i64 y4] 51):=⟨_,rfl⟩;have hbW:Below wr.heap.size wr W1:=by rw [hW1];exact ak _ _
   have d0:W1.cell? ⟨wr.heap.size,0,none⟩=some (.int .i64 y0):=zN1 hW1 rfl;have d1:W1.cell? ⟨wr.heap.size,1,none⟩=some (.int .i64 y1):=zN1 hW1 rfl;have d2:W1.cell? ⟨wr.heap.size,2,none⟩=some (.int .i64 y2):=zN1 hW1 rfl;have d3:W1.cell? ⟨wr.heap.size,3,none⟩=some (.int .i64 y3):=zN1 hW1 rfl;have d4:W1.cell? ⟨wr.heap.size,4,none⟩=some (.int .i64 y4):=zN1 hW1 rfl;go_wp2_with fail
   rw [←hW1];clear hW1;rw [ag HEN];refine(ag HST _ (hbr.trans (hbW.mono hbr.size))).mono ?_;rintro e w1 ⟨rfl,hb1⟩;have hb01:Below wr.heap.size wr w1:=hbW.trans (hb1.mono hbW.size);have HO1:=aa (ar HO.out hb01);have HB1:Hid (Below w.heap.size w w1):=hbr.trans (hb01.mono hbr.size);have q3:=zC d0 hb1;have q4:=zC d1 hb1;have q5:=zC d2 hb1;have q6:=zC d3 hb1;have q7:=zC d4 hb1;have hs1:w.heap.size≤w1.heap.size:=HB1.out.size;clear g0 g1 g2 g3 g4 d0 d1 d2 d3 d4 hb1 hbr HST HO hb01 hbW;cases R
   ·have HE:Hid (w1.ownsRow w.heap.size 51 5 (.slice o N c) ((l.take (k+1)).filter p).length (((l.take (k+1)).filter p).flatMap prC)):=by
     refine aa ?_;rw [HN.out,if_neg (by simp),List.append_nil];rw [←HNN.out];exact HO1.out
    go_wp2_with fail
    go_roundw
    case rel=>exact⟨k+1,by omega,by go_num,HE,HB1.out⟩
    case measure=>simp [intOf];omega
   ·obtain⟨W2,hW2⟩:∃W2,W2=w1.alloc (.cells #[.int .i64 y0,.int .i64 y1,.int .i64 y2,.int .i64 y3,.int .i64 y4] 51):=⟨_,rfl⟩;have hbW2:Below w1.heap.size w1 W2:=by rw [hW2];exact ak _ _
    have NEWS:Hid (∀j u,[.int .i64 y0,.int .i64 y1,.int .i64 y2,.int .i64 y3,.int .i64 y4][j]? =some u→W2.cell? ((⟨w1.heap.size,0,none⟩:Addr).add j)=some u):=by rw [hW2];exact aa (eA w1 _ _)
    have HO2:=aa (ar HO1.out hbW2);have hs2:w.heap.size≤W2.heap.size:=Nat.le_trans hs1 hbW2.size;have HW2:Hid (w1.alloc (.cells #[.int .i64 y0,.int .i64 y1,.int .i64 y2,.int .i64 y3,.int .i64 y4] 51)=W2):=hW2.symm;clear hW2;go_wp2_with (at_builtin;rw [ag HW2];refine wpList_append_own _ rfl _ _ 23 rfl w.heap.size 51 i0 _ 5 40 Tryz.underlying23 hi hz0 hz1 hz2 rfl (by decide) _ _ _ rfl (ag HO2) ⟨w1.heap.size,0,none⟩ 1 1 [.int .i64 y0,.int .i64 y1,.int .i64 y2,.int .i64 y3,.int .i64 y4] rfl rfl (ag NEWS) (du rfl) ?a1 ?a2 ?a3 ?_)
    case a1=>unfold maxLen;omega
    case a2=>omega
    case a3=>exact hs2
    intro v3 w3 ho3 hg3 _;have hb3:Below w.heap.size w w3:=(HB1.out.trans (hbW2.mono hs1)).grown hg3 hs2 (aS HO2.out);have HE:Hid (w3.ownsRow w.heap.size 51 5 v3 ((l.take (k+1)).filter p).length (((l.take (k+1)).filter p).flatMap prC)):=by
     refine aa ?_;rw [HN.out,if_pos trivial,List.length_append,List.flatMap_append, ←HNN.out];simp only [List.flatMap_cons,List.flatMap_nil,List.append_nil,HC.out,List.length_singleton];exact ho3
    clear ho3 hg3 HO2 NEWS HO1 HW2 hbW2 q3 q4 q5 q6 q7 HN HC;go_wp2_with fail
    go_roundw
    case rel=>exact⟨k+1,by omega,by go_num,HE,hb3⟩
    case measure=>simp [intOf];omega
  ·have hke:k=l.length:=(by omega);have HE:Hid (wr.ownsRow w.heap.size 51 5 u5 (l.filter p).length ((l.filter p).flatMap prC)):=by
    have:=HO.out;rw [hke,List.take_length]at this;exact aa this
   obtain⟨o,c,rfl⟩:=az HE.out;clear HO;have hkk:¬((k:Int)<(l.length:Int)):=(by omega);go_wp2_with fail
   go_ret;exact⟨_,rfl,HE.out,hbr⟩
def j5 (w:World) (f:Nat) (cs:Array Value) (p:Sw→Bool):Prop:=∀(W:World) (x:Sw),Below w.heap.size w W→Calls Tryz.prog f (#[.agg #[.int .i64 x.i,.int .i64 x.t,.int .i64 x.g]]++cs) W fun e w'=>e= .returned (.bool (p x))∧Below W.heap.size W w'
theorem oY (l:List Sw) (p:Sw→Bool) (v:Value) (f:Nat) (cs:Array Value) (w:World) (hF:ev w v l) (hT:j5 w f cs p) (hE:bv f) (hl:l.length≤1000):
  Calls Tryz.prog 43 #[v,.func (.func f) #[] cs] w fun e w'=>∃u,e= .returned u∧w'.ownsRow w.heap.size 60 3 u (l.filter p).length ((l.filter p).flatMap swC)∧Below w.heap.size w w':=by
 obtain⟨i0,hi,hz0,hz1,hz2⟩:=info_parts wO;have HF:=aa hF;have HT:=aa hT;have HEN:=aa hE;obtain⟨a,cap,rfl⟩:=hF.slice;clear hF hT hE;go_enter Tryz.func43,Tryz.ntmps43;go_wp2_with fail
 go_loopw [5,10] (fun u i wr=>∃k:Nat,k≤l.length∧i= .int .i64 k∧Hid (wr.ownsRow w.heap.size 60 3 u ((l.take k).filter p).length (((l.take k).filter p).flatMap swC))∧Below w.heap.size w wr) (fun _ i _=>l.length-(intOf i).toNat)
 case atStart=>exact⟨0,by omega,rfl,aa (by simpa using World.ownsRow_nil w w.heap.size 60 3),Below.refl _ _⟩
 case round=>
  obtain⟨k,hk,rfl,HO,hbr⟩:=hrel;by_cases hlt:k<l.length
  ·obtain⟨b,off,cap',e1,hcap, -,g0,g1,g2⟩:=ig (RowAt.below HF.out hbr zr) hlt;simp only [Value.slice.injEq,true_and]at e1;obtain⟨rfl,rfl⟩:=e1;have HST:Hid (∀W:World,Below w.heap.size w W→Calls Tryz.prog f (#[.agg #[.int .i64 (l.getD k sw0).i,.int .i64 (l.getD k sw0).t,.int .i64 (l.getD k sw0).g]]++cs) W fun e w'=>e= .returned (.bool (p (l.getD k sw0)))∧Below W.heap.size W w'):=fun W hW=>HT.out W _ hW;have HN:=aa (dL p sw0 hlt);have HC:Hid (swC (l.getD k sw0)= [.int .i64 (l.getD k sw0).i,.int .i64 (l.getD k sw0).t,.int .i64 (l.getD k sw0).g]):=rfl;have hlen:((l.take k).filter p).length≤k:=Nat.le_trans (List.length_filter_le _ _) (by rw [List.length_take];omega);obtain⟨o,c,rfl⟩:=az HO.out;obtain⟨N,hN⟩:∃N,N=((l.take k).filter p).length:=⟨_,rfl⟩;rw [←hN]at HO hlen⊢;have HNN:=aa hN;clear hN;generalize hR:p (l.getD k sw0)=R at*;have HR:=aa hR;clear hR;generalize (l.getD k sw0).i=y0 at*;generalize (l.getD k sw0).t=y1 at*;generalize (l.getD k sw0).g=y2 at*;have q1:(0:Int)≤(k:Int):=(by omega);have q2:(k:Int)<(l.length:Int):=(by omega);obtain⟨W1,hW1⟩:∃W1,W1=wr.alloc (.cells #[.int .i64 y0,.int .i64 y1,.int .i64 y2] 60):=⟨_,rfl⟩;have hbW:Below wr.heap.size wr W1:=by rw [hW1];exact ak _ _
   have d0:W1.cell? ⟨wr.heap.size,0,none⟩=some (.int .i64 y0):=zN1 hW1 rfl;have d1:W1.cell? ⟨wr.heap.size,1,none⟩=some (.int .i64 y1):=zN1 hW1 rfl;have d2:W1.cell? ⟨wr.heap.size,2,none⟩=some (.int .i64 y2):=zN1 hW1 rfl;go_wp2_with fail
   rw [←hW1];clear hW1;rw [ag HEN];refine(ag HST _ (hbr.trans (hbW.mono hbr.size))).mono ?_;rintro e w1 ⟨rfl,hb1⟩;have hb01:Below wr.heap.size wr w1:=hbW.trans (hb1.mono hbW.size);have HO1:=aa (ar HO.out hb01);have HB1:Hid (Below w.heap.size w w1):=hbr.trans (hb01.mono hbr.size);have q3:=zC d0 hb1;have q4:=zC d1 hb1;have q5:=zC d2 hb1;have hs1:w.heap.size≤w1.heap.size:=HB1.out.size;clear g0 g1 g2 d0 d1 d2 hb1 hbr HST HO hb01 hbW;cases R
   ·have HE:Hid (w1.ownsRow w.heap.size 60 3 (.slice o N c) ((l.take (k+1)).filter p).length (((l.take (k+1)).filter p).flatMap swC)):=by
     refine aa ?_;rw [HN.out,if_neg (by simp),List.append_nil];rw [←HNN.out];exact HO1.out
    go_wp2_with fail
    go_roundw
    case rel=>exact⟨k+1,by omega,by go_num,HE,HB1.out⟩
    case measure=>simp [intOf];omega
   ·obtain⟨W2,hW2⟩:∃W2,W2=w1.alloc (.cells #[.int .i64 y0,.int .i64 y1,.int .i64 y2] 60):=⟨_,rfl⟩;have hbW2:Below w1.heap.size w1 W2:=by rw [hW2];exact ak _ _
    have NEWS:Hid (∀j u,[.int .i64 y0,.int .i64 y1,.int .i64 y2][j]? =some u→W2.cell? ((⟨w1.heap.size,0,none⟩:Addr).add j)=some u):=by rw [hW2];exact aa (eA w1 _ _)
    have HO2:=aa (ar HO1.out hbW2);have hs2:w.heap.size≤W2.heap.size:=Nat.le_trans hs1 hbW2.size;have HW2:Hid (w1.alloc (.cells #[.int .i64 y0,.int .i64 y1,.int .i64 y2] 60)=W2):=hW2.symm;clear hW2;go_wp2_with (at_builtin;rw [ag HW2];refine wpList_append_own _ rfl _ _ 22 rfl w.heap.size 60 i0 _ 3 24 Tryz.underlying22 hi hz0 hz1 hz2 rfl (by decide) _ _ _ rfl (ag HO2) ⟨w1.heap.size,0,none⟩ 1 1 [.int .i64 y0,.int .i64 y1,.int .i64 y2] rfl rfl (ag NEWS) (du rfl) ?a1 ?a2 ?a3 ?_)
    case a1=>unfold maxLen;omega
    case a2=>omega
    case a3=>exact hs2
    intro v3 w3 ho3 hg3 _;have hb3:Below w.heap.size w w3:=(HB1.out.trans (hbW2.mono hs1)).grown hg3 hs2 (aS HO2.out);have HE:Hid (w3.ownsRow w.heap.size 60 3 v3 ((l.take (k+1)).filter p).length (((l.take (k+1)).filter p).flatMap swC)):=by
     refine aa ?_;rw [HN.out,if_pos trivial,List.length_append,List.flatMap_append, ←HNN.out];simp only [List.flatMap_cons,List.flatMap_nil,List.append_nil,HC.out,List.length_singleton];exact ho3
    clear ho3 hg3 HO2 NEWS HO1 HW2 hbW2 q3 q4 q5 HN HC;go_wp2_with fail
    go_roundw
    case rel=>exact⟨k+1,by omega,by go_num,HE,hb3⟩
    case measure=>simp [intOf];omega
  ·have hke:k=l.length:=(by omega);have HE:Hid (wr.ownsRow w.heap.size 60 3 u5 (l.filter p).length ((l.filter p).flatMap swC)):=by
    have:=HO.out;rw [hke,List.take_length]at this;exact aa this
   obtain⟨o,c,rfl⟩:=az HE.out;clear HO;have hkk:¬((k:Int)<(l.length:Int)):=(by omega);go_wp2_with fail
   go_ret;exact⟨_,rfl,HE.out,hbr⟩
def uv (w:World) (f:Nat) (cs:Array Value) (p:Ac→Bool):Prop:=∀(W:World) (x:Ac),Below w.heap.size w W→Calls Tryz.prog f (#[.agg #[.int .i64 x.s,.int .i64 x.p,.bool x.n,.int .i64 x.src,.int .i64 x.sb,.int .i64 x.dst,.int .i64 x.db,.int .i64 x.o,.bool x.d]]++cs) W fun e w'=>e= .returned (.bool (p x))∧Below W.heap.size W w'
theorem pz (l:List Ac) (p:Ac→Bool) (v:Value) (f:Nat) (cs:Array Value) (w:World) (hF:xZ w v l) (hT:uv w f cs p) (hE:bv f) (hl:l.length≤1000):
  Calls Tryz.prog 138 #[v,.func (.func f) #[] cs] w fun e w'=>∃u,e= .returned u∧w'.ownsRow w.heap.size 62 9 u (l.filter p).length ((l.filter p).flatMap acC)∧Below w.heap.size w w':=by
 obtain⟨i0,hi,hz0,hz1,hz2⟩:=info_parts yw;have HF:=aa hF;have HT:=aa hT;have HEN:=aa hE;obtain⟨a,cap,rfl⟩:=hF.slice;clear hF hT hE;go_enter Tryz.func138,Tryz.ntmps138;go_wp2_with fail
 go_loopw [5,10] (fun u i wr=>∃k:Nat,k≤l.length∧i= .int .i64 k∧Hid (wr.ownsRow w.heap.size 62 9 u ((l.take k).filter p).length (((l.take k).filter p).flatMap acC))∧Below w.heap.size w wr) (fun _ i _=>l.length-(intOf i).toNat)
 case atStart=>exact⟨0,by omega,rfl,aa (by simpa using World.ownsRow_nil w w.heap.size 62 9),Below.refl _ _⟩
 case round=>
  obtain⟨k,hk,rfl,HO,hbr⟩:=hrel;by_cases hlt:k<l.length
  ·obtain⟨b,off,cap',e1,hcap, -,g0,g1,g2,g3,g4,g5,g6,g7,g8⟩:=tW (RowAt.below HF.out hbr zr) hlt;simp only [Value.slice.injEq,true_and]at e1;obtain⟨rfl,rfl⟩:=e1;have HST:Hid (∀W:World,Below w.heap.size w W→Calls Tryz.prog f (#[.agg #[.int .i64 (l.getD k ac0).s,.int .i64 (l.getD k ac0).p,.bool (l.getD k ac0).n,.int .i64 (l.getD k ac0).src,.int .i64 (l.getD k ac0).sb,.int .i64 (l.getD k ac0).dst,.int .i64 (l.getD k ac0).db,.int .i64 (l.getD k ac0).o,.bool (l.getD k ac0).d]]++cs) W fun e w'=>e= .returned (.bool (p (l.getD k ac0)))∧Below W.heap.size W w'):=fun W hW=>HT.out W _ hW;have HN:=aa (dL p ac0 hlt);have HC:Hid (acC (l.getD k ac0)= [.int .i64 (l.getD k ac0).s,.int .i64 (l.getD k ac0).p,.bool (l.getD k ac0).n,.int .i64 (l.getD k ac0).src,.int .i64 (l.getD k ac0).sb,.int .i64 (l.getD k ac0).dst,.int .i64 (l.getD k ac0).db,.int .i64 (l.getD k ac0).o,.bool (l.getD k ac0).d]):=rfl;have hlen:((l.take k).filter p).length≤k:=Nat.le_trans (List.length_filter_le _ _) (by rw [List.length_take];omega);obtain⟨o,c,rfl⟩:=az HO.out;obtain⟨N,hN⟩:∃N,N=((l.take k).filter p).length:=⟨_,rfl⟩;rw [←hN]at HO hlen⊢;have HNN:=aa hN;clear hN;generalize hR:p (l.getD k ac0)=R at*;have HR:=aa hR;clear hR;generalize (l.getD k ac0).s=y0 at*;generalize (l.getD k ac0).p=y1 at*;generalize (l.getD k ac0).n=y2 at*;generalize (l.getD k ac0).src=y3 at*;generalize (l.getD k ac0).sb=y4 at*;generalize (l.getD k ac0).dst=y5 at*;generalize (l.getD k ac0).db=y6 at*;generalize (l.getD k ac0).o=y7 at*;generalize (l.getD k ac0).d=y8 at*;have q1:(0:Int)≤(k:Int):=(by omega);have q2:(k:Int)<(l.length:Int):=(by omega);obtain⟨W1,hW1⟩:∃W1,W1=wr.alloc (.cells #[.int .i64 y0,.int .i64 y1,.bool y2,.int .i64 y3,.int .i64 y4,.int .i64 y5,.int .i64 y6,.int .i64 y7,.bool y8] 62):=⟨_,rfl⟩;have hbW:Below wr.heap.size wr W1:=by rw [hW1];exact ak _ _
   have d0:W1.cell? ⟨wr.heap.size,0,none⟩=some (.int .i64 y0):=zN1 hW1 rfl;have d1:W1.cell? ⟨wr.heap.size,1,none⟩=some (.int .i64 y1):=zN1 hW1 rfl;have d2:W1.cell? ⟨wr.heap.size,2,none⟩=some (.bool y2):=zN1 hW1 rfl;have d3:W1.cell? ⟨wr.heap.size,3,none⟩=some (.int .i64 y3):=zN1 hW1 rfl;have d4:W1.cell? ⟨wr.heap.size,4,none⟩=some (.int .i64 y4):=zN1 hW1 rfl;have d5:W1.cell? ⟨wr.heap.size,5,none⟩=some (.int .i64 y5):=zN1 hW1 rfl;have d6:W1.cell? ⟨wr.heap.size,6,none⟩=some (.int .i64 y6):=zN1 hW1 rfl;have d7:W1.cell? ⟨wr.heap.size,7,none⟩=some (.int .i64 y7):=zN1 hW1 rfl;have d8:W1.cell? ⟨wr.heap.size,8,none⟩=some (.bool y8):=zN1 hW1 rfl;go_wp2_with fail
   rw [←hW1];clear hW1;rw [ag HEN];refine(ag HST _ (hbr.trans (hbW.mono hbr.size))).mono ?_;rintro e w1 ⟨rfl,hb1⟩;have hb01:Below wr.heap.size wr w1:=hbW.trans (hb1.mono hbW.size);have HO1:=aa (ar HO.out hb01);have HB1:Hid (Below w.heap.size w w1):=hbr.trans (hb01.mono hbr.size);have q3:=zC d0 hb1;have q4:=zC d1 hb1;have q5:=zC d2 hb1;have q6:=zC d3 hb1;have q7:=zC d4 hb1;have q8:=zC d5 hb1;have q9:=zC d6 hb1;have q10:=zC d7 hb1;have q11:=zC d8 hb1;have hs1:w.heap.size≤w1.heap.size:=HB1.out.size;clear g0 g1 g2 g3 g4 g5 g6 g7 g8 d0 d1 d2 d3 d4 d5 d6 d7 d8 hb1 hbr HST HO hb01 hbW;cases R
   ·have HE:Hid (w1.ownsRow w.heap.size 62 9 (.slice o N c) ((l.take (k+1)).filter p).length (((l.take (k+1)).filter p).flatMap acC)):=by
     refine aa ?_;rw [HN.out,if_neg (by simp),List.append_nil];rw [←HNN.out];exact HO1.out
    go_wp2_with fail
    go_roundw
    case rel=>exact⟨k+1,by omega,by go_num,HE,HB1.out⟩
    case measure=>simp [intOf];omega
   ·obtain⟨W2,hW2⟩:∃W2,W2=w1.alloc (.cells #[.int .i64 y0,.int .i64 y1,.bool y2,.int .i64 y3,.int .i64 y4,.int .i64 y5,.int .i64 y6,.int .i64 y7,.bool y8] 62):=⟨_,rfl⟩;have hbW2:Below w1.heap.size w1 W2:=by rw [hW2];exact ak _ _
    have NEWS:Hid (∀j u,[.int .i64 y0,.int .i64 y1,.bool y2,.int .i64 y3,.int .i64 y4,.int .i64 y5,.int .i64 y6,.int .i64 y7,.bool y8][j]? =some u→W2.cell? ((⟨w1.heap.size,0,none⟩:Addr).add j)=some u):=by rw [hW2];exact aa (eA w1 _ _)
    have HO2:=aa (ar HO1.out hbW2);have hs2:w.heap.size≤W2.heap.size:=Nat.le_trans hs1 hbW2.size;have HW2:Hid (w1.alloc (.cells #[.int .i64 y0,.int .i64 y1,.bool y2,.int .i64 y3,.int .i64 y4,.int .i64 y5,.int .i64 y6,.int .i64 y7,.bool y8] 62)=W2):=hW2.symm;clear hW2;go_wp2_with (at_builtin;rw [ag HW2];refine wpList_append_own _ rfl _ _ 24 rfl w.heap.size 62 i0 _ 9 72 Tryz.underlying24 hi hz0 hz1 hz2 rfl (by decide) _ _ _ rfl (ag HO2) ⟨w1.heap.size,0,none⟩ 1 1 [.int .i64 y0,.int .i64 y1,.bool y2,.int .i64 y3,.int .i64 y4,.int .i64 y5,.int .i64 y6,.int .i64 y7,.bool y8] rfl rfl (ag NEWS) (du rfl) ?a1 ?a2 ?a3 ?_)
    case a1=>unfold maxLen;omega
    case a2=>omega
    case a3=>exact hs2
    intro v3 w3 ho3 hg3 _;have hb3:Below w.heap.size w w3:=(HB1.out.trans (hbW2.mono hs1)).grown hg3 hs2 (aS HO2.out);have HE:Hid (w3.ownsRow w.heap.size 62 9 v3 ((l.take (k+1)).filter p).length (((l.take (k+1)).filter p).flatMap acC)):=by
     refine aa ?_;rw [HN.out,if_pos trivial,List.length_append,List.flatMap_append, ←HNN.out];simp only [List.flatMap_cons,List.flatMap_nil,List.append_nil,HC.out,List.length_singleton];exact ho3
    clear ho3 hg3 HO2 NEWS HO1 HW2 hbW2 q3 q4 q5 q6 q7 q8 q9 q10 q11 HN HC;go_wp2_with fail
    go_roundw
    case rel=>exact⟨k+1,by omega,by go_num,HE,hb3⟩
    case measure=>simp [intOf];omega
  ·have hke:k=l.length:=(by omega);have HE:Hid (wr.ownsRow w.heap.size 62 9 u5 (l.filter p).length ((l.filter p).flatMap acC)):=by
    have:=HO.out;rw [hke,List.take_length]at this;exact aa this
   obtain⟨o,c,rfl⟩:=az HE.out;clear HO;have hkk:¬((k:Int)<(l.length:Int)):=(by omega);go_wp2_with fail
   go_ret;exact⟨_,rfl,HE.out,hbr⟩
theorem aC {K:Act→World→Prop} {a:Act} {cur:World} {o:Obj} (h:∀V g,V=cur.alloc o→g=cur.heap.size→K a V):K a (cur.alloc o):=h _ _ rfl rfl
theorem gU (k:Int) (w:World):Calls Tryz.prog 74 #[.int .i64 k] w fun e w'=>∃u,e= .returned u∧w'.ownsRow w.heap.size 131 3 u 3 (M (cW k))∧Below w.heap.size w w':=by
 have HB:Below w.heap.size w w:=Below.refl _ _;go_enter Tryz.func74,Tryz.ntmps74;go_wp2_with fail
 refine(bK _ _ _).mono ?_;rintro e V0 ⟨rfl,hb⟩;replace HB:=zT HB hb;clear hb;go_wp2_with fail
 refine(bK _ _ _).mono ?_;rintro e V1 ⟨rfl,hb⟩;replace HB:=zT HB hb;clear hb;go_wp2_with fail
 refine(bK _ _ _).mono ?_;rintro e V2 ⟨rfl,hb⟩;replace HB:=zT HB hb;clear hb;go_wp2_with fail
 go_ret;exact⟨_,rfl,World.ownsRow_lit _ _ 3 HB.size (by decide) rfl,HB.alloc HB.size _⟩
theorem mt (ip mac ch:Int) (w:World):Calls Tryz.prog 133 #[.int .i64 ip,.int .i64 mac,.int .i64 ch] w fun e w'=>∃u,e= .returned u∧w'.ownsRow w.heap.size 115 3 u 7 (D (gD ip mac ch))∧Below w.heap.size w w':=by
 have HB:Below w.heap.size w w:=Below.refl _ _;go_enter Tryz.func133,Tryz.ntmps133;go_wp2_with fail
 refine(bm _ _ _ _).mono ?_;rintro e V0 ⟨rfl,hb⟩;replace HB:=zT HB hb;clear hb;go_wp2_with fail
 refine(bm _ _ _ _).mono ?_;rintro e V1 ⟨rfl,hb⟩;replace HB:=zT HB hb;clear hb;go_wp2_with fail
 refine(bm _ _ _ _).mono ?_;rintro e V2 ⟨rfl,hb⟩;replace HB:=zT HB hb;clear hb;go_wp2_with fail
 refine(bm _ _ _ _).mono ?_;rintro e V3 ⟨rfl,hb⟩;replace HB:=zT HB hb;clear hb;go_wp2_with fail
 refine(bm _ _ _ _).mono ?_;rintro e V4 ⟨rfl,hb⟩;replace HB:=zT HB hb;clear hb;go_wp2_with fail
 refine(bm _ _ _ _).mono ?_;rintro e V5 ⟨rfl,hb⟩;replace HB:=zT HB hb;clear hb;go_wp2_with fail
 refine(bm _ _ _ _).mono ?_;rintro e V6 ⟨rfl,hb⟩;replace HB:=zT HB hb;clear hb;go_wp2_with fail
 go_ret;exact⟨_,rfl,World.ownsRow_lit _ _ 7 HB.size (by decide) rfl,HB.alloc HB.size _⟩
theorem jk (i s m p c:Int) (w:World):Calls Tryz.prog 130 #[.agg #[.int .i64 i,.int .i64 s,.int .i64 m,.int .i64 p,.int .i64 c]] w fun e w'=>∃u,e= .returned u∧w'.ownsRow w.heap.size 115 3 u 2 (D (ax ⟨i,s,m,p,c⟩))∧Below w.heap.size w w':=by
 go_enter Tryz.func130,Tryz.ntmps130;go_wp2_with fail
 obtain⟨W,hW⟩:∃W,W=w.alloc (.cells #[.int .i64 i,.int .i64 s,.int .i64 m,.int .i64 p,.int .i64 c] 51):=⟨_,rfl⟩;rw [←hW];have k0:W.cell? ⟨w.heap.size,0,none⟩=some (.int .i64 i):=zN1 hW rfl;have k1:W.cell? ⟨w.heap.size,1,none⟩=some (.int .i64 s):=zN1 hW rfl;have k2:W.cell? ⟨w.heap.size,2,none⟩=some (.int .i64 m):=zN1 hW rfl;have k3:W.cell? ⟨w.heap.size,3,none⟩=some (.int .i64 p):=zN1 hW rfl;have k4:W.cell? ⟨w.heap.size,4,none⟩=some (.int .i64 c):=zN1 hW rfl;have HB:Below w.heap.size w W:=by rw [hW];exact ak _ _
 clear hW;refine wp_region_held_drew (S:=(fun w'=>w'.cell? ⟨w.heap.size,0,none⟩=some (.int .i64 i)∧w'.cell? ⟨w.heap.size,1,none⟩=some (.int .i64 s)∧w'.cell? ⟨w.heap.size,2,none⟩=some (.int .i64 m)∧w'.cell? ⟨w.heap.size,3,none⟩=some (.int .i64 p)∧w'.cell? ⟨w.heap.size,4,none⟩=some (.int .i64 c))) (by kernel_rfl) ⟨k0,k1,k2,k3,k4⟩ (fun hHeld=>?_);have HDW:Below W.heap.size W W.drew:=(Below.refl _ _).drew;replace⟨k0,k1,k2,k3,k4⟩:=dB k0 k1 k2 k3 k4 HDW;replace HB:=zT HB HDW;clear HDW;generalize W.drew=V1 at*;refine sqA [(0,3),(1,4),(3,6),(4,7)] ?_;(iterate 4 (refine sqN rfl (by kernel_rfl) (fun _ _ _ h=>h) rfl ‹_› (by intro w h;go_simp <;>with_reducible rfl) ?_;simp only [nz]));refine sqZ ?_;refine rsq 2 5 (by kernel_rfl) rfl (fun K hK=>?_);go_simp;clear hHeld;refine(bm _ _ _ _).mono ?_;rintro e V2 ⟨rfl,hb2⟩;replace⟨k0,k1,k2,k3,k4⟩:=dB k0 k1 k2 k3 k4 hb2;replace HB:=zT HB hb2;clear hb2;refine hK.out _ _ ⟨k0,k1,k2,k3,k4⟩ (fun hHeld=>?_);clear hK K;(try simp only [nz]);refine rsq 5 8 (by kernel_rfl) rfl (fun K hK=>?_);go_simp;clear hHeld;refine(bm _ _ _ _).mono ?_;rintro e V3 ⟨rfl,hb3⟩;replace⟨k0,k1,k2,k3,k4⟩:=dB k0 k1 k2 k3 k4 hb3;replace HB:=zT HB hb3;clear hb3;refine hK.out _ _ ⟨k0,k1,k2,k3,k4⟩ (fun hHeld=>?_);clear hK K;(try simp only [nz]);refine rsq 6 9 (by kernel_rfl) rfl (fun K hK=>?_);go_simp;clear hHeld;refine aC (fun V4 g4 hV hg=>?_);rw [←hg];have hbN:=zB hV;have HO:Hid (V4.ownsRow w.heap.size 115 3 (.slice (some ⟨g4,0,none⟩) 2 2) 2 (D (ax ⟨i,s,m,p,c⟩))):=zW hV hg HB.size (by decide) rfl;replace⟨k0,k1,k2,k3,k4⟩:=dB k0 k1 k2 k3 k4 hbN;replace HB:=zT HB hbN;clear hV hg hbN;refine hK.out _ _ ⟨k0,k1,k2,k3,k4⟩ (fun hHeld=>?_);clear hK K;(try simp only [nz]);refine tq 7 2 rfl (by kernel_rfl) (fun _ _ _ h=>h) rfl ‹_› (by intro w h;go_simp <;>with_reducible rfl) ?_;simp only [nz];refine wpAnyH_done (by kernel_rfl) ?_ _;clear hHeld;go_wp2_with fail
 go_ret;exact⟨_,rfl,HO.out,HB⟩
theorem nB (i s m p c:Int) (w:World) (h0:0≤s) (h1:s≤100000):Calls Tryz.prog 142 #[.agg #[.int .i64 i,.int .i64 s,.int .i64 m,.int .i64 p,.int .i64 c]] w fun e w'=>∃u,e= .returned u∧w'.ownsRow w.heap.size 115 3 u 4 (D (cK ⟨i,s,m,p,c⟩))∧Below w.heap.size w w':=by
 go_enter Tryz.func142,Tryz.ntmps142;go_wp2_with fail
 obtain⟨W,hW⟩:∃W,W=w.alloc (.cells #[.int .i64 i,.int .i64 s,.int .i64 m,.int .i64 p,.int .i64 c] 51):=⟨_,rfl⟩;rw [←hW];have k0:W.cell? ⟨w.heap.size,0,none⟩=some (.int .i64 i):=zN1 hW rfl;have k1:W.cell? ⟨w.heap.size,1,none⟩=some (.int .i64 s):=zN1 hW rfl;have k2:W.cell? ⟨w.heap.size,2,none⟩=some (.int .i64 m):=zN1 hW rfl;have k3:W.cell? ⟨w.heap.size,3,none⟩=some (.int .i64 p):=zN1 hW rfl;have k4:W.cell? ⟨w.heap.size,4,none⟩=some (.int .i64 c):=zN1 hW rfl;have HB:Below w.heap.size w W:=by rw [hW];exact ak _ _
 clear hW;refine wp_region_held_drew (S:=(fun w'=>w'.cell? ⟨w.heap.size,0,none⟩=some (.int .i64 i)∧w'.cell? ⟨w.heap.size,1,none⟩=some (.int .i64 s)∧w'.cell? ⟨w.heap.size,2,none⟩=some (.int .i64 m)∧w'.cell? ⟨w.heap.size,3,none⟩=some (.int .i64 p)∧w'.cell? ⟨w.heap.size,4,none⟩=some (.int .i64 c))) (by kernel_rfl) ⟨k0,k1,k2,k3,k4⟩ (fun hHeld=>?_);have HDW:Below W.heap.size W W.drew:=(Below.refl _ _).drew;replace⟨k0,k1,k2,k3,k4⟩:=dB k0 k1 k2 k3 k4 HDW;replace HB:=zT HB HDW;clear HDW;generalize W.drew=V1 at*;refine sqA [(0,3),(1,4),(3,6),(4,7),(8,11),(9,12)] ?_;(iterate 6 (refine sqN rfl (by kernel_rfl) (fun _ _ _ h=>h) rfl ‹_› (by intro w h;go_simp <;>with_reducible rfl) ?_;simp only [nz]));refine sqZ ?_;refine rsq 2 5 (by kernel_rfl) rfl (fun K hK=>?_);go_simp;clear hHeld;refine(bm _ _ _ _).mono ?_;rintro e V2 ⟨rfl,hb2⟩;replace⟨k0,k1,k2,k3,k4⟩:=dB k0 k1 k2 k3 k4 hb2;replace HB:=zT HB hb2;clear hb2;refine hK.out _ _ ⟨k0,k1,k2,k3,k4⟩ (fun hHeld=>?_);clear hK K;(try simp only [nz]);refine rsq 5 8 (by kernel_rfl) rfl (fun K hK=>?_);go_simp;clear hHeld;refine(gL _ _ (by assumption) (by assumption)).mono ?_;rintro e V3 ⟨rfl,hVV⟩;rw [hVV];clear hVV;refine hK.out _ _ ⟨k0,k1,k2,k3,k4⟩ (fun hHeld=>?_);clear hK K;(try simp only [nz]);refine rsq 6 9 (by kernel_rfl) rfl (fun K hK=>?_);go_simp;clear hHeld;refine(bm _ _ _ _).mono ?_;rintro e V4 ⟨rfl,hb4⟩;replace⟨k0,k1,k2,k3,k4⟩:=dB k0 k1 k2 k3 k4 hb4;replace HB:=zT HB hb4;clear hb4;refine hK.out _ _ ⟨k0,k1,k2,k3,k4⟩ (fun hHeld=>?_);clear hK K;(try simp only [nz]);refine rsq 7 10 (by kernel_rfl) rfl (fun K hK=>?_);go_simp;clear hHeld;refine(bm _ _ _ _).mono ?_;rintro e V5 ⟨rfl,hb5⟩;replace⟨k0,k1,k2,k3,k4⟩:=dB k0 k1 k2 k3 k4 hb5;replace HB:=zT HB hb5;clear hb5;refine hK.out _ _ ⟨k0,k1,k2,k3,k4⟩ (fun hHeld=>?_);clear hK K;(try simp only [nz]);refine rsq 10 13 (by kernel_rfl) rfl (fun K hK=>?_);go_simp;clear hHeld;refine(bm _ _ _ _).mono ?_;rintro e V6 ⟨rfl,hb6⟩;replace⟨k0,k1,k2,k3,k4⟩:=dB k0 k1 k2 k3 k4 hb6;replace HB:=zT HB hb6;clear hb6;refine hK.out _ _ ⟨k0,k1,k2,k3,k4⟩ (fun hHeld=>?_);clear hK K;(try simp only [nz]);refine rsq 11 14 (by kernel_rfl) rfl (fun K hK=>?_);go_simp;clear hHeld;refine aC (fun V7 g7 hV hg=>?_);rw [←hg];have hbN:=zB hV;have HO:Hid (V7.ownsRow w.heap.size 115 3 (.slice (some ⟨g7,0,none⟩) 4 4) 4 (D (cK ⟨i,s,m,p,c⟩))):=zW hV hg HB.size (by decide) rfl;replace⟨k0,k1,k2,k3,k4⟩:=dB k0 k1 k2 k3 k4 hbN;replace HB:=zT HB hbN;clear hV hg hbN;refine hK.out _ _ ⟨k0,k1,k2,k3,k4⟩ (fun hHeld=>?_);clear hK K;(try simp only [nz]);refine tq 12 2 rfl (by kernel_rfl) (fun _ _ _ h=>h) rfl ‹_› (by intro w h;go_simp <;>with_reducible rfl) ?_;simp only [nz];refine wpAnyH_done (by kernel_rfl) ?_ _;clear hHeld;go_wp2_with fail
 go_ret;exact⟨_,rfl,HO.out,HB⟩
theorem gX (i s m p c:Int) (w:World):Calls Tryz.prog 76 #[.agg #[.int .i64 i,.int .i64 s,.int .i64 m,.int .i64 p,.int .i64 c]] w fun e w'=>∃u,e= .returned u∧w'.ownsRow w.heap.size 131 3 u 5 (M (bU ⟨i,s,m,p,c⟩))∧Below w.heap.size w w':=by
 go_enter Tryz.func76,Tryz.ntmps76;go_wp2_with fail
 obtain⟨W,hW⟩:∃W,W=w.alloc (.cells #[.int .i64 i,.int .i64 s,.int .i64 m,.int .i64 p,.int .i64 c] 51):=⟨_,rfl⟩;rw [←hW];have k0:W.cell? ⟨w.heap.size,0,none⟩=some (.int .i64 i):=zN1 hW rfl;have k1:W.cell? ⟨w.heap.size,1,none⟩=some (.int .i64 s):=zN1 hW rfl;have k2:W.cell? ⟨w.heap.size,2,none⟩=some (.int .i64 m):=zN1 hW rfl;have k3:W.cell? ⟨w.heap.size,3,none⟩=some (.int .i64 p):=zN1 hW rfl;have k4:W.cell? ⟨w.heap.size,4,none⟩=some (.int .i64 c):=zN1 hW rfl;have HB:Below w.heap.size w W:=by rw [hW];exact ak _ _
 clear hW;refine wp_region_held_drew (S:=(fun w'=>w'.cell? ⟨w.heap.size,0,none⟩=some (.int .i64 i)∧w'.cell? ⟨w.heap.size,1,none⟩=some (.int .i64 s)∧w'.cell? ⟨w.heap.size,2,none⟩=some (.int .i64 m)∧w'.cell? ⟨w.heap.size,3,none⟩=some (.int .i64 p)∧w'.cell? ⟨w.heap.size,4,none⟩=some (.int .i64 c))) (by kernel_rfl) ⟨k0,k1,k2,k3,k4⟩ (fun hHeld=>?_);have HDW:Below W.heap.size W W.drew:=(Below.refl _ _).drew;replace⟨k0,k1,k2,k3,k4⟩:=dB k0 k1 k2 k3 k4 HDW;replace HB:=zT HB HDW;clear HDW;generalize W.drew=V1 at*;refine sqA [(0,3),(1,4),(5,8),(6,9),(8,11),(9,12)] ?_;(iterate 6 (refine sqN rfl (by kernel_rfl) (fun _ _ _ h=>h) rfl ‹_› (by intro w h;go_simp <;>with_reducible rfl) ?_;simp only [nz]));refine sqZ ?_;refine rsq 2 5 (by kernel_rfl) rfl (fun K hK=>?_);go_simp;clear hHeld;refine(bK _ _ _).mono ?_;rintro e V2 ⟨rfl,hb2⟩;replace⟨k0,k1,k2,k3,k4⟩:=dB k0 k1 k2 k3 k4 hb2;replace HB:=zT HB hb2;clear hb2;refine hK.out _ _ ⟨k0,k1,k2,k3,k4⟩ (fun hHeld=>?_);clear hK K;(try simp only [nz]);refine rsq 3 6 (by kernel_rfl) rfl (fun K hK=>?_);go_simp;clear hHeld;refine(bK _ _ _).mono ?_;rintro e V3 ⟨rfl,hb3⟩;replace⟨k0,k1,k2,k3,k4⟩:=dB k0 k1 k2 k3 k4 hb3;replace HB:=zT HB hb3;clear hb3;refine hK.out _ _ ⟨k0,k1,k2,k3,k4⟩ (fun hHeld=>?_);clear hK K;(try simp only [nz]);refine rsq 4 7 (by kernel_rfl) rfl (fun K hK=>?_);go_simp;clear hHeld;refine(bK _ _ _).mono ?_;rintro e V4 ⟨rfl,hb4⟩;replace⟨k0,k1,k2,k3,k4⟩:=dB k0 k1 k2 k3 k4 hb4;replace HB:=zT HB hb4;clear hb4;refine hK.out _ _ ⟨k0,k1,k2,k3,k4⟩ (fun hHeld=>?_);clear hK K;(try simp only [nz]);refine rsq 7 10 (by kernel_rfl) rfl (fun K hK=>?_);go_simp;clear hHeld;refine(bK _ _ _).mono ?_;rintro e V5 ⟨rfl,hb5⟩;replace⟨k0,k1,k2,k3,k4⟩:=dB k0 k1 k2 k3 k4 hb5;replace HB:=zT HB hb5;clear hb5;refine hK.out _ _ ⟨k0,k1,k2,k3,k4⟩ (fun hHeld=>?_);clear hK K;(try simp only [nz]);refine rsq 10 13 (by kernel_rfl) rfl (fun K hK=>?_);go_simp;clear hHeld;refine(bK _ _ _).mono ?_;rintro e V6 ⟨rfl,hb6⟩;replace⟨k0,k1,k2,k3,k4⟩:=dB k0 k1 k2 k3 k4 hb6;replace HB:=zT HB hb6;clear hb6;refine hK.out _ _ ⟨k0,k1,k2,k3,k4⟩ (fun hHeld=>?_);clear hK K;(try simp only [nz]);refine rsq 11 14 (by kernel_rfl) rfl (fun K hK=>?_);go_simp;clear hHeld;refine aC (fun V7 g7 hV hg=>?_);rw [←hg];have hbN:=zB hV;have HO:Hid (V7.ownsRow w.heap.size 131 3 (.slice (some ⟨g7,0,none⟩) 5 5) 5 (M (bU ⟨i,s,m,p,c⟩))):=zW hV hg HB.size (by decide) rfl;replace⟨k0,k1,k2,k3,k4⟩:=dB k0 k1 k2 k3 k4 hbN;replace HB:=zT HB hbN;clear hV hg hbN;refine hK.out _ _ ⟨k0,k1,k2,k3,k4⟩ (fun hHeld=>?_);clear hK K;(try simp only [nz]);refine tq 12 2 rfl (by kernel_rfl) (fun _ _ _ h=>h) rfl ‹_› (by intro w h;go_simp <;>with_reducible rfl) ?_;simp only [nz];refine wpAnyH_done (by kernel_rfl) ?_ _;clear hHeld;go_wp2_with fail
 go_ret;exact⟨_,rfl,HO.out,HB⟩
def SrcAt (w:World) (sz:Nat) (u:Value) (n:Nat) (xs:List Value):Prop:=(u= .slice none 0 0∧n=0∧xs= [])∨∃ad c,u= .slice (some ad) n c∧xs.length=n*sz∧(∀j v,xs[j]? =some v→w.cell? (ad.add j)=some v)∧∀v∈xs,v.oneCell'=true
theorem SrcAt.below {w w':World} {sz n:Nat} {u:Value} {xs:List Value} (h:SrcAt w sz u n xs) (hb:Below w.heap.size w w'):SrcAt w' sz u n xs:=by
 rcases h with h |⟨ad,c,rfl,hl,hc,h1⟩
 ·exact .inl h
 ·refine .inr ⟨ad,c,rfl,hl,fun j v hj=>?_,h1⟩;have h:=hc j v hj;have hsp:(ad.add j).spot=none:=World.cell?_spot h;rcases hq:ad.add j with⟨bb,oo,ss⟩;rw [hq]at h hsp;simp only at hsp;subst hsp;exact zC h hb
theorem SrcAt.below' {w w':World} {sz n:Nat} {u:Value} {xs:List Value} (h:SrcAt w sz u n xs) (hb:Below w.heap.size w w'):SrcAt w' sz u n xs:=h.below hb
theorem cH (cs:Array Value) (n:Nat):(Builtin.zeroCells cs n).size=n*cs.size:=by
 unfold Builtin.zeroCells;simp
theorem SrcAt.of_own {w:World} {B e sz n:Nat} {u:Value} {xs:List Value} (h:w.ownsRow B e sz u n xs) (h1:∀v∈xs,v.oneCell'=true):SrcAt w sz u n xs:=by
 have hh:=h;obtain⟨hl,⟨rfl,h0⟩ |⟨g,cap,cur,rfl,_⟩⟩:=h
 ·exact .inl ⟨rfl,h0,List.eq_nil_of_length_eq_zero (by rw [hl,h0];simp)⟩
 ·exact .inr ⟨⟨g,0,none⟩,cap,rfl,hl,hh.cells rfl,h1⟩
def cnt (L:List (Value×Nat×List Value)):Nat:=(L.map fun x=>x.2.1).sum
def cat (L:List (Value×Nat×List Value)):List Value:=L.flatMap fun x=>x.2.2
def z3:Value×Nat×List Value:=(.slice none 0 0,0,[])
theorem fA {L:List (Value×Nat×List Value)} {k:Nat} (h:k<L.length):cnt (L.take (k+1))=cnt (L.take k)+(L.getD k z3).2.1:=by
 unfold cnt;rw [List.take_succ_eq_append_getElem h,List.map_append,List.sum_append];simp [List.getD,List.getElem?_eq_getElem h]
theorem nb {L:List (Value×Nat×List Value)} {k:Nat} (h:k<L.length):cat (L.take (k+1))=cat (L.take k)++(L.getD k z3).2.2:=by
 unfold cat;rw [List.take_succ_eq_append_getElem h,List.flatMap_append];simp [List.getD,List.getElem?_eq_getElem h]
theorem pe {L:List (Value×Nat×List Value)} {m:Nat} (h:∀x∈L,x.2.1≤m):∀k,k≤L.length→cnt (L.take k)≤k*m
 | 0,_=>by simp [cnt]
 | k+1,hk=>by
  rw [fA (by omega),Nat.add_mul];have h1:=pe h k (by omega);have h2:=h (L.getD k z3) (by
   rw [List.getD_eq_getElem?_getD,List.getElem?_eq_getElem (by omega:k<L.length)];exact List.getElem_mem _)
  omega
theorem eH {L:List (Value×Nat×List Value)} {k:Nat} (h:k<L.length):L.getD k z3∈L:=by
 rw [List.getD_eq_getElem?_getD,List.getElem?_eq_getElem h];exact List.getElem_mem _
theorem sZ (n:Nat) (w:World) (hn:n≤10000000):Calls Tryz.prog 126 #[.slice none 0 0,.int .i64 n] w fun e w'=>∃u,e= .returned u∧w'.ownsRow w.heap.size 131 3 u 0 []∧Below w.heap.size w w':=by
 obtain⟨i0,hi,hz0,hz1,hz2⟩:=info_parts fh;have h1:¬((n:Int)<0):=by omega
 by_cases h0:n=0
 ·subst h0;clear hi hz0 hz1 hz2;go_enter Tryz.func126,Tryz.ntmps126;go_wp2;go_ret;exact⟨_,rfl,World.ownsRow_nil _ _ _ _,Below.refl _ _⟩
 ·have h4:(0:Int)<(n:Int):=(by omega);have hr:=fun ty=>Lib.run_append_nil_zeros (P:=Tryz.prog) w 133 3 ty 131 i0 _ .i64 .i64 Tryz.underlying133 Tryz.underlying3 hi hz0 n (by omega) (by rw [hz1];decide) (by omega) (by rw [hz2];omega);have HR:=aa hr;have hG0:=grownCap_ge w n 0 131;have hG1:=grownCap_le_maxLen w n 0 131 (by unfold maxLen;omega);generalize grownCap w n 0 131=G at*;clear hr;have hG2:G≤9223372036854775807:=by unfold maxLen at hG1;omega
  have hO:((w.drew).alloc (.cells (Builtin.zeroCells (Value.cells (.agg #[.int .i64 0,.int .i64 0,.int .i64 0])) n++Builtin.zeroCells (Value.cells (.agg #[.int .i64 0,.int .i64 0,.int .i64 0])) (G-n)) 131)).ownsRow w.heap.size 131 3 (.slice (some ⟨w.heap.size,0,none⟩) 0 G) 0 []:=by
   refine World.ownsRow_made w.drew _ G zr hG1 ?_;rw [Array.size_append,cH,cH];rw [←Nat.add_mul];congr 1;omega
  have HO:=aa hO;clear hO;go_enter Tryz.func126,Tryz.ntmps126;go_wp2_with (at_builtin;refine Lib.wpList_append_run _ rfl _ _ _ _ rfl _ _ rfl rfl _ _ ((ag HR) _) ?_)
  go_ret;exact⟨_,rfl,HO.out,(Below.refl _ _).drew.alloc zr _⟩
theorem eW (L:List (Value×Nat×List Value)) (g cap:Nat) (w:World) (hc:∀j,j<L.length→w.cell? ⟨g,j,none⟩=some (L.getD j z3).1) (hs:∀x∈L,SrcAt w 3 x.1 x.2.1 x.2.2) (hl:L.length≤10) (hcap:L.length≤cap) (hn:∀x∈L,x.2.1≤100000):
  Calls Tryz.prog 75 #[.slice (some ⟨g,0,none⟩) L.length cap] w fun e w'=>∃u,e= .returned u∧w'.ownsRow w.heap.size 131 3 u (cnt L) (cat L)∧Below w.heap.size w w':=by
 obtain⟨i0,hi,hz0,hz1,hz2⟩:=info_parts fh;have HC:=aa hc;have HS:=aa hs;have HN:=aa (fun k hk=>pe hn k hk);have HM:=aa hn;clear hc hs hn;go_enter Tryz.func75,Tryz.ntmps75;go_wp2_with fail
 go_loopw [3,11] (fun s i wr=>∃k:Nat,k≤L.length∧i= .int .i64 k∧s= .int .i64 (cnt (L.take k):Nat)∧Below w.heap.size w wr) (fun _ i _=>L.length-(intOf i).toNat)
 case atStart=>exact⟨0,by omega,rfl,rfl,Below.refl _ _⟩
 case round=>
  obtain⟨k,hk,rfl,rfl,hbr⟩:=hrel;by_cases hlt:k<L.length
  ·have hx:=(HS.out _ (eH hlt));have hcell:=(hbr.cell (p:=⟨g,k,none⟩) (am (HC.out k hlt))).trans (HC.out k hlt);obtain⟨o,c,hu⟩:∃o c,(L.getD k z3).1= .slice o (L.getD k z3).2.1 c:=by
    rcases hx with⟨h,h0,_⟩ |⟨ad,c,h,_⟩
    ·exact⟨_,_,by rw [h,h0]⟩
    ·exact⟨_,_,h⟩
   rw [hu]at hcell;have HX:=aa (fA hlt);have hb1:=HN.out k hk;have hb2:=HM.out _ (eH hlt);clear hx hu;generalize (L.getD k z3).2.1=m at*;generalize hcn:cnt (L.take k)=C0 at*;clear hcn;have hb3:C0≤1000000:=Nat.le_trans hb1 (by omega);have hb4:¬((C0:Int)+(m:Int)<0):=(by omega);have q1:(0:Int)≤(k:Int):=(by omega);have q2:(k:Int)<(L.length:Int):=(by omega);clear hb1;go_wp2_with fail
   go_roundw
   case rel=>exact⟨k+1,by omega,by go_num,by rw [HX.out];go_num,hbr⟩
   case measure=>simp [intOf];omega
  ·obtain rfl:k=L.length:=(by omega);have hb1:=HN.out _ zr;rw [List.take_length]at hb1⊢;have hb3:cnt L≤1000000:=Nat.le_trans hb1 (by omega);have HG:=aa (sZ (cnt L) wr (by omega));obtain⟨C1,hC1⟩:∃C1,C1=cnt L:=⟨_,rfl⟩;have HC1:=aa hC1;rw [←hC1]at HG hb3⊢;clear hC1 hb1;go_wp2_with fail
   refine(ag HG).mono ?_;rintro e w1 ⟨u,rfl,ho,hb⟩;have hb01:=hbr.trans (hb.mono hbr.size);have HO:=aa (aA ho hbr.size);obtain⟨o,c,rfl⟩:=az ho;clear ho hb hbr HG;go_wp2_with fail
   go_loopw [6,27] (fun v i wq=>∃k:Nat,k≤L.length∧i= .int .i64 k∧Hid (wq.ownsRow w.heap.size 131 3 v (cnt (L.take k)) (cat (L.take k)))∧Below w.heap.size w wq) (fun _ i _=>L.length-(intOf i).toNat)
   case atStart=>exact⟨0,by omega,rfl,aa (by simpa [cnt,cat] using HO.out),hb01⟩
   case round=>
    clear HO hb01;obtain⟨k,hk,rfl,HO,hbr⟩:=hrel;by_cases hlt:k<L.length
    ·have hx:=(HS.out _ (eH hlt));have hcell:=(hbr.cell (p:=⟨g,k,none⟩) (am (HC.out k hlt))).trans (HC.out k hlt);have HX:=aa (fA hlt);have HY:=aa (nb hlt);have hb1:=HN.out k hk;have hb2:=HM.out _ (eH hlt);obtain⟨o1,c1,rfl⟩:=az HO.out;have hb4:cnt (L.take k)≤1000000:=Nat.le_trans hb1 (by omega);have q1:(0:Int)≤(k:Int):=(by omega);have q2:(k:Int)<(L.length:Int):=(by omega);clear hb1;have hsz:=hbr.size;have HS2:=aa (hx.below' hbr);clear hx;obtain⟨C2,hC2⟩:∃C2,C2=cnt (L.take k):=⟨_,rfl⟩;rw [←hC2]at HO HX hb4⊢;clear hC2;obtain⟨XS,hXS⟩:∃XS,XS=cat (L.take k):=⟨_,rfl⟩;rw [←hXS]at HO HY;clear hXS;rcases HS2.out with⟨hu,h0,hnil⟩ |⟨ad,c2,hu,hln,hcs,hone⟩
     ·rw [hu]at hcell;rw [h0,Nat.add_zero]at HX;rw [hnil,List.append_nil]at HY;clear hu h0 hnil HS2 hb2;go_wp2_with (at_builtin;refine wpList_append_own_none rfl _ _ 133 rfl w.heap.size 131 i0 3 Tryz.underlying133 hi _ _ _ rfl (ag HO) rfl ?_)
      go_roundw
      case rel=>exact⟨k+1,by omega,by go_num,by rw [HX.out,HY.out];exact HO,hbr⟩
      case measure=>simp [intOf];omega
     ·rw [hu]at hcell;have HLN:=aa hln;have HCS:=aa hcs;have HONE:=aa hone;clear hu hln hcs hone HS2;generalize (L.getD k z3).2.1=m at*;generalize (L.getD k z3).2.2=ys at*;go_wp2_with (at_builtin;refine wpList_append_own _ rfl _ _ 133 rfl w.heap.size 131 i0 _ 3 24 Tryz.underlying133 hi hz0 hz1 hz2 rfl (by decide) _ _ _ rfl (ag HO) ad m c2 ys rfl (ag HLN) (ag HCS) (ag HONE) ?a1 ?a2 ?a3 ?_)
      case a1=>unfold maxLen;omega
      case a2=>omega
      case a3=>exact hsz
      intro v3 w3 ho3 hg3 _;have hb3:Below w.heap.size w w3:=hbr.grown hg3 hsz (aS HO.out);have HE:=aa ho3;obtain⟨o3,c3,rfl⟩:=az ho3;clear ho3 hg3 HO HCS hcell;go_wp2_with fail
      go_roundw
      case rel=>exact⟨k+1,by omega,by go_num,by rw [HX.out,HY.out];exact HE,hb3⟩
      case measure=>simp [intOf];omega
    ·obtain rfl:k=L.length:=(by omega);rw [List.take_length]at HO;obtain⟨o1,c1,rfl⟩:=az HO.out;have HX:=aa HO.out;clear HO;go_wp2_with fail
     go_ret;exact⟨_,rfl,HX.out,hbr⟩
theorem sS (n:Nat) (w:World) (hn:n≤10000000):Calls Tryz.prog 189 #[.slice none 0 0,.int .i64 n] w fun e w'=>∃u,e= .returned u∧w'.ownsRow w.heap.size 115 3 u 0 []∧Below w.heap.size w w':=by
 obtain⟨i0,hi,hz0,hz1,hz2⟩:=info_parts ga;have h1:¬((n:Int)<0):=by omega
 by_cases h0:n=0
 ·subst h0;clear hi hz0 hz1 hz2;go_enter Tryz.func189,Tryz.ntmps189;go_wp2;go_ret;exact⟨_,rfl,World.ownsRow_nil _ _ _ _,Below.refl _ _⟩
 ·have h4:(0:Int)<(n:Int):=(by omega);have hr:=fun ty=>Lib.run_append_nil_zeros (P:=Tryz.prog) w 112 3 ty 115 i0 _ .i64 .i64 Tryz.underlying112 Tryz.underlying3 hi hz0 n (by omega) (by rw [hz1];decide) (by omega) (by rw [hz2];omega);have HR:=aa hr;have hG0:=grownCap_ge w n 0 115;have hG1:=grownCap_le_maxLen w n 0 115 (by unfold maxLen;omega);generalize grownCap w n 0 115=G at*;clear hr;have hG2:G≤9223372036854775807:=by unfold maxLen at hG1;omega
  have hO:((w.drew).alloc (.cells (Builtin.zeroCells (Value.cells (.agg #[.int .i64 0,.int .i64 0,.int .i64 0])) n++Builtin.zeroCells (Value.cells (.agg #[.int .i64 0,.int .i64 0,.int .i64 0])) (G-n)) 115)).ownsRow w.heap.size 115 3 (.slice (some ⟨w.heap.size,0,none⟩) 0 G) 0 []:=by
   refine World.ownsRow_made w.drew _ G zr hG1 ?_;rw [Array.size_append,cH,cH];rw [←Nat.add_mul];congr 1;omega
  have HO:=aa hO;clear hO;go_enter Tryz.func189,Tryz.ntmps189;go_wp2_with (at_builtin;refine Lib.wpList_append_run _ rfl _ _ _ _ rfl _ _ rfl rfl _ _ ((ag HR) _) ?_)
  go_ret;exact⟨_,rfl,HO.out,(Below.refl _ _).drew.alloc zr _⟩
theorem pL (L:List (Value×Nat×List Value)) (g cap:Nat) (w:World) (hc:∀j,j<L.length→w.cell? ⟨g,j,none⟩=some (L.getD j z3).1) (hs:∀x∈L,SrcAt w 3 x.1 x.2.1 x.2.2) (hl:L.length≤10) (hcap:L.length≤cap) (hn:∀x∈L,x.2.1≤100000):
  Calls Tryz.prog 141 #[.slice (some ⟨g,0,none⟩) L.length cap] w fun e w'=>∃u,e= .returned u∧w'.ownsRow w.heap.size 115 3 u (cnt L) (cat L)∧Below w.heap.size w w':=by
 obtain⟨i0,hi,hz0,hz1,hz2⟩:=info_parts ga;have HC:=aa hc;have HS:=aa hs;have HN:=aa (fun k hk=>pe hn k hk);have HM:=aa hn;clear hc hs hn;go_enter Tryz.func141,Tryz.ntmps141;go_wp2_with fail
 go_loopw [3,11] (fun s i wr=>∃k:Nat,k≤L.length∧i= .int .i64 k∧s= .int .i64 (cnt (L.take k):Nat)∧Below w.heap.size w wr) (fun _ i _=>L.length-(intOf i).toNat)
 case atStart=>exact⟨0,by omega,rfl,rfl,Below.refl _ _⟩
 case round=>
  obtain⟨k,hk,rfl,rfl,hbr⟩:=hrel;by_cases hlt:k<L.length
  ·have hx:=(HS.out _ (eH hlt));have hcell:=(hbr.cell (p:=⟨g,k,none⟩) (am (HC.out k hlt))).trans (HC.out k hlt);obtain⟨o,c,hu⟩:∃o c,(L.getD k z3).1= .slice o (L.getD k z3).2.1 c:=by
    rcases hx with⟨h,h0,_⟩ |⟨ad,c,h,_⟩
    ·exact⟨_,_,by rw [h,h0]⟩
    ·exact⟨_,_,h⟩
   rw [hu]at hcell;have HX:=aa (fA hlt);have hb1:=HN.out k hk;have hb2:=HM.out _ (eH hlt);clear hx hu;generalize (L.getD k z3).2.1=m at*;generalize hcn:cnt (L.take k)=C0 at*;clear hcn;have hb3:C0≤1000000:=Nat.le_trans hb1 (by omega);have hb4:¬((C0:Int)+(m:Int)<0):=(by omega);have q1:(0:Int)≤(k:Int):=(by omega);have q2:(k:Int)<(L.length:Int):=(by omega);clear hb1;go_wp2_with fail
   go_roundw
   case rel=>exact⟨k+1,by omega,by go_num,by rw [HX.out];go_num,hbr⟩
   case measure=>simp [intOf];omega
  ·obtain rfl:k=L.length:=(by omega);have hb1:=HN.out _ zr;rw [List.take_length]at hb1⊢;have hb3:cnt L≤1000000:=Nat.le_trans hb1 (by omega);have HG:=aa (sS (cnt L) wr (by omega));obtain⟨C1,hC1⟩:∃C1,C1=cnt L:=⟨_,rfl⟩;have HC1:=aa hC1;rw [←hC1]at HG hb3⊢;clear hC1 hb1;go_wp2_with fail
   refine(ag HG).mono ?_;rintro e w1 ⟨u,rfl,ho,hb⟩;have hb01:=hbr.trans (hb.mono hbr.size);have HO:=aa (aA ho hbr.size);obtain⟨o,c,rfl⟩:=az ho;clear ho hb hbr HG;go_wp2_with fail
   go_loopw [6,27] (fun v i wq=>∃k:Nat,k≤L.length∧i= .int .i64 k∧Hid (wq.ownsRow w.heap.size 115 3 v (cnt (L.take k)) (cat (L.take k)))∧Below w.heap.size w wq) (fun _ i _=>L.length-(intOf i).toNat)
   case atStart=>exact⟨0,by omega,rfl,aa (by simpa [cnt,cat] using HO.out),hb01⟩
   case round=>
    clear HO hb01;obtain⟨k,hk,rfl,HO,hbr⟩:=hrel;by_cases hlt:k<L.length
    ·have hx:=(HS.out _ (eH hlt));have hcell:=(hbr.cell (p:=⟨g,k,none⟩) (am (HC.out k hlt))).trans (HC.out k hlt);have HX:=aa (fA hlt);have HY:=aa (nb hlt);have hb1:=HN.out k hk;have hb2:=HM.out _ (eH hlt);obtain⟨o1,c1,rfl⟩:=az HO.out;have hb4:cnt (L.take k)≤1000000:=Nat.le_trans hb1 (by omega);have q1:(0:Int)≤(k:Int):=(by omega);have q2:(k:Int)<(L.length:Int):=(by omega);clear hb1;have hsz:=hbr.size;have HS2:=aa (hx.below' hbr);clear hx;obtain⟨C2,hC2⟩:∃C2,C2=cnt (L.take k):=⟨_,rfl⟩;rw [←hC2]at HO HX hb4⊢;clear hC2;obtain⟨XS,hXS⟩:∃XS,XS=cat (L.take k):=⟨_,rfl⟩;rw [←hXS]at HO HY;clear hXS;rcases HS2.out with⟨hu,h0,hnil⟩ |⟨ad,c2,hu,hln,hcs,hone⟩
     ·rw [hu]at hcell;rw [h0,Nat.add_zero]at HX;rw [hnil,List.append_nil]at HY;clear hu h0 hnil HS2 hb2;go_wp2_with (at_builtin;refine wpList_append_own_none rfl _ _ 112 rfl w.heap.size 115 i0 3 Tryz.underlying112 hi _ _ _ rfl (ag HO) rfl ?_)
      go_roundw
      case rel=>exact⟨k+1,by omega,by go_num,by rw [HX.out,HY.out];exact HO,hbr⟩
      case measure=>simp [intOf];omega
     ·rw [hu]at hcell;have HLN:=aa hln;have HCS:=aa hcs;have HONE:=aa hone;clear hu hln hcs hone HS2;generalize (L.getD k z3).2.1=m at*;generalize (L.getD k z3).2.2=ys at*;go_wp2_with (at_builtin;refine wpList_append_own _ rfl _ _ 112 rfl w.heap.size 115 i0 _ 3 24 Tryz.underlying112 hi hz0 hz1 hz2 rfl (by decide) _ _ _ rfl (ag HO) ad m c2 ys rfl (ag HLN) (ag HCS) (ag HONE) ?a1 ?a2 ?a3 ?_)
      case a1=>unfold maxLen;omega
      case a2=>omega
      case a3=>exact hsz
      intro v3 w3 ho3 hg3 _;have hb3:Below w.heap.size w w3:=hbr.grown hg3 hsz (aS HO.out);have HE:=aa ho3;obtain⟨o3,c3,rfl⟩:=az ho3;clear ho3 hg3 HO HCS hcell;go_wp2_with fail
      go_roundw
      case rel=>exact⟨k+1,by omega,by go_num,by rw [HX.out,HY.out];exact HE,hb3⟩
      case measure=>simp [intOf];omega
    ·obtain rfl:k=L.length:=(by omega);rw [List.take_length]at HO;obtain⟨o1,c1,rfl⟩:=az HO.out;have HX:=aa HO.out;clear HO;go_wp2_with fail
     go_ret;exact⟨_,rfl,HX.out,hbr⟩
theorem sH (n:Nat) (w:World) (hn:n≤10000000):Calls Tryz.prog 131 #[.slice none 0 0,.int .i64 n] w fun e w'=>∃u,e= .returned u∧w'.ownsRow w.heap.size 135 4 u 0 []∧Below w.heap.size w w':=by
 obtain⟨i0,hi,hz0,hz1,hz2⟩:=info_parts fD;have h1:¬((n:Int)<0):=by omega
 by_cases h0:n=0
 ·subst h0;clear hi hz0 hz1 hz2;go_enter Tryz.func131,Tryz.ntmps131;go_wp2;go_ret;exact⟨_,rfl,World.ownsRow_nil _ _ _ _,Below.refl _ _⟩
 ·have h4:(0:Int)<(n:Int):=(by omega);have hr:=fun ty=>Lib.run_append_nil_zeros (P:=Tryz.prog) w 43 3 ty 135 i0 _ .i64 .i64 Tryz.underlying43 Tryz.underlying3 hi hz0 n (by omega) (by rw [hz1];decide) (by omega) (by rw [hz2];omega);have HR:=aa hr;have hG0:=grownCap_ge w n 0 135;have hG1:=grownCap_le_maxLen w n 0 135 (by unfold maxLen;omega);generalize grownCap w n 0 135=G at*;clear hr;have hG2:G≤9223372036854775807:=by unfold maxLen at hG1;omega
  have hO:((w.drew).alloc (.cells (Builtin.zeroCells (Value.cells (.agg #[.int .i64 0,.int .i64 0,.slice none 0 0,.slice none 0 0])) n++Builtin.zeroCells (Value.cells (.agg #[.int .i64 0,.int .i64 0,.slice none 0 0,.slice none 0 0])) (G-n)) 135)).ownsRow w.heap.size 135 4 (.slice (some ⟨w.heap.size,0,none⟩) 0 G) 0 []:=by
   refine World.ownsRow_made w.drew _ G zr hG1 ?_;rw [Array.size_append,cH,cH];rw [←Nat.add_mul];congr 1;omega
  have HO:=aa hO;clear hO;go_enter Tryz.func131,Tryz.ntmps131;go_wp2_with (at_builtin;refine Lib.wpList_append_run _ rfl _ _ _ _ rfl _ _ rfl rfl _ _ ((ag HR) _) ?_)
  go_ret;exact⟨_,rfl,HO.out,(Below.refl _ _).drew.alloc zr _⟩
theorem oV (L:List (Value×Nat×List Value)) (g cap:Nat) (w:World) (hc:∀j,j<L.length→w.cell? ⟨g,j,none⟩=some (L.getD j z3).1) (hs:∀x∈L,SrcAt w 4 x.1 x.2.1 x.2.2) (hl:L.length≤10) (hcap:L.length≤cap) (hn:∀x∈L,x.2.1≤100000):
  Calls Tryz.prog 79 #[.slice (some ⟨g,0,none⟩) L.length cap] w fun e w'=>∃u,e= .returned u∧w'.ownsRow w.heap.size 135 4 u (cnt L) (cat L)∧Below w.heap.size w w':=by
 obtain⟨i0,hi,hz0,hz1,hz2⟩:=info_parts fD;have HC:=aa hc;have HS:=aa hs;have HN:=aa (fun k hk=>pe hn k hk);have HM:=aa hn;clear hc hs hn;go_enter Tryz.func79,Tryz.ntmps79;go_wp2_with fail
 go_loopw [3,11] (fun s i wr=>∃k:Nat,k≤L.length∧i= .int .i64 k∧s= .int .i64 (cnt (L.take k):Nat)∧Below w.heap.size w wr) (fun _ i _=>L.length-(intOf i).toNat)
 case atStart=>exact⟨0,by omega,rfl,rfl,Below.refl _ _⟩
 case round=>
  obtain⟨k,hk,rfl,rfl,hbr⟩:=hrel;by_cases hlt:k<L.length
  ·have hx:=(HS.out _ (eH hlt));have hcell:=(hbr.cell (p:=⟨g,k,none⟩) (am (HC.out k hlt))).trans (HC.out k hlt);obtain⟨o,c,hu⟩:∃o c,(L.getD k z3).1= .slice o (L.getD k z3).2.1 c:=by
    rcases hx with⟨h,h0,_⟩ |⟨ad,c,h,_⟩
    ·exact⟨_,_,by rw [h,h0]⟩
    ·exact⟨_,_,h⟩
   rw [hu]at hcell;have HX:=aa (fA hlt);have hb1:=HN.out k hk;have hb2:=HM.out _ (eH hlt);clear hx hu;generalize (L.getD k z3).2.1=m at*;generalize hcn:cnt (L.take k)=C0 at*;clear hcn;have hb3:C0≤1000000:=Nat.le_trans hb1 (by omega);have hb4:¬((C0:Int)+(m:Int)<0):=(by omega);have q1:(0:Int)≤(k:Int):=(by omega);have q2:(k:Int)<(L.length:Int):=(by omega);clear hb1;go_wp2_with fail
   go_roundw
   case rel=>exact⟨k+1,by omega,by go_num,by rw [HX.out];go_num,hbr⟩
   case measure=>simp [intOf];omega
  ·obtain rfl:k=L.length:=(by omega);have hb1:=HN.out _ zr;rw [List.take_length]at hb1⊢;have hb3:cnt L≤1000000:=Nat.le_trans hb1 (by omega);have HG:=aa (sH (cnt L) wr (by omega));obtain⟨C1,hC1⟩:∃C1,C1=cnt L:=⟨_,rfl⟩;have HC1:=aa hC1;rw [←hC1]at HG hb3⊢;clear hC1 hb1;go_wp2_with fail
   refine(ag HG).mono ?_;rintro e w1 ⟨u,rfl,ho,hb⟩;have hb01:=hbr.trans (hb.mono hbr.size);have HO:=aa (aA ho hbr.size);obtain⟨o,c,rfl⟩:=az ho;clear ho hb hbr HG;go_wp2_with fail
   go_loopw [6,27] (fun v i wq=>∃k:Nat,k≤L.length∧i= .int .i64 k∧Hid (wq.ownsRow w.heap.size 135 4 v (cnt (L.take k)) (cat (L.take k)))∧Below w.heap.size w wq) (fun _ i _=>L.length-(intOf i).toNat)
   case atStart=>exact⟨0,by omega,rfl,aa (by simpa [cnt,cat] using HO.out),hb01⟩
   case round=>
    clear HO hb01;obtain⟨k,hk,rfl,HO,hbr⟩:=hrel;by_cases hlt:k<L.length
    ·have hx:=(HS.out _ (eH hlt));have hcell:=(hbr.cell (p:=⟨g,k,none⟩) (am (HC.out k hlt))).trans (HC.out k hlt);have HX:=aa (fA hlt);have HY:=aa (nb hlt);have hb1:=HN.out k hk;have hb2:=HM.out _ (eH hlt);obtain⟨o1,c1,rfl⟩:=az HO.out;have hb4:cnt (L.take k)≤1000000:=Nat.le_trans hb1 (by omega);have q1:(0:Int)≤(k:Int):=(by omega);have q2:(k:Int)<(L.length:Int):=(by omega);clear hb1;have hsz:=hbr.size;have HS2:=aa (hx.below' hbr);clear hx;obtain⟨C2,hC2⟩:∃C2,C2=cnt (L.take k):=⟨_,rfl⟩;rw [←hC2]at HO HX hb4⊢;clear hC2;obtain⟨XS,hXS⟩:∃XS,XS=cat (L.take k):=⟨_,rfl⟩;rw [←hXS]at HO HY;clear hXS;rcases HS2.out with⟨hu,h0,hnil⟩ |⟨ad,c2,hu,hln,hcs,hone⟩
     ·rw [hu]at hcell;rw [h0,Nat.add_zero]at HX;rw [hnil,List.append_nil]at HY;clear hu h0 hnil HS2 hb2;go_wp2_with (at_builtin;refine wpList_append_own_none rfl _ _ 43 rfl w.heap.size 135 i0 4 Tryz.underlying43 hi _ _ _ rfl (ag HO) rfl ?_)
      go_roundw
      case rel=>exact⟨k+1,by omega,by go_num,by rw [HX.out,HY.out];exact HO,hbr⟩
      case measure=>simp [intOf];omega
     ·rw [hu]at hcell;have HLN:=aa hln;have HCS:=aa hcs;have HONE:=aa hone;clear hu hln hcs hone HS2;generalize (L.getD k z3).2.1=m at*;generalize (L.getD k z3).2.2=ys at*;go_wp2_with (at_builtin;refine wpList_append_own _ rfl _ _ 43 rfl w.heap.size 135 i0 _ 4 64 Tryz.underlying43 hi hz0 hz1 hz2 rfl (by decide) _ _ _ rfl (ag HO) ad m c2 ys rfl (ag HLN) (ag HCS) (ag HONE) ?a1 ?a2 ?a3 ?_)
      case a1=>unfold maxLen;omega
      case a2=>omega
      case a3=>exact hsz
      intro v3 w3 ho3 hg3 _;have hb3:Below w.heap.size w w3:=hbr.grown hg3 hsz (aS HO.out);have HE:=aa ho3;obtain⟨o3,c3,rfl⟩:=az ho3;clear ho3 hg3 HO HCS hcell;go_wp2_with fail
      go_roundw
      case rel=>exact⟨k+1,by omega,by go_num,by rw [HX.out,HY.out];exact HE,hb3⟩
      case measure=>simp [intOf];omega
    ·obtain rfl:k=L.length:=(by omega);rw [List.take_length]at HO;obtain⟨o1,c1,rfl⟩:=az HO.out;have HX:=aa HO.out;clear HO;go_wp2_with fail
     go_ret;exact⟨_,rfl,HX.out,hbr⟩
def FvIn (w:World) (B:Nat) (u:Value) (x:Fv):Prop:=FvOk w x∧Apart x.mv u∧Apart x.dv u∧(∀g,x.mv.ownBlock=some g→B≤g)∧∀g,x.dv.ownBlock=some g→B≤g
theorem FvIn.below {w w':World} {B:Nat} {u:Value} {x:Fv} (h:FvIn w B u x) (hb:Below w.heap.size w w'):FvIn w' B u x:=⟨h.1.below hb,h.2⟩
theorem FvIn.less {w:World} {B B':Nat} {u:Value} {x:Fv} (h:FvIn w B u x) (hB:B'≤B):FvIn w B' u x:=⟨h.1,h.2.1,h.2.2.1,fun g e=>Nat.le_trans hB (h.2.2.2.1 g e),fun g e=>Nat.le_trans hB (h.2.2.2.2 g e)⟩
theorem FvIn.far {w:World} {B:Nat} {u v:Value} {x:Fv} (h:FvIn w B u x) (hv:∀g,v.ownBlock=some g→g<B):FvIn w B v x:=by
 refine⟨h.1,?_,?_,h.2.2.2⟩
 ·cases e:x.mv.ownBlock with
  | none=>exact .inl e
  | some b=>exact .inr fun e'=>by have h1:=h.2.2.2.1 b e;have h2:=hv b (by rw [←e',e]);omega
 ·cases e:x.dv.ownBlock with
  | none=>exact .inl e
  | some b=>exact .inr fun e'=>by have h1:=h.2.2.2.2 b e;have h2:=hv b (by rw [←e',e]);omega
def FR (w:World) (B:Nat) (u:Value) (fs:List Fl):Prop:=∃lo:List Fv,lo.map Fv.f=fs∧w.ownsRow B 135 4 u lo.length (C lo)∧∀x∈lo,FvIn w B u x
theorem FR.below {w w':World} {B B':Nat} {u:Value} {fs:List Fl} (h:FR w B u fs) (hb:Below B' w w') (hB:w.heap.size≤B'):FR w' B u fs:=by
 obtain⟨lo,h1,h2,h3⟩:=h;have hb':=hb.mono hB;exact⟨lo,h1,ar h2 hb',fun x hx=>(h3 x hx).below hb'⟩
theorem FR.less {w:World} {B B':Nat} {u:Value} {fs:List Fl} (h:FR w B u fs) (hB:B'≤B):FR w B' u fs:=by
 obtain⟨lo,h1,h2,h3⟩:=h;exact⟨lo,h1,aA h2 hB,fun x hx=>(h3 x hx).less hB⟩
theorem FR.nil (w:World) (B:Nat):FR w B (.slice none 0 0) []:=⟨[],rfl,World.ownsRow_nil _ _ _ _,by simp⟩
theorem FR.slc {w:World} {B:Nat} {u:Value} {fs:List Fl} (h:FR w B u fs):∃o c,u= .slice o fs.length c:=by
 obtain⟨lo,h1,h2,h3⟩:=h;obtain⟨o,c,h⟩:=az h2;exact⟨o,c,by rw [h, ←h1,List.length_map]⟩
theorem FR.lt {w:World} {B:Nat} {u:Value} {fs:List Fl} (h:FR w B u fs):∀g,u.ownBlock=some g→g<w.heap.size:=by
 obtain⟨lo,h1,h2,h3⟩:=h;intro g e;exact dD h2 e
theorem tT (l:List Fv):(C l).length=l.length*4:=by
 induction l with
 | nil=>rfl
 | cons x r ih=>simp [C]at ih⊢;omega
theorem FvIn.held {w:World} {B:Nat} {u:Value} {x:Fv} (h:FvIn w B u x):MsAt w x.mv x.f.ms∧DsAt w x.dv x.f.ds:=⟨h.1.1,h.1.2.1⟩
theorem yr {w:World} {B:Nat} {u:Value}:∀{lo:List Fv},(∀x∈lo,FvIn w B u x)→∀v∈C lo,v.oneCell'=true:=by
 intro lo h v hv;unfold C at hv;rw [List.mem_flatMap]at hv;obtain⟨x,hx,hv⟩:=hv;exact(h x hx).1.one v (by simpa [C] using hv)
theorem FR.src {w:World} {B:Nat} {u:Value} {fs:List Fl} (h:FR w B u fs):∃lo:List Fv,lo.map Fv.f=fs∧lo.length=fs.length∧SrcAt w 4 u lo.length (C lo)∧∀x∈lo,FvIn w B u x:=by
 obtain⟨lo,h1,h2,h3⟩:=h;exact⟨lo,h1,by rw [←h1,List.length_map],SrcAt.of_own h2 (yr h3),h3⟩
theorem FR.app {w w':World} {B g n cap:Nat} {u:Value} {lo lo2:List Fv} (ok1:∀x∈lo,FvIn w B u x) (ok2:∀x∈lo2,FvIn w B u x)
  (ho:w'.ownsRow B 135 4 (.slice (some ⟨g,0,none⟩) n cap) n (C lo++C lo2)) (hn:n=lo.length+lo2.length) (hg:w.grownBy w' u.ownBlock) (ha:u.ownBlock=some g∨g=w.heap.size):
  FR w' B (.slice (some ⟨g,0,none⟩) n cap) (lo.map Fv.f++lo2.map Fv.f):=by
 refine⟨lo++lo2,by simp,by rw [im,List.length_append, ←hn];exact ho,fun x hx=>?_⟩;have hx':FvIn w B u x:=by
  rcases List.mem_append.1 hx with h | h
  ·exact ok1 x h
  ·exact ok2 x h
 obtain⟨k0,k1,k2,k3,k4⟩:=hx';refine⟨k0.kept hg k1 k2,?_,?_,k3,k4⟩
 ·exact Apart.app (w:=w) k1 (fun g e=>k0.2.2.1 g e) ha
 ·exact Apart.app (w:=w) k2 (fun g e=>k0.2.2.2 g e) ha
theorem fp {w:World} {B:Nat} {f:Fl} {mv dv u:Value} (h1:w.ownsRow B 131 3 mv f.ms.length (M f.ms)) (h2:w.ownsRow B 115 3 dv f.ds.length (D f.ds)) (hu:∀g,u.ownBlock=some g→g<B):FvIn w B u ⟨f,mv,dv⟩:=by
 refine FvIn.far (u:=.slice none 0 0) ⟨⟨MsAt.of_own h1,DsAt.of_own h2,fun g e=>dD h1 e,fun g e=>dD h2 e⟩,?_,?_,aS h1,aS h2⟩ hu
 ·exact ol _
 ·exact ol _
theorem FR.lit {cur:World} {B n:Nat} {lo:List Fv} {cs:Array Value} (hcs:cs.toList=C lo) (hn:lo.length=n) (hB:B≤cur.heap.size) (hm:n≤maxLen) (ok:∀x∈lo,FvIn cur B (.slice none 0 0) x):
  FR (cur.alloc (.cells cs 135)) B (.slice (some ⟨cur.heap.size,0,none⟩) n n) (lo.map Fv.f):=by
 have hs:cs.size=n*4:=by rw [←Array.length_toList,hcs,tT,hn]
 have ho:=World.ownsRow_lit (base:=B) (e:=135) (size:=4) cur cs n hB hm hs;rw [hcs]at ho;refine⟨lo,rfl,by rw [hn];exact ho,fun x hx=>?_⟩;have hb:=ak cur (.cells cs 135);obtain⟨k0,_,_,k3,k4⟩:=ok x hx;refine⟨k0.below hb,?_,?_,k3,k4⟩
 ·cases e:x.mv.ownBlock with
  | none=>exact .inl e
  | some b=>exact .inr fun e'=>by have h1:=k0.2.2.1 b e;rw [e]at e';simp [Value.ownBlock]at e';omega
 ·cases e:x.dv.ownBlock with
  | none=>exact .inl e
  | some b=>exact .inr fun e'=>by have h1:=k0.2.2.2 b e;rw [e]at e';simp [Value.ownBlock]at e';omega
theorem FR.fsAt {w:World} {B:Nat} {u:Value} {fs:List Fl} (h:FR w B u fs):FsAt w u fs:=by
 obtain⟨lo,h1,h2,h3⟩:=h;subst h1;obtain⟨o,c,rfl,hc,hg⟩:=jJ h2;by_cases hz:lo.length=0
 ·refine⟨o,c,by simp,?_,.inl (by simpa using hz)⟩;intro ho;subst ho;obtain⟨_,⟨hv,_⟩ |⟨g',cap',cur,hv,_⟩⟩:=h2
  ·simp only [Value.slice.injEq]at hv;exact hv.2.2
  ·simp at hv
 ·obtain⟨g,rfl⟩:=hg (by omega);refine⟨_,c,by simp,by simp,.inr ⟨g,0,rfl,by simpa using hc,fun i hi=>?_⟩⟩;have hi':i<lo.length:=(by simpa using hi);obtain⟨c0,c1,c2,c3⟩:=zd lo i hi';have e:(lo.map Fv.f).getD i fl0=(lo.getD i fv0).f:=(by simp [List.getD,List.getElem?_eq_getElem hi']);rw [e,Nat.zero_add];have hh:=(h3 (lo.getD i fv0) (by rw [List.getD_eq_getElem?_getD,List.getElem?_eq_getElem hi'];exact List.getElem_mem _)).held;exact⟨(h2.cellAt _ (by omega)).trans c0,(h2.cellAt _ (by omega)).trans c1,_,_,(h2.cellAt _ (by omega)).trans c2,(h2.cellAt _ (by omega)).trans c3,hh.1,hh.2⟩
theorem bu {w:World} {B e sz n:Nat} {u:Value} {xs:List Value} (h:w.ownsRow B e sz u n xs) (hn:0<n):∃g c,u= .slice (some ⟨g,0,none⟩) n c∧B≤g∧g<w.heap.size:=by
 have h':=h;obtain⟨_,⟨_,h0⟩ |⟨g,cap,cur,rfl,hB,_⟩⟩:=h
 ·omega
 ·exact⟨g,cap,rfl,hB,dD h' rfl⟩
theorem aG {w w':World} {b o gA:Nat} {v:Value} (hg:w.grownBy w' (some gA)) (h:w.cell? ⟨b,o,none⟩=some v) (hne:b≠gA):w'.cell? ⟨b,o,none⟩=some v:=
 (hg.cell_far _ (am h) (by simpa using hne)).trans h
theorem BB {w w':World}{g:Nat}{b0 b1 b2 o0 o1 o2:Nat}{v0 v1 v2:Value}(h:w.grownBy w' (some g))(h0:w.cell? ⟨b0,o0,none⟩=some v0)(h1:w.cell? ⟨b1,o1,none⟩=some v1)(h2:w.cell? ⟨b2,o2,none⟩=some v2)(e:b0≠g∧b1≠g∧b2≠g):w'.cell? ⟨b0,o0,none⟩=some v0∧w'.cell? ⟨b1,o1,none⟩=some v1∧w'.cell? ⟨b2,o2,none⟩=some v2:=⟨aG h h0 e.1,aG h h1 e.2.1,aG h h2 e.2.2⟩
theorem Aq {w w':World}{g:Nat}{b0 b1 b2 b3 b4 b5 b6 b7 b8 b9 b10 b11 b12 b13 b14 o0 o1 o2 o3 o4 o5 o6 o7 o8 o9 o10 o11 o12 o13 o14:Nat}{v0 v1 v2 v3 v4 v5 v6 v7 v8 v9 v10 v11 v12 v13 v14:Value}(h:w.grownBy w' (some g))(h0:w.cell? ⟨b0,o0,none⟩=some v0)(h1:w.cell? ⟨b1,o1,none⟩=some v1)(h2:w.cell? ⟨b2,o2,none⟩=some v2)(h3:w.cell? ⟨b3,o3,none⟩=some v3)(h4:w.cell? ⟨b4,o4,none⟩=some v4)(h5:w.cell? ⟨b5,o5,none⟩=some v5)(h6:w.cell? ⟨b6,o6,none⟩=some v6)(h7:w.cell? ⟨b7,o7,none⟩=some v7)(h8:w.cell? ⟨b8,o8,none⟩=some v8)(h9:w.cell? ⟨b9,o9,none⟩=some v9)(h10:w.cell? ⟨b10,o10,none⟩=some v10)(h11:w.cell? ⟨b11,o11,none⟩=some v11)(h12:w.cell? ⟨b12,o12,none⟩=some v12)(h13:w.cell? ⟨b13,o13,none⟩=some v13)(h14:w.cell? ⟨b14,o14,none⟩=some v14)(e:b0≠g∧b1≠g∧b2≠g∧b3≠g∧b4≠g∧b5≠g∧b6≠g∧b7≠g∧b8≠g∧b9≠g∧b10≠g∧b11≠g∧b12≠g∧b13≠g∧b14≠g):w'.cell? ⟨b0,o0,none⟩=some v0∧w'.cell? ⟨b1,o1,none⟩=some v1∧w'.cell? ⟨b2,o2,none⟩=some v2∧w'.cell? ⟨b3,o3,none⟩=some v3∧w'.cell? ⟨b4,o4,none⟩=some v4∧w'.cell? ⟨b5,o5,none⟩=some v5∧w'.cell? ⟨b6,o6,none⟩=some v6∧w'.cell? ⟨b7,o7,none⟩=some v7∧w'.cell? ⟨b8,o8,none⟩=some v8∧w'.cell? ⟨b9,o9,none⟩=some v9∧w'.cell? ⟨b10,o10,none⟩=some v10∧w'.cell? ⟨b11,o11,none⟩=some v11∧w'.cell? ⟨b12,o12,none⟩=some v12∧w'.cell? ⟨b13,o13,none⟩=some v13∧w'.cell? ⟨b14,o14,none⟩=some v14:=⟨aG h h0 e.1,aG h h1 e.2.1,aG h h2 e.2.2.1,aG h h3 e.2.2.2.1,aG h h4 e.2.2.2.2.1,aG h h5 e.2.2.2.2.2.1,aG h h6 e.2.2.2.2.2.2.1,aG h h7 e.2.2.2.2.2.2.2.1,aG h h8 e.2.2.2.2.2.2.2.2.1,aG h h9 e.2.2.2.2.2.2.2.2.2.1,aG h h10 e.2.2.2.2.2.2.2.2.2.2.1,aG h h11 e.2.2.2.2.2.2.2.2.2.2.2.1,aG h h12 e.2.2.2.2.2.2.2.2.2.2.2.2.1,aG h h13 e.2.2.2.2.2.2.2.2.2.2.2.2.2.1,aG h h14 e.2.2.2.2.2.2.2.2.2.2.2.2.2.2⟩
theorem dy {w w':World} {b gA B e sz n m c:Nat} {xs:List Value} (hg:w.grownBy w' (some gA)) (h:w.ownsRow B e sz (.slice (some ⟨b,0,none⟩) m c) n xs) (hne:b≠gA):w'.ownsRow B e sz (.slice (some ⟨b,0,none⟩) m c) n xs:=
 h.kept hg (.inr (by simpa [Value.ownBlock] using hne))
theorem Bx (a b:List Mt):M (a++b)=M a++M b:=by simp [M]
theorem BF (a b:List Do):D (a++b)=D a++D b:=by simp [D]
theorem gV (l:List Mt):∀u∈M l,u.oneCell'=true:=by
 intro u hu;unfold M at hu;rw [List.mem_flatMap]at hu;obtain⟨x,_,hu⟩:=hu;exact Bn _ _ _ u hu
theorem uE (l:List Do):∀u∈D l,u.oneCell'=true:=by
 intro u hu;unfold D at hu;rw [List.mem_flatMap]at hu;obtain⟨x,_,hu⟩:=hu;exact Bn _ _ _ u hu
theorem lq (w:World):Calls Tryz.prog 41 #[] w fun e w'=>∃u,e= .returned u∧FR w' w.heap.size u tunnelFl∧Below w.heap.size w w':=by
 obtain⟨iM,hiM,zM0,zM1,zM2⟩:=info_parts fh;obtain⟨iD,hiD,zD0,zD1,zD2⟩:=info_parts ga;obtain⟨iF,hiF,zF0,zF1,zF2⟩:=info_parts fD;go_enter Tryz.func41,Tryz.ntmps41;go_wp2_with fail
 refine(bK _ _ _).mono ?_;rintro e V0 ⟨rfl,hb0⟩;go_wp2_with fail
 obtain⟨W,hW⟩:∃W,W=V0.alloc (.cells #[.int .i64 0,.int .i64 65535,.int .i64 0] 131):=⟨_,rfl⟩;rw [←hW];obtain⟨tb,htb⟩:∃tb,tb=V0.heap.size:=⟨_,rfl⟩;have k0:W.cell? ⟨tb,0,none⟩=some (.int .i64 0):=zN2 hW htb rfl;have k1:W.cell? ⟨tb,1,none⟩=some (.int .i64 65535):=zN2 hW htb rfl;have k2:W.cell? ⟨tb,2,none⟩=some (.int .i64 0):=zN2 hW htb rfl;have htl:tb<W.heap.size:=by rw [hW,htb];simp
 have HB:Below w.heap.size w W:=by rw [hW];exact hb0.alloc hb0.size _
 rw [←htb];clear hW htb hb0;have hs0_2:=HB.size;refine wp_region_held_drew (S:=(fun w'=>w'.cell? ⟨tb,0,none⟩=some (.int .i64 0)∧w'.cell? ⟨tb,1,none⟩=some (.int .i64 65535)∧w'.cell? ⟨tb,2,none⟩=some (.int .i64 0))) (by kernel_rfl) ⟨k0,k1,k2⟩ (fun hHeld=>?_);have HDW:Below W.heap.size W W.drew:=(Below.refl _ _).drew;have hs1:=HDW.size;replace⟨k0,k1,k2⟩:=ep k0 k1 k2 HDW;replace HB:=zT HB HDW;clear HDW;generalize W.drew=V at*;refine sqA [(1,4),(8,11)] ?_;(iterate 2 (refine sqN rfl (by kernel_rfl) (fun _ _ _ h=>h) rfl ‹_› (by intro w h;go_simp <;>with_reducible rfl) ?_;simp only [nz]));refine sqZ ?_
 iterate 13
  all_goals
   first
    |(replace M0:=M0;replace M2:=M2;replace M3:=M3;replace M4:=M4;replace M5:=M5;replace M6:=M6;replace M7:=M7;replace M9:=M9;replace M10:=M10;replace M11:=M11;replace M12:=M12;replace M13:=M13;refine wpAnyH_ready (rs:=[14]) (by kernel_rfl) (by simp) ?_;refine(AllReadyH.cons (o:=⟨some 17,_,_,_,_,_⟩) rfl (fun K hK14=>?_) AllReadyH.nil))
    |(replace M0:=M0;replace M2:=M2;replace M3:=M3;replace M4:=M4;replace M5:=M5;replace M6:=M6;replace M7:=M7;replace M9:=M9;replace M10:=M10;replace M11:=M11;replace M12:=M12;refine wpAnyH_ready (rs:=[13]) (by kernel_rfl) (by simp) ?_;refine(AllReadyH.cons (o:=⟨some 16,_,_,_,_,_⟩) rfl (fun K hK13=>?_) AllReadyH.nil))
    |(replace M0:=M0;replace M2:=M2;replace M3:=M3;replace M4:=M4;replace M5:=M5;replace M6:=M6;replace M7:=M7;replace M9:=M9;replace M10:=M10;replace M11:=M11;refine wpAnyH_ready (rs:=[12]) (by kernel_rfl) (by simp) ?_;refine(AllReadyH.cons (o:=⟨some 15,_,_,_,_,_⟩) rfl (fun K hK12=>?_) AllReadyH.nil))
    |(replace M0:=M0;replace M2:=M2;replace M3:=M3;replace M4:=M4;replace M5:=M5;replace M6:=M6;replace M7:=M7;replace M9:=M9;replace M10:=M10;refine wpAnyH_ready (rs:=[11]) (by kernel_rfl) (by simp) ?_;refine(AllReadyH.cons (o:=⟨some 14,_,_,_,_,_⟩) rfl (fun K hK11=>?_) AllReadyH.nil))
    |(replace M0:=M0;replace M2:=M2;replace M3:=M3;replace M4:=M4;replace M5:=M5;replace M6:=M6;replace M7:=M7;replace M9:=M9;refine wpAnyH_ready (rs:=[10]) (by kernel_rfl) (by simp) ?_;refine(AllReadyH.cons (o:=⟨some 13,_,_,_,_,_⟩) rfl (fun K hK10=>?_) AllReadyH.nil))
    |(replace M0:=M0;replace M2:=M2;replace M3:=M3;replace M4:=M4;replace M5:=M5;replace M6:=M6;replace M7:=M7;refine wpAnyH_ready (rs:=[9]) (by kernel_rfl) (by simp) ?_;refine(AllReadyH.cons (o:=⟨some 12,_,_,_,_,_⟩) rfl (fun K hK9=>?_) AllReadyH.nil))
    |(replace M0:=M0;replace M2:=M2;replace M3:=M3;replace M4:=M4;replace M5:=M5;replace M6:=M6;replace M9:=M9;refine wpAnyH_ready (rs:=[7]) (by kernel_rfl) (by simp) ?_;refine(AllReadyH.cons (o:=⟨some 10,_,_,_,_,_⟩) rfl (fun K hK7=>?_) AllReadyH.nil))
    |(replace M0:=M0;replace M2:=M2;replace M3:=M3;replace M4:=M4;replace M5:=M5;replace M6:=M6;refine wpAnyH_ready (rs:=[7,9]) (by kernel_rfl) (by simp) ?_;refine(AllReadyH.cons (o:=⟨some 10,_,_,_,_,_⟩) rfl (fun K hK7=>?_) (AllReadyH.cons (o:=⟨some 12,_,_,_,_,_⟩) rfl (fun K hK9=>?_) AllReadyH.nil)))
    |(replace M0:=M0;replace M2:=M2;replace M3:=M3;replace M4:=M4;replace M5:=M5;replace M9:=M9;refine wpAnyH_ready (rs:=[6]) (by kernel_rfl) (by simp) ?_;refine(AllReadyH.cons (o:=⟨some 9,_,_,_,_,_⟩) rfl (fun K hK6=>?_) AllReadyH.nil))
    |(replace M0:=M0;replace M2:=M2;replace M3:=M3;replace M4:=M4;replace M5:=M5;refine wpAnyH_ready (rs:=[6,9]) (by kernel_rfl) (by simp) ?_;refine(AllReadyH.cons (o:=⟨some 9,_,_,_,_,_⟩) rfl (fun K hK6=>?_) (AllReadyH.cons (o:=⟨some 12,_,_,_,_,_⟩) rfl (fun K hK9=>?_) AllReadyH.nil)))
    |(replace M0:=M0;replace M2:=M2;replace M3:=M3;replace M4:=M4;replace M9:=M9;refine wpAnyH_ready (rs:=[5]) (by kernel_rfl) (by simp) ?_;refine(AllReadyH.cons (o:=⟨some 8,_,_,_,_,_⟩) rfl (fun K hK5=>?_) AllReadyH.nil))
    |(replace M0:=M0;replace M2:=M2;replace M3:=M3;replace M4:=M4;refine wpAnyH_ready (rs:=[5,9]) (by kernel_rfl) (by simp) ?_;refine(AllReadyH.cons (o:=⟨some 8,_,_,_,_,_⟩) rfl (fun K hK5=>?_) (AllReadyH.cons (o:=⟨some 12,_,_,_,_,_⟩) rfl (fun K hK9=>?_) AllReadyH.nil)))
    |(replace M0:=M0;replace M2:=M2;replace M3:=M3;replace M9:=M9;refine wpAnyH_ready (rs:=[4]) (by kernel_rfl) (by simp) ?_;refine(AllReadyH.cons (o:=⟨some 7,_,_,_,_,_⟩) rfl (fun K hK4=>?_) AllReadyH.nil))
    |(replace M0:=M0;replace M2:=M2;replace M3:=M3;refine wpAnyH_ready (rs:=[4,9]) (by kernel_rfl) (by simp) ?_;refine(AllReadyH.cons (o:=⟨some 7,_,_,_,_,_⟩) rfl (fun K hK4=>?_) (AllReadyH.cons (o:=⟨some 12,_,_,_,_,_⟩) rfl (fun K hK9=>?_) AllReadyH.nil)))
    |(replace M0:=M0;replace M2:=M2;replace M9:=M9;refine wpAnyH_ready (rs:=[3]) (by kernel_rfl) (by simp) ?_;refine(AllReadyH.cons (o:=⟨some 6,_,_,_,_,_⟩) rfl (fun K hK3=>?_) AllReadyH.nil))
    |(replace M0:=M0;replace M2:=M2;refine wpAnyH_ready (rs:=[3,9]) (by kernel_rfl) (by simp) ?_;refine(AllReadyH.cons (o:=⟨some 6,_,_,_,_,_⟩) rfl (fun K hK3=>?_) (AllReadyH.cons (o:=⟨some 12,_,_,_,_,_⟩) rfl (fun K hK9=>?_) AllReadyH.nil)))
    |(replace M0:=M0;replace M9:=M9;refine wpAnyH_ready (rs:=[2]) (by kernel_rfl) (by simp) ?_;refine(AllReadyH.cons (o:=⟨some 5,_,_,_,_,_⟩) rfl (fun K hK2=>?_) AllReadyH.nil))
    |(replace M2:=M2;replace M9:=M9;refine wpAnyH_ready (rs:=[0]) (by kernel_rfl) (by simp) ?_;refine(AllReadyH.cons (o:=⟨some 3,_,_,_,_,_⟩) rfl (fun K hK0=>?_) AllReadyH.nil))
    |(replace M0:=M0;refine wpAnyH_ready (rs:=[2,9]) (by kernel_rfl) (by simp) ?_;refine(AllReadyH.cons (o:=⟨some 5,_,_,_,_,_⟩) rfl (fun K hK2=>?_) (AllReadyH.cons (o:=⟨some 12,_,_,_,_,_⟩) rfl (fun K hK9=>?_) AllReadyH.nil)))
    |(replace M2:=M2;refine wpAnyH_ready (rs:=[0,9]) (by kernel_rfl) (by simp) ?_;refine(AllReadyH.cons (o:=⟨some 3,_,_,_,_,_⟩) rfl (fun K hK0=>?_) (AllReadyH.cons (o:=⟨some 12,_,_,_,_,_⟩) rfl (fun K hK9=>?_) AllReadyH.nil)))
    |(replace M9:=M9;refine wpAnyH_ready (rs:=[0,2]) (by kernel_rfl) (by simp) ?_;refine(AllReadyH.cons (o:=⟨some 3,_,_,_,_,_⟩) rfl (fun K hK0=>?_) (AllReadyH.cons (o:=⟨some 5,_,_,_,_,_⟩) rfl (fun K hK2=>?_) AllReadyH.nil)))
    |(refine wpAnyH_ready (rs:=[0,2,9]) (by kernel_rfl) (by simp) ?_;refine(AllReadyH.cons (o:=⟨some 3,_,_,_,_,_⟩) rfl (fun K hK0=>?_) (AllReadyH.cons (o:=⟨some 5,_,_,_,_,_⟩) rfl (fun K hK2=>?_) (AllReadyH.cons (o:=⟨some 12,_,_,_,_,_⟩) rfl (fun K hK9=>?_) AllReadyH.nil))))
  all_goals
   first
    |(have hK:=hK0
      clear hK0;go_simp;clear hHeld;have HBold:=HB.size;refine(gZ _).mono ?_;rintro e V1001 ⟨u1001,rfl,ho1001,hb1001⟩;have hs1002:=hb1001.size;obtain⟨g1003,c1003,rfl,hg1003,hl1003⟩:=bu ho1001 (by decide);have HA:=aa (aA ho1001 (Nat.le_trans HBold zr));clear ho1001 HBold;have HBX:=hb1001;clear hb1001
      rename World=>V
      have M0:True:=trivial)
    |(have hK:=hK2
      clear hK2;go_simp;clear hHeld;refine aC (fun V1041 g1041 hV hg=>?_);rw [←hg];have hbN:=zB hV;have hg1041:V.heap.size≤g1041:=(by omega);have hl1041:=zL hV hg;have HL1:Hid (V1041.ownsRow w.heap.size 131 3 (.slice (some ⟨g1041,0,none⟩) 1 1) 1 (M [isM 0 0])):=zW hV hg HB.size (by decide) rfl;have hs1042:=hbN.size;have HBX:=hbN;clear hV hg hbN
      rename World=>V
      have M2:True:=trivial)
    |(have hK:=hK3
      clear hK3;clear hHeld;refine step_append_lies _ rfl (.tmp 3) (.tmp 5) 133 rfl w.heap.size 131 iM _ 3 24 Tryz.underlying133 hiM zM0 zM1 zM2 rfl (by decide) (.slice (some ⟨g1003,0,none⟩) 2 c1003) 2 _ rfl (ag HA) ⟨g1041,0,none⟩ 1 1 _ rfl rfl (HL1.out.cells rfl) (gV _) (by decide) (by decide) (by decide) HB.size _ rfl ?_;intro g1061 c1061 V1061 ho1061 hgr ha hl1061;replace hgr:V.grownBy V1061 (some g1003):=hgr;replace ha:some g1003=some g1061∨g1061=V.heap.size:=ha;have hs1061:=hgr.size;have hge1061:g1061=g1003∨g1061=V.heap.size:=by rcases ha with h | h;exact .inl (Option.some.inj h).symm;exact .inr h
      replace⟨k0,k1,k2⟩:=BB hgr k0 k1 k2 (by omega);(try replace HD1:=aa (dy hgr HD1.out (by omega)));(try replace HE:=aa (dy hgr HE.out (by omega)));(try replace HL2:=aa (dy hgr HL2.out (by omega)));(try replace HD2:=aa (dy hgr HD2.out (by omega)));replace HB:=HB.grown hgr HB.size (fun k hk=>by cases hk;omega);clear HA HL1;have HA:=aa ho1061;clear ho1061 hgr ha;have HGX:True:=trivial
      rename World=>V
      have M3:True:=trivial)
    |(have hK:=hK4
      clear hK4;go_simp;clear hHeld;refine(bm _ _ _ _).mono ?_;rintro e V1081 ⟨rfl,hb1081⟩;have hs1082:=hb1081.size;have HBX:=hb1081;clear hb1081
      rename World=>V
      have M4:True:=trivial)
    |(have hK:=hK5
      clear hK5;go_simp;clear hHeld;refine aC (fun V1101 g1101 hV hg=>?_);rw [←hg];have hbN:=zB hV;have hg1101:V.heap.size≤g1101:=(by omega);have hl1101:=zL hV hg;have HD1:Hid (V1101.ownsRow w.heap.size 115 3 (.slice (some ⟨g1101,0,none⟩) 1 1) 1 (D [aT 4])):=zW hV hg HB.size (by decide) rfl;have hs1102:=hbN.size;have HBX:=hbN;clear hV hg hbN
      rename World=>V
      have M5:True:=trivial)
    |(have hK:=hK6
      clear hK6;go_simp;clear hHeld;refine(bp _ _ _ _ _ _ _ _ _).mono ?_;rintro e V1121 ⟨rfl,hb1121⟩;have hs1122:=hb1121.size;have HBX:=hb1121;clear hb1121
      rename World=>V
      have M6:True:=trivial)
    |(have hK:=hK7
      clear hK7;go_simp;clear hHeld;have HBold:=HB.size;refine(gU _ _).mono ?_;rintro e V1141 ⟨u1141,rfl,ho1141,hb1141⟩;have hs1142:=hb1141.size;obtain⟨g1143,c1143,rfl,hg1143,hl1143⟩:=bu ho1141 (by decide);have HE:=aa (aA ho1141 (Nat.le_trans HBold zr));clear ho1141 HBold;have HBX:=hb1141;clear hb1141
      rename World=>V
      have M7:True:=trivial)
    |(have hK:=hK9
      clear hK9;go_simp;clear hHeld;refine aC (fun V1181 g1181 hV hg=>?_);rw [←hg];have hbN:=zB hV;have hg1181:V.heap.size≤g1181:=(by omega);have hl1181:=zL hV hg;have HL2:Hid (V1181.ownsRow w.heap.size 131 3 (.slice (some ⟨g1181,0,none⟩) 1 1) 1 (M [isM 0 0])):=zW hV hg HB.size (by decide) rfl;have hs1182:=hbN.size;have HBX:=hbN;clear hV hg hbN
      rename World=>V
      have M9:True:=trivial)
    |(have hK:=hK10
      clear hK10;clear hHeld;refine step_append_lies _ rfl (.tmp 10) (.tmp 12) 133 rfl w.heap.size 131 iM _ 3 24 Tryz.underlying133 hiM zM0 zM1 zM2 rfl (by decide) (.slice (some ⟨g1143,0,none⟩) 3 c1143) 3 _ rfl (ag HE) ⟨g1181,0,none⟩ 1 1 _ rfl rfl (HL2.out.cells rfl) (gV _) (by decide) (by decide) (by decide) HB.size _ rfl ?_;intro g1201 c1201 V1201 ho1201 hgr ha hl1201;replace hgr:V.grownBy V1201 (some g1143):=hgr;replace ha:some g1143=some g1201∨g1201=V.heap.size:=ha;have hs1201:=hgr.size;have hge1201:g1201=g1143∨g1201=V.heap.size:=by rcases ha with h | h;exact .inl (Option.some.inj h).symm;exact .inr h
      replace⟨k0,k1,k2⟩:=BB hgr k0 k1 k2 (by omega);(try replace HA:=aa (dy hgr HA.out (by omega)));(try replace HD1:=aa (dy hgr HD1.out (by omega)));(try replace HL1:=aa (dy hgr HL1.out (by omega)));(try replace HD2:=aa (dy hgr HD2.out (by omega)));replace HB:=HB.grown hgr HB.size (fun k hk=>by cases hk;omega);clear HE HL2;have HE:=aa ho1201;clear ho1201 hgr ha;have HGX:True:=trivial
      rename World=>V
      have M10:True:=trivial)
    |(have hK:=hK11
      clear hK11;go_simp;clear hHeld;refine(bm _ _ _ _).mono ?_;rintro e V1221 ⟨rfl,hb1221⟩;have hs1222:=hb1221.size;have HBX:=hb1221;clear hb1221
      rename World=>V
      have M11:True:=trivial)
    |(have hK:=hK12
      clear hK12;go_simp;clear hHeld;refine aC (fun V1241 g1241 hV hg=>?_);rw [←hg];have hbN:=zB hV;have hg1241:V.heap.size≤g1241:=(by omega);have hl1241:=zL hV hg;have HD2:Hid (V1241.ownsRow w.heap.size 115 3 (.slice (some ⟨g1241,0,none⟩) 1 1) 1 (D [aT 5])):=zW hV hg HB.size (by decide) rfl;have hs1242:=hbN.size;have HBX:=hbN;clear hV hg hbN
      rename World=>V
      have M12:True:=trivial)
    |(have hK:=hK13
      clear hK13;go_simp;clear hHeld;refine(bp _ _ _ _ _ _ _ _ _).mono ?_;rintro e V1261 ⟨rfl,hb1261⟩;have hs1262:=hb1261.size;have HBX:=hb1261;clear hb1261
      rename World=>V
      have M13:True:=trivial)
    |(have hK:=hK14
      clear hK14;go_simp;clear hHeld;refine aC (fun V1281 g1281 hV hg=>?_);rw [←hg];have hbN:=zB hV;have hg1281:V.heap.size≤g1281:=(by omega);have hl1281:=zL hV hg;have HF:Hid (FR V1281 w.heap.size (.slice (some ⟨g1281,0,none⟩) 2 2) (tunnelFl)):=by
       rw [hV,hg];refine aa (FR.lit (lo:=[⟨⟨0,0,cX++ [isM 0 0],[aT 4]⟩,.slice (some ⟨g1061,0,none⟩) 3 c1061,.slice (some ⟨g1101,0,none⟩) 1 1⟩,⟨⟨0,0,cW 2++ [isM 0 0],[aT 5]⟩,.slice (some ⟨g1201,0,none⟩) 4 c1201,.slice (some ⟨g1241,0,none⟩) 1 1⟩]) rfl rfl HB.size (by decide) (fun x hx=>?_));simp only [List.mem_cons,List.not_mem_nil,or_false]at hx;rcases hx with rfl | rfl
       ·exact fp HA.out HD1.out (by simp [Value.ownBlock])
       ·exact fp HE.out HD2.out (by simp [Value.ownBlock])
      have hs1282:=hbN.size;have HBX:=hbN;clear hV hg hbN
      rename World=>V
      have M14:True:=trivial;have T14:True:=trivial)
  all_goals
   first
    |(replace k0:=zC k0 HBX
      replace k1:=zC k1 HBX;replace k2:=zC k2 HBX;(try replace HA:=zO HA HBX);(try replace HL1:=zO HL1 HBX);(try replace HD1:=zO HD1 HBX);(try replace HE:=zO HE HBX);(try replace HL2:=zO HL2 HBX);(try replace HD2:=zO HD2 HBX);(try replace HF:=aa (HF.out.below HBX zr));replace HB:=zT HB HBX;clear HBX)
    |(clear HGX)
  all_goals
   first
    |(refine hK.out _ _ ⟨k0,k1,k2⟩ (fun hHeld=>?_)
      clear hK K;(try simp only [nz]))
  all_goals
   first
    |(clear T14
      refine tq 15 0 rfl (by kernel_rfl) (fun _ _ _ h=>h) rfl ‹_› (by intro w h;go_simp <;>with_reducible rfl) ?_;(try simp only [nz]))
    | skip
 all_goals
  refine wpAnyH_done (by kernel_rfl) ?_ _;clear hHeld;go_wp2_with fail
  go_ret;exact⟨_,rfl,HF.out,HB⟩
def pk (n many:Int):Int:=(if n<0 then-(n+1)else n)%many
theorem mH (l:List Pr) (p:Pr→Bool) (v:Value) (f:Nat) (cs:Array Value) (w:World) (hF:ft w v l) (hT:PicksPr w f cs p) (hE:bv f) (hl:l.length*40≤140737488355328):
  Calls Tryz.prog 24 #[v,.func (.func f) #[] cs] w fun e w'=>e= .returned (.int .i64 (idx p l))∧Below w.heap.size w w':=by
 have HF:=aa hF;have HT:=aa hT;have HEN:=aa hE;obtain⟨a,cap,rfl⟩:=hF.slice;clear hF hT hE;go_enter Tryz.func24,Tryz.ntmps24;go_wp2_with fail
 go_loopw [8] (fun i wr=>∃k:Nat,k≤l.length∧i= .int .i64 k∧Hid (∀j,j<k→p (l.getD j pr0)=false)∧Below w.heap.size w wr) (fun i _=>l.length-(intOf i).toNat)
 case atStart=>exact⟨0,by omega,rfl,aa (fun j h=>absurd h (by omega)),Below.refl _ _⟩
 case round=>
  obtain⟨k,hk,rfl,HALL,hbr⟩:=hrel;by_cases hlt:k<l.length
  ·obtain⟨b,off,cap',e1,hcap, -,g0,g1,g2,g3,g4⟩:=eO (RowAt.below HF.out hbr zr) hlt;simp only [Value.slice.injEq,true_and]at e1;obtain⟨rfl,rfl⟩:=e1;have HST:Hid (∀W:World,Below w.heap.size w W→Calls Tryz.prog f (#[.agg #[.int .i64 (l.getD k pr0).i,.int .i64 (l.getD k pr0).s,.int .i64 (l.getD k pr0).m,.int .i64 (l.getD k pr0).p,.int .i64 (l.getD k pr0).c]]++cs) W fun e w'=>e= .returned (.bool (p (l.getD k pr0)))∧Below W.heap.size W w'):=fun W hW=>HT.out W _ hW;have HNX:Hid (p (l.getD k pr0)=false→∀j,j<k+1→p (l.getD j pr0)=false):=fun h j hj=>by
    by_cases e:j=k
    ·subst e;exact h
    ·exact HALL.out j (by omega)
   have HFD:Hid (p (l.getD k pr0)=true→idx p l=k):=fun h=>gJ pr0 hlt HALL.out h;generalize p (l.getD k pr0)=R at*;generalize (l.getD k pr0).i=y0 at*;generalize (l.getD k pr0).s=y1 at*;generalize (l.getD k pr0).m=y2 at*;generalize (l.getD k pr0).p=y3 at*;generalize (l.getD k pr0).c=y4 at*;have q1:(0:Int)≤(k:Int):=(by omega);have q2:(k:Int)<(l.length:Int):=(by omega);clear HALL;go_wp2_with fail
   rw [ag HEN];refine(ag HST _ ?_).mono ?_
   ·first | exact hbr | exact hbr.drew | exact⟨hbr.os,hbr.tape,hbr.output,hbr.size,hbr.block⟩
   rintro e w1 ⟨rfl,hb1⟩;have HB1:Hid (Below w.heap.size w w1):=hbr.trans (hb1.mono hbr.size);clear hb1 hbr HST g0 g1 g2 g3 g4;cases R
   ·have HN:=aa (HNX.out rfl);clear HNX HFD;go_wp2_with fail
    go_roundw
    case rel=>exact⟨k+1,by omega,by go_num,HN,HB1.out⟩
    case measure=>simp [intOf];omega
   ·have HN:=aa (HFD.out rfl);clear HNX HFD;go_wp2_with fail
    go_ret;exact⟨ah HN.out.symm,HB1.out⟩
  ·have HN:Hid (idx p l= -1):=gR pr0 fun i hi=>HALL.out i (by omega);have HB1:=aa hbr;clear HALL hbr;go_wp2_with fail
   go_ret;exact⟨ah HN.out.symm,HB1.out⟩
theorem sL (l:List Pr) (p:Pr→Bool) (v:Value) (f:Nat) (cs:Array Value) (w:World) (hF:ft w v l) (hT:PicksPr w f cs p) (hE:bv f) (hl:l.length*40≤140737488355328):
  Calls Tryz.prog 45 #[v,.func (.func f) #[] cs] w fun e w'=>e= .returned (.bool (l.any p))∧Below w.heap.size w w':=by
 have HI:=aa (mH l p v f cs w hF hT hE hl);have HA:=aa (bX p l);obtain⟨a,cap,rfl⟩:=hF.slice;clear hF hT hE;generalize idx p l=I at*;go_enter Tryz.func45,Tryz.ntmps45;go_wp2_with fail
 refine(ag HI).mono ?_;rintro e w1 ⟨rfl,hb1⟩;go_wp2_with fail
 go_ret;exact⟨aq HA.out,hb1⟩
theorem sn (l:List Sw) (p:Sw→Bool) (v:Value) (f:Nat) (cs:Array Value) (w:World) (hF:ev w v l) (hT:j5 w f cs p) (hE:bv f) (hl:l.length*24≤140737488355328):
  Calls Tryz.prog 176 #[v,.func (.func f) #[] cs] w fun e w'=>e= .returned (.int .i64 (idx p l))∧Below w.heap.size w w':=by
 have HF:=aa hF;have HT:=aa hT;have HEN:=aa hE;obtain⟨a,cap,rfl⟩:=hF.slice;clear hF hT hE;go_enter Tryz.func176,Tryz.ntmps176;go_wp2_with fail
 go_loopw [8] (fun i wr=>∃k:Nat,k≤l.length∧i= .int .i64 k∧Hid (∀j,j<k→p (l.getD j sw0)=false)∧Below w.heap.size w wr) (fun i _=>l.length-(intOf i).toNat)
 case atStart=>exact⟨0,by omega,rfl,aa (fun j h=>absurd h (by omega)),Below.refl _ _⟩
 case round=>
  obtain⟨k,hk,rfl,HALL,hbr⟩:=hrel;by_cases hlt:k<l.length
  ·obtain⟨b,off,cap',e1,hcap, -,g0,g1,g2⟩:=ig (RowAt.below HF.out hbr zr) hlt;simp only [Value.slice.injEq,true_and]at e1;obtain⟨rfl,rfl⟩:=e1;have HST:Hid (∀W:World,Below w.heap.size w W→Calls Tryz.prog f (#[.agg #[.int .i64 (l.getD k sw0).i,.int .i64 (l.getD k sw0).t,.int .i64 (l.getD k sw0).g]]++cs) W fun e w'=>e= .returned (.bool (p (l.getD k sw0)))∧Below W.heap.size W w'):=fun W hW=>HT.out W _ hW;have HNX:Hid (p (l.getD k sw0)=false→∀j,j<k+1→p (l.getD j sw0)=false):=fun h j hj=>by
    by_cases e:j=k
    ·subst e;exact h
    ·exact HALL.out j (by omega)
   have HFD:Hid (p (l.getD k sw0)=true→idx p l=k):=fun h=>gJ sw0 hlt HALL.out h;generalize p (l.getD k sw0)=R at*;generalize (l.getD k sw0).i=y0 at*;generalize (l.getD k sw0).t=y1 at*;generalize (l.getD k sw0).g=y2 at*;have q1:(0:Int)≤(k:Int):=(by omega);have q2:(k:Int)<(l.length:Int):=(by omega);clear HALL;go_wp2_with fail
   rw [ag HEN];refine(ag HST _ ?_).mono ?_
   ·first | exact hbr | exact hbr.drew | exact⟨hbr.os,hbr.tape,hbr.output,hbr.size,hbr.block⟩
   rintro e w1 ⟨rfl,hb1⟩;have HB1:Hid (Below w.heap.size w w1):=hbr.trans (hb1.mono hbr.size);clear hb1 hbr HST g0 g1 g2;cases R
   ·have HN:=aa (HNX.out rfl);clear HNX HFD;go_wp2_with fail
    go_roundw
    case rel=>exact⟨k+1,by omega,by go_num,HN,HB1.out⟩
    case measure=>simp [intOf];omega
   ·have HN:=aa (HFD.out rfl);clear HNX HFD;go_wp2_with fail
    go_ret;exact⟨ah HN.out.symm,HB1.out⟩
  ·have HN:Hid (idx p l= -1):=gR sw0 fun i hi=>HALL.out i (by omega);have HB1:=aa hbr;clear HALL hbr;go_wp2_with fail
   go_ret;exact⟨ah HN.out.symm,HB1.out⟩
theorem tB (l:List Sw) (p:Sw→Bool) (v:Value) (f:Nat) (cs:Array Value) (w:World) (hF:ev w v l) (hT:j5 w f cs p) (hE:bv f) (hl:l.length*24≤140737488355328):
  Calls Tryz.prog 187 #[v,.func (.func f) #[] cs] w fun e w'=>e= .returned (.bool (l.any p))∧Below w.heap.size w w':=by
 have HI:=aa (sn l p v f cs w hF hT hE hl);have HA:=aa (bX p l);obtain⟨a,cap,rfl⟩:=hF.slice;clear hF hT hE;generalize idx p l=I at*;go_enter Tryz.func187,Tryz.ntmps187;go_wp2_with fail
 refine(ag HI).mono ?_;rintro e w1 ⟨rfl,hb1⟩;go_wp2_with fail
 go_ret;exact⟨aq HA.out,hb1⟩
theorem vY:bv 40:=fun args W=>by
 unfold callFunc;simp [Tryz.func40,Tryz.f40]
theorem zx:bv 44:=fun args W=>by
 unfold callFunc;simp [Tryz.func44,Tryz.f44]
theorem jR:bv 78:=fun args W=>by
 unfold callFunc;simp [Tryz.func78,Tryz.f78]
theorem mP:bv 129:=fun args W=>by
 unfold callFunc;simp [Tryz.func129,Tryz.f129]
theorem mr:bv 183:=fun args W=>by
 unfold callFunc;simp [Tryz.func183,Tryz.f183]
theorem sB:bv 127:=fun args W=>by
 unfold callFunc;simp [Tryz.func127,Tryz.f127]
theorem sR:bv 186:=fun args W=>by
 unfold callFunc;simp [Tryz.func186,Tryz.f186]
theorem rI:bv 188:=fun args W=>by
 unfold callFunc;simp [Tryz.func188,Tryz.f188]
theorem vG:bv 139:=fun args W=>by
 unfold callFunc;simp [Tryz.func139,Tryz.f139]
theorem vT (x:Pr) (ch:Int) (b:Nat) (w:World) (h:w.cell? ⟨b,0,none⟩=some (.int .i64 ch)):
  Calls Tryz.prog 40 #[.agg #[.int .i64 x.i,.int .i64 x.s,.int .i64 x.m,.int .i64 x.p,.int .i64 x.c],.pointer (some ⟨b,0,none⟩)] w fun e w'=>e= .returned (.bool (cm ch x))∧Below w.heap.size w w':=by
 have lh:=am h;have nh:b≠w.heap.size:=by omega
 go_enter Tryz.func40,Tryz.ntmps40;go_wp2
 all_goals go_ret
 all_goals exact⟨aq (by unfold cm;rw [Bool.eq_iff_iff] <;>simp_all),(Below.refl _ _).alloc zr _⟩
theorem r8 {ch:Int} {b:Nat} {w:World} (h:w.cell? ⟨b,0,none⟩=some (.int .i64 ch)):PicksPr w 40 #[.pointer (some ⟨b,0,none⟩)] (cm ch):=
 fun W x hW=>vT x ch b W (zC h hW)
theorem uT (x:Pr) (s:Int) (b:Nat) (w:World) (h:w.cell? ⟨b,0,none⟩=some (.int .i64 s)):
  Calls Tryz.prog 78 #[.agg #[.int .i64 x.i,.int .i64 x.s,.int .i64 x.m,.int .i64 x.p,.int .i64 x.c],.pointer (some ⟨b,0,none⟩)] w fun e w'=>e= .returned (.bool (bZ s x))∧Below w.heap.size w w':=by
 have lh:=am h;have nh:b≠w.heap.size:=by omega
 go_enter Tryz.func78,Tryz.ntmps78;go_wp2
 all_goals go_ret
 all_goals exact⟨aq (by unfold bZ;rw [Bool.eq_iff_iff] <;>simp_all),(Below.refl _ _).alloc zr _⟩
theorem gE {s:Int} {b:Nat} {w:World} (h:w.cell? ⟨b,0,none⟩=some (.int .i64 s)):PicksPr w 78 #[.pointer (some ⟨b,0,none⟩)] (bZ s):=
 fun W x hW=>uT x s b W (zC h hW)
theorem qo (x:Pr) (i s:Int) (b:Nat) (w:World) (h:w.cell? ⟨b,0,none⟩=some (.int .i64 i)) (h1:w.cell? ⟨b,1,none⟩=some (.int .i64 s)):
  Calls Tryz.prog 127 #[.agg #[.int .i64 x.i,.int .i64 x.s,.int .i64 x.m,.int .i64 x.p,.int .i64 x.c],.pointer (some ⟨b,0,none⟩)] w fun e w'=>e= .returned (.bool (x.s==s&& !(x.i==i)))∧Below w.heap.size w w':=by
 have lh:=am h;have nh:b≠w.heap.size:=by omega
 go_enter Tryz.func127,Tryz.ntmps127;go_wp2
 all_goals go_ret
 all_goals exact⟨aq (by rw [Bool.eq_iff_iff] <;>simp_all),(Below.refl _ _).alloc zr _⟩
theorem pu {i s:Int} {b:Nat} {w:World} (h:w.cell? ⟨b,0,none⟩=some (.int .i64 i)) (h1:w.cell? ⟨b,1,none⟩=some (.int .i64 s)):PicksPr w 127 #[.pointer (some ⟨b,0,none⟩)] (fun x=>x.s==s&& !(x.i==i)):=
 fun W x hW=>qo x i s b W (zC h hW) (zC h1 hW)
theorem qW (x:Sw) (s t:Int) (b c:Nat) (w:World) (h:w.cell? ⟨b,1,none⟩=some (.int .i64 s)) (h1:w.cell? ⟨c,0,none⟩=some (.int .i64 t)):
  Calls Tryz.prog 188 #[.agg #[.int .i64 x.i,.int .i64 x.t,.int .i64 x.g],.pointer (some ⟨b,0,none⟩),.pointer (some ⟨c,0,none⟩)] w fun e w'=>e= .returned (.bool (x.i==s&&x.t==t&& !(x.g==0)))∧Below w.heap.size w w':=by
 have lh:=am h;have nh:b≠w.heap.size:=by omega
 have lh1:=am h1;have nh1:c≠w.heap.size:=by omega
 go_enter Tryz.func188,Tryz.ntmps188;go_wp2
 all_goals go_ret
 all_goals exact⟨aq (by rw [Bool.eq_iff_iff] <;>simp_all),(Below.refl _ _).alloc zr _⟩
theorem nA {s t:Int} {b c:Nat} {w:World} (h:w.cell? ⟨b,1,none⟩=some (.int .i64 s)) (h1:w.cell? ⟨c,0,none⟩=some (.int .i64 t)):j5 w 188 #[.pointer (some ⟨b,0,none⟩),.pointer (some ⟨c,0,none⟩)] (fun x=>x.i==s&&x.t==t&& !(x.g==0)):=
 fun W x hW=>qW x s t b c W (zC h hW) (zC h1 hW)
theorem sW (x:Ac) (s:Int) (inn:Bool) (b c:Nat) (w:World) (h:w.cell? ⟨b,0,none⟩=some (.int .i64 s)) (h1:w.cell? ⟨c,0,none⟩=some (.bool inn)):
  Calls Tryz.prog 139 #[.agg #[.int .i64 x.s,.int .i64 x.p,.bool x.n,.int .i64 x.src,.int .i64 x.sb,.int .i64 x.dst,.int .i64 x.db,.int .i64 x.o,.bool x.d],.pointer (some ⟨b,0,none⟩),.pointer (some ⟨c,0,none⟩)] w fun e w'=>e= .returned (.bool (x.s==s&&x.n==inn))∧Below w.heap.size w w':=by
 have lh:=am h;have nh:b≠w.heap.size:=by omega
 have lh1:=am h1;have nh1:c≠w.heap.size:=by omega
 go_enter Tryz.func139,Tryz.ntmps139;go_wp2
 all_goals go_ret
 all_goals exact⟨aq (by rw [Bool.eq_iff_iff] <;>simp_all),(Below.refl _ _).alloc zr _⟩
theorem rk {s:Int} {inn:Bool} {b c:Nat} {w:World} (h:w.cell? ⟨b,0,none⟩=some (.int .i64 s)) (h1:w.cell? ⟨c,0,none⟩=some (.bool inn)):uv w 139 #[.pointer (some ⟨b,0,none⟩),.pointer (some ⟨c,0,none⟩)] (fun x=>x.s==s&&x.n==inn):=
 fun W x hW=>sW x s inn b c W (zC h hW) (zC h1 hW)
theorem nW (x:Pr) (w:World):Calls Tryz.prog 129 #[.agg #[.int .i64 x.i,.int .i64 x.s,.int .i64 x.m,.int .i64 x.p,.int .i64 x.c]] w fun e w'=>e= .returned (.bool (aw x))∧Below w.heap.size w w':=by
 go_enter Tryz.func129,Tryz.ntmps129;go_wp2
 all_goals go_ret
 all_goals exact⟨aq (by unfold aw;rw [Bool.eq_iff_iff] <;>simp_all),(Below.refl _ _).alloc zr _⟩
theorem jg (w:World):PicksPr w 129 #[] aw:=fun W x _=>nW x W
theorem iL (x:Sw) (w:World):Calls Tryz.prog 46 #[.agg #[.int .i64 x.i,.int .i64 x.t,.int .i64 x.g]] w fun e w'=>∃b,e= .returned (.func (.func 78) #[] #[.pointer (some ⟨b,0,none⟩)])∧w'.cell? ⟨b,0,none⟩=some (.int .i64 x.i)∧Below w.heap.size w w':=by
 go_enter Tryz.func46,Tryz.ntmps46;go_wp2;go_ret;exact⟨_,rfl,aj w _ rfl _ _ _ _ rfl,ak _ _⟩
theorem mE (f g:Nat) (cf cg:Array Value) (w:World):Calls Tryz.prog 128 #[.func (.func f) #[] cf,.func (.func g) #[] cg] w fun e w'=>∃b c,e= .returned (.func (.func 183) #[] #[.pointer (some ⟨b,0,none⟩),.pointer (some ⟨c,0,none⟩)])∧w'.cell? ⟨b,0,none⟩=some (.func (.func f) #[] cf)∧w'.cell? ⟨c,0,none⟩=some (.func (.func g) #[] cg)∧Below w.heap.size w w':=by
 go_enter Tryz.func128,Tryz.ntmps128;go_wp2;go_ret;exact⟨_,_,rfl,au (aj w _ rfl _ _ _ _ rfl) _,aj _ _ (by simp) _ _ _ _ rfl,((Below.refl _ _).alloc zr _).alloc (by simp) _⟩
theorem vp (x:Pr) (p q:Pr→Bool) (f g:Nat) (cf cg:Array Value) (b c:Nat) (w:World) (h:w.cell? ⟨b,0,none⟩=some (.func (.func f) #[] cf)) (h1:w.cell? ⟨c,0,none⟩=some (.func (.func g) #[] cg))
  (hf:PicksPr w f cf p) (hg:PicksPr w g cg q) (ef:bv f) (eg:bv g):
  Calls Tryz.prog 183 #[.agg #[.int .i64 x.i,.int .i64 x.s,.int .i64 x.m,.int .i64 x.p,.int .i64 x.c],.pointer (some ⟨b,0,none⟩),.pointer (some ⟨c,0,none⟩)] w fun e w'=>e= .returned (.bool (p x&&q x))∧Below w.heap.size w w':=by
 have HF:Hid (∀W:World,Below w.heap.size w W→Calls Tryz.prog f (#[.agg #[.int .i64 x.i,.int .i64 x.s,.int .i64 x.m,.int .i64 x.p,.int .i64 x.c]]++cf) W fun e w'=>e= .returned (.bool (p x))∧Below W.heap.size W w'):=fun W hW=>hf W x hW;have HG:Hid (∀W:World,Below w.heap.size w W→Calls Tryz.prog g (#[.agg #[.int .i64 x.i,.int .i64 x.s,.int .i64 x.m,.int .i64 x.p,.int .i64 x.c]]++cg) W fun e w'=>e= .returned (.bool (q x))∧Below W.heap.size W w'):=fun W hW=>hg W x hW;have EF:=aa ef;have EG:=aa eg;clear hf hg ef eg;have lh:=am h;have nh:b≠w.heap.size:=by omega
 have lh1:=am h1;have nh1:c≠w.heap.size:=by omega
 generalize p x=R at*;generalize q x=R2 at*;generalize x.i=y0 at*;generalize x.s=y1 at*;generalize x.m=y2 at*;generalize x.p=y3 at*;generalize x.c=y4 at*;go_enter Tryz.func183,Tryz.ntmps183;go_wp2_with fail
 obtain⟨W1,hW1⟩:∃W1,W1=w.alloc (.cells #[.int .i64 y0,.int .i64 y1,.int .i64 y2,.int .i64 y3,.int .i64 y4] 51):=⟨_,rfl⟩;have hbW:Below w.heap.size w W1:=by rw [hW1];exact ak _ _
 have d0:W1.cell? ⟨w.heap.size,0,none⟩=some (.int .i64 y0):=zN1 hW1 rfl;have d1:W1.cell? ⟨w.heap.size,1,none⟩=some (.int .i64 y1):=zN1 hW1 rfl;have d2:W1.cell? ⟨w.heap.size,2,none⟩=some (.int .i64 y2):=zN1 hW1 rfl;have d3:W1.cell? ⟨w.heap.size,3,none⟩=some (.int .i64 y3):=zN1 hW1 rfl;have d4:W1.cell? ⟨w.heap.size,4,none⟩=some (.int .i64 y4):=zN1 hW1 rfl;have k1:W1.cell? ⟨c,0,none⟩=some (.func (.func g) #[] cg):=by rw [hW1];exact au h1 _
 rw [←hW1];clear hW1;rw [ag EF];refine(ag HF _ hbW).mono ?_;rintro e w1 ⟨rfl,hb1⟩;have hb01:=hbW.trans (hb1.mono hbW.size);replace⟨d0,d1,d2,d3,d4,k1⟩:=em d0 d1 d2 d3 d4 k1 hb1;clear HF EF hb1 h h1 hbW;cases R
 ·go_wp2_with fail
  go_ret;exact⟨rfl,hb01⟩
 ·go_wp2_with fail
  rw [ag EG];refine(ag HG _ hb01).mono ?_;rintro e w2 ⟨rfl,hb2⟩;have hb02:=hb01.trans (hb2.mono hb01.size);go_wp2_with fail
  go_ret;exact⟨by simp,hb02⟩
theorem jv {w:World} {p q:Pr→Bool} {f g:Nat} {cf cg:Array Value} {b c:Nat} (h:w.cell? ⟨b,0,none⟩=some (.func (.func f) #[] cf)) (h1:w.cell? ⟨c,0,none⟩=some (.func (.func g) #[] cg))
  (hf:PicksPr w f cf p) (hg:PicksPr w g cg q) (ef:bv f) (eg:bv g):PicksPr w 183 #[.pointer (some ⟨b,0,none⟩),.pointer (some ⟨c,0,none⟩)] (fun x=>p x&&q x):=
 fun W x hW=>vp x p q f g cf cg b c W (zC h hW) (zC h1 hW) (fun W' y hW'=>hf W' y (hW.trans (hW'.mono hW.size))) (fun W' y hW'=>hg W' y (hW.trans (hW'.mono hW.size))) ef eg
theorem PicksPr.below {w w':World} {f:Nat} {cs:Array Value} {p:Pr→Bool} (h:PicksPr w f cs p) (hb:Below w.heap.size w w'):PicksPr w' f cs p:=fun W x hW=>h W x (hb.trans (hW.mono hb.size))
theorem qI (x:Pr) (S:List Sw) (o:Option Addr) (cap:Nat) (t:Int) (b c:Nat) (w:World) (h:w.cell? ⟨b,0,none⟩=some (.slice o S.length cap)) (h1:w.cell? ⟨c,0,none⟩=some (.int .i64 t)) (hS:ev w (.slice o S.length cap) S) (hl:S.length*24≤140737488355328):
  Calls Tryz.prog 186 #[.agg #[.int .i64 x.i,.int .i64 x.s,.int .i64 x.m,.int .i64 x.p,.int .i64 x.c],.pointer (some ⟨b,0,none⟩),.pointer (some ⟨c,0,none⟩)] w fun e w'=>e= .returned (.bool (cw S t x))∧Below w.heap.size w w':=by
 have HS:Hid (∀W:World,Below w.heap.size w W→∀pb,W.cell? ⟨pb,1,none⟩=some (.int .i64 x.s)→Calls Tryz.prog 187 #[.slice o S.length cap,.func (.func 188) #[] #[.pointer (some ⟨pb,0,none⟩),.pointer (some ⟨c,0,none⟩)]] W fun e w'=>e= .returned (.bool (cw S t x))∧Below W.heap.size W w'):=
  fun W hW pb hp=>tB S _ _ _ _ W (RowAt.below hS hW zr) (nA hp (zC h1 hW)) rI hl
 have lh:=am h;have nh:b≠w.heap.size:=by omega
 clear hS;generalize cw S t x=R at*;generalize x.i=y0 at*;generalize x.s=y1 at*;generalize x.m=y2 at*;generalize x.p=y3 at*;generalize x.c=y4 at*;go_enter Tryz.func186,Tryz.ntmps186;go_wp2_with fail
 refine(ag HS _ (ak _ _) _ (aj w _ rfl _ _ _ _ rfl)).mono ?_;rintro e w1 ⟨rfl,hb1⟩;have hb01:=(ak w (.cells #[.int .i64 y0,.int .i64 y1,.int .i64 y2,.int .i64 y3,.int .i64 y4] 51)).trans (hb1.mono (ak w _).size);clear hb1 HS;go_wp2_with fail
 go_ret;exact⟨rfl,hb01⟩
theorem pY {w:World} {S:List Sw} {o:Option Addr} {cap:Nat} {t:Int} {b c:Nat} (h:w.cell? ⟨b,0,none⟩=some (.slice o S.length cap)) (h1:w.cell? ⟨c,0,none⟩=some (.int .i64 t)) (hS:ev w (.slice o S.length cap) S) (hl:S.length*24≤140737488355328):
  PicksPr w 186 #[.pointer (some ⟨b,0,none⟩),.pointer (some ⟨c,0,none⟩)] (cw S t):=
 fun W x hW=>qI x S o cap t b c W (zC h hW) (zC h1 hW) (RowAt.below hS hW zr) hl
theorem pP (so po ao:Option Addr) (sl sc pl pc al ac:Nat) (t:Int) (w:World):Calls Tryz.prog 140 #[.agg #[.slice so sl sc,.slice po pl pc,.slice ao al ac],.int .i64 t] w fun e w'=>∃b c,e= .returned (.func (.func 186) #[] #[.pointer (some ⟨b,0,none⟩),.pointer (some ⟨c,0,none⟩)])∧w'.cell? ⟨b,0,none⟩=some (.slice so sl sc)∧w'.cell? ⟨c,0,none⟩=some (.int .i64 t)∧Below w.heap.size w w':=by
 go_enter Tryz.func140,Tryz.ntmps140;go_wp2;go_ret;exact⟨_,_,rfl,au (aj w _ rfl _ _ _ _ rfl) _,aj _ _ (by simp) _ _ _ _ rfl,((Below.refl _ _).alloc zr _).alloc (by simp) _⟩
theorem yI (x:Sw) (P:List Pr) (o:Option Addr) (cap:Nat) (b:Nat) (w:World) (h:w.cell? ⟨b,0,none⟩=some (.slice o P.length cap)) (hP:ft w (.slice o P.length cap) P) (hl:P.length*40≤140737488355328):
  Calls Tryz.prog 44 #[.agg #[.int .i64 x.i,.int .i64 x.t,.int .i64 x.g],.pointer (some ⟨b,0,none⟩)] w fun e w'=>e= .returned (.bool (P.any (bZ x.i)))∧Below w.heap.size w w':=by
 have HS:Hid (∀W:World,Below w.heap.size w W→∀pb,W.cell? ⟨pb,0,none⟩=some (.int .i64 x.i)→Calls Tryz.prog 45 #[.slice o P.length cap,.func (.func 78) #[] #[.pointer (some ⟨pb,0,none⟩)]] W fun e w'=>e= .returned (.bool (P.any (bZ x.i)))∧Below W.heap.size W w'):=
  fun W hW pb hp=>sL P _ _ _ _ W (RowAt.below hP hW zr) (gE hp) jR hl
 have HI:=aa (iL x);have lh:=am h;have nh:b≠w.heap.size:=by omega
 clear hP;generalize P.any (bZ x.i)=R at*;generalize x.i=y0 at*;generalize x.t=y1 at*;generalize x.g=y2 at*;go_enter Tryz.func44,Tryz.ntmps44;go_wp2_with fail
 obtain⟨W1,hW1⟩:∃W1,W1=w.alloc (.cells #[.int .i64 y0,.int .i64 y1,.int .i64 y2] 60):=⟨_,rfl⟩;have hbW:Below w.heap.size w W1:=by rw [hW1];exact ak _ _
 have d0:W1.cell? ⟨w.heap.size,0,none⟩=some (.int .i64 y0):=zN1 hW1 rfl;have d1:W1.cell? ⟨w.heap.size,1,none⟩=some (.int .i64 y1):=zN1 hW1 rfl;have d2:W1.cell? ⟨w.heap.size,2,none⟩=some (.int .i64 y2):=zN1 hW1 rfl;replace h:W1.cell? ⟨b,0,none⟩=some (.slice o P.length cap):=by rw [hW1];exact au h _
 rw [←hW1];clear hW1;have HB:=hbW;clear hbW;have hs0_1:=HB.size;refine wp_region_held_drew (S:=(fun w'=>w'.cell? ⟨w.heap.size,0,none⟩=some (.int .i64 y0)∧w'.cell? ⟨w.heap.size,1,none⟩=some (.int .i64 y1)∧w'.cell? ⟨w.heap.size,2,none⟩=some (.int .i64 y2)∧w'.cell? ⟨b,0,none⟩=some (.slice o P.length cap))) (by kernel_rfl) ⟨d0,d1,d2,h⟩ (fun hHeld=>?_);have HDW:Below W1.heap.size W1 W1.drew:=(Below.refl _ _).drew;have hs1:=HDW.size;replace⟨d0,d1,d2,h⟩:=vJ d0 d1 d2 h HDW;replace HB:=zT HB HDW;clear HDW;generalize W1.drew=V2 at*;refine sqA [(0,4),(1,5)] ?_;(iterate 2 (refine sqN rfl (by kernel_rfl) (fun _ _ _ h=>h) rfl ‹_› (by intro w h;go_simp <;>with_reducible rfl) ?_;simp only [nz]));refine sqZ ?_;refine rsq 2 6 (by kernel_rfl) rfl (fun K hK=>?_);go_simp;clear hHeld;refine(ag HI _).mono ?_;rintro e V3 ⟨b1,rfl,hc1,hb3⟩;have hs4:=hb3.size;replace⟨d0,d1,d2,h⟩:=vJ d0 d1 d2 h hb3;replace HB:=zT HB hb3;have hc:=hc1;clear hc1;clear hb3;refine hK.out _ _ ⟨d0,d1,d2,h⟩ (fun hHeld=>?_);clear hK K;(try simp only [nz]);refine rsq 3 7 (by kernel_rfl) rfl (fun K hK=>?_);go_simp;clear hHeld;refine(ag HS _ HB _ hc).mono ?_;rintro e V5 ⟨rfl,hb5⟩;have hs6:=hb5.size;replace⟨d0,d1,d2,h,hc⟩:=dB d0 d1 d2 h hc hb5;replace HB:=zT HB hb5;clear hb5;refine hK.out _ _ ⟨d0,d1,d2,h⟩ (fun hHeld=>?_);clear hK K;(try simp only [nz]);refine tq 4 3 rfl (by kernel_rfl) (fun _ _ _ h=>h) rfl ‹_› (by intro w h;go_simp <;>with_reducible rfl) ?_;simp only [nz];refine wpAnyH_done (by kernel_rfl) ?_ _;clear hHeld;go_wp2_with fail
 go_ret;exact⟨rfl,HB⟩
theorem tD {w:World} {P:List Pr} {o:Option Addr} {cap:Nat} {b:Nat} (h:w.cell? ⟨b,0,none⟩=some (.slice o P.length cap)) (hP:ft w (.slice o P.length cap) P) (hl:P.length*40≤140737488355328):
  j5 w 44 #[.pointer (some ⟨b,0,none⟩)] (fun s=>P.any (bZ s.i)):=
 fun W x hW=>yI x P o cap b W (zC h hW) (RowAt.below hP hW zr) hl
end Go.Proofs.YtjiajblbpokfgaaGreat
