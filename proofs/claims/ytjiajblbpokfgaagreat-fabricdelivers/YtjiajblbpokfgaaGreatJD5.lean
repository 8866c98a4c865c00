/- Texts joined: Lay, Od, Oe, Sf, Po, Sg, Sh, Si, Sj, Sk, Qh, Ym0, Ym, Rl0, Bs, Wo, Wp, Wq, Df, Pu0, Pt, Pl, Xs, Xe, Al. -/
import Derived.Test.YtjiajblbpokfgaaGreatRows
import Derived.Shelf.SlSortCmp.NoneTotal
import Derived.Deep.RegionLaw
import Derived.Deep.AppendLies
import Derived.Laws.EntriesVeiled
import Derived.Lib.SliceRun
import Derived.Laws.CopyRow
import Derived.Test.YtjiajblbpokfgaaGreatJD4
namespace Go.Proofs.YtjiajblbpokfgaaGreat
open Go.RowKit
set_option linter.unusedVariables false
set_option maxRecDepth 100000
set_option maxHeartbeats 16000000
section
open Go.Shelf
def Tryz.sortFl_ren:Go.Shelf.Ren:=⟨fun | 6=>154 | 15=>58 | 14=>192 | 28=>112 | 29=>113 | 20=>206 | 21=>207 | 22=>208 | 23=>209 | 24=>210 | 25=>211 | 26=>212 | 27=>213 | 46=>216 | 47=>166 | 48=>167 | 49=>217 | 50=>218 | 57=>220 | n=>n,fun | 22=>43 | 24=>135 | 25=>147 | 3=>3 | 39=>121 | 0=>0 | 53=>175 | 55=>177 | 4=>4 | 46=>169 | 45=>168 | 50=>154 | 5=>5 | 9=>9 | 66=>215 | 70=>219 | 76=>239 | 77=>240 | n=>n,fun | n=>n⟩
theorem Tryz.sortFl:Go.Proofs.SlLaysF0.n6 Tryz.prog Tryz.sortFl_ren:={
 mixed:=by kernel_rfl
 f6:=⟨Tryz.f154.name,by decide,Tryz.func154.trans (congrArg some (by kernel_rfl))⟩
 f14:=⟨Tryz.f192.name,by decide,Tryz.func192.trans (congrArg some (by kernel_rfl))⟩
 f15:=Tryz.func58.trans (congrArg some (by kernel_rfl))
 f20:=⟨Tryz.f206.name,by decide,Tryz.func206.trans (congrArg some (by kernel_rfl))⟩
 f21:=⟨Tryz.f207.name,by decide,Tryz.func207.trans (congrArg some (by kernel_rfl))⟩
 f22:=⟨Tryz.f208.name,by decide,Tryz.func208.trans (congrArg some (by kernel_rfl))⟩
 f23:=⟨Tryz.f209.name,by decide,Tryz.func209.trans (congrArg some (by kernel_rfl))⟩
 f24:=⟨Tryz.f210.name,by decide,Tryz.func210.trans (congrArg some (by kernel_rfl))⟩
 f25:=⟨Tryz.f211.name,by decide,Tryz.func211.trans (congrArg some (by kernel_rfl))⟩
 f26:=⟨Tryz.f212.name,by decide,Tryz.func212.trans (congrArg some (by kernel_rfl))⟩
 f27:=⟨Tryz.f213.name,by decide,Tryz.func213.trans (congrArg some (by kernel_rfl))⟩
 f28:=Tryz.func112.trans (congrArg some (by kernel_rfl))
 f29:=Tryz.func113.trans (congrArg some (by kernel_rfl))
 f46:=⟨Tryz.f216.name,by decide,Tryz.func216.trans (congrArg some (by kernel_rfl))⟩
 f47:=Tryz.func166.trans (congrArg some (by kernel_rfl))
 f48:=Tryz.func167.trans (congrArg some (by kernel_rfl))
 f49:=⟨Tryz.f217.name,by decide,Tryz.func217.trans (congrArg some (by kernel_rfl))⟩
 f50:=⟨Tryz.f218.name,by decide,Tryz.func218.trans (congrArg some (by kernel_rfl))⟩
 f57:=⟨Tryz.f220.name,by decide,Tryz.func220.trans (congrArg some (by kernel_rfl))⟩
 t0:=Tryz.underlying0
 a0:=Tryz.isAgg0
 z0:=Tryz.sizeOf0
 v0:=Tryz.zeroValue0
 t3:=Tryz.underlying3
 a3:=Tryz.isAgg3
 z3:=Tryz.sizeOf3
 v3:=Tryz.zeroValue3
 t4:=Tryz.underlying4
 a4:=Tryz.isAgg4
 z4:=Tryz.sizeOf4
 v4:=Tryz.zeroValue4
 t5:=Tryz.underlying5
 a5:=Tryz.isAgg5
 z5:=Tryz.sizeOf5
 v5:=Tryz.zeroValue5
 t9:=Tryz.underlying9
 a9:=Tryz.isAgg9
 z9:=Tryz.sizeOf9
 v9:=Tryz.zeroValue9
 t22:=Tryz.underlying43
 a22:=Tryz.isAgg43
 z22:=Tryz.sizeOf43
 v22:=Tryz.zeroValue43
 t25:=Tryz.underlying147
 a25:=Tryz.isAgg147
 z25:=Tryz.sizeOf147
 v25:=Tryz.zeroValue147
 t39:=Tryz.underlying121
 a39:=Tryz.isAgg121
 z39:=Tryz.sizeOf121
 v39:=Tryz.zeroValue121
 t45:=Tryz.underlying168
 a45:=Tryz.isAgg168
 z45:=Tryz.sizeOf168
 v45:=Tryz.zeroValue168
 t46:=Tryz.underlying169
 a46:=Tryz.isAgg169
 z46:=Tryz.sizeOf169
 v46:=Tryz.zeroValue169
 t50:=Tryz.underlying154
 a50:=Tryz.isAgg154
 z50:=Tryz.sizeOf154
 v50:=Tryz.zeroValue154
 t53:=Tryz.underlying175
 a53:=Tryz.isAgg175
 z53:=Tryz.sizeOf175
 v53:=Tryz.zeroValue175
 t55:=Tryz.underlying177
 a55:=Tryz.isAgg177
 z55:=Tryz.sizeOf177
 v55:=Tryz.zeroValue177
 t66:=Tryz.underlying215
 a66:=Tryz.isAgg215
 z66:=Tryz.sizeOf215
 v66:=Tryz.zeroValue215
 t70:=Tryz.underlying219
 a70:=Tryz.isAgg219
 z70:=Tryz.sizeOf219
 v70:=Tryz.zeroValue219
 t76:=Tryz.underlying239
 a76:=Tryz.isAgg239
 z76:=Tryz.sizeOf239
 v76:=Tryz.zeroValue239
 t77:=Tryz.underlying240
 a77:=Tryz.isAgg240
 z77:=Tryz.sizeOf240
 v77:=Tryz.zeroValue240}
end
theorem qO (xt xp yt yp:Int) (xa ya xb yb:Option Addr) (xm xc ym yc xd xe yd ye:Nat) (w:World):
  Calls Tryz.prog 144 #[.agg #[.int .i64 xt,.int .i64 xp,.slice xa xm xc,.slice xb xd xe],.agg #[.int .i64 yt,.int .i64 yp,.slice ya ym yc,.slice yb yd ye]] w fun e w'=>e= .returned (.int .i64 (aJ xt yt))∧Grw w w':=by
 have H0:=aa (fun W=>cJ (xt) (yt) W);generalize aJ xt yt=R at H0⊢;go_enter Tryz.func144,Tryz.ntmps144;go_wp2_with fail
 refine(ag H0 _).mono ?_;rintro e w1 ⟨rfl,rfl⟩;go_wp2_with fail
 go_ret;exact⟨rfl,((Grw.refl w).alloc _).alloc _⟩
theorem ry (xt xp yt yp:Int) (xa ya xb yb:Option Addr) (xm xc ym yc xd xe yd ye:Nat) (w:World):
  Calls Tryz.prog 145 #[.agg #[.int .i64 xt,.int .i64 xp,.slice xa xm xc,.slice xb xd xe],.agg #[.int .i64 yt,.int .i64 yp,.slice ya ym yc,.slice yb yd ye]] w fun e w'=>e= .returned (.int .i64 (aJ yp xp))∧Grw w w':=by
 have H0:=aa (fun W=>cJ (yp) (xp) W);generalize aJ yp xp=R at H0⊢;go_enter Tryz.func145,Tryz.ntmps145;go_wp2_with fail
 refine(ag H0 _).mono ?_;rintro e w1 ⟨rfl,rfl⟩;go_wp2_with fail
 go_ret;exact⟨rfl,((Grw.refl w).alloc _).alloc _⟩
theorem qc (xt xp yt yp:Int) (xa ya xb yb:Option Addr) (xm xc ym yc xd xe yd ye:Nat) (w:World):
  Calls Tryz.prog 146 #[.agg #[.int .i64 xt,.int .i64 xp,.slice xa xm xc,.slice xb xd xe],.agg #[.int .i64 yt,.int .i64 yp,.slice ya ym yc,.slice yb yd ye]] w fun e w'=>e= .returned (.int .i64 (aJ (xm:Int) (ym:Int)))∧Grw w w':=by
 have H0:=aa (fun W=>cJ ((xm:Int)) ((ym:Int)) W);generalize aJ (xm:Int) (ym:Int)=R at H0⊢;go_enter Tryz.func146,Tryz.ntmps146;go_wp2_with fail
 refine(ag H0 _).mono ?_;rintro e w1 ⟨rfl,rfl⟩;go_wp2_with fail
 go_ret;exact⟨rfl,((Grw.refl w).alloc _).alloc _⟩
theorem qB (xt xp yt yp:Int) (xa ya xb yb:Option Addr) (xm xc ym yc xd xe yd ye:Nat) (w:World):
  Calls Tryz.prog 147 #[.agg #[.int .i64 xt,.int .i64 xp,.slice xa xm xc,.slice xb xd xe],.agg #[.int .i64 yt,.int .i64 yp,.slice ya ym yc,.slice yb yd ye]] w fun e w'=>e= .returned (.int .i64 (aJ (xd:Int) (yd:Int)))∧Grw w w':=by
 have H0:=aa (fun W=>cJ ((xd:Int)) ((yd:Int)) W);generalize aJ (xd:Int) (yd:Int)=R at H0⊢;go_enter Tryz.func147,Tryz.ntmps147;go_wp2_with fail
 refine(ag H0 _).mono ?_;rintro e w1 ⟨rfl,rfl⟩;go_wp2_with fail
 go_ret;exact⟨rfl,((Grw.refl w).alloc _).alloc _⟩
theorem qt (x y:Fl) (xa ya xb yb:Option Addr) (xc yc xe ye:Nat) (w:World) (hx:MsAt w (.slice xa x.ms.length xc) x.ms) (hy:MsAt w (.slice ya y.ms.length yc) y.ms) (hl:x.ms.length≤2000000) (hl2:y.ms.length≤2000000):
  Calls Tryz.prog 148 #[.agg #[.int .i64 x.t,.int .i64 x.p,.slice xa x.ms.length xc,.slice xb x.ds.length xe],.agg #[.int .i64 y.t,.int .i64 y.p,.slice ya y.ms.length yc,.slice yb y.ds.length ye]] w fun e w'=>e= .returned (.int .i64 (eR x.ms y.ms))∧Grw w w':=by
 have HX:=aa hx;have HY:=aa hy;have HC:Hid (∀W:World,Below w.heap.size w W→Calls Tryz.prog 149 #[.slice xa x.ms.length xc,.slice ya y.ms.length yc,.func (.func 150) #[] #[]] W fun e w'=>e= .returned (.int .i64 (eR x.ms y.ms))∧Grw W w'):=fun W hW=>jW _ _ _ _ W (HX.out.below hW zr) (HY.out.below hW zr) hl hl2;clear hx hy HX HY;generalize eR x.ms y.ms=R at HC⊢;have hA:Grw w ((w.alloc (.cells #[.int .i64 x.t,.int .i64 x.p,.slice xa x.ms.length xc,.slice xb x.ds.length xe] 135)).alloc (.cells #[.int .i64 y.t,.int .i64 y.p,.slice ya y.ms.length yc,.slice yb y.ds.length ye] 135)):=((Grw.refl w).alloc _).alloc _;go_enter Tryz.func148,Tryz.ntmps148;go_wp2_with fail
 refine(ag HC _ hA.below).mono ?_;rintro e w1 ⟨rfl,hg1⟩;have hg:=hA.trans hg1;go_wp2_with fail
 go_ret;exact⟨rfl,hg⟩
theorem qx (x y:Fl) (xa ya xb yb:Option Addr) (xc yc xe ye:Nat) (w:World) (hx:DsAt w (.slice xb x.ds.length xe) x.ds) (hy:DsAt w (.slice yb y.ds.length ye) y.ds) (hl:x.ds.length≤2000000) (hl2:y.ds.length≤2000000):
  Calls Tryz.prog 151 #[.agg #[.int .i64 x.t,.int .i64 x.p,.slice xa x.ms.length xc,.slice xb x.ds.length xe],.agg #[.int .i64 y.t,.int .i64 y.p,.slice ya y.ms.length yc,.slice yb y.ds.length ye]] w fun e w'=>e= .returned (.int .i64 (hJ x.ds y.ds))∧Grw w w':=by
 have HX:=aa hx;have HY:=aa hy;have HC:Hid (∀W:World,Below w.heap.size w W→Calls Tryz.prog 152 #[.slice xb x.ds.length xe,.slice yb y.ds.length ye,.func (.func 153) #[] #[]] W fun e w'=>e= .returned (.int .i64 (hJ x.ds y.ds))∧Grw W w'):=fun W hW=>jG _ _ _ _ W (HX.out.below hW zr) (HY.out.below hW zr) hl hl2;clear hx hy HX HY;generalize hJ x.ds y.ds=R at HC⊢;have hA:Grw w ((w.alloc (.cells #[.int .i64 x.t,.int .i64 x.p,.slice xa x.ms.length xc,.slice xb x.ds.length xe] 135)).alloc (.cells #[.int .i64 y.t,.int .i64 y.p,.slice ya y.ms.length yc,.slice yb y.ds.length ye] 135)):=((Grw.refl w).alloc _).alloc _;go_enter Tryz.func151,Tryz.ntmps151;go_wp2_with fail
 refine(ag HC _ hA.below).mono ?_;rintro e w1 ⟨rfl,hg1⟩;have hg:=hA.trans hg1;go_wp2_with fail
 go_ret;exact⟨rfl,hg⟩
def OrdAt (w:World) (g:Nat):Prop:=∃q,w.cell? ⟨g,0,none⟩=some (.slice (some ⟨q,0,none⟩) 6 6)∧w.cell? ⟨q,0,none⟩=some (.func (.func 144) #[] #[])∧w.cell? ⟨q,1,none⟩=some (.func (.func 145) #[] #[])∧w.cell? ⟨q,2,none⟩=some (.func (.func 146) #[] #[])
 ∧w.cell? ⟨q,3,none⟩=some (.func (.func 147) #[] #[])∧w.cell? ⟨q,4,none⟩=some (.func (.func 148) #[] #[])∧w.cell? ⟨q,5,none⟩=some (.func (.func 151) #[] #[])
theorem OrdAt.below {w w':World} {g:Nat} (h:OrdAt w g) (hb:Below w.heap.size w w'):OrdAt w' g:=by
 obtain⟨q,h0,h1,h2,h3,h4,h5,h6⟩:=h;exact⟨q,ae h0 hb zr,ae h1 hb zr,ae h2 hb zr,ae h3 hb zr,ae h4 hb zr,ae h5 hb zr,ae h6 hb zr⟩
def vf (x y:Fl):Int:=
 if aJ x.t y.t≠0 then aJ x.t y.t else if aJ y.p x.p≠0 then aJ y.p x.p else if aJ (x.ms.length:Int) (y.ms.length:Int)≠0 then aJ (x.ms.length:Int) (y.ms.length:Int)else
 if aJ (x.ds.length:Int) (y.ds.length:Int)≠0 then aJ (x.ds.length:Int) (y.ds.length:Int)else if eR x.ms y.ms≠0 then eR x.ms y.ms else hJ x.ds y.ds
theorem kA (x y:Fl) (xa ya xb yb:Option Addr) (xc yc xe ye g:Nat) (w:World) (hO:OrdAt w g) (h1:MsAt w (.slice xa x.ms.length xc) x.ms) (h2:DsAt w (.slice xb x.ds.length xe) x.ds) (h3:MsAt w (.slice ya y.ms.length yc) y.ms) (h4:DsAt w (.slice yb y.ds.length ye) y.ds)
  (l1:x.ms.length≤2000000) (l2:x.ds.length≤2000000) (l3:y.ms.length≤2000000) (l4:y.ds.length≤2000000):
  Calls Tryz.prog 190 #[.agg #[.int .i64 x.t,.int .i64 x.p,.slice xa x.ms.length xc,.slice xb x.ds.length xe],.agg #[.int .i64 y.t,.int .i64 y.p,.slice ya y.ms.length yc,.slice yb y.ds.length ye],.pointer (some ⟨g,0,none⟩)] w fun e w'=>e= .returned (.int .i64 (vf x y))∧Grw w w':=by
 have K1:=aa (fun W=>qO x.t x.p y.t y.p xa ya xb yb x.ms.length xc y.ms.length yc x.ds.length xe y.ds.length ye W);have K2:=aa (fun W=>ry x.t x.p y.t y.p xa ya xb yb x.ms.length xc y.ms.length yc x.ds.length xe y.ds.length ye W);have K3:=aa (fun W=>qc x.t x.p y.t y.p xa ya xb yb x.ms.length xc y.ms.length yc x.ds.length xe y.ds.length ye W);have K4:=aa (fun W=>qB x.t x.p y.t y.p xa ya xb yb x.ms.length xc y.ms.length yc x.ds.length xe y.ds.length ye W);have K5:=aa (fun W (hW:Below w.heap.size w W)=>qt x y xa ya xb yb xc yc xe ye W (h1.below hW zr) (h3.below hW zr) l1 l3);have K6:=aa (fun W (hW:Below w.heap.size w W)=>qx x y xa ya xb yb xc yc xe ye W (h2.below hW zr) (h4.below hW zr) l2 l4);clear h1 h2 h3 h4;have HO:Hid (vf x y=if aJ x.t y.t≠0 then aJ x.t y.t else if aJ y.p x.p≠0 then aJ y.p x.p else if aJ (x.ms.length:Int) (y.ms.length:Int)≠0 then aJ (x.ms.length:Int) (y.ms.length:Int)else
  if aJ (x.ds.length:Int) (y.ds.length:Int)≠0 then aJ (x.ds.length:Int) (y.ds.length:Int)else if eR x.ms y.ms≠0 then eR x.ms y.ms else hJ x.ds y.ds):=rfl
 generalize vf x y=R at*;generalize aJ x.t y.t=r1 at*;generalize aJ y.p x.p=r2 at*;generalize aJ (x.ms.length:Int) (y.ms.length:Int)=r3 at*;generalize aJ (x.ds.length:Int) (y.ds.length:Int)=r4 at*;generalize eR x.ms y.ms=r5 at*;generalize hJ x.ds y.ds=r6 at*;obtain⟨q,o0,o1,o2,o3,o4,o5,o6⟩:=hO;have hgl:=bw o0;have hql:=bw o1;go_enter Tryz.func190,Tryz.ntmps190;go_wp2_with fail
 obtain⟨W1,hW1⟩:∃W1,W1=(w.alloc (.cells #[.int .i64 x.t,.int .i64 x.p,.slice xa x.ms.length xc,.slice xb x.ds.length xe] 135)).alloc (.cells #[.int .i64 y.t,.int .i64 y.p,.slice ya y.ms.length yc,.slice yb y.ds.length ye] 135):=⟨_,rfl⟩;have hgW:Grw w W1:=by rw [hW1];exact((Grw.refl w).alloc _).alloc _
 have hbW:=hgW.below;have b0:W1.cell? ⟨w.heap.size,0,none⟩=some (.int .i64 x.t):=by rw [hW1];simp
 have b1:W1.cell? ⟨w.heap.size,1,none⟩=some (.int .i64 x.p):=by rw [hW1];simp
 have b2:W1.cell? ⟨w.heap.size,2,none⟩=some (.slice xa x.ms.length xc):=by rw [hW1];simp
 have b3:W1.cell? ⟨w.heap.size,3,none⟩=some (.slice xb x.ds.length xe):=by rw [hW1];simp
 have d0:W1.cell? ⟨w.heap.size+1,0,none⟩=some (.int .i64 y.t):=by
  rw [hW1];have e:w.heap.size+1=(w.alloc (.cells #[.int .i64 x.t,.int .i64 x.p,.slice xa x.ms.length xc,.slice xb x.ds.length xe] 135)).heap.size:=(by simp);rw [e];simp
 have d1:W1.cell? ⟨w.heap.size+1,1,none⟩=some (.int .i64 y.p):=by
  rw [hW1];have e:w.heap.size+1=(w.alloc (.cells #[.int .i64 x.t,.int .i64 x.p,.slice xa x.ms.length xc,.slice xb x.ds.length xe] 135)).heap.size:=(by simp);rw [e];simp
 have d2:W1.cell? ⟨w.heap.size+1,2,none⟩=some (.slice ya y.ms.length yc):=by
  rw [hW1];have e:w.heap.size+1=(w.alloc (.cells #[.int .i64 x.t,.int .i64 x.p,.slice xa x.ms.length xc,.slice xb x.ds.length xe] 135)).heap.size:=(by simp);rw [e];simp
 have d3:W1.cell? ⟨w.heap.size+1,3,none⟩=some (.slice yb y.ds.length ye):=by
  rw [hW1];have e:w.heap.size+1=(w.alloc (.cells #[.int .i64 x.t,.int .i64 x.p,.slice xa x.ms.length xc,.slice xb x.ds.length xe] 135)).heap.size:=(by simp);rw [e];simp
 replace o1:=ae o1 hbW zr;replace o2:=ae o2 hbW zr;replace o3:=ae o3 hbW zr;replace o4:=ae o4 hbW zr;replace o5:=ae o5 hbW zr;replace o6:=ae o6 hbW zr;rw [←hW1];clear hW1 o0;go_loopw [11] (fun i wr=>∃k:Nat,k≤6∧i= .int .i64 k∧Hid ((1≤k→r1=0)∧(2≤k→r2=0)∧(3≤k→r3=0)∧(4≤k→r4=0)∧(5≤k→r5=0)∧(6≤k→r6=0))∧Grw W1 wr) (fun i _=>6-(intOf i).toNat)
 case atStart=>exact⟨0,by omega,rfl,aa ⟨fun h=>absurd h (by omega),fun h=>absurd h (by omega),fun h=>absurd h (by omega),fun h=>absurd h (by omega),fun h=>absurd h (by omega),fun h=>absurd h (by omega)⟩,Grw.refl _⟩
 case round=>
  obtain⟨k,hk,rfl,HZ,hgr⟩:=hrel;have hbr:=hgr.below;have hgw:=hgW.trans hgr;have hbw:=hgw.below;replace b0:=ae b0 hbr zr;replace b1:=ae b1 hbr zr;replace b2:=ae b2 hbr zr;replace b3:=ae b3 hbr zr;replace d0:=ae d0 hbr zr;replace d1:=ae d1 hbr zr;replace d2:=ae d2 hbr zr;replace d3:=ae d3 hbr zr;replace o1:=ae o1 hbr zr;replace o2:=ae o2 hbr zr;replace o3:=ae o3 hbr zr;replace o4:=ae o4 hbr zr;replace o5:=ae o5 hbr zr;replace o6:=ae o6 hbr zr;have hc:k=0∨k=1∨k=2∨k=3∨k=4∨k=5∨k=6:=(by omega);rcases hc with rfl | rfl | rfl | rfl | rfl | rfl | rfl
  ·go_wp2_with fail
   refine(ag K1 _).mono ?_;rintro e w1 ⟨rfl,hg1⟩;have hg2:=hgr.trans hg1;have hg3:=hgw.trans hg1;by_cases hr:r1=0
   ·have HZ2:Hid ((1≤1→r1=0)∧(2≤1→r2=0)∧(3≤1→r3=0)∧(4≤1→r4=0)∧(5≤1→r5=0)∧(6≤1→r6=0)):=by
     obtain⟨z1,z2,z3,z4,z5,z6⟩:=HZ.out;exact aa ⟨fun _=>hr,fun h=>absurd h (by omega),fun h=>absurd h (by omega),fun h=>absurd h (by omega),fun h=>absurd h (by omega),fun h=>absurd h (by omega)⟩
    rw [hr];clear HZ;go_wp2_with fail
    go_roundw
    case rel=>exact⟨1,by omega,rfl,HZ2,hg2⟩
    case measure=>simp [intOf]
   ·have HV:Hid (R=r1):=by
     obtain⟨z1,z2,z3,z4,z5,z6⟩:=HZ.out;show _=_;rw [HO.out,if_pos hr]
    clear HZ;go_wp2_with fail
    go_ret;exact⟨ah HV.out.symm,hg3⟩
  ·go_wp2_with fail
   refine(ag K2 _).mono ?_;rintro e w1 ⟨rfl,hg1⟩;have hg2:=hgr.trans hg1;have hg3:=hgw.trans hg1;by_cases hr:r2=0
   ·have HZ2:Hid ((1≤2→r1=0)∧(2≤2→r2=0)∧(3≤2→r3=0)∧(4≤2→r4=0)∧(5≤2→r5=0)∧(6≤2→r6=0)):=by
     obtain⟨z1,z2,z3,z4,z5,z6⟩:=HZ.out;exact aa ⟨fun _=>z1 (by omega),fun _=>hr,fun h=>absurd h (by omega),fun h=>absurd h (by omega),fun h=>absurd h (by omega),fun h=>absurd h (by omega)⟩
    rw [hr];clear HZ;go_wp2_with fail
    go_roundw
    case rel=>exact⟨2,by omega,rfl,HZ2,hg2⟩
    case measure=>simp [intOf]
   ·have HV:Hid (R=r2):=by
     obtain⟨z1,z2,z3,z4,z5,z6⟩:=HZ.out;show _=_;rw [HO.out,if_neg (fun h=>h (z1 (by omega))),if_pos hr]
    clear HZ;go_wp2_with fail
    go_ret;exact⟨ah HV.out.symm,hg3⟩
  ·go_wp2_with fail
   refine(ag K3 _).mono ?_;rintro e w1 ⟨rfl,hg1⟩;have hg2:=hgr.trans hg1;have hg3:=hgw.trans hg1;by_cases hr:r3=0
   ·have HZ2:Hid ((1≤3→r1=0)∧(2≤3→r2=0)∧(3≤3→r3=0)∧(4≤3→r4=0)∧(5≤3→r5=0)∧(6≤3→r6=0)):=by
     obtain⟨z1,z2,z3,z4,z5,z6⟩:=HZ.out;exact aa ⟨fun _=>z1 (by omega),fun _=>z2 (by omega),fun _=>hr,fun h=>absurd h (by omega),fun h=>absurd h (by omega),fun h=>absurd h (by omega)⟩
    rw [hr];clear HZ;go_wp2_with fail
    go_roundw
    case rel=>exact⟨3,by omega,rfl,HZ2,hg2⟩
    case measure=>simp [intOf]
   ·have HV:Hid (R=r3):=by
     obtain⟨z1,z2,z3,z4,z5,z6⟩:=HZ.out;show _=_;rw [HO.out,if_neg (fun h=>h (z1 (by omega))),if_neg (fun h=>h (z2 (by omega))),if_pos hr]
    clear HZ;go_wp2_with fail
    go_ret;exact⟨ah HV.out.symm,hg3⟩
  ·go_wp2_with fail
   refine(ag K4 _).mono ?_;rintro e w1 ⟨rfl,hg1⟩;have hg2:=hgr.trans hg1;have hg3:=hgw.trans hg1;by_cases hr:r4=0
   ·have HZ2:Hid ((1≤4→r1=0)∧(2≤4→r2=0)∧(3≤4→r3=0)∧(4≤4→r4=0)∧(5≤4→r5=0)∧(6≤4→r6=0)):=by
     obtain⟨z1,z2,z3,z4,z5,z6⟩:=HZ.out;exact aa ⟨fun _=>z1 (by omega),fun _=>z2 (by omega),fun _=>z3 (by omega),fun _=>hr,fun h=>absurd h (by omega),fun h=>absurd h (by omega)⟩
    rw [hr];clear HZ;go_wp2_with fail
    go_roundw
    case rel=>exact⟨4,by omega,rfl,HZ2,hg2⟩
    case measure=>simp [intOf]
   ·have HV:Hid (R=r4):=by
     obtain⟨z1,z2,z3,z4,z5,z6⟩:=HZ.out;show _=_;rw [HO.out,if_neg (fun h=>h (z1 (by omega))),if_neg (fun h=>h (z2 (by omega))),if_neg (fun h=>h (z3 (by omega))),if_pos hr]
    clear HZ;go_wp2_with fail
    go_ret;exact⟨ah HV.out.symm,hg3⟩
  ·go_wp2_with fail
   refine(ag K5 _ hbw).mono ?_;rintro e w1 ⟨rfl,hg1⟩;have hg2:=hgr.trans hg1;have hg3:=hgw.trans hg1;by_cases hr:r5=0
   ·have HZ2:Hid ((1≤5→r1=0)∧(2≤5→r2=0)∧(3≤5→r3=0)∧(4≤5→r4=0)∧(5≤5→r5=0)∧(6≤5→r6=0)):=by
     obtain⟨z1,z2,z3,z4,z5,z6⟩:=HZ.out;exact aa ⟨fun _=>z1 (by omega),fun _=>z2 (by omega),fun _=>z3 (by omega),fun _=>z4 (by omega),fun _=>hr,fun h=>absurd h (by omega)⟩
    rw [hr];clear HZ;go_wp2_with fail
    go_roundw
    case rel=>exact⟨5,by omega,rfl,HZ2,hg2⟩
    case measure=>simp [intOf]
   ·have HV:Hid (R=r5):=by
     obtain⟨z1,z2,z3,z4,z5,z6⟩:=HZ.out;show _=_;rw [HO.out,if_neg (fun h=>h (z1 (by omega))),if_neg (fun h=>h (z2 (by omega))),if_neg (fun h=>h (z3 (by omega))),if_neg (fun h=>h (z4 (by omega))),if_pos hr]
    clear HZ;go_wp2_with fail
    go_ret;exact⟨ah HV.out.symm,hg3⟩
  ·go_wp2_with fail
   refine(ag K6 _ hbw).mono ?_;rintro e w1 ⟨rfl,hg1⟩;have hg2:=hgr.trans hg1;have hg3:=hgw.trans hg1;by_cases hr:r6=0
   ·have HZ2:Hid ((1≤6→r1=0)∧(2≤6→r2=0)∧(3≤6→r3=0)∧(4≤6→r4=0)∧(5≤6→r5=0)∧(6≤6→r6=0)):=by
     obtain⟨z1,z2,z3,z4,z5,z6⟩:=HZ.out;exact aa ⟨fun _=>z1 (by omega),fun _=>z2 (by omega),fun _=>z3 (by omega),fun _=>z4 (by omega),fun _=>z5 (by omega),fun _=>hr⟩
    rw [hr];clear HZ;go_wp2_with fail
    go_roundw
    case rel=>exact⟨6,by omega,rfl,HZ2,hg2⟩
    case measure=>simp [intOf]
   ·have HV:Hid (R=r6):=by
     obtain⟨z1,z2,z3,z4,z5,z6⟩:=HZ.out;show _=_;rw [HO.out,if_neg (fun h=>h (z1 (by omega))),if_neg (fun h=>h (z2 (by omega))),if_neg (fun h=>h (z3 (by omega))),if_neg (fun h=>h (z4 (by omega))),if_neg (fun h=>h (z5 (by omega)))]
    clear HZ;go_wp2_with fail
    go_ret;exact⟨ah HV.out.symm,hg3⟩
  ·have HV:Hid (R=0):=by
    obtain⟨z1,z2,z3,z4,z5,z6⟩:=HZ.out;show _=_;rw [HO.out,if_neg (fun h=>h (z1 (by omega))),if_neg (fun h=>h (z2 (by omega))),if_neg (fun h=>h (z3 (by omega))),if_neg (fun h=>h (z4 (by omega))),if_neg (fun h=>h (z5 (by omega))),z6 (by omega)]
   clear HZ;go_wp2_with fail
   go_ret;exact⟨ah HV.out.symm,hgw⟩
def key (a:Fl):List Int:=[a.t, -a.p,(a.ms.length:Int),(a.ds.length:Int)]++fm a.ms++fd a.ds
theorem jL:fH [] []=0:=rfl
theorem es (b:Int) (y:List Int):fH [] (b::y)<0:=by simp [fH]
theorem cT (a:Int) (x:List Int):0<fH (a::x) []:=by simp [fH]
theorem bR (a b:Int) (x y:List Int):fH (a::x) (b::y)=if a<b then-1 else if b<a then 1 else fH x y:=rfl
theorem oj:∀x y:List Int,fH x y=0→x=y
 | [],[],_=>rfl
 | [],b::y,h=>by have:=es b y;omega
 | a::x,[],h=>by have:=cT a x;omega
 | a::x,b::y,h=>by
  rw [bR]at h;split at h
  ·omega
  ·split at h
   ·omega
   ·rw [oj x y h,show a=b by omega]
theorem oN:∀x:List Int,fH x x=0
 | []=>rfl
 | a::x=>by rw [bR,if_neg (by omega),if_neg (by omega)];exact oN x
theorem oK:∀x y:List Int,fH x y<0↔0<fH y x
 | [],[]=>by simp [jL]
 | [],b::y=>by have:=es b y;have:=cT b y;omega
 | a::x,[]=>by have:=es a x;have:=cT a x;omega
 | a::x,b::y=>by
  have ih:=oK x y;rw [bR,bR];split <;>split <;>(try split) <;>first | omega | exact ih
theorem mB:∀x y z:List Int,fH x y<0→fH y z<0→fH x z<0
 | [],[],z,h,_=>by simp [jL]at h
 | [],b::y,[],_,h=>by have:=cT b y;omega
 | [],b::y,c::z,_,_=>es c z
 | a::x,[],z,h,_=>by have:=cT a x;omega
 | a::x,b::y,[],_,h=>by have:=cT b y;omega
 | a::x,b::y,c::z,h1,h2=>by
  have ih:=mB x y z;rw [bR]at h1 h2⊢;split at h1 <;>split at h2 <;>(try split at h1) <;>(try split at h2) <;>split <;>(try split) <;>first | omega | exact ih h1 h2 |(exfalso;omega)
theorem jV (a b:Fl):plc a b=fH (key a) (key b):=by
 unfold plc AW key;simp only [List.cons_append,List.nil_append];simp only [bR];have h1:(b.p<a.p)↔(-a.p< -b.p):=by omega
 have h2:(a.p<b.p)↔(-b.p< -a.p):=by omega
 simp only [h1,h2]
theorem wU:∀x y:List Mt,fm x=fm y→x=y
 | [],[],_=>rfl
 | [],y::ys,h=>by simp [fm]at h
 | x::xs,[],h=>by simp [fm]at h
 | x::xs,y::ys,h=>by
  obtain⟨a,b,c⟩:=x;obtain⟨a',b',c'⟩:=y;have h':a=a'∧b=b'∧c=c'∧fm xs=fm ys:=(by simpa [fm] using h);obtain⟨rfl,rfl,rfl,h4⟩:=h';rw [wU xs ys h4]
theorem wB:∀x y:List Do,fd x=fd y→x=y
 | [],[],_=>rfl
 | [],y::ys,h=>by simp [fd]at h
 | x::xs,[],h=>by simp [fd]at h
 | x::xs,y::ys,h=>by
  obtain⟨a,b,c⟩:=x;obtain⟨a',b',c'⟩:=y;have h':a=a'∧b=b'∧c=c'∧fd xs=fd ys:=(by simpa [fd] using h);obtain⟨rfl,rfl,rfl,h4⟩:=h';rw [wB xs ys h4]
theorem zF (a b:Fl) (h:key a=key b):a=b:=by
 obtain⟨t,p,ms,ds⟩:=a;obtain⟨t',p',ms',ds'⟩:=b;unfold key at h;simp only [List.cons_append,List.nil_append,List.cons.injEq]at h;obtain⟨rfl,h2,h3,h4,h5⟩:=h;have hl:(fm ms).length=(fm ms').length:=by rw [oe,oe];omega
 obtain⟨h6,h7⟩:=List.append_inj h5 hl;rw [wU _ _ h6,wB _ _ h7,show p=p' by omega]
theorem eC {a b:Fl} (h:plc a b=0):a=b:=zF a b (oj _ _ (by rw [←jV];exact h))
theorem dV (a:Fl):plc a a=0:=by rw [jV];exact oN _
theorem fB (a b:Fl):plc a b<0↔0<plc b a:=by rw [jV,jV];exact oK _ _
theorem iT {a b c:Fl} (h1:plc a b<0) (h2:plc b c<0):plc a c<0:=by rw [jV]at*;exact mB _ _ _ h1 h2
theorem rM (a b c a' b' c':Int) (x y:List Int):fH (a::b::c::x) (a'::b'::c'::y)=if or3 (aJ a a') (aJ b b') (aJ c c')≠0 then or3 (aJ a a') (aJ b b') (aJ c c')else fH x y:=by
 rw [bR,bR,bR];unfold or3 aJ;split
 ·simp
 ·split
  ·simp
  ·split
   ·simp
   ·split
    ·simp
    ·split
     ·simp
     ·split
      ·simp
      ·simp
theorem tR:∀(xs ys:List Mt) (u v:List Int),xs.length=ys.length→fH (fm xs++u) (fm ys++v)=if eR xs ys≠0 then eR xs ys else fH u v
 | [],[],u,v,_=>by simp [fm,eR]
 | [],_::_,_,_,h=>by simp at h
 | _::_,[],_,_,h=>by simp at h
 | x::xs,y::ys,u,v,h=>by
  have ih:=tR xs ys u v (by simpa using h);have e1:fm (x::xs)++u=x.f::x.m::x.v::(fm xs++u):=(by simp [fm]);have e2:fm (y::ys)++v=y.f::y.m::y.v::(fm ys++v):=(by simp [fm]);have e3:eR (x::xs) (y::ys)=if or3 (aJ x.f y.f) (aJ x.m y.m) (aJ x.v y.v)≠0 then or3 (aJ x.f y.f) (aJ x.m y.m) (aJ x.v y.v)else eR xs ys:=rfl;rw [e1,e2,rM,ih,e3];by_cases h0:or3 (aJ x.f y.f) (aJ x.m y.m) (aJ x.v y.v)=0
  ·simp [h0]
  ·simp [h0]
theorem uA:∀(xs ys:List Do),xs.length=ys.length→fH (fd xs) (fd ys)=hJ xs ys
 | [],[],_=>rfl
 | [],_::_,h=>by simp at h
 | _::_,[],h=>by simp at h
 | x::xs,y::ys,h=>by
  have ih:=uA xs ys (by simpa using h);have e1:fd (x::xs)=x.k::x.a::x.n::fd xs:=(by simp [fd]);have e2:fd (y::ys)=y.k::y.a::y.n::fd ys:=(by simp [fd]);rw [e1,e2,rM,ih];rfl
theorem nv (a b:Fl):vf a b=plc a b:=by
 unfold plc AW vf;simp only [List.cons_append,List.nil_append];rw [bR,bR,bR,bR];unfold aJ;by_cases h1:a.t<b.t
 ·simp [h1]
 ·by_cases h2:b.t<a.t
  ·simp [h1,h2]
  ·by_cases h3:b.p<a.p
   ·simp [h1,h2,h3]
   ·by_cases h4:a.p<b.p
    ·simp [h1,h2,h3,h4]
    ·by_cases h5:(a.ms.length:Int)<b.ms.length
     ·simp [h1,h2,h3,h4];simp at h5;simp [h5]
     ·by_cases h6:(b.ms.length:Int)<a.ms.length
      ·simp [h1,h2,h3,h4];simp at h5 h6;simp [h6,show¬a.ms.length<b.ms.length by omega]
      ·by_cases h7:(a.ds.length:Int)<b.ds.length
       ·simp [h1,h2,h3,h4];simp at h5 h6 h7;simp [h7,show¬a.ms.length<b.ms.length by omega,show¬b.ms.length<a.ms.length by omega]
       ·by_cases h8:(b.ds.length:Int)<a.ds.length
        ·simp [h1,h2,h3,h4];simp at h5 h6 h7 h8;simp [h8,show¬a.ms.length<b.ms.length by omega,show¬b.ms.length<a.ms.length by omega,show¬a.ds.length<b.ds.length by omega]
        ·rw [tR _ _ _ _ (by omega),uA _ _ (by omega)];simp only [if_neg h1,if_neg h2,if_neg h3,if_neg h4,if_neg h5,if_neg h6,if_neg h7,if_neg h8];simp
def Srt (l:List Fl):Prop:=l.Pairwise fun a b=>plc a b<0
theorem mF:∀a b:List Fl,Srt a→Srt b→(∀x,x∈a↔x∈b)→a=b
 | [],[],_,_,_=>rfl
 | [],y::ys,_,_,h=>by have:=(h y).2 (by simp);simp at this
 | x::xs,[],_,_,h=>by have:=(h x).1 (by simp);simp at this
 | x::xs,y::ys,ha,hb,h=>by
  unfold Srt at ha hb;rw [List.pairwise_cons]at ha hb;have hxy:x=y:=by
   have h1:=(h x).1 (by simp);have h2:=(h y).2 (by simp);simp only [List.mem_cons]at h1 h2;rcases h1 with h1 | h1
   ·exact h1
   ·rcases h2 with h2 | h2
    ·exact h2.symm
    ·have a1:=hb.1 x h1;have a2:=ha.1 y h2;rw [fB]at a1;omega
  subst hxy;have hx1:x∉xs:=fun h'=>by have:=ha.1 x h';rw [dV]at this;omega
  have hx2:x∉ys:=fun h'=>by have:=hb.1 x h';rw [dV]at this;omega
  rw [mF xs ys ha.2 hb.2 fun z=>?_];have hz:=h z;simp only [List.mem_cons]at hz;constructor
  ·intro h';rcases hz.1 (.inr h')with rfl | h''
   ·exact absurd h' hx1
   ·exact h''
  ·intro h';rcases hz.2 (.inr h')with rfl | h''
   ·exact absurd h' hx2
   ·exact h''
theorem uL (f:Fl) (out:List Fl) (hs:Srt out):∀k,k≤out.length→
  ((nx f out k)=(out.take k,false)∧∀j,j<k→0<plc f (out.getD j fl0))∨((nx f out k)=(out.take k,true)∧f∈out.take k)∨
  (∃j,j<k∧nx f out k=(out.take j++f::(out.take k).drop j,true)∧(∀i,i<j→0<plc f (out.getD i fl0))∧plc f (out.getD j fl0)<0)
 | 0,_=>.inl ⟨by simp [nx],fun j h=>absurd h (by omega)⟩
 | k+1,hk=>by
  have hkl:k<out.length:=(by omega);have ht:out.take (k+1)=out.take k++ [out.getD k fl0]:=by
   rw [List.take_succ_eq_append_getElem hkl];simp [List.getD,List.getElem?_eq_getElem hkl]
  obtain⟨y,hy⟩:∃y,y=out.getD k fl0:=⟨_,rfl⟩;rw [←hy]at ht;have hm:y∈out.take (k+1):=by rw [ht];simp
  rcases uL f out hs k (by omega)with⟨h1,h2⟩ |⟨h1,h2⟩ |⟨j,hj,h1,h2,h3⟩
  ·unfold nx;rw [h1, ←hy];simp only [Bool.false_or];by_cases hz:plc f y=0
   ·have hfe:=eC hz;refine .inr (.inl ⟨?_,by rw [hfe];exact hm⟩);rw [if_neg (by omega),ht];simp [hz]
   ·by_cases hl:plc f y<0
    ·refine .inr (.inr ⟨k,by omega,?_,h2,by rw [←hy];exact hl⟩);rw [if_pos ⟨hl,by simp [hz]⟩,ht];have hlen:(out.take k).length=k:=by simp;omega
     rw [List.drop_append_of_le_length (by omega),List.drop_of_length_le (by omega)];simp
    ·refine .inl ⟨?_,fun j hj=>?_⟩
     ·rw [if_neg (by omega),ht];simp [hz]
     ·by_cases e:j=k
      ·subst e;rw [←hy];omega
      ·exact h2 j (by omega)
  ·unfold nx;rw [h1, ←hy];simp only [Bool.true_or];refine .inr (.inl ⟨?_,by rw [ht];simp [h2]⟩);rw [if_neg (by simp),ht]
  ·unfold nx;rw [h1, ←hy];simp only [Bool.true_or];refine .inr (.inr ⟨j,by omega,?_,h2,h3⟩);rw [if_neg (by simp),ht];have hlen:(out.take k).length=k:=by simp;omega
   rw [List.drop_append_of_le_length (by omega)];simp
theorem wl (f:Fl) (out:List Fl) (hs:Srt out):Srt (ra f out)∧∀x,x∈ra f out↔x=f∨x∈out:=by
 have hp:∀i j,i<j→j<out.length→plc (out.getD i fl0) (out.getD j fl0)<0:=fun i j hij hj=>by
  have:=List.pairwise_iff_getElem.1 hs i j (by omega) hj hij;simpa [List.getD,List.getElem?_eq_getElem hj,List.getElem?_eq_getElem (show i<out.length by omega)] using this
 have hmem:∀x∈out,∃i,i<out.length∧x=out.getD i fl0:=fun x hx=>by
  obtain⟨i,hi,rfl⟩:=List.getElem_of_mem hx;exact⟨i,hi,by simp [List.getD,List.getElem?_eq_getElem hi]⟩
 unfold ra;rcases uL f out hs out.length zr with⟨h1,h2⟩ |⟨h1,h2⟩ |⟨j,hj,h1,h2,h3⟩
 ·rw [h1];simp only [List.take_length,Bool.false_eq_true,if_false];refine⟨?_,fun x=>by simp [or_comm]⟩;refine List.pairwise_append.2 ⟨hs,by simp,fun a ha b hb=>?_⟩;simp only [List.mem_singleton]at hb;subst hb;obtain⟨i,hi,rfl⟩:=hmem a ha;rw [fB];exact h2 i hi
 ·rw [h1];rw [List.take_length]at h2;simp only [List.take_length,if_true];exact⟨hs,fun x=>⟨fun h=>.inr h,fun h=>by rcases h with rfl | h;exact h2;exact h⟩⟩
 ·rw [h1];simp only [List.take_length,if_true];have hsp:out=out.take j++out.drop j:=(List.take_append_drop j out).symm;refine⟨?_,fun x=>?_⟩
  ·have hs':=hs;unfold Srt at hs';rw [hsp]at hs';obtain⟨ha,hb,hc⟩:=List.pairwise_append.1 hs';have hdl:∀x∈out.drop j,plc f x<0:=fun x hx=>by
    obtain⟨i,hi,rfl⟩:=List.getElem_of_mem hx;rw [List.getElem_drop];have hjl:j+i<out.length:=(by simpa using (by simp at hi;omega:j+i<out.length));have e:out[j+i]=out.getD (j+i) fl0:=(by simp [List.getD,List.getElem?_eq_getElem hjl]);rw [e];rcases Nat.eq_zero_or_pos i with h0 | h0
    ·subst h0;exact h3
    ·exact iT h3 (hp j (j+i) (by omega) hjl)
   refine List.pairwise_append.2 ⟨ha,List.pairwise_cons.2 ⟨hdl,hb⟩,fun a ha' b hb'=>?_⟩;simp only [List.mem_cons]at hb';rcases hb' with rfl | hb'
   ·obtain⟨i,hi,rfl⟩:=List.getElem_of_mem ha';rw [fB,List.getElem_take];have hil:i<j:=by simp at hi;omega
    have:=h2 i hil;simpa [List.getD,List.getElem?_eq_getElem (show i<out.length by omega)] using this
   ·exact hc a ha' b hb'
  ·rw [List.mem_append,List.mem_cons];have:x∈out↔x∈out.take j∨x∈out.drop j:=(by rw [←List.mem_append,List.take_append_drop]);rw [this];constructor
   ·rintro(h | h | h)
    ·exact .inr (.inl h)
    ·exact .inl h
    ·exact .inr (.inr h)
   ·rintro(h | h | h)
    ·exact .inr (.inl h)
    ·exact .inl h
    ·exact .inr (.inr h)
theorem lU (l:List Fl):∀k,k≤l.length→Srt (srt l k)∧∀x,x∈srt l k↔x∈l.take k
 | 0,_=>⟨List.Pairwise.nil,fun x=>by simp [srt]⟩
 | k+1,hk=>by
  obtain⟨h1,h2⟩:=lU l k (by omega);have hkl:k<l.length:=(by omega);have ht:l.take (k+1)=l.take k++ [l.getD k fl0]:=by
   rw [List.take_succ_eq_append_getElem hkl];simp [List.getD,List.getElem?_eq_getElem hkl]
  obtain⟨h3,h4⟩:=wl (l.getD k fl0) (srt l k) h1;refine⟨h3,fun x=>?_⟩;show x∈ra _ _↔_;rw [h4,h2,ht,List.mem_append,List.mem_singleton,or_comm]
theorem tf {l m:List Fl} (hs:Srt m) (hm:∀x,x∈m↔x∈l):m=srt l l.length:=by
 obtain⟨h1,h2⟩:=lU l l.length zr;exact mF _ _ hs h1 fun x=>by rw [h2,List.take_length];exact hm x
section
open Go.Sort (grow PermIn SortedIn SWO flatK get_flatK size_flatK HoldsK Holds putRowK putRow putCells mapBlock onCells)
theorem MsAt.kept0 {w w':World} {v:Value} {ms:List Mt} {row:Option Nat} (h:MsAt w v ms) (hg:w.grownBy w' row) (hne:ms.length=0∨v.ownBlock≠row):MsAt w' v ms:=by
 rcases hne with h0 | hne
 ·obtain⟨a,cap,rfl,hn,_⟩:=h;exact⟨a,cap,rfl,hn,.inl h0⟩
 ·exact h.kept hg (.inr hne)
theorem DsAt.kept0 {w w':World} {v:Value} {ds:List Do} {row:Option Nat} (h:DsAt w v ds) (hg:w.grownBy w' row) (hne:ds.length=0∨v.ownBlock≠row):DsAt w' v ds:=by
 rcases hne with h0 | hne
 ·obtain⟨a,cap,rfl,hn,_⟩:=h;exact⟨a,cap,rfl,hn,.inl h0⟩
 ·exact h.kept hg (.inr hne)
def Held (w:World) (x:Fv):Prop:=MsAt w x.mv x.f.ms∧DsAt w x.dv x.f.ds
theorem Held.below {w w':World} {B:Nat} {x:Fv} (h:Held w x) (hb:Below B w w') (hB:w.heap.size≤B):Held w' x:=⟨h.1.below hb hB,h.2.below hb hB⟩
theorem Held.one {w:World} {x:Fv} (h:Held w x):∀u∈C [x],u.oneCell'=true:=by
 obtain⟨⟨o,c,h1,_⟩,⟨o',c',h2,_⟩⟩:=h;intro u hu;simp [C]at hu;rcases hu with rfl | rfl | rfl | rfl
 ·rfl
 ·rfl
 ·rw [h1];rfl
 ·rw [h2];rfl
def FoOk (w:World) (blk:Nat) (x:Fv):Prop:=Held w x∧(x.f.ms.length=0∨x.mv.ownBlock≠some blk)∧(x.f.ds.length=0∨x.dv.ownBlock≠some blk)∧x.f.ms.length≤2000000∧x.f.ds.length≤2000000
theorem Bm (w:World) (blk:Nat):FoOk w blk fv0:=by
 refine⟨⟨⟨none,0,rfl,fun _=>rfl,.inl rfl⟩,⟨none,0,rfl,fun _=>rfl,.inl rfl⟩⟩,.inl rfl,.inl rfl,?_,?_⟩
 all_goals simp [fv0,fl0]
abbrev Fo (w:World) (blk:Nat):={x:Fv//FoOk w blk x}
abbrev sY (w:World) (blk:Nat):Inhabited (Fo w blk):=⟨⟨fv0,Bm w blk⟩⟩
def ja {w:World} {blk:Nat} (x:Fo w blk):List Value:=[.int .i64 x.1.f.t,.int .i64 x.1.f.p,x.1.mv,x.1.dv]
def cf4 {w:World} {blk:Nat} (x y:Fo w blk):Int:=vf x.1.f y.1.f
theorem lt4 {w:World} {blk:Nat} (x y:Fo w blk):ltOf cf4 x y=decide (plc x.1.f y.1.f<0):=by unfold ltOf cf4;rw [nv]
theorem BO (w:World) (blk:Nat):SWO (ltOf (cf4 (w:=w) (blk:=blk))) where
 irrefl x:=by rw [lt4,dV];rfl
 trans x y z h1 h2:=by
  rw [lt4]at*;simp only [decide_eq_true_eq]at*;exact iT h1 h2
 ntrans x y z h1 h2:=by
  rw [lt4]at*;simp only [decide_eq_false_iff_not]at*;intro h;have h3:¬0<plc y.1.f x.1.f:=fun h'=>h1 ((fB _ _).2 h');by_cases e:plc y.1.f x.1.f=0
  ·have:=eC e;rw [this]at h2;exact h2 h
  ·exact h2 (iT (show plc y.1.f x.1.f<0 by omega) h)
def OrdAt2 (w:World) (g blk:Nat):Prop:=g≠blk∧∃q,q≠blk∧w.cell? ⟨g,0,none⟩=some (.slice (some ⟨q,0,none⟩) 6 6)∧w.cell? ⟨q,0,none⟩=some (.func (.func 144) #[] #[])∧w.cell? ⟨q,1,none⟩=some (.func (.func 145) #[] #[])∧w.cell? ⟨q,2,none⟩=some (.func (.func 146) #[] #[])
 ∧w.cell? ⟨q,3,none⟩=some (.func (.func 147) #[] #[])∧w.cell? ⟨q,4,none⟩=some (.func (.func 148) #[] #[])∧w.cell? ⟨q,5,none⟩=some (.func (.func 151) #[] #[])
theorem OrdAt2.kept {w w':World} {g blk:Nat} (h:OrdAt2 w g blk) (hg:w.grownBy w' (some blk)):OrdAt w' g:=by
 obtain⟨hgb,q,hqb,h0,h1,h2,h3,h4,h5,h6⟩:=h;have n1:some g≠some blk:=by simpa using hgb
 have n2:some q≠some blk:=by simpa using hqb
 exact⟨q,hg.cell h0 n1,hg.cell h1 n2,hg.cell h2 n2,hg.cell h3 n2,hg.cell h4 n2,hg.cell h5 n2,hg.cell h6 n2⟩
theorem FoOk.kept {w w':World} {blk:Nat} {x:Fv} (h:FoOk w blk x) (hg:w.grownBy w' (some blk)):Held w' x:=⟨h.1.1.kept0 hg h.2.1,h.1.2.kept0 hg h.2.2.1⟩
theorem FoOk.kept2 {w w':World} {blk:Nat} {x:Fv} (h:FoOk w blk x) (hg:w.grownBy w' (some blk)):FoOk w' blk x:=⟨h.kept hg,h.2⟩
section
variable {w:World} {blk:Nat}
theorem rv (n:Nat) (d:Array (Fo w blk)) (os:Array Obj):letI:=sY w blk
  w.grownBy (sortWorldK ja 4 w blk 0 n d os) (some blk):=by
 letI:=sY w blk
 refine⟨rfl,rfl,rfl,?_,fun k hk hne=>?_⟩
 ·exact size_sortWorldK_c ja 4 w blk 0 n d os
 ·unfold sortWorldK;rw [Go.Sort.heap_grow_old _ _ (by rw [Go.Sort.size_putRowK];exact hk)];unfold putRowK putRow mapBlock;simp only [Array.getElem?_modify];rw [if_neg (fun h=>hne (by rw [h]))];rfl
theorem vW (g size:Nat) (hO:OrdAt2 w g blk):letI:=sY w blk
  CmpLays Tryz.prog 190 #[.pointer (some ⟨g,0,none⟩)] (ja (w:=w) (blk:=blk)) 4 cf4 blk 0 size w:=by
 letI:=sY w blk
 intro m os dk hd x y;have hg:=rv (w:=w) (blk:=blk) m dk os;have ho:=hO.kept hg;have hx:=x.2.kept hg;have hy:=y.2.kept hg;obtain⟨⟨xa,xc,e1,_⟩,⟨xb,xe,e2,_⟩⟩:=hx;obtain⟨⟨ya,yc,e3,_⟩,⟨yb,ye,e4,_⟩⟩:=hy;have hx':=x.2.kept hg;have hy':=y.2.kept hg;have h:=kA x.1.f y.1.f xa ya xb yb xc yc xe ye g _ ho (by rw [←e1];exact hx'.1) (by rw [←e2];exact hx'.2) (by rw [←e3];exact hy'.1) (by rw [←e4];exact hy'.2) x.2.2.2.2.1 x.2.2.2.2.2 y.2.2.2.2.1 y.2.2.2.2.2;have ea: #[Value.agg (ja x).toArray,Value.agg (ja y).toArray]++ #[Value.pointer (some ⟨g,0,none⟩)]= #[.agg #[.int .i64 x.1.f.t,.int .i64 x.1.f.p,.slice xa x.1.f.ms.length xc,.slice xb x.1.f.ds.length xe],.agg #[.int .i64 y.1.f.t,.int .i64 y.1.f.p,.slice ya y.1.f.ms.length yc,.slice yb y.1.f.ds.length ye],.pointer (some ⟨g,0,none⟩)]:=by
  unfold ja;rw [e1,e2,e3,e4];rfl
 rw [ea];exact h
theorem wo (lo:List Fv) (h:∀x∈lo,FoOk w blk x):letI:=sY w blk
  (flatK ja 4 (lo.pmap (fun x hx=>(⟨x,hx⟩:Fo w blk)) h).toArray).toList=C lo:=by
 letI:=sY w blk
 refine List.ext_getElem? fun j=>?_;have hl:(C lo).length=lo.length*4:=by
  clear h
  induction lo with
  | nil=>rfl
  | cons x r ih=>simp [C]at ih⊢;omega
 by_cases hj:j<lo.length*4
 ·have hsz:j<(flatK ja 4 (lo.pmap (fun x hx=>(⟨x,hx⟩:Fo w blk)) h).toArray).size:=by rw [size_flatK];simpa using hj
  rw [Array.getElem?_toList,Array.getElem?_eq_getElem hsz, ←getElem!_pos _ j hsz,get_flatK _ _ _ _ (by simpa using hj)];have hi:j/4<lo.length:=(by omega);have hd:(lo.pmap (fun x hx=>(⟨x,hx⟩:Fo w blk)) h).toArray[j/4]! =⟨lo[j/4],h _ (List.getElem_mem hi)⟩:=by
   rw [getElem!_pos _ _ (by simpa using hi)];simp
  rw [hd];obtain⟨c0,c1,c2,c3⟩:=zd lo (j/4) hi;have hg:lo.getD (j/4) fv0=lo[j/4]:=(by simp [List.getD,List.getElem?_eq_getElem hi]);rw [hg]at c0 c1 c2 c3;have hm:j%4=0∨j%4=1∨j%4=2∨j%4=3:=(by omega);rcases hm with hm | hm | hm | hm
  ·have e:j=j/4*4:=(by omega);rw [hm];rw [←e]at c0;rw [c0];rfl
  ·have e:j=j/4*4+1:=(by omega);rw [hm];rw [←e]at c1;rw [c1];rfl
  ·have e:j=j/4*4+2:=(by omega);rw [hm];rw [←e]at c2;rw [c2];rfl
  ·have e:j=j/4*4+3:=(by omega);rw [hm];rw [←e]at c3;rw [c3];rfl
 ·rw [List.getElem?_eq_none (by rw [Array.length_toList,size_flatK];simp;omega),List.getElem?_eq_none (by omega)]
theorem pg (B cap g:Nat) (lo:List Fv) (hown:w.ownsRow B 135 4 (.slice (some ⟨blk,0,none⟩) lo.length cap) lo.length (C lo)) (hok:∀x∈lo,FoOk w blk x) (hO:OrdAt2 w g blk) (hl:lo.length≤2000000):
  Calls Tryz.prog 154 #[.slice (some ⟨blk,0,none⟩) lo.length cap,.func (.func 190) #[] #[.pointer (some ⟨g,0,none⟩)]] w fun e w'=>e= .returned (.tuple #[])∧∃lo':List Fv,lo'.Perm lo∧(lo'.Pairwise fun a b=>¬plc b.f a.f<0)∧w'.ownsRow B 135 4 (.slice (some ⟨blk,0,none⟩) lo.length cap) lo.length (C lo')∧w.grownBy w' (some blk):=by
 letI:=sY w blk
 have eg:∀args w,(callFunc 190 args).run Tryz.prog w= .ok (.enter 190 args) w:=enters_of Tryz.func190 (by kernel_rfl) rfl;have hfl:=wo lo hok;have hown':=hown;obtain⟨hlen,⟨h,_⟩ |⟨g',cap',cur,hv,hB,hheap,hnc,hcm,hcs,htk⟩⟩:=hown
 ·simp at h
 simp only [Value.slice.injEq,Option.some.injEq,Addr.mk.injEq]at hv;obtain⟨⟨rfl,_⟩,_,rfl⟩:=hv;have hblk:blk<w.heap.size:=by
  rcases Nat.lt_or_ge blk w.heap.size with h' | h'
  ·exact h'
  ·simp [Array.getElem?_eq_none h']at hheap
 obtain⟨d,hd⟩:∃d,d=(lo.pmap (fun x hx=>(⟨x,hx⟩:Fo w blk)) hok).toArray:=⟨_,rfl⟩;have hds:d.size=lo.length:=by rw [hd];simp
 rw [←hd]at hfl;have hH:HoldsK ja 4 w blk 0 d:=by
  intro j hj;rw [size_flatK,hds]at hj;have hc:=hown'.cellAt j hj;have hf:=hown'.frozenAt j;have e:(C lo)[j]? =some ((flatK ja 4 d)[j]!):=by
   rw [←hfl,Array.getElem?_toList,Array.getElem?_eq_getElem (by rw [size_flatK,hds];exact hj),getElem!_pos _ j (by rw [size_flatK,hds];exact hj)]
  rw [Nat.zero_add];exact⟨hc.trans e,hf⟩
 have hone:∀x:Fo w blk,∀v∈ja x,v.oneCell'=true:=fun x v hv=>x.2.1.one v (by simpa [C,ja] using hv);have hcon:=AnyQ.slices_SortFunc Tryz.sortFl 4 Tryz.isAgg135 Tryz.sizeOf135 ja (fun _=>rfl) hone cf4 (BO w blk) 190 #[.pointer (some ⟨g,0,none⟩)] blk 0 cap d w eg (vW g d.size hO) hH hblk (by omega);rw [hds]at hcon;refine Calls.mono hcon ?_;rintro e w' ⟨he,d',n,os,hp,hs,rfl⟩;have hds':d'.size=lo.length:=by rw [hp.1,hds]
 have hback:d'=((d'.toList.map (·.1)).pmap (fun x hx=>(⟨x,hx⟩:Fo w blk)) (fun x hx=>by
   obtain⟨y,_,rfl⟩:=List.mem_map.1 hx;exact y.2)).toArray:=by
  apply Array.toList_inj.1;refine List.ext_getElem (by simp) fun i h1 h2=>?_;simp
 have hfl':(flatK ja 4 d').toList=C (d'.toList.map (·.1)):=by
  have:=wo (w:=w) (blk:=blk) (d'.toList.map (·.1)) (fun x hx=>by
   obtain⟨y,_,rfl⟩:=List.mem_map.1 hx;exact y.2)
  rw [←hback]at this;exact this
 refine⟨he,d'.toList.map (·.1),?_,?_,?_,?_⟩
 ·have h1:=hp.2.2;have e1:d'.extract 0 lo.length=d':=by rw [←hds'];simp
  have e2:d.extract 0 lo.length=d:=by rw [←hds];simp
  rw [e1,e2]at h1;have h2:=h1.map (·.1);have e3:d.toList.map (·.1)=lo:=by
   rw [hd];exact List.ext_getElem (by simp) fun i h1 h2=>by simp
  rw [e3]at h2;exact h2
 ·rw [List.pairwise_iff_getElem];intro i j hi hj hij;have hi':i<d'.size:=(by simpa using hi);have hj':j<d'.size:=(by simpa using hj);have h1:=hs i j (Nat.zero_le _) hij (by omega);rw [lt4,getElem!_pos d' i hi',getElem!_pos d' j hj']at h1;simpa using h1
 ·have hcl:(C (d'.toList.map (·.1))).length=lo.length*4:=(by rw [←hfl',Array.length_toList,size_flatK,hds']);refine⟨hcl,.inr ⟨blk,cap,putCells id 0 (flatK ja 4 d') cur,rfl,hB,?_,hnc,hcm,?_,?_⟩⟩
  ·unfold sortWorldK;rw [Go.Sort.heap_grow_old _ _ (by rw [Go.Sort.size_putRowK];exact hblk)];unfold putRowK putRow mapBlock;simp only [Array.getElem?_modify,if_true];show(w.heap[blk]?).map _=_;rw [hheap];rfl
  ·rw [←hcs];simp [putCells]
  ·rw [←hfl'];refine List.ext_getElem? fun j=>?_;by_cases hj:j<lo.length*4
   ·rw [List.getElem?_take,if_pos hj,Array.getElem?_toList,Array.getElem?_toList];unfold putCells;rw [Array.getElem?_mapIdx];have hjc:j<cur.size:=by rw [hcs];omega
    have hjf:j<(flatK ja 4 d').size:=by rw [size_flatK,hds'];exact hj
    rw [Array.getElem?_eq_getElem hjc,Array.getElem?_eq_getElem hjf];simp only [Option.map_some,Nat.zero_le,true_and,Nat.zero_add,Nat.sub_zero,id];rw [if_pos hjf,getElem!_pos _ j hjf]
   ·rw [List.getElem?_eq_none (by simp;omega),List.getElem?_eq_none (by rw [Array.length_toList,size_flatK,hds'];omega)]
 ·exact rv n d' os
end
end
abbrev Ab:Obj:=.cells #[.func (.func 144) #[] #[],.func (.func 145) #[] #[],.func (.func 146) #[] #[],.func (.func 147) #[] #[],.func (.func 148) #[] #[],.func (.func 151) #[] #[]] 147
theorem fM (w:World):
  Calls Tryz.prog 85 #[] w fun e w'=>e= .returned (.func (.func 190) #[] #[.pointer (some ⟨w.heap.size+1,0,none⟩)])∧w'=(w.alloc Ab).alloc (.cells #[.slice (some ⟨w.heap.size,0,none⟩) 6 6] 231):=by
 have hT:Hid (∀(v:Value) (W:World),(∃a n c,v= .slice a n c)→Calls Tryz.prog 143 #[v] W fun e w'=>e= .returned (.func (.func 190) #[] #[.pointer (some ⟨W.heap.size,0,none⟩)])∧w'=W.alloc (.cells #[v] 231)):=by
  rintro v W ⟨a,n,c,rfl⟩;go_enter Tryz.func143,Tryz.ntmps143;go_wp2_with fail
  go_ret;exact⟨rfl,rfl⟩
 go_enter Tryz.func85,Tryz.ntmps85;go_wp2_with fail
 refine(ag hT _ _ ⟨_,_,_,rfl⟩).mono ?_;rintro e w1 ⟨rfl,rfl⟩;go_wp2_with fail
 go_ret;exact⟨by simp,rfl⟩
theorem ny (w:World):Calls Tryz.prog 85 #[] w fun e w'=>∃g,e= .returned (.func (.func 190) #[] #[.pointer (some ⟨g,0,none⟩)])∧Below w.heap.size w w':=
 (fM w).mono fun e w' ⟨he,hw⟩=>⟨_,he,by rw [hw];exact((Below.refl _ _).alloc zr _).alloc (by simp) _⟩
theorem pK (w:World):Calls Tryz.prog 92 #[.slice none 0 0] w fun e w'=>e= .returned (.slice none 0 0)∧w'=w:=by
 go_enter Tryz.func92,Tryz.ntmps92;go_wp2;go_ret;exact⟨rfl,rfl⟩
theorem m7 (w:World):Calls Tryz.prog 89 #[.slice none 0 0] w fun e w'=>e= .returned (.slice none 0 0)∧w'=w:=by
 go_enter Tryz.func89,Tryz.ntmps89;go_wp2;go_ret;exact⟨rfl,rfl⟩
theorem nd (w:World):Calls Tryz.prog 90 #[.slice none 0 0] w fun e w'=>e= .returned (.slice none 0 0)∧w'=w:=by
 go_enter Tryz.func90,Tryz.ntmps90;go_wp2;go_ret;exact⟨rfl,rfl⟩
theorem mG (p:Option Addr) (n cap:Nat) (fv:Value) (w:World) (hn:n≤1):
  Calls Tryz.prog 206 #[.slice p n cap,.int .i64 0,.int .i64 n,fv] w fun e w'=>e= .returned (.tuple #[])∧w'=w:=by
 go_enter Tryz.func206,Tryz.ntmps206;go_wp2_with fail
 refine wp_loop_rounds 1 ?_;rw [rounds_succ];go_wp2_with fail
 go_end0;exact⟨rfl,rfl⟩
theorem pt (n:Nat) (w:World) (hn:n≤1):
  Calls Tryz.prog 58 #[.int .u64 n] w fun e w'=>(∃r:Int,e= .returned (.int .i64 r))∧w'=w:=by
 have hn':n=0∨n=1:=by omega
 have h64:Hid (∀W:World,Calls Tryz.prog 113 #[.int .u64 n] W fun e w'=>(∃r:Int,e= .returned (.int .i64 r))∧w'=W):=by
  intro W;rcases hn' with rfl | rfl
  ·go_enter Tryz.func113,Tryz.ntmps113;go_wp2;go_ret;exact⟨⟨_,rfl⟩,rfl⟩
  ·go_enter Tryz.func113,Tryz.ntmps113;go_wp2;go_ret;exact⟨⟨_,rfl⟩,rfl⟩
 rcases hn' with rfl | rfl
 all_goals
  go_enter Tryz.func58,Tryz.ntmps58;go_wp2_with fail
  refine(ag h64 _).mono ?_;rintro e w1 ⟨⟨r,rfl⟩,rfl⟩;go_wp2_with fail
  go_ret;exact⟨⟨_,rfl⟩,rfl⟩
theorem wk (p:Option Addr) (n cap:Nat) (lim:Int) (fv:Value) (w:World) (hn:n≤1):
  Calls Tryz.prog 192 #[.slice p n cap,.int .i64 0,.int .i64 n,.int .i64 lim,fv] w fun e w'=>e= .returned (.tuple #[])∧w'=w:=by
 go_enter Tryz.func192,Tryz.ntmps192;go_wp2_with fail
 refine wp_loop_rounds 1 ?_;rw [rounds_succ];go_wp2_with fail
 refine(mG _ _ _ _ _ hn).mono ?_;rintro e w1 ⟨rfl,rfl⟩;go_wp2_with fail
 (try simp only [Exit.inBlock,Exit.then]);refine bodyPost_ret (results_none rfl _ _ _) rfl ?_
 exact⟨rfl,rfl⟩
theorem nV (p:Option Addr) (n cap:Nat) (fv:Value) (w:World) (hn:n≤1):
  Calls Tryz.prog 154 #[.slice p n cap,fv] w fun e w'=>e= .returned (.tuple #[])∧w'=w:=by
 go_enter Tryz.func154,Tryz.ntmps154;go_wp2_with fail
 refine(pt n _ hn).mono ?_;rintro e w1 ⟨⟨r,rfl⟩,rfl⟩;go_wp2_with fail
 refine(wk _ _ _ _ _ _ hn).mono ?_;rintro e w1 ⟨rfl,rfl⟩;go_wp2_with fail
 go_end0;exact⟨rfl,rfl⟩
theorem AY:(Tryz.prog.info? 135).map (fun i=>(i.zero,i.size,i.bytes))=some (some (.agg #[.int .i64 0,.int .i64 0,.slice none 0 0,.slice none 0 0]),4,64):=by kernel_rfl
theorem tz (ad:Addr) (n cap:Nat) (news:List Value) (w:World) (hl:news.length=n*4) (hc:∀j u,news[j]? =some u→w.cell? (ad.add j)=some u) (h1:∀u∈news,u.oneCell'=true) (hm:n≤1000000000):
  Calls Tryz.prog 92 #[.slice (some ad) n cap] w fun e w'=>∃v,e= .returned v∧w'.ownsRow w.heap.size 135 4 v n news∧Below w.heap.size w w':=by
 obtain⟨i0,hi,hz0,hz1,hz2⟩:=info_parts AY;have HC:=aa hc;have H1:=aa h1;clear hc h1;go_enter Tryz.func92,Tryz.ntmps92;go_wp2_with (at_builtin;refine wpList_append_own _ rfl _ _ 43 rfl w.heap.size 135 i0 _ 4 64 Tryz.underlying43 hi hz0 hz1 hz2 rfl (by decide) _ _ _ rfl (World.ownsRow_nil w w.heap.size 135 4) ad n cap news rfl hl HC.out H1.out ?a1 ?a2 ?a3 ?_)
 case a1=>unfold maxLen;omega
 case a2=>omega
 case a3=>exact Nat.le_refl _
 intro v1 w1 ho1 hg1 _;have hb1:Below w.heap.size w w1:=(Below.refl _ w).grown hg1 (by simp) (aS (World.ownsRow_nil w w.heap.size 135 4));have ho1':w1.ownsRow w.heap.size 135 4 v1 n news:=by simpa using ho1
 clear ho1 hg1;go_wp2;go_ret;exact⟨v1,rfl,ho1',hb1⟩
theorem AD {w:World} {a:Option Addr} {n cap:Nat} {fs:List Fl} (h:FsAt w (.slice a n cap) fs):n=fs.length∧(a=none→cap=0)∧∃lo:List Fv,lo.map Fv.f=fs∧(∀x∈lo,Held w x)∧(lo.length=0∨∃b off,a=some ⟨b,off,none⟩∧lo.length≤cap∧∀j u,(C lo)[j]? =some u→w.cell? ((⟨b,off,none⟩:Addr).add j)=some u):=by
 obtain⟨a',cap',hv,hn,hL⟩:=h;simp only [Value.slice.injEq]at hv;obtain⟨rfl,rfl,rfl⟩:=hv;refine⟨rfl,hn,?_⟩;rcases hL with h0 |⟨b,off,rfl,hcap,hc⟩
 ·obtain rfl:=List.eq_nil_of_length_eq_zero h0;exact⟨[],rfl,fun x hx=>by simp at hx,.inl rfl⟩
 ·have key:∀k,k≤fs.length→∃lo:List Fv,lo.map Fv.f=fs.take k∧(∀x∈lo,Held w x)∧∀j u,(C lo)[j]? =some u→w.cell? ⟨b,off+j,none⟩=some u:=by
   intro k
   induction k with
   | zero=>exact fun _=>⟨[],by simp,fun x hx=>by simp at hx,fun j u h=>by simp [C]at h⟩
   | succ k ih=>
    intro hk;obtain⟨lo,h1,h2,h3⟩:=ih (by omega);obtain⟨f0,f1,mv,dv,f2,f3,hm,hd⟩:=hc k (by omega);have hll:lo.length=k:=by
     have:=congrArg List.length h1;simpa [Nat.min_eq_left (show k≤fs.length by omega)] using this
    have hcl:(C lo).length=k*4:=by
     rw [←hll];clear h1 h2 h3 hll
     induction lo with
     | nil=>rfl
     | cons x r ih=>simp [C]at ih⊢;omega
    refine⟨lo++ [⟨fs.getD k fl0,mv,dv⟩],?_,fun x hx=>?_,fun j u hj=>?_⟩
    ·rw [List.take_succ_eq_append_getElem (by omega),List.map_append,h1];simp [List.getD,List.getElem?_eq_getElem (show k<fs.length by omega)]
    ·simp only [List.mem_append,List.mem_singleton]at hx;rcases hx with hx | rfl
     ·exact h2 x hx
     ·exact⟨hm,hd⟩
    ·rw [im]at hj;by_cases hjl:j<k*4
     ·rw [List.getElem?_append_left (by omega)]at hj;exact h3 j u hj
     ·rw [List.getElem?_append_right (by omega),hcl]at hj;have hj4:j-k*4=0∨j-k*4=1∨j-k*4=2∨j-k*4=3:=by
       rcases Nat.lt_or_ge (j-k*4) 4 with h | h
       ·omega
       ·rw [List.getElem?_eq_none (by simpa [C] using h)]at hj;simp at hj
      rcases hj4 with e | e | e | e
      ·rw [e]at hj;simp [C]at hj;subst hj;rw [show off+j=off+k*4 by omega];exact f0
      ·rw [e]at hj;simp [C]at hj;subst hj;rw [show off+j=off+k*4+1 by omega];exact f1
      ·rw [e]at hj;simp [C]at hj;subst hj;rw [show off+j=off+k*4+2 by omega];exact f2
      ·rw [e]at hj;simp [C]at hj;subst hj;rw [show off+j=off+k*4+3 by omega];exact f3
  obtain⟨lo,h1,h2,h3⟩:=key fs.length zr;rw [List.take_length]at h1;have hll:lo.length=fs.length:=by rw [←h1];simp
  refine⟨lo,h1,h2,.inr ⟨b,off,rfl,by omega,fun j u hj=>?_⟩⟩;have e:(⟨b,off,none⟩:Addr).add j=⟨b,off+j,none⟩:=by by_cases h:j=0 <;>simp [Addr.add,h]
  rw [e];exact h3 j u hj
theorem uh (lo:List Fv):(C lo).length=lo.length*4:=by
 induction lo with
 | nil=>rfl
 | cons x r ih=>simp [C]at ih⊢;omega
theorem rg {w:World} {lo:List Fv} (h:∀x∈lo,Held w x):∀u∈C lo,u.oneCell'=true:=by
 intro u hu;simp only [C,List.mem_flatMap]at hu;obtain⟨x,hx,hu⟩:=hu;exact(h x hx).one u (by simpa [C] using hu)
theorem ld (v:Value) (fs:List Fl) (w:World) (hF:FsAt w v fs) (hl:fs.length≤2000000):
  Calls Tryz.prog 92 #[v] w fun e w'=>∃u lo,e= .returned u∧lo.map Fv.f=fs∧(∀x∈lo,Held w x)∧w'.ownsRow w.heap.size 135 4 u lo.length (C lo)∧Below w.heap.size w w':=by
 obtain⟨a,cap,rfl,_,_⟩:=id hF;obtain⟨_,hn,lo,h1,h2,h3⟩:=AD hF;have hll:lo.length=fs.length:=by rw [←h1];simp
 cases a with
 | none=>
  obtain rfl:=hn rfl;have h0:fs.length=0:=by
   rcases h3 with h |⟨_,_,h,_⟩
   ·omega
   ·simp at h
  have hlo:lo= []:=List.eq_nil_of_length_eq_zero (by omega);rw [h0];refine(pK w).mono ?_;rintro e w' ⟨rfl,rfl⟩;exact⟨_,lo,rfl,h1,h2,by rw [hlo];exact World.ownsRow_nil _ _ _ _,Below.refl _ _⟩
 | some ad=>
  have hnews:∀j u,(C lo)[j]? =some u→w.cell? (ad.add j)=some u:=by
   rcases h3 with h |⟨b,off,h4,_,h5⟩
   ·intro j u hj;rw [List.eq_nil_of_length_eq_zero h]at hj;simp [C]at hj
   ·cases h4;exact h5
  refine(tz ad fs.length cap (C lo) w (by rw [uh,hll]) hnews (rg h2) (by omega)).mono ?_;rintro e w' ⟨u,rfl,ho,hb⟩;exact⟨u,lo,rfl,h1,h2,by rw [hll];exact ho,hb⟩
theorem Held.away {w:World} {x:Fv} (h:Held w x) {blk:Nat} (hb:w.heap.size≤blk):(x.f.ms.length=0∨x.mv.ownBlock≠some blk)∧(x.f.ds.length=0∨x.dv.ownBlock≠some blk):=by
 obtain⟨⟨a,c,h1,_,h2⟩,⟨a',c',h3,_,h4⟩⟩:=h;constructor
 ·rcases h2 with h2 |⟨b,off,rfl,_,h2⟩
  ·exact .inl h2
  ·rcases Nat.eq_zero_or_pos x.f.ms.length with h0 | h0
   ·exact .inl h0
   ·have:=bw (h2 0 h0).1;exact .inr (by rw [h1];simp [Value.ownBlock];omega)
 ·rcases h4 with h4 |⟨b,off,rfl,_,h4⟩
  ·exact .inl h4
  ·rcases Nat.eq_zero_or_pos x.f.ds.length with h0 | h0
   ·exact .inl h0
   ·have:=bw (h4 0 h0).1;exact .inr (by rw [h3];simp [Value.ownBlock];omega)
theorem lg (v:Value) (fs:List Fl) (w:World) (hF:FsAt w v fs) (hl:fs.length≤2000000) (hs:∀f∈fs,f.ms.length≤2000000∧f.ds.length≤2000000):
  Calls Tryz.prog 87 #[v] w fun e w'=>∃u,e= .returned u∧∃lo:List Fv,(lo.map Fv.f).Perm fs∧(lo.Pairwise fun a b=>¬plc b.f a.f<0)∧(∀x∈lo,Held w x)∧w'.ownsRow w.heap.size 135 4 u lo.length (C lo)∧Below w.heap.size w w':=by
 have HF:=aa hF;obtain⟨a,cap,rfl,_,_⟩:=hF;go_enter Tryz.func87,Tryz.ntmps87;go_wp2_with fail
 refine(ld _ fs w HF.out hl).mono ?_;rintro e w1 ⟨u,lo,rfl,hlo,hh,ho1,hb1⟩;have HH:=aa hh;have HLO:=aa hlo;have HLL:Hid (lo.length≤2000000):=aa (by have:lo.length=fs.length:=(by rw [←hlo];simp);omega);clear hh hlo;by_cases h0:lo.length=0
 ·obtain⟨ua,uc,rfl⟩:∃a c,u= .slice a 0 c:=by
   obtain⟨_,⟨rfl,_⟩ |⟨g,cap,cur,rfl,_⟩⟩:=ho1
   ·exact⟨_,_,rfl⟩
   ·exact⟨_,_,by rw [h0]⟩
  have HO1:=aa ho1;clear ho1;go_wp2_with fail
  refine(ny _).mono ?_;rintro e w2 ⟨g,rfl,hb2⟩;go_wp2_with fail
  refine(nV _ 0 _ _ _ (by omega)).mono ?_;rintro e w3 ⟨rfl,rfl⟩;go_wp2_with fail
  go_ret;obtain rfl:=List.eq_nil_of_length_eq_zero h0;exact⟨_,rfl,[],by rw [HLO.out],List.Pairwise.nil,HH.out,ar HO1.out hb2,hb1.trans (hb2.mono hb1.size)⟩
 ·obtain⟨blk,uc,rfl,_⟩:=ho1.form (by omega);have HO1:=aa ho1;have hbl:=fV ho1;clear ho1;go_wp2_with fail
  refine(fM _).mono ?_;rintro e w2 ⟨rfl,hw2⟩;have hgr2:Below w1.heap.size w1 w2:=by rw [hw2];exact((Below.refl _ _).alloc zr _).alloc (by simp) _
  have HOA:Hid (OrdAt2 w2 (w1.heap.size+1) blk):=by
   rw [hw2];have e:w1.heap.size+1=(w1.alloc Ab).heap.size:=(by simp);refine aa ⟨by omega,w1.heap.size,by omega,?_,?_⟩
   ·rw [e];simp
   ·simp
  have hb12:=hb1.trans (hgr2.mono hb1.size);have HO2:=aa (ar HO1.out hgr2);have HFO:Hid (∀x∈lo,FoOk w2 blk x):=fun x hx=>by
   have hx1:=HH.out x hx;have hf:x.f∈fs:=by rw [←HLO.out];exact List.mem_map_of_mem hx
   obtain⟨a1,a2⟩:=hx1.away (show w.heap.size≤blk from hbl.1);exact⟨hx1.below hb12 zr,a1,a2,(hs x.f hf).1,(hs x.f hf).2⟩
  clear hw2 hgr2;go_wp2_with fail
  refine(pg w.heap.size uc (w1.heap.size+1) lo HO2.out HFO.out HOA.out HLL.out).mono ?_;rintro e w3 ⟨rfl,lo',hp,hsrt,ho3,hg3⟩;have HP:=aa hp;have HS:=aa hsrt;have HO3:=aa ho3;clear hp hsrt ho3;go_wp2_with fail
  go_ret;have hl':lo'.length=lo.length:=HP.out.length_eq;exact⟨_,rfl,lo',by rw [←HLO.out];exact HP.out.map _,HS.out,fun x hx=>HH.out x (HP.out.mem_iff.1 hx),by rw [hl'];exact HO3.out,hb12.grown hg3 hb12.size (fun k hk=>by cases hk;exact hbl.1)⟩
theorem xR {w:World} {g j:Nat} {v:Value} {cur:Array Value} {e:TypeId} (h:w.heap[g]? =some (.cells cur e (0,0))):(w.setCell ⟨g,j,none⟩ v).heap[g]? =some (.cells (cur.setIfInBounds j v) e (0,0)):=by
 rw [Go.Sort.setCell_eq];unfold Go.Sort.mapBlock;simp only [Array.getElem?_modify,if_true];rw [h];rfl
theorem gO {w:World} {B e size n cap g:Nat} {xs:List Value} (h:w.ownsRow B e size (.slice (some ⟨g,0,none⟩) n cap) n xs) (j:Nat) (v:Value):(w.setCell ⟨g,j,none⟩ v).ownsRow B e size (.slice (some ⟨g,0,none⟩) n cap) n (xs.set j v):=by
 obtain⟨hlen,⟨h,_⟩ |⟨g',cap',cur,hv,hB,hheap,hnc,hcm,hcs,htk⟩⟩:=h
 ·simp at h
 simp only [Value.slice.injEq,Option.some.injEq,Addr.mk.injEq]at hv;obtain⟨⟨rfl,_⟩,_,rfl⟩:=hv;refine⟨by simpa using hlen,.inr ⟨g,cap,_,rfl,hB,xR hheap,hnc,hcm,by simpa using hcs,?_⟩⟩;rw [←htk,Array.toList_setIfInBounds];refine List.ext_getElem? fun i=>?_;simp only [List.getElem?_take,List.getElem?_set,List.length_take];by_cases hi:i<n*size
 ·simp only [hi,if_true];by_cases hji:j=i
  ·subst hji;simp only [if_true];have:(j<min (n*size) cur.toList.length)↔j<cur.toList.length:=(by omega);simp only [this]
  ·simp [hji]
 ·simp only [hi,if_false];by_cases hji:j=i
  ·subst hji;simp;omega
  ·simp [hji]
theorem set_far {xs:List Value} {j:Nat} {v:Value} (h:xs.length≤j):xs.set j v=xs:=List.set_eq_of_length_le h
theorem l9 {w:World} {B e size n m cap g:Nat} {xs:List Value} (h:w.ownsRow B e size (.slice (some ⟨g,0,none⟩) n cap) n xs) (hm:m≤n):w.ownsRow B e size (.slice (some ⟨g,0,none⟩) m cap) m (xs.take (m*size)):=by
 obtain⟨hlen,⟨h,_⟩ |⟨g',cap',cur,hv,hB,hheap,hnc,hcm,hcs,htk⟩⟩:=h
 ·simp at h
 simp only [Value.slice.injEq,Option.some.injEq,Addr.mk.injEq]at hv;obtain⟨⟨rfl,_⟩,_,rfl⟩:=hv;have hmn:m*size≤n*size:=Nat.mul_le_mul_right _ hm;refine⟨by rw [List.length_take,hlen];omega,.inr ⟨g,cap,cur,rfl,hB,hheap,by omega,hcm,hcs,?_⟩⟩;rw [←htk,List.take_take,Nat.min_eq_left hmn]
theorem xG (l:List Fv) (m:Nat):(C l).take (m*4)=C (l.take m):=by
 induction l generalizing m with
 | nil=>simp [C]
 | cons x r ih=>
  cases m with
  | zero=>simp [C]
  | succ m=>
   have e:(m+1)*4=m*4+4:=(by omega);rw [e];simp only [List.take_succ_cons];have:=ih m;simp only [C,List.flatMap_cons]at this⊢;simp only [List.cons_append,List.nil_append,List.take_succ_cons];rw [this]
theorem AA:∀(l:List Fv) (i:Nat) (x:Fv),i<l.length→((((C l).set (i*4) (.int .i64 x.f.t)).set (i*4+1) (.int .i64 x.f.p)).set (i*4+2) x.mv).set (i*4+3) x.dv=C (l.set i x)
 | [],i,_,h=>by simp at h
 | y::r,0,x,_=>by simp [C]
 | y::r,i+1,x,h=>by
  have ih:=AA r i x (by simpa using h);have e:∀k,(i+1)*4+k=(i*4+k)+4:=fun k=>(by omega);have e0:(i+1)*4=(i*4)+4:=(by omega);simp only [C,List.flatMap_cons,List.set_cons_succ]at ih⊢;rw [e 1,e 2,e 3,e0];simp only [List.cons_append,List.nil_append,List.set_cons_succ];rw [ih]
theorem qm {w:World} {B cap g:Nat} {l:List Fv} (h:w.ownsRow B 135 4 (.slice (some ⟨g,0,none⟩) l.length cap) l.length (C l)) (i:Nat) (x:Fv) (hi:i<l.length):
  ((((w.setCell ⟨g,i*4,none⟩ (.int .i64 x.f.t)).setCell ⟨g,i*4+1,none⟩ (.int .i64 x.f.p)).setCell ⟨g,i*4+2,none⟩ x.mv).setCell ⟨g,i*4+3,none⟩ x.dv).ownsRow B 135 4 (.slice (some ⟨g,0,none⟩) (l.set i x).length cap) (l.set i x).length (C (l.set i x)):=by
 have:=gO (gO (gO (gO h (i*4) (.int .i64 x.f.t)) (i*4+1) (.int .i64 x.f.p)) (i*4+2) x.mv) (i*4+3) x.dv;rw [AA l i x hi]at this;simpa using this
theorem cE {w w':World} {g j:Nat} {v:Value} (h:w.grownBy w' (some g)):w.grownBy (w'.setCell ⟨g,j,none⟩ v) (some g):=
 ⟨h.os,h.tape,h.output,by simpa using h.size,fun k hk hne=>(Below.heap_setCell w' _ _ k (fun e=>hne (by rw [e]))).trans (h.block k hk hne)⟩
theorem ju (w:World) (row:Option Nat):w.grownBy w row:=⟨rfl,rfl,rfl,Nat.le_refl _,fun _ _ _=>rfl⟩
theorem ic {a b c:World} {g:Nat} (h:a.grownBy b (some g)) (k:b.grownBy c (some g)):a.grownBy c (some g):=
 ⟨k.os.trans h.os,k.tape.trans h.tape,k.output.trans h.output,Nat.le_trans h.size k.size,fun i hi hne=>(k.block i (Nat.lt_of_lt_of_le hi h.size) hne).trans (h.block i hi hne)⟩
theorem Below.grown1 {w w':World} {row:Option Nat} (h:Below w.heap.size w w'):w.grownBy w' row:=⟨h.os,h.tape,h.output,h.size,fun k hk _=>h.block k hk⟩
def EqAt (w:World) (ob g:Nat):Prop:=w.cell? ⟨ob,0,none⟩=some (.func (.func 190) #[] #[.pointer (some ⟨g,0,none⟩)])∧OrdAt w g
theorem EqAt.below {w w':World} {ob g:Nat} (h:EqAt w ob g) (hb:Below w.heap.size w w'):EqAt w' ob g:=⟨ae h.1 hb zr,h.2.below hb⟩
theorem xF (x y:Fv) (ob g:Nat) (w:World) (hE:EqAt w ob g) (hx:Held w x) (hy:Held w y) (l1:x.f.ms.length≤2000000) (l2:x.f.ds.length≤2000000) (l3:y.f.ms.length≤2000000) (l4:y.f.ds.length≤2000000):
  Calls Tryz.prog 88 #[.agg #[.int .i64 x.f.t,.int .i64 x.f.p,x.mv,x.dv],.agg #[.int .i64 y.f.t,.int .i64 y.f.p,y.mv,y.dv],.pointer (some ⟨ob,0,none⟩)] w fun e w'=>e= .returned (.bool (plc x.f y.f==0))∧Grw w w':=by
 have HX:=aa hx;have HY:=aa hy;have HE:=aa hE;have he0:=hE.1;have hobl:=bw he0;obtain⟨⟨xa,xc,e1,_⟩,⟨xb,xe,e2,_⟩⟩:=hx;obtain⟨⟨ya,yc,e3,_⟩,⟨yb,ye,e4,_⟩⟩:=hy;obtain⟨xf,xm,xd⟩:=x;obtain⟨yf,ym,yd⟩:=y;simp only at e1 e2 e3 e4 l1 l2 l3 l4;subst e1 e2 e3 e4;have hA:Grw w ((w.alloc (.cells #[.int .i64 xf.t,.int .i64 xf.p,.slice xa xf.ms.length xc,.slice xb xf.ds.length xe] 135)).alloc (.cells #[.int .i64 yf.t,.int .i64 yf.p,.slice ya yf.ms.length yc,.slice yb yf.ds.length ye] 135)):=((Grw.refl w).alloc _).alloc _;have HC:Hid (∀W:World,Below w.heap.size w W→Calls Tryz.prog 190 #[.agg #[.int .i64 xf.t,.int .i64 xf.p,.slice xa xf.ms.length xc,.slice xb xf.ds.length xe],.agg #[.int .i64 yf.t,.int .i64 yf.p,.slice ya yf.ms.length yc,.slice yb yf.ds.length ye],.pointer (some ⟨g,0,none⟩)] W fun e w'=>e= .returned (.int .i64 (plc xf yf))∧Grw W w'):=fun W hW=>by
  rw [←nv];exact kA xf yf xa ya xb yb xc yc xe ye g W (HE.out.2.below hW) (HX.out.1.below hW zr) (HX.out.2.below hW zr) (HY.out.1.below hW zr) (HY.out.2.below hW zr) l1 l2 l3 l4
 clear HX HY HE hE;simp only;generalize plc xf yf=R at*;go_enter Tryz.func88,Tryz.ntmps88;go_wp2_with fail
 refine(ag HC _ hA.below).mono ?_;rintro e w1 ⟨rfl,hg1⟩;have hg:=hA.trans hg1;go_wp2_with fail
 go_ret;exact⟨rfl,hg⟩
def ca (lo:List Fv):Nat→List Fv
 | 0=>[]
 | j+1=>if j≠0∧plc (lo.getD j fv0).f (lo.getD (j-1) fv0).f=0 then ca lo j else ca lo j++ [lo.getD j fv0]
theorem uK (lo:List Fv):∀j,(ca lo j).length≤j
 | 0=>by simp [ca]
 | j+1=>by
  have:=uK lo j;unfold ca;split
  ·omega
  ·simp;omega
theorem ko (lo:List Fv):∀j,j≤lo.length→(∀i,1≤i→i<j→plc (lo.getD i fv0).f (lo.getD (i-1) fv0).f≠0)→ca lo j=lo.take j
 | 0,_,_=>by simp [ca]
 | j+1,hj,h=>by
  rw [ca,if_neg (fun hc=>h j (by omega) (by omega) hc.2),ko lo j (by omega) (fun i h1 h2=>h i h1 (by omega)),List.take_succ_eq_append_getElem (by omega)];simp [List.getD,List.getElem?_eq_getElem (show j<lo.length by omega)]
theorem rL (lo:List Fv):∀j,j≤lo.length→∀x∈ca lo j,x∈lo.take j
 | 0,_,x,hx=>by simp [ca]at hx
 | j+1,hj,x,hx=>by
  have ih:=rL lo j (by omega) x;have ht:lo.take (j+1)=lo.take j++ [lo.getD j fv0]:=by
   rw [List.take_succ_eq_append_getElem (by omega)];simp [List.getD,List.getElem?_eq_getElem (show j<lo.length by omega)]
  rw [ht,List.mem_append];rw [ca]at hx;split at hx
  ·exact .inl (ih hx)
  ·rw [List.mem_append]at hx;rcases hx with hx | hx
   ·exact .inl (ih hx)
   ·exact .inr hx
theorem rS (lo:List Fv) (hs:lo.Pairwise fun a b=>¬plc b.f a.f<0):∀j,j≤lo.length→Srt ((ca lo j).map Fv.f)∧(∀f,f∈(ca lo j).map Fv.f↔f∈(lo.take j).map Fv.f)∧(1≤j→∃r,ca lo j=r++ [(ca lo j).getLast?.getD fv0]∧((ca lo j).getLast?.getD fv0).f=(lo.getD (j-1) fv0).f)
 | 0,_=>⟨List.Pairwise.nil,fun f=>by simp [ca],fun h=>absurd h (by omega)⟩
 | j+1,hj=>by
  obtain⟨h1,h2,h3⟩:=rS lo hs j (by omega);have ht:lo.take (j+1)=lo.take j++ [lo.getD j fv0]:=by
   rw [List.take_succ_eq_append_getElem (by omega)];simp [List.getD,List.getElem?_eq_getElem (show j<lo.length by omega)]
  rw [ca];by_cases hc:j≠0∧plc (lo.getD j fv0).f (lo.getD (j-1) fv0).f=0
  ·rw [if_pos hc];have hfe:=eC hc.2;obtain⟨r,h4,h5⟩:=h3 (by omega);refine⟨h1,fun f=>?_,fun _=>⟨r,h4,by rw [h5, ←hfe];rfl⟩⟩;rw [h2,ht,List.map_append,List.mem_append];constructor
   ·exact .inl
   ·rintro(h | h)
    ·exact h
    ·simp only [List.map_cons,List.map_nil,List.mem_singleton]at h;rw [h,hfe];have hj1:j-1<(lo.take j).length:=by simp;omega
     have:lo.getD (j-1) fv0∈lo.take j:=by
      have e:lo.getD (j-1) fv0=(lo.take j)[j-1]:=by
       rw [List.getElem_take];simp [List.getD,List.getElem?_eq_getElem (show j-1<lo.length by omega)]
      rw [e];exact List.getElem_mem _
     exact List.mem_map_of_mem this
  ·rw [if_neg hc];refine⟨?_,fun f=>?_,fun _=>⟨ca lo j,by simp,by simp⟩⟩
   ·rw [List.map_append];refine List.pairwise_append.2 ⟨h1,by simp,fun a ha b hb=>?_⟩;simp only [List.map_cons,List.map_nil,List.mem_singleton]at hb;subst hb;rw [h2]at ha;obtain⟨x,hx,rfl⟩:=List.mem_map.1 ha;obtain⟨i,hi,rfl⟩:=List.getElem_of_mem hx;have hi':i<j:=by simp at hi;omega
    rw [List.getElem_take];have hp:∀p q,p<q→q<lo.length→¬plc (lo.getD q fv0).f (lo.getD p fv0).f<0:=fun p q hpq hq=>by
     have:=List.pairwise_iff_getElem.1 hs p q (by omega) hq hpq;simpa [List.getD,List.getElem?_eq_getElem hq,List.getElem?_eq_getElem (show p<lo.length by omega)] using this
    have e:lo[i]=lo.getD i fv0:=(by simp [List.getD,List.getElem?_eq_getElem (show i<lo.length by omega)]);rw [e];have a1:=hp i j hi' (by omega);have a1':¬0<plc (lo.getD i fv0).f (lo.getD j fv0).f:=fun h=>a1 ((fB _ _).2 h);by_cases hz:plc (lo.getD i fv0).f (lo.getD j fv0).f=0
    ·exfalso;have hfe:=eC hz;rcases Nat.lt_or_ge i (j-1)with hij | hij
     ·have b1:=hp i (j-1) hij (by omega);have b2:=hp (j-1) j (by omega) (by omega);rw [←hfe]at b2;have b2':¬0<plc (lo.getD (j-1) fv0).f (lo.getD i fv0).f:=fun h=>b2 ((fB _ _).2 h);have b3:plc (lo.getD (j-1) fv0).f (lo.getD i fv0).f=0:=(by omega);have b4:=eC b3;refine hc ⟨by omega,?_⟩;rw [b4,hfe];exact dV _
     ·have hij':i=j-1:=(by omega);subst hij';refine hc ⟨by omega,?_⟩;rw [←hfe];exact dV _
    ·omega
   ·rw [List.map_append,List.mem_append,h2,ht,List.map_append,List.mem_append]
def EqAt2 (w:World) (ob g blk:Nat):Prop:=ob≠blk∧w.cell? ⟨ob,0,none⟩=some (.func (.func 190) #[] #[.pointer (some ⟨g,0,none⟩)])∧OrdAt2 w g blk
theorem EqAt2.kept {w w':World} {ob g blk:Nat} (h:EqAt2 w ob g blk) (hg:w.grownBy w' (some blk)):EqAt w' ob g:=⟨hg.cell h.2.1 (by simpa using h.1),h.2.2.kept hg⟩
theorem cU {w:World} {B blk cap:Nat} {l:List Fv} (h:w.ownsRow B 135 4 (.slice (some ⟨blk,0,none⟩) l.length cap) l.length (C l)) {i:Nat} (hi:i<l.length):
  w.cell? ⟨blk,i*4,none⟩=some (.int .i64 (l.getD i fv0).f.t)∧w.cell? ⟨blk,i*4+1,none⟩=some (.int .i64 (l.getD i fv0).f.p)∧w.cell? ⟨blk,i*4+2,none⟩=some (l.getD i fv0).mv∧w.cell? ⟨blk,i*4+3,none⟩=some (l.getD i fv0).dv:=by
 obtain⟨c0,c1,c2,c3⟩:=zd l i hi;exact⟨(h.cellAt _ (by omega)).trans c0,(h.cellAt _ (by omega)).trans c1,(h.cellAt _ (by omega)).trans c2,(h.cellAt _ (by omega)).trans c3⟩
theorem dP {l:List Fv} {i:Nat} (hi:i<l.length):l.getD i fv0∈l:=by
 rw [List.getD_eq_getElem?_getD,List.getElem?_eq_getElem hi];exact List.getElem_mem hi
theorem gM {B e size n cap g:Nat} {xs:List Value}:∀(vs:List Value) (o:Nat) (w:World),w.ownsRow B e size (.slice (some ⟨g,0,none⟩) n cap) n xs→n*size≤o→(w.setCells g o vs).ownsRow B e size (.slice (some ⟨g,0,none⟩) n cap) n xs
 | [],_,_,h,_=>h
 | v::r,o,w,h,ho=>by
  have h1:=gO h o v;rw [set_far (by rw [h.1];exact ho)]at h1;exact gM r (o+1) _ h1 (by omega)
theorem fF {g:Nat} {w:World}:∀(vs:List Value) (o:Nat) (w':World),w.grownBy w' (some g)→w.grownBy (w'.setCells g o vs) (some g)
 | [],_,_,h=>h
 | v::r,o,w',h=>fF r (o+1) _ (cE h)
theorem kZ (w:World) (b o n c:Nat) (hn:0<n) (hc:∀j,j<n*4→(w.cell? ⟨b,o+j,none⟩).isSome=true) (hf:∀j,j<n*4→w.frozen? ⟨b,o+j,none⟩=false):
  ∃vs,∀ty,(Builtin.clear_ #[43] ty #[.slice (some ⟨b,o,none⟩) n c]).run Tryz.prog w= .ok (.tuple #[]) (w.setCells b o vs):=by
 have hv:∀w,(zeroValue 135).run Tryz.prog w= .ok (.agg #[.int .i64 0,.int .i64 0,.slice none 0 0,.slice none 0 0]) w:=fun w=>by kernel_rfl
 refine⟨(Builtin.zeroCells #[.int .i64 0,.int .i64 0,.slice none 0 0,.slice none 0 0] n).toList,fun ty=>?_⟩;have hlen:(Builtin.zeroCells #[Value.int .i64 0,.int .i64 0,.slice none 0 0,.slice none 0 0] n).toList.length=n*4:=by simp [Builtin.zeroCells]
 have hone:∀v∈(Builtin.zeroCells #[Value.int .i64 0,.int .i64 0,.slice none 0 0,.slice none 0 0] n).toList,v.oneCell'=true:=by
  intro v hv;obtain⟨i,hi,rfl⟩:=List.getElem_of_mem hv;simp only [Builtin.zeroCells,Array.getElem_toList];simp;have hm:i%4=0∨i%4=1∨i%4=2∨i%4=3:=(by omega);rcases hm with e | e | e | e <;>simp [e] <;>rfl
 have hst:=run_storeCells_cells (P:=Tryz.prog) b o (Builtin.zeroCells #[.int .i64 0,.int .i64 0,.slice none 0 0,.slice none 0 0] n).toList 0 w (by rw [hlen];simpa using hc) (by rw [hlen];simpa using hf) hone;simp only [Nat.add_zero]at hst;obtain⟨m,rfl⟩:∃m,n=m+1:=⟨n-1,by omega⟩;simp [Builtin.clear_,run_underlying Tryz.underlying43,hv,hst,Value.cells]
theorem Aw (n:Int) (h0:0≤n) (h1:n≤4000000):IntKind.i64.wrap n=n:=by
 simp [IntKind.wrap,IntKind.bits,IntKind.signed];split <;>omega
theorem rj (lo:List Fv) (B blk cap ob g:Nat) (w:World) (hown:w.ownsRow B 135 4 (.slice (some ⟨blk,0,none⟩) lo.length cap) lo.length (C lo)) (hE:EqAt2 w ob g blk) (hok:∀x∈lo,FoOk w blk x) (h1:1≤lo.length) (hl:lo.length≤2000000):
  Calls Tryz.prog 86 #[.slice (some ⟨blk,0,none⟩) lo.length cap,.func (.func 88) #[] #[.pointer (some ⟨ob,0,none⟩)]] w fun e w'=>e= .returned (.slice (some ⟨blk,0,none⟩) (ca lo lo.length).length cap)∧w'.ownsRow B 135 4 (.slice (some ⟨blk,0,none⟩) (ca lo lo.length).length cap) (ca lo lo.length).length (C (ca lo lo.length))∧w.grownBy w' (some blk):=by
 have HO:=aa hown;have HE:=aa hE;have HK:=aa hok;have hcap:lo.length≤cap:=by
  obtain⟨_,⟨h,_⟩ |⟨g',cap',cur,hv,_,_,hnc,_⟩⟩:=hown
  ·simp at h
  ·simp only [Value.slice.injEq]at hv;omega
 clear hown hE hok;have HC:Hid (∀(W:World) (x y:Fv),w.grownBy W (some blk)→x∈lo→y∈lo→Calls Tryz.prog 88 #[.agg #[.int .i64 x.f.t,.int .i64 x.f.p,x.mv,x.dv],.agg #[.int .i64 y.f.t,.int .i64 y.f.p,y.mv,y.dv],.pointer (some ⟨ob,0,none⟩)] W fun e w'=>e= .returned (.bool (plc x.f y.f==0))∧Grw W w'):=fun W x y hW hx hy=>
  xF x y ob g W (HE.out.kept hW) ((HK.out x hx).kept hW) ((HK.out y hy).kept hW) (HK.out x hx).2.2.2.1 (HK.out x hx).2.2.2.2 (HK.out y hy).2.2.2.1 (HK.out y hy).2.2.2.2
 by_cases h2:lo.length<2
 ·have hdd:ca lo lo.length=lo:=by
   rw [ko lo lo.length zr (fun i a b=>by omega),List.take_length]
  rw [hdd];clear HC HE HK;go_enter Tryz.func86,Tryz.ntmps86;go_wp2_with fail
  go_ret;exact⟨rfl,HO.out,ju _ _⟩
 ·go_enter Tryz.func86,Tryz.ntmps86;go_wp2_with fail
  have hblkw:=(fV HO.out).2;go_loopw [5] (fun i wr=>∃k:Nat,1≤k∧k≤lo.length∧i= .int .i64 k∧Hid (∀j,1≤j→j<k→plc (lo.getD j fv0).f (lo.getD (j-1) fv0).f≠0)∧Grw w wr) (fun i _=>lo.length-(intOf i).toNat)
  case atStart=>exact⟨1,by omega,by omega,rfl,aa (fun j a b=>by omega),Grw.refl _⟩
  case round=>
   obtain⟨k,hk1,hk,rfl,HALL,hgr⟩:=hrel;have hbel:=hgr.below;have hgb:w.grownBy wr (some blk):=Below.grown1 hbel;have HOr:=aa (ar HO.out hbel);have hblkr:=Nat.lt_of_lt_of_le hblkw hbel.size;by_cases hlt:k<lo.length
   ·obtain⟨k',hkk⟩:∃k',k=k'+1:=⟨k-1,by omega⟩;have hkm:k-1=k':=(by omega);have hk'l:k'<lo.length:=(by omega);obtain⟨a0,a1,a2,a3⟩:=cU HOr.out hlt;obtain⟨b0,b1,b2,b3⟩:=cU HOr.out hk'l;have hX:=dP hlt;have hY:=dP hk'l;have HXo:=aa (HK.out _ hX);have HYo:=aa (HK.out _ hY);have HST:Hid (∀W:World,w.grownBy W (some blk)→Calls Tryz.prog 88 #[.agg #[.int .i64 (lo.getD k fv0).f.t,.int .i64 (lo.getD k fv0).f.p,(lo.getD k fv0).mv,(lo.getD k fv0).dv],.agg #[.int .i64 (lo.getD k' fv0).f.t,.int .i64 (lo.getD k' fv0).f.p,(lo.getD k' fv0).mv,(lo.getD k' fv0).dv],.pointer (some ⟨ob,0,none⟩)] W fun e w'=>e= .returned (.bool (plc (lo.getD k fv0).f (lo.getD k' fv0).f==0))∧Grw W w'):=fun W hW=>HC.out W _ _ hW hX hY;have HNX:Hid (plc (lo.getD k fv0).f (lo.getD k' fv0).f≠0→∀j,1≤j→j<k+1→plc (lo.getD j fv0).f (lo.getD (j-1) fv0).f≠0):=fun h j h1 h2=>by
     by_cases e:j=k
     ·subst e;rw [hkm];exact h
     ·exact HALL.out j h1 (by omega)
    have HDD:Hid (ca lo k=lo.take k):=ko lo k hk HALL.out;have HD2:Hid (plc (lo.getD k fv0).f (lo.getD k' fv0).f=0→ca lo (k+1)=lo.take k):=fun h=>by
     rw [ca,if_pos ⟨by omega,by rw [hkm];exact h⟩];exact HDD.out
    generalize plc (lo.getD k fv0).f (lo.getD k' fv0).f=R at*;obtain⟨⟨xa,xc,e1,_⟩,⟨xb,xe,e2,_⟩⟩:=HXo.out.1;obtain⟨⟨ya,yc,e3,_⟩,⟨yb,ye,e4,_⟩⟩:=HYo.out.1;rw [e1]at a2 HST;rw [e2]at a3 HST;rw [e3]at b2 HST;rw [e4]at b3 HST;clear e1 e2 e3 e4 HXo HYo hX hY;generalize (lo.getD k fv0).f.t=xt at*;generalize (lo.getD k fv0).f.p=xp at*;generalize (lo.getD k fv0).f.ms.length=xml at*;generalize (lo.getD k fv0).f.ds.length=xdl at*;generalize (lo.getD k' fv0).f.t=yt at*;generalize (lo.getD k' fv0).f.p=yp at*;generalize (lo.getD k' fv0).f.ms.length=yml at*;generalize (lo.getD k' fv0).f.ds.length=ydl at*;have hwr:IntKind.i64.wrap ((k:Int)-1)=(k':Int):=by rw [show(k:Int)-1=(k':Int) by omega];exact Aw _ (by omega) (by omega)
    have q1:(0:Int)≤(k:Int):=(by omega);have q2:(k:Int)<(lo.length:Int):=(by omega);have q3:(0:Int)≤(k':Int):=(by omega);have q4:(k':Int)<(lo.length:Int):=(by omega);have HKK:=aa hkk;clear hkk hkm;have hgd:w.grownBy wr.drew (some blk):=⟨hgb.os,hgb.tape,hgb.output,hgb.size,hgb.block⟩;go_wp2_with fail
    go_region_held3 (fun w'=>w'.cell? ⟨blk,k*4,none⟩=some (.int .i64 xt)∧w'.cell? ⟨blk,k*4+1,none⟩=some (.int .i64 xp)∧w'.cell? ⟨blk,k*4+2,none⟩=some (.slice xa xml xc)∧w'.cell? ⟨blk,k*4+3,none⟩=some (.slice xb xdl xe)∧w'.cell? ⟨blk,k'*4,none⟩=some (.int .i64 yt)∧w'.cell? ⟨blk,k'*4+1,none⟩=some (.int .i64 yp)∧w'.cell? ⟨blk,k'*4+2,none⟩=some (.slice ya yml yc)∧w'.cell? ⟨blk,k'*4+3,none⟩=some (.slice yb ydl ye)) (go_keep)
     (first |(go_at_call 88;refine(ag HST _ hgd).mono ?_;rintro e w1 ⟨rfl,hg1⟩;have hb1:=((Grw.refl wr).drew.trans hg1).below;have z0:=ae a0 hb1 zr;have z1:=ae a1 hb1 zr;have z2:=ae a2 hb1 zr;have z3:=ae a3 hb1 zr;have z4:=ae b0 hb1 zr;have z5:=ae b1 hb1 zr;have z6:=ae b2 hb1 zr;have z7:=ae b3 hb1 zr))
    have hgw:Grw w w1:=hgr.drew.trans hg1;have hgw1:w.grownBy w1 (some blk):=Below.grown1 hgw.below;have HO1:=aa (ar HO.out hgw.below);clear z0 z1 z2 z3 z4 z5 z6 z7 a0 a1 a2 a3 b0 b1 b2 b3 hb1 hg1 hgd HST;by_cases hR:R=0
    ·have HD3:=aa (HD2.out hR);subst hR;rw [show((0:Int)==0)=true from rfl];clear HNX HD2 HALL hgr hbel hgb HOr;have hkc:(k:Int)≤(cap:Int):=(by omega);have hkle:(k:Int)≤(lo.length:Int):=(by omega);go_wp2_with fail
     generalize wr.heap.size=zz at*
     rename World=>W0
     go_loopw [5,7] (fun p j wq=>∃(jj pp:Nat) (r:List Fv),p= .int .i64 pp∧j= .int .i64 jj∧1≤jj∧k+jj≤lo.length∧pp+1≤k+jj∧Hid (r.length=lo.length∧r.take pp=ca lo (k+jj)∧pp=(ca lo (k+jj)).length∧∀i,k+jj≤i+1→r.getD i fv0=lo.getD i fv0)∧Hid (wq.ownsRow B 135 4 (.slice (some ⟨blk,0,none⟩) r.length cap) r.length (C r))∧Hid (w.grownBy wq (some blk))) (fun _ j _=>lo.length-k-(intOf j).toNat)
     case atStart=>exact⟨1,k,lo,rfl,rfl,by omega,by omega,by omega,aa ⟨rfl,HD3.out.symm,by rw [HD3.out];simp;omega,fun i _=>rfl⟩,HO1,aa hgw1⟩
     case round=>
      clear HO1 hgw1 hgw;obtain⟨jj,pp,r,rfl,rfl,hj1,hjl,hpp,HI,HOq,HGq⟩:=hrel;have hblkq:=(fV HOq.out).2;by_cases hlt2:k+jj<lo.length
      ·obtain⟨jp,hjp⟩:∃jp,jj=jp+1:=⟨jj-1,by omega⟩;obtain⟨hrl,hrt,hrp,hrd⟩:=HI.out;have hxl:k+jj<r.length:=(by omega);have hyl:k+jp<r.length:=(by omega);obtain⟨a0,a1,a2,a3⟩:=cU HOq.out hxl;obtain⟨b0,b1,b2,b3⟩:=cU HOq.out hyl;rw [hrd (k+jj) (by omega)]at a0 a1 a2 a3;rw [hrd (k+jp) (by omega)]at b0 b1 b2 b3;have ex:(k+jj)*4=k*4+jj*4:=(by omega);have ey:(k+jp)*4=k*4+jp*4:=(by omega);rw [ex]at a0 a1 a2 a3;rw [ey]at b0 b1 b2 b3;have hX:=dP hlt2;have hY:=dP (show k+jp<lo.length by omega);have HXo:=aa (HK.out _ hX);have HYo:=aa (HK.out _ hY);have HST:Hid (∀W:World,w.grownBy W (some blk)→Calls Tryz.prog 88 #[.agg #[.int .i64 (lo.getD (k+jj) fv0).f.t,.int .i64 (lo.getD (k+jj) fv0).f.p,(lo.getD (k+jj) fv0).mv,(lo.getD (k+jj) fv0).dv],.agg #[.int .i64 (lo.getD (k+jp) fv0).f.t,.int .i64 (lo.getD (k+jp) fv0).f.p,(lo.getD (k+jp) fv0).mv,(lo.getD (k+jp) fv0).dv],.pointer (some ⟨ob,0,none⟩)] W fun e w'=>e= .returned (.bool (plc (lo.getD (k+jj) fv0).f (lo.getD (k+jp) fv0).f==0))∧Grw W w'):=fun W hW=>HC.out W _ _ hW hX hY;have HDN:Hid (ca lo (k+(jj+1))=if plc (lo.getD (k+jj) fv0).f (lo.getD (k+jp) fv0).f=0 then ca lo (k+jj)else ca lo (k+jj)++ [lo.getD (k+jj) fv0]):=by
        show _=_;have e:k+(jj+1)=(k+jj)+1:=(by omega);have e':k+jj-1=k+jp:=(by omega);rw [e,ca,e'];by_cases hc:plc (lo.getD (k+jj) fv0).f (lo.getD (k+jp) fv0).f=0
        ·rw [if_pos ⟨by omega,hc⟩,if_pos hc]
        ·rw [if_neg (fun h=>hc h.2),if_neg hc]
       have HIR:Hid (r.length=lo.length∧r.take pp=ca lo (k+jj)∧pp=(ca lo (k+jj)).length∧∀i,k+jj≤i+1→r.getD i fv0=lo.getD i fv0):=HI;obtain⟨x,hxd⟩:∃x,x=lo.getD (k+jj) fv0:=⟨_,rfl⟩;rw [←hxd]at HST HDN a0 a1 a2 a3 HXo;have HXD:=aa hxd;clear hxd hX hY hrt hrp hrd HI;generalize plc x.f (lo.getD (k+jp) fv0).f=R at*;obtain⟨⟨xa',xc',e1,_⟩,⟨xb',xe',e2,_⟩⟩:=HXo.out.1;obtain⟨⟨ya',yc',e3,_⟩,⟨yb',ye',e4,_⟩⟩:=HYo.out.1;rw [e1]at a2 HST;rw [e2]at a3 HST;rw [e3]at b2 HST;rw [e4]at b3 HST;have HE1:=aa e1;have HE2:=aa e2;clear e1 e2 e3 e4 HXo HYo;generalize (lo.getD (k+jp) fv0).f.t=yt' at*;generalize (lo.getD (k+jp) fv0).f.p=yp' at*;generalize (lo.getD (k+jp) fv0).f.ms.length=yml' at*;generalize (lo.getD (k+jp) fv0).f.ds.length=ydl' at*;obtain⟨xt',hxt⟩:∃z,z=x.f.t:=⟨_,rfl⟩;obtain⟨xp',hxp⟩:∃z,z=x.f.p:=⟨_,rfl⟩;obtain⟨xml',hxml⟩:∃z,z=x.f.ms.length:=⟨_,rfl⟩;obtain⟨xdl',hxdl⟩:∃z,z=x.f.ds.length:=⟨_,rfl⟩;rw [←hxt]at a0 HST;rw [←hxp]at a1 HST;rw [←hxml]at a2 HST HE1;rw [←hxdl]at a3 HST HE2;have HX4:Hid (xt'=x.f.t∧xp'=x.f.p):=⟨hxt,hxp⟩;clear hxt hxp hxml hxdl;have hwj:IntKind.i64.wrap ((jj:Int)-1)=(jp:Int):=by rw [show(jj:Int)-1=(jp:Int) by omega];exact Aw _ (by omega) (by omega)
       have p1:(0:Int)≤(jj:Int):=(by omega);have p2:(jj:Int)<((lo.length-k:Nat):Int):=(by omega);have p3:(0:Int)≤(jp:Int):=(by omega);have p4:(jp:Int)<((lo.length-k:Nat):Int):=(by omega);have HJP:=aa hjp;clear hjp ex ey;have hgd:w.grownBy wr.drew (some blk):=⟨HGq.out.os,HGq.out.tape,HGq.out.output,HGq.out.size,HGq.out.block⟩;have HGD:=aa hgd;clear hgd;go_wp2_with fail
       go_region_held3 (fun w'=>w'.cell? ⟨blk,k*4+jj*4,none⟩=some (.int .i64 xt')∧w'.cell? ⟨blk,k*4+jj*4+1,none⟩=some (.int .i64 xp')∧w'.cell? ⟨blk,k*4+jj*4+2,none⟩=some (.slice xa' xml' xc')∧w'.cell? ⟨blk,k*4+jj*4+3,none⟩=some (.slice xb' xdl' xe')∧w'.cell? ⟨blk,k*4+jp*4,none⟩=some (.int .i64 yt')∧w'.cell? ⟨blk,k*4+jp*4+1,none⟩=some (.int .i64 yp')∧w'.cell? ⟨blk,k*4+jp*4+2,none⟩=some (.slice ya' yml' yc')∧w'.cell? ⟨blk,k*4+jp*4+3,none⟩=some (.slice yb' ydl' ye')) (go_keep)
        (first |(go_at_call 88;refine(ag HST _ (ag HGD)).mono ?_;rintro e w1 ⟨rfl,hg1⟩;have hb1:=((Grw.refl wr).drew.trans hg1).below;have z0:=ae a0 hb1 zr;have z1:=ae a1 hb1 zr;have z2:=ae a2 hb1 zr;have z3:=ae a3 hb1 zr;have z4:=ae b0 hb1 zr;have z5:=ae b1 hb1 zr;have z6:=ae b2 hb1 zr;have z7:=ae b3 hb1 zr))
       have HO1:=aa (ar HOq.out hb1);have HG1:=aa (ic HGq.out (Below.grown1 hb1));clear a0 a1 a2 a3 b0 b1 b2 b3 z4 z5 z6 z7 hg1 HST HOq HGq HGD;by_cases hR:R=0
       ·rw [if_pos hR]at HDN;have HN:Hid (r.length=lo.length∧r.take pp=ca lo (k+(jj+1))∧pp=(ca lo (k+(jj+1))).length∧∀i,k+(jj+1)≤i+1→r.getD i fv0=lo.getD i fv0):=by
         obtain⟨n1,n2,n3,n4⟩:=HIR.out;rw [HDN.out];exact aa ⟨n1,n2,n3,fun i hi=>n4 i (by omega)⟩
        clear HDN HIR;subst hR;rw [show((0:Int)==0)=true from rfl];go_wp2_with fail
        go_roundw
        case rel=>exact⟨jj+1,pp,r,rfl,by go_num,by omega,by omega,by omega,HN,HO1,HG1⟩
        case measure=>simp [intOf];omega
       ·rw [if_neg hR]at HDN;have hrb:(R==0)=false:=(by simpa using hR);have hppl:pp<r.length:=(by omega);obtain⟨c0,c1,c2,c3⟩:=cU HO1.out hppl;have f0:=HO1.out.frozenAt (pp*4);have f1:=HO1.out.frozenAt (pp*4+1);have f2:=HO1.out.frozenAt (pp*4+2);have f3:=HO1.out.frozenAt (pp*4+3);have HO4:=aa (qm HO1.out pp x hppl);rw [←HX4.out.1, ←HX4.out.2,HE1.out,HE2.out]at HO4;have HG4:=aa (cE (j:=pp*4+3) (v:=.slice xb' xdl' xe') (cE (j:=pp*4+2) (v:=.slice xa' xml' xc') (cE (j:=pp*4+1) (v:=.int .i64 xp') (cE (j:=pp*4) (v:=.int .i64 xt') HG1.out))));have HN:Hid ((r.set pp x).length=lo.length∧(r.set pp x).take (pp+1)=ca lo (k+(jj+1))∧pp+1=(ca lo (k+(jj+1))).length∧∀i,k+(jj+1)≤i+1→(r.set pp x).getD i fv0=lo.getD i fv0):=by
         obtain⟨n1,n2,n3,n4⟩:=HIR.out;rw [HDN.out];refine aa ⟨by simpa using n1,?_,by simp;omega,fun i hi=>?_⟩
         ·rw [←n2];rw [List.take_succ_eq_append_getElem (by simpa using hppl),List.take_set_of_le zr];simp
         ·rw [←n4 i (by omega)];simp [List.getD,show¬pp=i by omega]
        generalize (r.getD pp fv0).f.t=ct at*;generalize (r.getD pp fv0).f.p=cp at*;generalize (r.getD pp fv0).mv=cmv at*;generalize (r.getD pp fv0).dv=cdv at*;have t1:(0:Int)≤(pp:Int):=(by omega);have t2:(pp:Int)<(lo.length:Int):=(by omega);clear HDN HIR HE1 HE2 HX4 HO1 HG1;rw [hrb];clear hrb hR;go_wp2_with fail
        go_roundw
        case rel=>exact⟨jj+1,pp+1,r.set pp x,by go_num,by go_num,by omega,by omega,by omega,HN,HO4,HG4⟩
        case measure=>simp [intOf];omega
      ·obtain⟨hrl,hrt,hrp,hrd⟩:=HI.out;have hend:k+jj=lo.length:=(by omega);rw [hend]at hrt hrp;have HPP:=aa hrp;have HOP:Hid (wr.ownsRow B 135 4 (.slice (some ⟨blk,0,none⟩) pp cap) pp (C (ca lo lo.length))):=by
        have:=l9 HOq.out (show pp≤r.length by omega);rw [xG,hrt]at this;exact aa this
       have hpl:pp<lo.length:=(by omega);obtain⟨vs,hclr⟩:∃vs,∀ty,(Builtin.clear_ #[43] ty #[.slice (some ⟨blk,pp*4,none⟩) (lo.length-pp) (cap-pp)]).run Tryz.prog wr= .ok (.tuple #[]) (wr.setCells blk (pp*4) vs):=
        kZ wr blk (pp*4) (lo.length-pp) (cap-pp) (by omega) (fun j hj=>by rw [HOq.out.cellAt (pp*4+j) (by omega),List.getElem?_eq_getElem (by rw [uh];omega)];rfl) (fun j hj=>HOq.out.frozenAt _)
       have s1:((lo.length-k:Nat):Int)≤(jj:Int):=(by omega);have s2:(0:Int)≤(pp:Int):=(by omega);have s3:(pp:Int)≤(lo.length:Int):=(by omega);have s4:(pp:Int)≤(cap:Int):=(by omega);have HOE:=aa (gM vs (pp*4) wr HOP.out zr);have HGE:=aa (fF vs (pp*4) wr HGq.out);clear hrl hrt hrp hrd hend HOP HOq HGq HI hlt2 hj1 hjl hpp;go_wp2_with (simp only [hclr])
       go_ret;refine⟨?_,?_,HGE.out⟩
       ·rw [←HPP.out];rfl
       ·rw [←HPP.out];exact HOE.out
    ·have HN:=aa (HNX.out hR);clear HNX HD2;go_wp2_with fail
     go_roundw
     case rel=>exact⟨k+1,by omega,by omega,by go_num,HN,hgw⟩
     case measure=>simp [intOf];omega
   ·have hkl:k=lo.length:=(by omega);have HDD:Hid (ca lo lo.length=lo):=by
     show _=_;rw [ko lo lo.length zr (fun j a b=>HALL.out j a (by omega)),List.take_length]
    have hge:((lo.length:Int))≤(k:Int):=(by omega);clear HALL hkl;go_wp2_with fail
    go_ret;refine⟨?_,?_,hgb⟩
    ·rw [HDD.out];rfl
    ·rw [HDD.out];exact HOr.out
theorem A4:(Tryz.prog.info? 131).map (fun i=>(i.zero,i.size,i.bytes))=some (some (.agg #[.int .i64 0,.int .i64 0,.int .i64 0]),3,24):=by kernel_rfl
theorem AT:(Tryz.prog.info? 115).map (fun i=>(i.zero,i.size,i.bytes))=some (some (.agg #[.int .i64 0,.int .i64 0,.int .i64 0]),3,24):=by kernel_rfl
theorem Az (l:List Do):(D l).length=3*l.length:=by
 induction l with
 | nil=>rfl
 | cons x r ih=>simp [D]at ih⊢;omega
theorem Ap (b o j:Nat):(⟨b,o,none⟩:Addr).add j=⟨b,o+j,none⟩:=by by_cases h:j=0 <;>simp [Addr.add,h]
theorem qh (v:Value) (ms:List Mt) (w:World) (hM:MsAt w v ms) (hl:ms.length≤2000000):
  Calls Tryz.prog 89 #[v] w fun e w'=>∃u,e= .returned u∧MsAt w' u ms∧(∀k,u.ownBlock=some k→w.heap.size≤k)∧Below w.heap.size w w':=by
 obtain⟨i0,hi,hz0,hz1,hz2⟩:=info_parts A4;have HM:=aa hM;obtain⟨a,cap,rfl,hn,hL⟩:=hM;cases a with
 | none=>
  obtain rfl:=hn rfl;have h0:ms.length=0:=by
   rcases hL with h |⟨_,_,h,_⟩
   ·exact h
   ·simp at h
  rw [h0];refine(m7 w).mono ?_;rintro e w' ⟨rfl,rfl⟩;exact⟨_,rfl,⟨none,0,by rw [h0],fun _=>rfl,.inl h0⟩,fun k hk=>by simp [Value.ownBlock]at hk,Below.refl _ _⟩
 | some ad=>
  have hnews:∀j u,(M ms)[j]? =some u→w.cell? (ad.add j)=some u:=by
   rcases hL with h |⟨b,off,h4,_,h5⟩
   ·intro j u hj;rw [List.eq_nil_of_length_eq_zero h]at hj;simp [M]at hj
   ·cases h4;intro j u hj;have hjl:j<3*ms.length:=by
     rcases Nat.lt_or_ge j (3*ms.length)with h | h
     ·exact h
     ·rw [List.getElem?_eq_none (by rw [rH];exact h)]at hj;simp at hj
    obtain⟨c0,c1,c2⟩:=Ba ms (j/3) (by omega);obtain⟨d0,d1,d2⟩:=h5 (j/3) (by omega);rw [Ap];have hm:j%3=0∨j%3=1∨j%3=2:=(by omega);rcases hm with e | e | e
    ·have ej:j=j/3*3:=(by omega);rw [←ej]at c0 d0;rw [c0]at hj;rw [d0];exact hj
    ·have ej:j=j/3*3+1:=(by omega);rw [←ej]at c1;rw [c1]at hj;rw [show off+j=off+j/3*3+1 by omega,d1];exact hj
    ·have ej:j=j/3*3+2:=(by omega);rw [←ej]at c2;rw [c2]at hj;rw [show off+j=off+j/3*3+2 by omega,d2];exact hj
  have hone:∀u∈M ms,u.oneCell'=true:=by
   intro u hu;simp only [M,List.mem_flatMap]at hu;obtain⟨x,_,hu⟩:=hu;simp only [List.mem_cons,List.not_mem_nil,or_false]at hu;rcases hu with rfl | rfl | rfl <;>rfl
  have HN:=aa hnews;have H1:=aa hone;clear hnews hone hL hn;go_enter Tryz.func89,Tryz.ntmps89;go_wp2_with (at_builtin;refine wpList_append_own _ rfl _ _ 133 rfl w.heap.size 131 i0 _ 3 24 Tryz.underlying133 hi hz0 hz1 hz2 rfl (by decide) _ _ _ rfl (World.ownsRow_nil w w.heap.size 131 3) ad ms.length cap (M ms) rfl ?a0 HN.out H1.out ?a1 ?a2 ?a3 ?_)
  case a0=>rw [rH];omega
  case a1=>unfold maxLen;omega
  case a2=>omega
  case a3=>exact Nat.le_refl _
  intro v1 w1 ho1 hg1 _;have hb1:Below w.heap.size w w1:=(Below.refl _ w).grown hg1 (by simp) (aS (World.ownsRow_nil w w.heap.size 131 3));have ho1':w1.ownsRow w.heap.size 131 3 v1 ms.length (M ms):=(by simpa using ho1);have HMA:=aa (MsAt.of_own ho1');have HGE:=aa (aS ho1');clear ho1 hg1 ho1';go_wp2;go_ret;exact⟨v1,rfl,HMA.out,HGE.out,hb1⟩
theorem qV (v:Value) (ms:List Do) (w:World) (hM:DsAt w v ms) (hl:ms.length≤2000000):
  Calls Tryz.prog 90 #[v] w fun e w'=>∃u,e= .returned u∧DsAt w' u ms∧(∀k,u.ownBlock=some k→w.heap.size≤k)∧Below w.heap.size w w':=by
 obtain⟨i0,hi,hz0,hz1,hz2⟩:=info_parts AT;have HM:=aa hM;obtain⟨a,cap,rfl,hn,hL⟩:=hM;cases a with
 | none=>
  obtain rfl:=hn rfl;have h0:ms.length=0:=by
   rcases hL with h |⟨_,_,h,_⟩
   ·exact h
   ·simp at h
  rw [h0];refine(nd w).mono ?_;rintro e w' ⟨rfl,rfl⟩;exact⟨_,rfl,⟨none,0,by rw [h0],fun _=>rfl,.inl h0⟩,fun k hk=>by simp [Value.ownBlock]at hk,Below.refl _ _⟩
 | some ad=>
  have hnews:∀j u,(D ms)[j]? =some u→w.cell? (ad.add j)=some u:=by
   rcases hL with h |⟨b,off,h4,_,h5⟩
   ·intro j u hj;rw [List.eq_nil_of_length_eq_zero h]at hj;simp [D]at hj
   ·cases h4;intro j u hj;have hjl:j<3*ms.length:=by
     rcases Nat.lt_or_ge j (3*ms.length)with h | h
     ·exact h
     ·rw [List.getElem?_eq_none (by rw [Az];exact h)]at hj;simp at hj
    obtain⟨c0,c1,c2⟩:=AH ms (j/3) (by omega);obtain⟨d0,d1,d2⟩:=h5 (j/3) (by omega);rw [Ap];have hm:j%3=0∨j%3=1∨j%3=2:=(by omega);rcases hm with e | e | e
    ·have ej:j=j/3*3:=(by omega);rw [←ej]at c0 d0;rw [c0]at hj;rw [d0];exact hj
    ·have ej:j=j/3*3+1:=(by omega);rw [←ej]at c1;rw [c1]at hj;rw [show off+j=off+j/3*3+1 by omega,d1];exact hj
    ·have ej:j=j/3*3+2:=(by omega);rw [←ej]at c2;rw [c2]at hj;rw [show off+j=off+j/3*3+2 by omega,d2];exact hj
  have hone:∀u∈D ms,u.oneCell'=true:=by
   intro u hu;simp only [D,List.mem_flatMap]at hu;obtain⟨x,_,hu⟩:=hu;simp only [List.mem_cons,List.not_mem_nil,or_false]at hu;rcases hu with rfl | rfl | rfl <;>rfl
  have HN:=aa hnews;have H1:=aa hone;clear hnews hone hL hn;go_enter Tryz.func90,Tryz.ntmps90;go_wp2_with (at_builtin;refine wpList_append_own _ rfl _ _ 112 rfl w.heap.size 115 i0 _ 3 24 Tryz.underlying112 hi hz0 hz1 hz2 rfl (by decide) _ _ _ rfl (World.ownsRow_nil w w.heap.size 115 3) ad ms.length cap (D ms) rfl ?a0 HN.out H1.out ?a1 ?a2 ?a3 ?_)
  case a0=>rw [Az];omega
  case a1=>unfold maxLen;omega
  case a2=>omega
  case a3=>exact Nat.le_refl _
  intro v1 w1 ho1 hg1 _;have hb1:Below w.heap.size w w1:=(Below.refl _ w).grown hg1 (by simp) (aS (World.ownsRow_nil w w.heap.size 115 3));have ho1':w1.ownsRow w.heap.size 115 3 v1 ms.length (D ms):=(by simpa using ho1);have HMA:=aa (DsAt.of_own ho1');have HGE:=aa (aS ho1');clear ho1 hg1 ho1';go_wp2;go_ret;exact⟨v1,rfl,HMA.out,HGE.out,hb1⟩
theorem yo:∀(l:List Fv) (i:Nat) (v:Value),i<l.length→(C l).set (i*4+2) v=C (l.set i ⟨(l.getD i fv0).f,v,(l.getD i fv0).dv⟩)
 | [],i,_,h=>by simp at h
 | y::r,0,v,_=>by simp [C]
 | y::r,i+1,v,h=>by
  have ih:=yo r i v (by simpa using h);have e:(i+1)*4+2=(i*4+2)+4:=(by omega);simp only [C,List.flatMap_cons,List.set_cons_succ,List.getD_cons_succ]at ih⊢;rw [e];simp only [List.cons_append,List.nil_append,List.set_cons_succ];rw [ih]
theorem xl:∀(l:List Fv) (i:Nat) (v:Value),i<l.length→(C l).set (i*4+3) v=C (l.set i ⟨(l.getD i fv0).f,(l.getD i fv0).mv,v⟩)
 | [],i,_,h=>by simp at h
 | y::r,0,v,_=>by simp [C]
 | y::r,i+1,v,h=>by
  have ih:=xl r i v (by simpa using h);have e:(i+1)*4+3=(i*4+3)+4:=(by omega);simp only [C,List.flatMap_cons,List.set_cons_succ,List.getD_cons_succ]at ih⊢;rw [e];simp only [List.cons_append,List.nil_append,List.set_cons_succ];rw [ih]
theorem om (l:List Fv) (i:Nat) (x:Fv) (h:i<l.length) (hx:x.f=(l.getD i fv0).f):(l.set i x).map Fv.f=l.map Fv.f:=by
 refine List.ext_getElem? fun j=>?_;simp only [List.getElem?_map,List.getElem?_set];by_cases e:i=j
 ·subst e;simp only [h,if_true,Option.map_some];rw [List.getElem?_eq_getElem h,Option.map_some,hx];simp [List.getD,List.getElem?_eq_getElem h]
 ·simp [e]
theorem nc {l:List Fv} {i:Nat} {x y:Fv} (h:y∈l.set i x):y=x∨y∈l:=by
 rcases List.mem_or_eq_of_mem_set h with h | h
 ·exact .inr h
 ·exact .inl h
theorem FoOk.grown {w w':World} {blk:Nat} {x:Fv} (h:FoOk w blk x) (hb:Below w.heap.size w w'):FoOk w' blk x:=⟨h.1.below hb zr,h.2⟩
theorem mK {w:World} {B blk cap:Nat} {l:List Fv} (h:w.ownsRow B 135 4 (.slice (some ⟨blk,0,none⟩) l.length cap) l.length (C l)) (hok:∀x∈l,Held w x):FsAt w (.slice (some ⟨blk,0,none⟩) l.length cap) (l.map Fv.f):=by
 have hc:l.length≤cap:=by
  obtain⟨_,⟨h,_⟩ |⟨g',cap',cur,hv,_,_,hnc,_⟩⟩:=h
  ·simp at h
  ·simp only [Value.slice.injEq]at hv;omega
 refine⟨_,cap,by simp,by simp,.inr ⟨blk,0,rfl,by simpa using hc,fun i hi=>?_⟩⟩;have hi':i<l.length:=by simpa using hi
 obtain⟨c0,c1,c2,c3⟩:=cU h hi';have e:(l.map Fv.f).getD i fl0=(l.getD i fv0).f:=by simp [List.getD,List.getElem?_eq_getElem hi']
 rw [e,Nat.zero_add];have hh:=hok _ (dP hi');exact⟨c0,c1,_,_,c2,c3,hh.1,hh.2⟩
theorem lm (p:Option Addr) (cap:Nat) (fv:Value) (w:World):Calls Tryz.prog 86 #[.slice p 0 cap,fv] w fun e w'=>e= .returned (.slice p 0 cap)∧w'=w:=by
 go_enter Tryz.func86,Tryz.ntmps86;go_wp2_with fail
 go_ret;exact⟨rfl,rfl⟩
def Nw (B:Nat) (x:Fv):Prop:=(∀g,x.mv.ownBlock=some g→B≤g)∧∀g,x.dv.ownBlock=some g→B≤g
def FsOwn (w:World) (B:Nat) (u:Value) (fs:List Fl):Prop:=FsAt w u fs∧(fs.length=0∨∃(blk cap:Nat) (lo:List Fv),u= .slice (some ⟨blk,0,none⟩) lo.length cap∧lo.map Fv.f=fs∧w.ownsRow B 135 4 u lo.length (C lo)∧∀x∈lo,Held w x∧Nw B x)
theorem xr {B k:Nat} {r:List Fv} {y:Fv} (h:∀j,j<k→Nw B (r.getD j fv0)):∀j,j<k→Nw B ((r.set k y).getD j fv0):=fun j hj=>by
 have:=h j hj;simpa [List.getD,List.getElem?_set,show k≠j by omega] using this
theorem mw (v:Value) (fs:List Fl) (w:World) (hF:FsAt w v fs) (hl:fs.length≤2000000) (hs:∀f∈fs,f.ms.length≤2000000∧f.ds.length≤2000000):
  Calls Tryz.prog 48 #[v] w fun e w'=>∃u,e= .returned u∧FsOwn w' w.heap.size u (srt fs fs.length)∧Below w.heap.size w w':=by
 have HF:=aa hF;have HS:=aa hs;obtain⟨a,cap,rfl,_,_⟩:=hF;clear hs;go_enter Tryz.func48,Tryz.ntmps48;go_wp2_with fail
 refine(fM _).mono ?_;rintro e w1 ⟨rfl,hw1⟩;have hb1:Below w.heap.size w w1:=by rw [hw1];exact((Below.refl _ _).alloc zr _).alloc (by simp) _
 have HO1:Hid (OrdAt w1 (w.heap.size+1)):=by
  rw [hw1];have e:w.heap.size+1=(w.alloc Ab).heap.size:=(by simp);refine aa ⟨w.heap.size,?_,?_⟩
  ·rw [e];simp
  ·simp
 have hs1:=hb1.size;clear hw1;obtain⟨G,hG⟩:∃G,G=w.heap.size+1:=⟨_,rfl⟩;rw [←hG]at HO1⊢;clear hG;go_wp2_with fail
 obtain⟨w2,hw2⟩:∃w2,w2=w1.alloc (.cells #[.func (.func 190) #[] #[.pointer (some ⟨G,0,none⟩)]] 147):=⟨_,rfl⟩;have hb12:Below w1.heap.size w1 w2:=by rw [hw2];exact(Below.refl _ _).alloc zr _
 have hb2:Below w.heap.size w w2:=hb1.trans (hb12.mono hs1);have HE2:Hid (EqAt w2 w1.heap.size G):=by
  refine aa ⟨by rw [hw2];simp,HO1.out.below hb12⟩
 rw [←hw2];clear hw2 hb12 HO1;obtain⟨OB,hOB⟩:∃OB,OB=w1.heap.size:=⟨_,rfl⟩;rw [←hOB]at HE2⊢;clear hOB;refine(lg _ fs w2 (HF.out.below hb2 zr) hl HS.out).mono ?_;rintro e w3 ⟨u,rfl,lo,hp,hsrt,hh,ho3,hb3⟩;have hb03:=hb2.trans (hb3.mono hb2.size);have HSR:Hid ((ca lo lo.length).map Fv.f=srt fs fs.length):=by
  obtain⟨q1,q2,_⟩:=rS lo hsrt lo.length zr;exact tf q1 (fun x=>by rw [q2,List.take_length];exact hp.mem_iff)
 have HLL:Hid (lo.length≤2000000):=by
  have:=hp.length_eq;simp only [List.length_map]at this;exact aa (by omega)
 have HBD:Hid (∀x∈lo,x.f.ms.length≤2000000∧x.f.ds.length≤2000000):=fun x hx=>HS.out x.f (hp.mem_iff.1 (List.mem_map_of_mem hx));have HH:=aa hh;clear hh hp hsrt;by_cases h0:lo.length=0
 ·obtain⟨ua,uc,rfl,hua⟩:∃a c,u= .slice a 0 c∧(a=none→c=0):=by
   obtain⟨_,⟨rfl,_⟩ |⟨g,cap,cur,rfl,_⟩⟩:=ho3
   ·exact⟨_,_,rfl,fun _=>rfl⟩
   ·exact⟨_,_,by rw [h0],by simp⟩
  obtain rfl:=List.eq_nil_of_length_eq_zero h0;have HSN:Hid (srt fs fs.length= []):=by show _=_;rw [←HSR.out];rfl
  clear ho3 HH HBD HSR HLL;go_wp2_with fail
  refine(lm _ _ _ _).mono ?_;rintro e w4 ⟨rfl,rfl⟩;go_wp2_with fail
  refine wp_loop_rounds 1 ?_;rw [rounds_succ];go_wp2_with fail
  go_ret;exact⟨_,rfl,by rw [HSN.out];exact⟨⟨ua,uc,rfl,hua,.inl rfl⟩,.inl rfl⟩,hb03⟩
 ·obtain⟨blk,uc,rfl,_⟩:=ho3.form (by omega);have HO3:=aa ho3;obtain⟨hblk0,hblk1⟩:=fV ho3;clear ho3;have HE3:Hid (EqAt2 w3 OB G blk):=by
   obtain⟨e1,q,o0,o1,o2,o3,o4,o5,o6⟩:=HE2.out;have l1:=bw e1;have l2:=bw o0;have l3:=bw o1;exact aa ⟨by omega,ae e1 hb3 zr,by omega,q,by omega,ae o0 hb3 zr,ae o1 hb3 zr,ae o2 hb3 zr,ae o3 hb3 zr,ae o4 hb3 zr,ae o5 hb3 zr,ae o6 hb3 zr⟩
  have HFO:Hid (∀x∈lo,FoOk w3 blk x):=fun x hx=>by
   obtain⟨q1,q2⟩:=(HH.out x hx).away hblk0;exact⟨(HH.out x hx).below hb3 zr,q1,q2,(HBD.out x hx).1,(HBD.out x hx).2⟩
  go_wp2_with fail
  refine(rj lo w2.heap.size blk uc OB G w3 HO3.out HE3.out HFO.out (by omega) HLL.out).mono ?_;rintro e w4 ⟨rfl,ho4,hg4⟩;have HO4:=aa ho4;have hb04:Below w.heap.size w w4:=hb03.grown hg4 hb03.size (fun k hk=>by cases hk;exact Nat.le_trans hb2.size hblk0);have HF4:Hid (∀x∈ca lo lo.length,FoOk w4 blk x):=fun x hx=>(HFO.out x (by have:=rL lo lo.length zr x hx;rwa [List.take_length]at this)).kept2 hg4;have HML:Hid ((ca lo lo.length).length≤2000000):=aa (Nat.le_trans (uK lo lo.length) HLL.out);have hblkw:w.heap.size≤blk:=Nat.le_trans hb2.size hblk0;clear ho4 hg4 HFO HE3 HO3 HH HBD HLL hb03;generalize ca lo lo.length=l2 at*;go_wp2_with fail
  go_loopw [14] (fun i wr=>∃(k:Nat) (r:List Fv),k≤l2.length∧i= .int .i64 k∧Hid (r.map Fv.f=l2.map Fv.f)∧Hid (∀x∈r,FoOk wr blk x)∧Hid (wr.ownsRow w2.heap.size 135 4 (.slice (some ⟨blk,0,none⟩) r.length uc) r.length (C r))∧Below w.heap.size w wr∧Hid (∀j,j<k→Nw w.heap.size (r.getD j fv0))) (fun i _=>l2.length-(intOf i).toNat)
  case atStart=>exact⟨0,l2,by omega,rfl,aa rfl,HF4,HO4,hb04,aa fun j hj=>absurd hj (by omega)⟩
  case round=>
   clear HO4 HF4 hb04;obtain⟨k,r,hk,rfl,HRM,HFr,HOr,hbel,HNW⟩:=hrel;have hrl:r.length=l2.length:=by
    have:=congrArg List.length HRM.out;simpa using this
   have hblkr:=(fV HOr.out).2;have hml:=HML.out;by_cases hlt:k<l2.length
   ·have hkr:k<r.length:=(by omega);obtain⟨c0,c1,c2,c3⟩:=cU HOr.out hkr;have z2:=HOr.out.frozenAt (k*4+2);have z3:=HOr.out.frozenAt (k*4+3);obtain⟨x,hx⟩:∃x,x=r.getD k fv0:=⟨_,rfl⟩;have HX:=aa hx;rw [←hx]at c0 c1 c2 c3;have HXK:Hid (FoOk wr blk x):=by rw [hx];exact aa (HFr.out _ (dP hkr))
    clear hx;obtain⟨⟨xa,xc,e1,_⟩,⟨xb,xe,e2,_⟩⟩:=HXK.out.1;have HE1:=aa e1;have HE2':=aa e2;rw [e1]at c2;rw [e2]at c3;clear e1 e2;obtain⟨xml,hxml⟩:∃z,z=x.f.ms.length:=⟨_,rfl⟩;obtain⟨xdl,hxdl⟩:∃z,z=x.f.ds.length:=⟨_,rfl⟩;rw [←hxml]at c2 HE1;rw [←hxdl]at c3 HE2';have HL1:=aa hxml;have HL2:=aa hxdl;clear hxml hxdl;generalize x.f.t=xt at*;generalize x.f.p=xp at*;obtain⟨W1,hW1⟩:∃W1,W1=wr.alloc (.cells #[.int .i64 xt,.int .i64 xp,.slice xa xml xc,.slice xb xdl xe] 135):=⟨_,rfl⟩;have hbW:Below wr.heap.size wr W1:=by rw [hW1];exact(Below.refl _ _).alloc zr _
    have d3:W1.cell? ⟨wr.heap.size,3,none⟩=some (.slice xb xdl xe):=by rw [hW1];simp
    have HWE:Hid (wr.alloc (.cells #[.int .i64 xt,.int .i64 xp,.slice xa xml xc,.slice xb xdl xe] 135)=W1):=hW1.symm;clear hW1;have HCM:Hid (Calls Tryz.prog 89 #[.slice xa xml xc] W1 fun e w'=>∃u,e= .returned u∧MsAt w' u x.f.ms∧(∀k,u.ownBlock=some k→W1.heap.size≤k)∧Below W1.heap.size W1 w'):=by
     have:=qh x.mv x.f.ms W1 (HXK.out.1.1.below hbW zr) HXK.out.2.2.2.1;rw [HE1.out]at this;exact aa this
    go_wp2_with fail
    rw [HWE.out];refine(ag HCM).mono ?_;rintro e w5 ⟨um,rfl,hms,hge,hb5⟩;have hr5:Below wr.heap.size wr w5:=hbW.trans (hb5.mono hbW.size);have hszW:=hbW.size;have hsz5:=hb5.size;have HNM:Hid (∀g,um.ownBlock=some g→w.heap.size≤g):=aa fun g h=>Nat.le_trans (Nat.le_trans hbel.size hszW) (hge g h);have hneM:um.ownBlock≠some blk:=fun h=>by have:=hge blk h;omega
    have HMS:=aa hms;obtain⟨ma,mc,e3,_⟩:=hms;have HUM:=aa e3;have g2:=ae c2 hr5 zr;have g3:=ae c3 hr5 zr;have y2:w5.frozen? ⟨blk,k*4+2,none⟩=false:=(hr5.frozen (p:=⟨blk,k*4+2,none⟩) hblkr).trans z2;have y3:w5.frozen? ⟨blk,k*4+3,none⟩=false:=(hr5.frozen (p:=⟨blk,k*4+3,none⟩) hblkr).trans z3;have g3':=ae d3 hb5 zr;have hW6g:w5.grownBy (w5.setCell ⟨blk,k*4+2,none⟩ um) (some blk):=cE (ju w5 _);have HO6:Hid ((w5.setCell ⟨blk,k*4+2,none⟩ um).ownsRow w2.heap.size 135 4 (.slice (some ⟨blk,0,none⟩) (r.set k ⟨x.f,um,x.dv⟩).length uc) (r.set k ⟨x.f,um,x.dv⟩).length (C (r.set k ⟨x.f,um,x.dv⟩))):=by
     have h:=gO (ar HOr.out hr5) (k*4+2) um;rw [yo r k um hkr, ←HX.out]at h;refine aa ?_;simpa using h
    have HF6:Hid (∀y∈r.set k ⟨x.f,um,x.dv⟩,FoOk (w5.setCell ⟨blk,k*4+2,none⟩ um) blk y):=fun y hy=>by
     rcases nc hy with rfl | hy
     ·have hx5:=(HXK.out.grown hr5).kept2 hW6g;exact⟨⟨HMS.out.kept0 hW6g (.inr hneM),hx5.1.2⟩,.inr hneM,hx5.2.2.1,hx5.2.2.2⟩
     ·exact((HFr.out y hy).grown hr5).kept2 hW6g
    have hb06:Below w.heap.size w (w5.setCell ⟨blk,k*4+2,none⟩ um):=(hbel.trans (hr5.mono hbel.size)).setCell (p:=⟨blk,k*4+2,none⟩) hblkw _;have HRM6:Hid ((r.set k ⟨x.f,um,x.dv⟩).map Fv.f=l2.map Fv.f):=by
     refine aa ?_;rw [om r k _ hkr (by rw [←HX.out]),HRM.out]
    have hne36:blk≠wr.heap.size:=(by omega);have i3:(w5.setCell ⟨blk,k*4+2,none⟩ um).cell? ⟨wr.heap.size,3,none⟩=some (.slice xb xdl xe):=by
     rw [World.cell?_setCell_other _ _ _ _ (by simp)];exact g3'
    have j3:(w5.setCell ⟨blk,k*4+2,none⟩ um).cell? ⟨blk,k*4+3,none⟩=some (.slice xb xdl xe):=by
     rw [World.cell?_setCell_other _ _ _ _ (by simp)];exact g3
    have j3f:(w5.setCell ⟨blk,k*4+2,none⟩ um).frozen? ⟨blk,k*4+3,none⟩=false:=by rw [World.frozen?_setCell];exact y3
    have HCD:Hid (Calls Tryz.prog 90 #[.slice xb xdl xe] (w5.setCell ⟨blk,k*4+2,none⟩ um) fun e w'=>∃u,e= .returned u∧DsAt w' u x.f.ds∧(∀k',u.ownBlock=some k'→(w5.setCell ⟨blk,k*4+2,none⟩ um).heap.size≤k')∧Below (w5.setCell ⟨blk,k*4+2,none⟩ um).heap.size (w5.setCell ⟨blk,k*4+2,none⟩ um) w'):=by
     have hx5:=(HXK.out.grown hr5).kept2 hW6g;have:=qV x.dv x.f.ds _ hx5.1.2 HXK.out.2.2.2.2;rw [HE2'.out]at this;exact aa this
    have hs6:(w5.setCell ⟨blk,k*4+2,none⟩ um).heap.size=w5.heap.size:=(by simp);have HXb:=aa (HXK.out.2);clear HRM HFr HOr hbel c0 c1 c2 c3 z2 z3 d3 g3 g3' y3 hge hb5 hbW hr5 HMS HXK HCM HE1 hW6g;clear HUM;subst e3;have HJ3:=aa j3;have HJ3F:=aa j3f;go_wp2_with fail
    clear j3 j3f i3 g2 y2;generalize w5.setCell ⟨blk,k*4+2,none⟩ (.slice ma x.f.ms.length mc)=w6 at*;have hblk6:blk<w6.heap.size:=(by omega);obtain⟨r1,hr1⟩:∃r1,r1=r.set k ⟨x.f,.slice ma x.f.ms.length mc,x.dv⟩:=⟨_,rfl⟩;have hr1l:r1.length=l2.length:=by rw [hr1];simpa using hrl
    have HR1:Hid (r1.getD k fv0=⟨x.f,.slice ma x.f.ms.length mc,x.dv⟩):=by
     refine aa ?_;rw [hr1];simp [List.getD,hkr]
    have HNW1:Hid (∀j,j<k→Nw w.heap.size (r1.getD j fv0)):=by rw [hr1];exact aa (xr HNW.out)
    rw [←hr1]at HO6 HF6 HRM6;clear hr1;refine(ag HCD).mono ?_;rintro e w7 ⟨ud,rfl,hds,hge7,hb7⟩;have hneD:ud.ownBlock≠some blk:=fun h=>by have:=hge7 blk h;omega
    have hW8g:w7.grownBy (w7.setCell ⟨blk,k*4+3,none⟩ ud) (some blk):=cE (ju w7 _);have g3:=ae HJ3.out hb7 zr;have y3:w7.frozen? ⟨blk,k*4+3,none⟩=false:=(hb7.frozen (p:=⟨blk,k*4+3,none⟩) hblk6).trans HJ3F.out;have hk1:k<r1.length:=(by omega);have HO8:Hid ((w7.setCell ⟨blk,k*4+3,none⟩ ud).ownsRow w2.heap.size 135 4 (.slice (some ⟨blk,0,none⟩) (r1.set k ⟨x.f,.slice ma x.f.ms.length mc,ud⟩).length uc) (r1.set k ⟨x.f,.slice ma x.f.ms.length mc,ud⟩).length (C (r1.set k ⟨x.f,.slice ma x.f.ms.length mc,ud⟩))):=by
     have h:=gO (ar HO6.out hb7) (k*4+3) ud;rw [xl r1 k ud hk1,HR1.out]at h;refine aa ?_;simpa using h
    have HF8:Hid (∀y∈r1.set k ⟨x.f,.slice ma x.f.ms.length mc,ud⟩,FoOk (w7.setCell ⟨blk,k*4+3,none⟩ ud) blk y):=fun y hy=>by
     rcases nc hy with rfl | hy
     ·have hx6:=HF6.out _ (dP hk1);rw [HR1.out]at hx6;have hx8:=(hx6.grown hb7).kept2 hW8g;exact⟨⟨hx8.1.1,hds.kept0 hW8g (.inr hneD)⟩,hx8.2.1,.inr hneD,hx8.2.2.2⟩
     ·exact((HF6.out y hy).grown hb7).kept2 hW8g
    have hb08:Below w.heap.size w (w7.setCell ⟨blk,k*4+3,none⟩ ud):=(hb06.trans (hb7.mono hb06.size)).setCell (p:=⟨blk,k*4+3,none⟩) hblkw _;have HRM8:Hid ((r1.set k ⟨x.f,.slice ma x.f.ms.length mc,ud⟩).map Fv.f=l2.map Fv.f):=by
     refine aa ?_;rw [om r1 k _ hk1 (by rw [HR1.out]),HRM6.out]
    have HNW8:Hid (∀j,j<k+1→Nw w.heap.size ((r1.set k ⟨x.f,.slice ma x.f.ms.length mc,ud⟩).getD j fv0)):=aa fun j hj=>by
     by_cases hjk:j=k
     ·subst hjk;have e:(r1.set j ⟨x.f,.slice ma x.f.ms.length mc,ud⟩).getD j fv0=⟨x.f,.slice ma x.f.ms.length mc,ud⟩:=(by simp [List.getD,hk1]);rw [e];exact⟨HNM.out,fun g hg=>Nat.le_trans hb06.size (hge7 g hg)⟩
     ·exact xr HNW1.out j (by omega)
    clear HNW HNW1 HNM;obtain⟨da,dc,e4,_⟩:=hds;clear HCD HF6 HO6 HRM6 hb06 HJ3 HJ3F hb7 hge7 hW8g HR1;subst e4;go_wp2_with fail
    go_roundw
    case rel=>exact⟨k+1,_,by omega,by go_num,HRM8,HF8,HO8,hb08,HNW8⟩
    case measure=>simp [intOf];omega
   ·have hke:(l2.length:Int)≤(k:Int):=(by omega);have HFA:Hid (FsOwn wr w.heap.size (.slice (some ⟨blk,0,none⟩) r.length uc) (r.map Fv.f)):=aa ⟨mK HOr.out (fun x hx=>(HFr.out x hx).1),.inr ⟨blk,uc,r,rfl,rfl,aA HOr.out hb2.size,fun x hx=>⟨(HFr.out x hx).1,by
     obtain⟨j,hj,rfl⟩:=List.getElem_of_mem hx;have:=HNW.out j (by omega);simpa [List.getD,hj] using this⟩⟩⟩
    rw [HRM.out,HSR.out]at HFA;clear HRM HFr HOr HNW;rw [hrl]at HFA;go_wp2_with fail
    go_ret;exact⟨_,rfl,HFA.out,hbel⟩
theorem mX (v:Value) (fs:List Fl) (w:World) (hF:FsAt w v fs) (hl:fs.length≤2000000) (hs:∀f∈fs,f.ms.length≤2000000∧f.ds.length≤2000000):
  Calls Tryz.prog 48 #[v] w fun e w'=>∃u,e= .returned u∧FsAt w' u (srt fs fs.length)∧Below w.heap.size w w':=
 (mw v fs w hF hl hs).mono fun e w' ⟨u,h1,h2,h3⟩=>⟨u,h1,h2.1,h3⟩
def cmE (S:List Sw) (P:List Pr) (A:List Ac) (ch:Int):Int:=if may S P A=true then(if 0≤ch∧ch≤5 then 0 else 2)else 8
def cmL (S:List Sw) (P:List Pr) (A:List Ac) (ch:Int):List Fl:=if cmE S P A ch=0 then srt (cY S P A ch) (cY S P A ch).length else []
def bY (P H:List Pr) (k:Nat):List Fl:=tunnelFl++(H.take k).flatMap (bT P)
def bJ (S:List Sw) (P:List Pr) (A:List Ac) (ch:Int) (G:List Fl) (Z:List Sw) (k:Nat):List Fl:=G++(Z.take k).flatMap fun s=>bk S P A s ch
theorem pF {P H:List Pr} {k:Nat} (h:k<H.length):bY P H (k+1)=bY P H k++bT P (H.getD k pr0):=by
 unfold bY;rw [gz (bT P) pr0 h,List.append_assoc]
theorem gT {S:List Sw} {P:List Pr} {A:List Ac} {ch:Int} {G:List Fl} {Z:List Sw} {k:Nat} (h:k<Z.length):bJ S P A ch G Z (k+1)=bJ S P A ch G Z k++bk S P A (Z.getD k sw0) ch:=by
 unfold bJ;rw [gz (fun s=>bk S P A s ch) sw0 h,List.append_assoc]
theorem tI (P:List Pr) (p:Pr):(bT P p).length=6:=rfl
theorem fQ (P H:List Pr) (k:Nat):(bY P H k).length≤2+6*k:=by
 have h:∀l:List Pr,(l.flatMap (bT P)).length=6*l.length:=fun l=>by
  induction l with
  | nil=>rfl
  | cons x r ih=>rw [List.flatMap_cons,List.length_append,ih,tI,List.length_cons];omega
 unfold bY;rw [List.length_append,h,List.length_take];have:tunnelFl.length=2:=rfl;omega
theorem eU (S:List Sw) (P:List Pr) (A:List Ac) (s:Sw) (ch:Int):0<(bk S P A s ch).length∧(bk S P A s ch).length≤3*P.length+2*A.length+4:=by
 have h1:=ub P s ch;have h2:=nk P s;have h3:=oQ S P s;have h4:=iI A s.i true;have h5:=iI A s.i false;unfold bk;rw [List.length_append,List.length_append,List.length_append,List.length_append,jE,jE,fw,fw];omega
theorem cZ (S:List Sw) (P:List Pr) (A:List Ac) (ch:Int) (G:List Fl) (Z:List Sw) (hP:P.length≤40) (hA:A.length≤40):∀k,k≤Z.length→(bJ S P A ch G Z k).length≤G.length+204*k
 | 0,_=>by simp [bJ]
 | k+1,hk=>by
  rw [gT (by omega),List.length_append];have:=cZ S P A ch G Z hP hA k (by omega);have:=(eU S P A (Z.getD k sw0) ch).2;omega
theorem lV (S:List Sw) (P:List Pr) (A:List Ac) (ch:Int):cY S P A ch=bJ S P A ch (bY P (P.filter (cm ch)) (P.filter (cm ch)).length) (S.filter fun s=>(P.filter (cm ch)).any (bZ s.i)) (S.filter fun s=>(P.filter (cm ch)).any (bZ s.i)).length:=by
 unfold cY bJ bY;rw [List.take_length,List.take_length]
def Au (f:Fl):Prop:=f.ms.length≤2000000∧f.ds.length≤2000000
theorem qn (S:List Sw) (P:List Pr) (A:List Ac) (s1 p1 a1:Option Addr) (s2 p2 a2:Nat) (ch:Int) (w:World) (hC:CfAt w (.slice s1 S.length s2) (.slice p1 P.length p2) (.slice a1 A.length a2) S P A) (h1:S.length*24≤140737488355328) (h2:P.length*40≤140737488355328) (h3:A.length*72≤140737488355328) (hSA:may S P A=true→∀s b,eV (aP A s b)) (hSM:may S P A=true→0≤ch→ch≤5→∀f∈cY S P A ch,Au f):
  Calls Tryz.prog 21 #[.agg #[.slice s1 S.length s2,.slice p1 P.length p2,.slice a1 A.length a2],.int .i64 ch] w fun e w'=>∃u,e= .returned (.tuple #[u,.int .i64 (cmE S P A ch)])∧FsAt w' u (cmL S P A ch)∧Below w.heap.size w w':=by
 have HC:=aa hC;have HCK:=aa (fun W (hW:Below w.heap.size w W)=>nG _ _ _ S P A W (hC.below hW zr) h1 h2 h3);have HSA:=aa hSA;have HSM:=aa hSM;clear hC hSA hSM;go_enter Tryz.func21,Tryz.ntmps21;go_wp2_with fail
 obtain⟨W0,hW⟩:∃W0,W0=w.alloc (.cells #[.slice s1 S.length s2,.slice p1 P.length p2,.slice a1 A.length a2] 26):=⟨_,rfl⟩;rw [←hW];obtain⟨cb,hblk⟩:∃cb,cb=w.heap.size:=⟨_,rfl⟩;have k0:W0.cell? ⟨cb,0,none⟩=some (.slice s1 S.length s2):=zN2 hW hblk rfl;have k1:W0.cell? ⟨cb,1,none⟩=some (.slice p1 P.length p2):=zN2 hW hblk rfl;have k2:W0.cell? ⟨cb,2,none⟩=some (.slice a1 A.length a2):=zN2 hW hblk rfl;have hbN:Below w.heap.size w W0:=by rw [hW];exact ak _ _
 have hzW0:W0.heap.size=cb+1:=by rw [hW,hblk];simp
 have hcbl:w.heap.size≤cb:=by omega
 rw [←hblk];clear hW hblk;have HB:=hbN;clear hbN;obtain⟨W1,hW⟩:∃W1,W1=W0.alloc (.cells #[.int .i64 ch] 3):=⟨_,rfl⟩;rw [←hW];obtain⟨hb_,hblk⟩:∃hb_,hb_=cb+1:=⟨_,rfl⟩;have h0:W1.cell? ⟨hb_,0,none⟩=some (.int .i64 ch):=zN2 hW (hblk.trans hzW0.symm) rfl;have hbN:Below W0.heap.size W0 W1:=by rw [hW];exact ak _ _
 have hzW1:W1.heap.size=hb_+1:=by rw [hW,hblk];simp [hzW0]
 have hhb_l:cb<hb_:=by omega
 rw [←hblk];clear hW hblk hzW0;replace⟨k0,k1,k2⟩:=ep k0 k1 k2 hbN;replace HB:=zT HB hbN;clear hbN hzW1;refine(ag HCK _ HB).mono ?_;rintro e V1 ⟨rfl,hb1⟩;have hs2:=hb1.size;replace⟨k0,k1,k2,h0⟩:=vJ k0 k1 k2 h0 hb1;replace HB:=zT HB hb1;clear hb1;by_cases hm:may S P A=true
 ·by_cases hcr:0≤ch∧ch≤5
  ·obtain⟨hsw,hpr,hac⟩:=aR hm;have hPl:=(bI hsw hpr).1;have hAl:=(gK hac).1;have hSl:=(dE hsw).1;have HPB:Hid (∀p∈P,0≤p.s∧p.s≤100000):=aa (fun p hp=>by have:=((bI hsw hpr).2 p hp).2.1;omega);have HSB:Hid (∀s∈S,0≤s.i∧s.i≤100000):=aa (fun s hs=>by have:=((dE hsw).2 s hs).1;omega);have HAB:=aa (pM hac);have HE:Hid (cmE S P A ch=0):=by
    refine aa ?_;unfold cmE;rw [if_pos hm,if_pos (by omega)]
   have HLz:Hid (cmL S P A ch=srt (cY S P A ch) (cY S P A ch).length):=by
    refine aa ?_;unfold cmL;rw [if_pos HE.out]
   replace HSM:=aa (HSM.out hm);replace HSA:=aa (HSA.out hm);have hc0:¬ch<0:=(by omega);have hc1:¬ch≥6:=(by omega);rw [if_pos hm];clear hm hsw hpr hac;have HCT:=aa (lV S P A ch);obtain⟨H,hH⟩:∃H,H=P.filter (cm ch):=⟨_,rfl⟩;rw [←hH]at HCT;have HHL:H.length≤40:=by rw [hH];exact Nat.le_trans (List.length_filter_le _ _) hPl
   have HH:=aa hH;clear hH;obtain⟨Z,hZ⟩:∃Z,Z=S.filter fun s=>H.any (bZ s.i):=⟨_,rfl⟩;rw [←hZ]at HCT;have HZL:Z.length≤12:=by rw [hZ];exact Nat.le_trans (List.length_filter_le _ _) hSl
   have HZB:Hid (∀s∈Z,0≤s.i∧s.i≤100000):=aa (fun s hs=>HSB.out s (by rw [hZ]at hs;exact(List.mem_filter.1 hs).1));have HZ:=aa hZ;clear hZ;go_wp2_with fail
   refine(dg P (cm ch) _ _ _ _ (HC.out.below HB zr).2.1 (r8 h0) vY (by omega)).mono ?_;rintro e V3 ⟨u,rfl,hor,hb3⟩;have hs4:=hb3.size;replace⟨k0,k1,k2,h0⟩:=vJ k0 k1 k2 h0 hb3;replace HB:=zT HB hb3;rw [←HH.out]at hor;obtain⟨o,c,rfl⟩:=az hor;have HRH:=aa hor;clear hor;clear hb3;go_wp2_with fail
   obtain⟨V5,hV⟩:∃V5,V5=V3.alloc (.cells #[.slice o H.length c] 23):=⟨_,rfl⟩;rw [←hV];obtain⟨g5,hg'⟩:∃g5,g5=V3.heap.size:=⟨_,rfl⟩;have hg:g5=V3.heap.size:=hg';rw [←hg'];have hbN:=zB hV;have hg5:V3.heap.size≤g5:=(by omega);have hl5:=zL hV hg;have hzV5:V5.heap.size=g5+1:=by rw [hV,hg];simp
   have t0:V5.cell? ⟨g5,0,none⟩=some (.slice o H.length c):=zN2 hV hg rfl;have hs6:=hbN.size;replace⟨k0,k1,k2,h0⟩:=vJ k0 k1 k2 h0 hbN;replace HRH:=zO HRH hbN;replace HB:=zT HB hbN;clear hV hg hg' hbN;clear hzV5;have hcbV:=am k0;have hhbV:=am h0;have hghV:=am t0;refine(lq _).mono ?_;rintro e V50 ⟨u,rfl,hfr,hbT⟩;obtain⟨vo0,vc0,rfl⟩:=hfr.slc;have HF0:Hid (FR V50 V5.heap.size (.slice vo0 tunnelFl.length vc0) (bY P H 0)):=(by simpa [bY] using aa hfr);have t0v:=zC t0 hbT;have hsp:=HB.size;clear hfr;have HBp:Hid (Below w.heap.size w V5):=aa HB;clear HB;generalize tunnelFl.length=n0 at*;go_wp2_with fail
   clear t0v;go_loopw [8,31] (fun v i wr=>∃k:Nat,k≤H.length∧i= .int .i64 k∧Hid (FR wr V5.heap.size v (bY P H k))∧Below V5.heap.size V5 wr) (fun _ i _=>H.length-(intOf i).toNat)
   case atStart=>exact⟨0,by omega,rfl,HF0,hbT⟩
   case round=>
    clear HF0 hbT;obtain⟨k,hk,rfl,HF,hbr⟩:=hrel;have hgs:V5.heap.size≤wr.heap.size:=hbr.size;by_cases hlt:k<H.length
    ·obtain⟨b,off,cap,e1,hcap, -,g0,g1,g2,g3,g4⟩:=eO (RowAt.below (RowAt.of_own et (by decide) HRH.out) hbr zr) hlt;simp only [Value.slice.injEq,true_and]at e1;obtain⟨rfl,rfl⟩:=e1;have HNX:=aa (pF (P:=P) hlt);have hln:=fQ P H k;have HET:Hid (H.getD k pr0=⟨(H.getD k pr0).i,(H.getD k pr0).s,(H.getD k pr0).m,(H.getD k pr0).p,(H.getD k pr0).c⟩):=rfl;rw [HET.out]at HNX;clear HET;generalize (H.getD k pr0).i=y0 at*;generalize (H.getD k pr0).s=y1 at*;generalize (H.getD k pr0).m=y2 at*;generalize (H.getD k pr0).p=y3 at*;generalize (H.getD k pr0).c=y4 at*;generalize hFK:bY P H k=FK at*;have HFK:=aa hFK;clear hFK;obtain⟨vo,vc,rfl⟩:=HF.out.slc;obtain⟨NF,hNF⟩:∃NF,NF=FK.length:=⟨_,rfl⟩;rw [←hNF]at HF hln⊢;have HNN:=aa hNF;clear hNF;have q1:(0:Int)≤(k:Int):=(by omega);have q2:(k:Int)<(H.length:Int):=(by omega);have HUB:=aa HF.out.lt;have vk0:=zC k0 hbr;have vk1:=zC k1 hbr;have vk2:=zC k2 hbr;have vh0:=zC h0 hbr;have vt0:=zC t0 hbr;have HBw0:=HBp.out.trans (hbr.mono hsp);have hcb:=am vk0;have hcb2:¬cb=wr.heap.size:=(by omega);have hhb:=am vh0;have hhb2:¬hb_=wr.heap.size:=(by omega);go_wp2_with fail
     clear hcb2 hhb2;obtain⟨W9,hW9⟩:∃W9,W9=wr.alloc (.cells #[.int .i64 y0,.int .i64 y1,.int .i64 y2,.int .i64 y3,.int .i64 y4] 51):=⟨_,rfl⟩;rw [←hW9];have hbW:Below wr.heap.size wr W9:=by rw [hW9];exact ak _ _
     clear hW9 g0 g1 g2 g3 g4;have HBw:=HBw0.trans (hbW.mono HBw0.size);have hsW:=hbW.size;refine(nF S P A s1 p1 a1 s2 p2 a2 ⟨y0,y1,y2,y3,y4⟩ W9 (HC.out.below HBw zr) (by omega)).mono ?_;rintro e w1 ⟨u2,rfl,hf2,hb2⟩;obtain⟨lo2,hm2,ho2,hk2⟩:=hf2;have hl2:lo2.length=(bT P ⟨y0,y1,y2,y3,y4⟩).length:=(by rw [←hm2,List.length_map]);obtain⟨g9,c9,rfl,hg90,hg91⟩:=bu ho2 (by rw [hl2];exact(show 0<6 by decide));have hsw2:=hb2.size;have hb12:=hbW.trans (hb2.mono hbW.size);have HF2:=aa (HF.out.below hb12 zr);have HCS:=aa (ho2.cells rfl);have HK2:Hid (∀y∈lo2,FvIn w1 V5.heap.size (.slice vo NF vc) y):=aa (fun y hy=>((hk2 y hy).far (fun g e=>Nat.lt_of_lt_of_le (HUB.out g e) hsW)).less (by omega));have HM2:=aa hm2;have hl3:lo2.length≤1000:=by rw [hl2];exact(show 6≤1000 by decide)
     have hl4:0<lo2.length:=(by rw [hl2];exact(show 0<6 by decide));obtain⟨n2,hn2⟩:∃n2,n2=lo2.length:=⟨_,rfl⟩;rw [←hn2]at hl3 hl4⊢;have HN2:=aa hn2;clear hn2 hl2 ho2 hk2 hm2;go_wp2_with (at_builtin;refine dS rfl _ _ rfl V5.heap.size (.slice vo NF vc) FK rfl (ag HF2) ⟨g9,0,none⟩ n2 c9 lo2 rfl HN2.out.symm (ag HCS) (ag HK2) hl4 (by rw [←HNN.out];omega) (by omega) ?_)
     intro gq cq wq hfq hgq haq;have HE2:Hid (FR wq V5.heap.size (.slice (some ⟨gq,0,none⟩) (FK.length+n2) cq) (bY P H (k+1))):=by rw [HNX.out, ←HM2.out];exact aa hfq
     have hb3:Below V5.heap.size V5 wq:=(hbr.trans (hb12.mono hbr.size)).grown hgq (by omega) HF2.out.ge;clear hfq hgq haq HF2 HCS HK2 HUB HNX HF;rw [←HNN.out]at HE2⊢;go_wp2_with fail
     go_roundw
     case rel=>exact⟨k+1,by omega,by go_num,HE2,hb3⟩
     case measure=>simp [intOf];omega
    ·obtain rfl:k=H.length:=(by omega);have hln:=fQ P H H.length;have HBk:Hid (Below w.heap.size w wr):=aa (HBp.out.trans (hbr.mono hsp));replace⟨k0,k1,k2,h0,t0⟩:=dB k0 k1 k2 h0 t0 hbr;have HRHw:=aa (ar HRH.out (hbr.mono zr));have hnz:0<(bY P H H.length).length:=by unfold bY;rw [List.length_append];have:tunnelFl.length=2:=rfl;omega
     obtain⟨lof,hmf,hof,hkf⟩:=HF.out;have hlf:lof.length=(bY P H H.length).length:=(by rw [←hmf,List.length_map]);obtain⟨gF,cF,rfl,hgF0,hgF1⟩:=bu hof (by omega);rw [hlf]at HF⊢;clear hmf hof hkf hlf hnz;generalize hG:bY P H H.length=G at*;have HG:=aa hG;clear hG;have HBc:=HBk;clear hbr;obtain⟨NG,hNG⟩:∃NG,NG=G.length:=⟨_,rfl⟩;rw [←hNG]at HF hln⊢;have HNG:=aa hNG;clear hNG;go_wp2_with fail
     have HB:=HBc.out;clear HBc;refine(oY S (fun s=>H.any (bZ s.i)) _ _ _ _ (HC.out.below HB zr).1 (tD t0 (RowAt.of_own et (by decide) HRHw.out) (by omega)) zx (by omega)).mono ?_;rintro e V201 ⟨u,rfl,hor,hb201⟩;have hs202:=hb201.size;replace⟨k0,k1,k2,h0,t0⟩:=dB k0 k1 k2 h0 t0 hb201;replace HRHw:=zO HRHw hb201;replace HF:=aa (HF.out.below hb201 zr);replace HB:=zT HB hb201;rw [←HZ.out]at hor;obtain⟨zo,zc,rfl⟩:=az hor;have HRN:Hid (∀m g,(Value.slice zo m zc).ownBlock=some g→gF<g):=aa (fun m g e=>by have:=aS hor g (by cases zo <;>exact e);omega);have HRZ:=aa hor;clear hor;clear hb201;have HBz:Hid (Below w.heap.size w V201):=aa HB;have hsz:=HB.size;have hgw:w.heap.size≤gF:=(by omega);have hgv:gF<V201.heap.size:=(by omega);clear HB;go_wp2_with fail
     go_loopw [8,46] (fun v i wq=>∃k:Nat,k≤Z.length∧i= .int .i64 k∧Hid (FR wq V5.heap.size v (bJ S P A ch G Z k))∧Hid (∀g,v.ownBlock=some g→g=gF∨V201.heap.size≤g)∧Hid (V201.grownBy wq (some gF))) (fun _ i _=>Z.length-(intOf i).toNat)
     case atStart=>exact⟨0,by omega,rfl,by simpa [bJ] using HF,aa (by simp [Value.ownBlock]),aa ⟨rfl,rfl,rfl,Nat.le_refl _,fun _ _ _=>rfl⟩⟩
     case round=>
      clear HF;obtain⟨k,hk,rfl,HF,HVB,HGR⟩:=hrel;have hgs2:V201.heap.size≤wr.heap.size:=HGR.out.size;by_cases hlt:k<Z.length
      ·have HR1:=aa (HRZ.out.kept HGR.out (.inr (fun e=>absurd (HRN.out _ _ e) (by omega))));obtain⟨b,off,cap,e1,hcap, -,g0,g1,g2⟩:=ig (RowAt.of_own jX (by decide) HR1.out) hlt;simp only [Value.slice.injEq,true_and]at e1;obtain⟨rfl,rfl⟩:=e1;have hyb:=HZB.out (Z.getD k sw0) (by rw [List.getD_eq_getElem?_getD,List.getElem?_eq_getElem hlt];exact List.getElem_mem _);have HNX:=aa (gT (S:=S) (P:=P) (A:=A) (ch:=ch) (G:=G) hlt);have hln2:=cZ S P A ch G Z (by omega) (by omega) k (by omega);have HET:Hid (Z.getD k sw0=⟨(Z.getD k sw0).i,(Z.getD k sw0).t,(Z.getD k sw0).g⟩):=rfl;rw [HET.out]at HNX;rw [←HNG.out]at hln2;clear HET HR1;generalize (Z.getD k sw0).i=y0 at*;generalize (Z.getD k sw0).t=y1 at*;generalize (Z.getD k sw0).g=y2 at*;obtain⟨hy0,hy1⟩:=hyb;generalize hFK:bJ S P A ch G Z k=FK at*;have HFK:=aa hFK;clear hFK;obtain⟨vo,vc,rfl⟩:=HF.out.slc;obtain⟨NF,hNF⟩:∃NF,NF=FK.length:=⟨_,rfl⟩;rw [←hNF]at HF hln2 HVB⊢;have HNN:=aa hNF;clear hNF;have q1:(0:Int)≤(k:Int):=(by omega);have q2:(k:Int)<(Z.length:Int):=(by omega);have HUB:=aa HF.out.lt;have vk0:=aG HGR.out k0 (by omega);have vk1:=aG HGR.out k1 (by omega);have vk2:=aG HGR.out k2 (by omega);have vh0:=aG HGR.out h0 (by omega);have vt0:=aG HGR.out t0 (by omega);have HBw0:=HBz.out.grown HGR.out hsz (fun k e=>by cases e;omega);have hcb:=am vk0;have hcb2:¬cb=wr.heap.size:=(by omega);have hhb:=am vh0;have hhb2:¬hb_=wr.heap.size:=(by omega);go_wp2_with fail
       clear hcb2 hhb2;obtain⟨W9,hW9⟩:∃W9,W9=wr.alloc (.cells #[.int .i64 y0,.int .i64 y1,.int .i64 y2] 60):=⟨_,rfl⟩;rw [←hW9];have hbW:Below wr.heap.size wr W9:=by rw [hW9];exact ak _ _
       clear hW9 g0 g1 g2;have HBw:=HBw0.trans (hbW.mono HBw0.size);have hsW:=hbW.size;refine(lz S P A s1 p1 a1 s2 p2 a2 ⟨y0,y1,y2⟩ ch W9 (HC.out.below HBw zr) (by omega) (by omega) (by omega) hy0 hy1 HPB.out HAB.out (HSA.out _ _) (HSA.out _ _)).mono ?_;rintro e w1 ⟨u2,rfl,hf2,hb2⟩;obtain⟨lo2,hm2,ho2,hk2⟩:=hf2;have hl2:lo2.length=(bk S P A ⟨y0,y1,y2⟩ ch).length:=(by rw [←hm2,List.length_map]);obtain⟨g9,c9,rfl,hg90,hg91⟩:=bu ho2 (by rw [hl2];exact(eU _ _ _ _ _).1);have hsw2:=hb2.size;have hb12:=hbW.trans (hb2.mono hbW.size);have HF2:=aa (HF.out.below hb12 zr);have HCS:=aa (ho2.cells rfl);have HK2:Hid (∀y∈lo2,FvIn w1 V5.heap.size (.slice vo NF vc) y):=aa (fun y hy=>((hk2 y hy).far (fun g e=>Nat.lt_of_lt_of_le (HUB.out g e) hsW)).less (by omega));have HM2:=aa hm2;have hl3:lo2.length≤1000:=by rw [hl2];have:=(eU S P A ⟨y0,y1,y2⟩ ch).2;omega
       have hl4:0<lo2.length:=(by rw [hl2];exact(eU _ _ _ _ _).1);obtain⟨n2,hn2⟩:∃n2,n2=lo2.length:=⟨_,rfl⟩;rw [←hn2]at hl3 hl4⊢;have HN2:=aa hn2;clear hn2 hl2 ho2 hk2 hm2;go_wp2_with (at_builtin;refine dS rfl _ _ rfl V5.heap.size (.slice vo NF vc) FK rfl (ag HF2) ⟨g9,0,none⟩ n2 c9 lo2 rfl HN2.out.symm (ag HCS) (ag HK2) hl4 (by rw [←HNN.out];omega) (by omega) ?_)
       intro gq cq wq hfq hgq haq;have HE2:Hid (FR wq V5.heap.size (.slice (some ⟨gq,0,none⟩) (FK.length+n2) cq) (bJ S P A ch G Z (k+1))):=by rw [HNX.out, ←HM2.out];exact aa hfq
       have HGR2:Hid (V201.grownBy wq (some gF)):=aa (pd (dd HGR.out hb12) hgq HVB.out);have HVB2:Hid (∀g,(Value.slice (some ⟨gq,0,none⟩) (FK.length+n2) cq).ownBlock=some g→g=gF∨V201.heap.size≤g):=aa (fun g e=>by
        have e2:gq=g:=(by simpa [Value.ownBlock] using e);subst e2;rcases haq with h | h
        ·exact HVB.out _ h
        ·exact .inr (by omega))
       clear hfq hgq haq HF2 HCS HK2 HUB HNX HF;rw [←HNN.out]at HE2 HVB2⊢;go_wp2_with fail
       go_roundw
       case rel=>exact⟨k+1,by omega,by go_num,HE2,HVB2,HGR2⟩
       case measure=>simp [intOf];omega
      ·obtain rfl:k=Z.length:=(by omega);have hln2:=cZ S P A ch G Z (by omega) (by omega) Z.length zr;have HCE:Hid (bJ S P A ch G Z Z.length=cY S P A ch):=by rw [HCT.out];exact aa rfl
       rw [←HNG.out]at hln2;rw [HCE.out]at HF hln2;have HFS:=aa HF.out.fsAt;have HBe:Hid (Below w.heap.size w wr):=aa (HBz.out.grown HGR.out hsz (fun k e=>by cases e;omega));obtain⟨fo,fc,rfl⟩:=HF.out.slc;have HST:=aa (mX _ (cY S P A ch) wr HFS.out (by omega) (HSM.out (by omega) (by omega)));rw [←HLz.out]at HST;clear HF HVB HGR HFS;generalize (cY S P A ch).length=NC at*;go_wp2_with fail
       refine(ag HST).mono ?_;rintro e wz ⟨u,rfl,hu,hbz⟩;have HU:=aa hu;have HBf:=aa (HBe.out.trans (hbz.mono HBe.out.size));obtain⟨uo,uc,hus,_,_⟩:=hu;rw [hus]at HU⊢;clear hus hbz HST;generalize (cmL S P A ch).length=NL at*;go_wp2_with fail
       go_ret2;exact⟨_,by rw [HE.out];rfl,HU.out,HBf.out⟩
  ·have HE:Hid (cmE S P A ch=2):=by
    refine aa ?_;unfold cmE;rw [if_pos hm,if_neg (by omega)]
   have HLz:Hid (cmL S P A ch= []):=by
    refine aa ?_;unfold cmL;rw [if_neg (by rw [HE.out];decide)]
   rw [if_pos hm];clear hm;go_wp2_with fail
   all_goals go_ret2
   all_goals exact⟨_,by rw [HE.out];rfl,by rw [HLz.out];exact⟨none,0,rfl,fun _=>rfl,.inl rfl⟩,HB⟩
 ·replace hm:may S P A=false:=(by simpa using hm);have HE:Hid (cmE S P A ch=8):=by
   refine aa ?_;unfold cmE;rw [if_neg (by rw [hm];simp)]
  have HLz:Hid (cmL S P A ch= []):=by
   refine aa ?_;unfold cmL;rw [if_neg (by rw [HE.out];decide)]
  rw [hm];clear hm;go_wp2_with fail
  go_ret2;exact⟨_,by rw [HE.out];rfl,by rw [HLz.out];exact⟨none,0,rfl,fun _=>rfl,.inl rfl⟩,HB⟩
def Few (fs:List Fl):Prop:=fs.length≤2000000∧∀f∈fs,f.ms.length≤2000000∧f.ds.length≤2000000
theorem Few.srt {xs:List Fl} (h:Few xs):Few (srt xs xs.length):=⟨Nat.le_trans (gP xs xs.length) h.1,fun f hf=>h.2 f (tY xs xs.length zr f hf)⟩
theorem x9 (l:List Fl) (x:Fl):x∈srt l l.length↔x∈l:=by
 rw [(lU l l.length zr).2,List.take_length]
theorem pZ {b:List Fl} (h:Srt b):srt b b.length=b:=(tf h fun _=>Iff.rfl).symm
theorem bM {w:World} {v:Value} {fs:List Fl} (h:FsAt w v fs):∃a cap,v= .slice a fs.length cap:=by
 obtain⟨a,cap,h,_⟩:=h;exact⟨a,cap,h⟩
theorem qe {w:World} {a:Option Addr} {cap k:Nat} {fs:List Fl} (h:FsAt w (.slice a fs.length cap) fs) (hk:k<fs.length):∃b off,a=some ⟨b,off,none⟩∧fs.length≤cap∧FlAt w b (off+k*4) (fs.getD k fl0):=by
 obtain⟨a1,c1,h1,_,h0 |⟨b,off,h2,h3,h4⟩⟩:=h
 ·omega
 ·simp only [Value.slice.injEq]at h1;obtain⟨rfl,_,rfl⟩:=h1;exact⟨b,off,h2,h3,h4 k hk⟩
theorem lT {fs:List Fl} {k:Nat} (h:k<fs.length):fs.getD k fl0∈fs:=by
 rw [List.getD_eq_getElem?_getD,List.getElem?_eq_getElem h];exact List.getElem_mem h
theorem jD {S:List Sw} {P:List Pr} {A:List Ac} {ch:Int} (h:cmE S P A ch=0):may S P A=true∧0≤ch∧ch≤5:=by
 unfold cmE at h;by_cases hm:may S P A=true
 ·rw [if_pos hm]at h;by_cases hc:0≤ch∧ch≤5
  ·exact⟨hm,hc⟩
  ·rw [if_neg hc]at h;omega
 ·rw [if_neg hm]at h;omega
theorem yG {S:List Sw} {P:List Pr} {A:List Ac} (ch:Int) (h:may S P A=true):(cY S P A ch).length≤10000:=by
 obtain⟨h1,h2,h3⟩:=aR h;have a1:=(dE h1).1;have a2:=(bI h1 h2).1;have a3:=(gK h3).1;rw [lV];have b1:=fQ P (P.filter (cm ch)) (P.filter (cm ch)).length;have b2:=List.length_filter_le (cm ch) P;have b3:=List.length_filter_le (fun s:Sw=>(P.filter (cm ch)).any (bZ s.i)) S;have b4:=cZ S P A ch (bY P (P.filter (cm ch)) (P.filter (cm ch)).length) (S.filter fun s=>(P.filter (cm ch)).any (bZ s.i)) a2 a3 _ zr;omega
theorem rr {f:Fl} (h:aI f=0):Au f:=by
 by_cases hs:12<f.ms.length∨100<f.ds.length
 ·rw [gI hs]at h;omega
 ·exact⟨by omega,by omega⟩
theorem sG {S:List Sw} {P:List Pr} {A:List Ac} {ch:Int} (h:cmE S P A ch=0):(Srt (cmL S P A ch)∧(cmL S P A ch).length≤100000)∧Few (cmL S P A ch):=by
 obtain⟨hm,c0,c1⟩:=jD h;have hl:=yG ch hm;have hf:Few (cY S P A ch):=⟨by omega,fun f hf=>rr (mR hm c0 c1 f hf)⟩;unfold cmL;rw [if_pos h];have:=gP (cY S P A ch) (cY S P A ch).length;exact⟨⟨(lU _ _ zr).1,by omega⟩,hf.srt⟩
theorem pJ {S:List Sw} {P:List Pr} {A:List Ac} {ch:Int} (h:cmE S P A ch=0):bh (cmL S P A ch)=0:=by
 obtain⟨hm,c0,c1⟩:=jD h;have hl:(cmL S P A ch).length≤5000:=by
  obtain⟨h1,h2,h3⟩:=aR hm;have a1:=(dE h1).1;have a2:=(bI h1 h2).1;have a3:=(gK h3).1;have b1:=fQ P (P.filter (cm ch)) (P.filter (cm ch)).length;have b2:=List.length_filter_le (cm ch) P;have b3:=List.length_filter_le (fun s:Sw=>(P.filter (cm ch)).any (bZ s.i)) S;have b4:=cZ S P A ch (bY P (P.filter (cm ch)) (P.filter (cm ch)).length) (S.filter fun s=>(P.filter (cm ch)).any (bZ s.i)) a2 a3 _ zr;have b5:=gP (cY S P A ch) (cY S P A ch).length;rw [lV]at b5;unfold cmL;rw [if_pos h,lV];omega
 unfold bh;rw [if_neg (by omega)];refine tE _ fun j hj=>mR hm c0 c1 _ ?_;have:(cmL S P A ch).getD j fl0∈cmL S P A ch:=by
  rw [List.getD_eq_getElem?_getD,List.getElem?_eq_getElem hj];exact List.getElem_mem _
 unfold cmL at this⊢;rw [if_pos h]at this⊢;exact(x9 _ _).1 this
theorem pO {S:List Sw} {P:List Pr} {A:List Ac} {ch:Int} (h:cmE S P A ch=0) (g:Fl):g∈cmL S P A ch↔g∈cY S P A ch:=by
 unfold cmL;rw [if_pos h];exact x9 _ _
theorem pR {S:List Sw} {P:List Pr} {A:List Ac} {ch:Int} (hm:may S P A=true) (h0:0≤ch) (h1:ch≤5):cmE S P A ch=0:=by
 unfold cmE;rw [if_pos hm,if_pos ⟨h0,h1⟩]
def th (f:Fl) (ys:List Fl):Nat→Bool
 | 0=>false
 | m+1=>th f ys m|| (plc f (ys.getD m fl0)==0)
theorem ng {w0 w:World} {B:Nat} {v:Value} {l:List Fv} (h:w.ownsRow B 135 4 v l.length (C l)) (hh:∀x∈l,Held w x):FsAt w v (l.map Fv.f):=by
 obtain⟨o,c,rfl,hc,hg⟩:=jJ h;by_cases hz:l.length=0
 ·refine⟨o,c,by simp,?_,.inl (by simpa using hz)⟩;intro ho;subst ho;obtain⟨_,⟨hv,_⟩ |⟨g',cap',cur,hv,_⟩⟩:=h
  ·simp only [Value.slice.injEq]at hv;exact hv.2.2
  ·simp at hv
 ·obtain⟨g,rfl⟩:=hg (by omega);exact mK h hh
theorem vA {a b c:Fl} (h1:plc a b≤0) (h2:plc b c<0):plc a c<0:=by
 rcases Int.lt_or_eq_of_le h1 with h | h
 ·exact iT h h2
 ·rw [eC h];exact h2
def xu (l:List Fl):Prop:=∀i j,i<j→j<l.length→plc (l.getD i fl0) (l.getD j fl0)≤0
theorem uy {l:List Fl} (h:xu l) {i j:Nat} {t:Fl} (hij:i≤j) (hj:j<l.length) (hl:plc (l.getD j fl0) t<0):plc (l.getD i fl0) t<0:=by
 rcases Nat.lt_or_eq_of_le hij with e | e
 ·exact vA (h i j e hj) hl
 ·rw [e];exact hl
theorem Aa {l:List Fl} (h:xu l) {i j:Nat} {t:Fl} (hij:i≤j) (hj:j<l.length) (hl:0≤plc (l.getD i fl0) t):0≤plc (l.getD j fl0) t:=Int.not_lt.1 fun e=>absurd (uy h hij hj e) (Int.not_lt.2 hl)
theorem getD_iff {l:List Fl} {t:Fl}:t∈l↔∃i,i<l.length∧l.getD i fl0=t:=by
 constructor
 ·intro h;obtain⟨i,hi,e⟩:=List.getElem_of_mem h;exact⟨i,hi,by rw [List.getD_eq_getElem?_getD,List.getElem?_eq_getElem hi];exact e⟩
 ·rintro⟨i,hi,e⟩;rw [←e];exact lT hi
theorem xw (f:Fl) (ys:List Fl):∀m,th f ys m=true↔∃i,i<m∧ys.getD i fl0=f
 | 0=>by simp [th]
 | m+1=>by
  have ih:=xw f ys m;rw [th,Bool.or_eq_true,ih,beq_iff_eq];constructor
  ·rintro(⟨i,hi,e⟩ | e)
   ·exact⟨i,by omega,e⟩
   ·exact⟨m,by omega,(eC e).symm⟩
  ·rintro⟨i,hi,e⟩;by_cases him:i=m
   ·subst him;right;rw [e];exact dV f
   ·exact .inl ⟨i,by omega,e⟩
theorem su (f:Fl) (ys:List Fl):th f ys ys.length=true↔f∈ys:=by rw [xw,getD_iff]
theorem tN (l:List Fl) (t:Fl) (o ta tb:Option Addr) (cap tc td g:Nat) (w:World) (hF:FsAt w (.slice o l.length cap) l) (hS:xu l) (hO:OrdAt w g) (h1:MsAt w (.slice ta t.ms.length tc) t.ms) (h2:DsAt w (.slice tb t.ds.length td) t.ds)
  (l1:t.ms.length≤2000000) (l2:t.ds.length≤2000000) (hl:l.length≤2000000) (hs:∀f∈l,f.ms.length≤2000000∧f.ds.length≤2000000):
  Calls Tryz.prog 94 #[.slice o l.length cap,.agg #[.int .i64 t.t,.int .i64 t.p,.slice ta t.ms.length tc,.slice tb t.ds.length td],.func (.func 190) #[] #[.pointer (some ⟨g,0,none⟩)]] w fun e w'=>∃i fd,e= .returned (.tuple #[.int .i64 i,.bool fd])∧(fd=true↔t∈l)∧Grw w w':=by
 have HF:=aa hF;have HS:=aa hS;have HC:Hid (∀(W:World) (x:Fl) (xa xb:Option Addr) (xc xe:Nat),Grw w W→MsAt w (.slice xa x.ms.length xc) x.ms→DsAt w (.slice xb x.ds.length xe) x.ds→x.ms.length≤2000000→x.ds.length≤2000000→Calls Tryz.prog 190 #[.agg #[.int .i64 x.t,.int .i64 x.p,.slice xa x.ms.length xc,.slice xb x.ds.length xe],.agg #[.int .i64 t.t,.int .i64 t.p,.slice ta t.ms.length tc,.slice tb t.ds.length td],.pointer (some ⟨g,0,none⟩)] W fun e w'=>e= .returned (.int .i64 (plc x t))∧Grw W w'):=fun W x xa xb xc xe hW k1 k2 k3 k4=>by
  have:=kA x t xa ta xb tb xc tc xe td g W (hO.below hW.below) (k1.below hW.below zr) (k2.below hW.below zr) (h1.below hW.below zr) (h2.below hW.below zr) k3 k4 l1 l2;rw [nv]at this;exact this
 have HB:=aa hs;clear hs hF hS hO h1 h2;go_enter Tryz.func94,Tryz.ntmps94;go_wp2_with fail
 go_loopw [9,10,11] (fun i j _ wr=>∃p q:Nat,p≤q∧q≤l.length∧i= .int .i64 p∧j= .int .i64 q∧Hid (∀k,k<p→plc (l.getD k fl0) t<0)∧Hid (∀k,q≤k→k<l.length→0≤plc (l.getD k fl0) t)∧Grw (w.alloc (.cells #[.int .i64 t.t,.int .i64 t.p,.slice ta t.ms.length tc,.slice tb t.ds.length td] 135)) wr) (fun i j _ _=>(intOf j).toNat-(intOf i).toNat)
 case atStart=>exact⟨0,l.length,by omega,by omega,rfl,rfl,aa (fun k h=>by omega),aa (fun k a b=>by omega),Grw.refl _⟩
 case round=>
  obtain⟨p,q,hpq,hq,rfl,rfl,HP,HQ,hgr⟩:=hrel;have HG:=aa hgr;have hgw:Grw w wr:=((Grw.refl w).alloc _).trans hgr;have t0:wr.cell? ⟨w.heap.size,0,none⟩=some (.int .i64 t.t):=ae (by simp) hgr.below zr;have t1:wr.cell? ⟨w.heap.size,1,none⟩=some (.int .i64 t.p):=ae (by simp) hgr.below zr;have t2:wr.cell? ⟨w.heap.size,2,none⟩=some (.slice ta t.ms.length tc):=ae (by simp) hgr.below zr;have t3:wr.cell? ⟨w.heap.size,3,none⟩=some (.slice tb t.ds.length td):=ae (by simp) hgr.below zr;have hbox:w.heap.size<wr.heap.size:=by have:=hgr.below.size;simp at this;omega
  by_cases hlt:p<q
  ·obtain⟨h,hh⟩:∃h:Nat,h=(p+q)/2:=⟨_,rfl⟩;have hm:h<l.length:=(by omega);have e:((p:Int)+(q:Int))/2=(h:Int):=(by omega);have hph:p≤h:=(by omega);have hhq:h<q:=(by omega);clear hh;obtain⟨b,off,rfl,hcap,hcell⟩:=qe HF.out hm;obtain⟨g0,g1,gm,gd,g2,g3,hms,hds⟩:=hcell;have hbd:=HB.out _ (lT hm);have HMM:=aa hms;have HDD:=aa hds;have a0:=ae g0 hgw.below zr;have a1:=ae g1 hgw.below zr;have a2:=ae g2 hgw.below zr;have a3:=ae g3 hgw.below zr;obtain⟨xa,xc,rfl, -, -⟩:=hms;obtain⟨xb,xe,rfl, -, -⟩:=hds;have HX:Hid (∀W:World,Grw w W→Calls Tryz.prog 190 #[.agg #[.int .i64 (l.getD h fl0).t,.int .i64 (l.getD h fl0).p,.slice xa (l.getD h fl0).ms.length xc,.slice xb (l.getD h fl0).ds.length xe],.agg #[.int .i64 t.t,.int .i64 t.p,.slice ta t.ms.length tc,.slice tb t.ds.length td],.pointer (some ⟨g,0,none⟩)] W fun e w'=>e= .returned (.int .i64 (plc (l.getD h fl0) t))∧Grw W w'):=fun W hW=>HC.out W (l.getD h fl0) xa xb xc xe hW HMM.out HDD.out hbd.1 hbd.2;have HLT:Hid (plc (l.getD h fl0) t<0→∀k,k<h+1→plc (l.getD k fl0) t<0):=fun hR k hk=>uy HS.out (by omega) hm hR;have HGE:Hid (0≤plc (l.getD h fl0) t→∀k,h≤k→k<l.length→0≤plc (l.getD k fl0) t):=fun hR k hk hkl=>Aa HS.out hk hkl hR;clear g0 g1 g2 g3 hbd HMM HDD HC HS HB;generalize plc (l.getD h fl0) t=R at*;generalize (l.getD h fl0).t=x0 at*;generalize (l.getD h fl0).p=x1 at*;generalize (l.getD h fl0).ms.length=x2 at*;generalize (l.getD h fl0).ds.length=x3 at*;have q1:(0:Int)≤(h:Int):=(by omega);have q2:(h:Int)<(l.length:Int):=(by omega);go_wp2_with fail
   clear e;go_region_held3 (fun w'=>(w'.cell? ⟨b,off+h*4,none⟩=some (.int .i64 x0)∧w'.cell? ⟨b,off+h*4+1,none⟩=some (.int .i64 x1)∧w'.cell? ⟨b,off+h*4+2,none⟩=some (.slice xa x2 xc)∧w'.cell? ⟨b,off+h*4+3,none⟩=some (.slice xb x3 xe))∧w'.cell? ⟨w.heap.size,0,none⟩=some (.int .i64 t.t)∧w'.cell? ⟨w.heap.size,1,none⟩=some (.int .i64 t.p)∧w'.cell? ⟨w.heap.size,2,none⟩=some (.slice ta t.ms.length tc)∧w'.cell? ⟨w.heap.size,3,none⟩=some (.slice tb t.ds.length td)) (go_keep)
    (first |(go_at_call 190;refine(ag HX _ hgw.drew).mono ?_;rintro e w1 ⟨rfl,hg1⟩;have hgB:Grw wr w1:=(Grw.refl wr).drew.trans hg1;have hb1:=hgB.below;have z0:=ae a0 hb1 zr;have z1:=ae a1 hb1 zr;have z2:=ae a2 hb1 zr;have z3:=ae a3 hb1 zr;have z4:=ae t0 hb1 zr;have z5:=ae t1 hb1 zr;have z6:=ae t2 hb1 zr;have z7:=ae t3 hb1 zr))
   have hG1:=HG.out.trans hgB;have HG1:=aa hG1;clear hG1 hgB hb1 hg1 hgr hgw HG a0 a1 a2 a3 t0 t1 t2 t3 z0 z1 z2 z3 z4 z5 z6 z7 HX hbox;by_cases hR:R<0
   ·have HN:=aa (HLT.out hR);clear HLT HGE HP;go_wp2_with fail
    go_roundw
    case rel=>exact⟨h+1,q,by omega,by omega,by go_num,rfl,HN,HQ,HG1.out⟩
    case measure=>simp [intOf];omega
   ·have HN:=aa (HGE.out (Int.not_lt.1 hR));clear HLT HGE HQ;go_wp2_with fail
    go_roundw
    case rel=>exact⟨p,h,by omega,by omega,rfl,by go_num,HP,HN,HG1.out⟩
    case measure=>simp [intOf];omega
  ·have hpq':p=q:=(by omega);subst hpq';by_cases hpl:p<l.length
   ·obtain⟨b,off,rfl,hcap,hcell⟩:=qe HF.out hpl;obtain⟨g0,g1,gm,gd,g2,g3,hms,hds⟩:=hcell;have hbd:=HB.out _ (lT hpl);have HMM:=aa hms;have HDD:=aa hds;have a0:=ae g0 hgw.below zr;have a1:=ae g1 hgw.below zr;have a2:=ae g2 hgw.below zr;have a3:=ae g3 hgw.below zr;obtain⟨xa,xc,rfl, -, -⟩:=hms;obtain⟨xb,xe,rfl, -, -⟩:=hds;have HX:Hid (∀W:World,Grw w W→Calls Tryz.prog 190 #[.agg #[.int .i64 (l.getD p fl0).t,.int .i64 (l.getD p fl0).p,.slice xa (l.getD p fl0).ms.length xc,.slice xb (l.getD p fl0).ds.length xe],.agg #[.int .i64 t.t,.int .i64 t.p,.slice ta t.ms.length tc,.slice tb t.ds.length td],.pointer (some ⟨g,0,none⟩)] W fun e w'=>e= .returned (.int .i64 (plc (l.getD p fl0) t))∧Grw W w'):=fun W hW=>HC.out W (l.getD p fl0) xa xb xc xe hW HMM.out HDD.out hbd.1 hbd.2;have HIF:Hid ((plc (l.getD p fl0) t==0)=true↔t∈l):=by
     show _↔_;rw [beq_iff_eq];constructor
     ·intro hz;rw [←eC hz];exact lT hpl
     ·intro hmem;obtain⟨i,hi,hit⟩:=getD_iff.1 hmem;have hip:p≤i:=Nat.le_of_not_lt fun hc=>by
       have:=HP.out i hc;rw [hit,dV]at this;omega
      have h0:=HQ.out p zr hpl;rcases Nat.lt_or_eq_of_le hip with hlt2 | heq
      ·have:=HS.out p i hlt2 hi;rw [hit]at this;omega
      ·rw [heq,hit];exact dV t
    clear g0 g1 g2 g3 hbd HMM HDD HC HS HB HP HQ;generalize plc (l.getD p fl0) t=R at*;generalize (l.getD p fl0).t=x0 at*;generalize (l.getD p fl0).p=x1 at*;generalize (l.getD p fl0).ms.length=x2 at*;generalize (l.getD p fl0).ds.length=x3 at*;have q1:(0:Int)≤(p:Int):=(by omega);have q2:(p:Int)<(l.length:Int):=(by omega);go_wp2_with fail
    go_region_held3 (fun w'=>(w'.cell? ⟨b,off+p*4,none⟩=some (.int .i64 x0)∧w'.cell? ⟨b,off+p*4+1,none⟩=some (.int .i64 x1)∧w'.cell? ⟨b,off+p*4+2,none⟩=some (.slice xa x2 xc)∧w'.cell? ⟨b,off+p*4+3,none⟩=some (.slice xb x3 xe))∧w'.cell? ⟨w.heap.size,0,none⟩=some (.int .i64 t.t)∧w'.cell? ⟨w.heap.size,1,none⟩=some (.int .i64 t.p)∧w'.cell? ⟨w.heap.size,2,none⟩=some (.slice ta t.ms.length tc)∧w'.cell? ⟨w.heap.size,3,none⟩=some (.slice tb t.ds.length td)) (go_keep)
     (first |(go_at_call 190;refine(ag HX _ hgw.drew).mono ?_;rintro e w1 ⟨rfl,hg1⟩;have hgB:Grw wr w1:=(Grw.refl wr).drew.trans hg1;have hb1:=hgB.below;have z0:=ae a0 hb1 zr;have z1:=ae a1 hb1 zr;have z2:=ae a2 hb1 zr;have z3:=ae a3 hb1 zr;have z4:=ae t0 hb1 zr;have z5:=ae t1 hb1 zr;have z6:=ae t2 hb1 zr;have z7:=ae t3 hb1 zr))
    have HG1:=aa (hgw.trans hgB);clear hgB hb1 hg1 hgr hgw HG a0 a1 a2 a3 t0 t1 t2 t3 z0 z1 z2 z3 z4 z5 z6 z7 HX hbox;go_wp2_with fail
    go_ret2;exact⟨_,_,rfl,HIF.out,HG1.out⟩
   ·have HNO:Hid (¬t∈l):=fun hmem=>by
     obtain⟨i,hi,hit⟩:=getD_iff.1 hmem;have:=HP.out i (by omega);rw [hit,dV]at this;omega
    have HGW:=aa hgw;clear HP HQ HC HS HB hgr HG hgw t0 t1 t2 t3;go_wp2_with fail
    go_quiet (fail);go_wp2_with fail
    go_ret2;exact⟨_,false,rfl,by simp [HNO.out],HGW.out.drewN _⟩
theorem wG (x:Fv) (l:List Fl) (o:Option Addr) (cap sb ob g:Nat) (w:World) (hF:FsAt w (.slice o l.length cap) l) (hS:xu l) (hE:EqAt w ob g) (hb:w.cell? ⟨sb,0,none⟩=some (.slice o l.length cap)) (hx:Held w x) (l1:x.f.ms.length≤2000000) (l2:x.f.ds.length≤2000000)
  (hl:l.length≤2000000) (hs:∀f∈l,f.ms.length≤2000000∧f.ds.length≤2000000):
  Calls Tryz.prog 93 #[.agg #[.int .i64 x.f.t,.int .i64 x.f.p,x.mv,x.dv],.pointer (some ⟨sb,0,none⟩),.pointer (some ⟨ob,0,none⟩)] w fun e w'=>∃fd,e= .returned (.bool fd)∧(fd=true↔x.f∈l)∧Grw w w':=by
 have HX:=aa hx;have HE:=aa hE;have HF:=aa hF;have he0:=hE.1;have hobl:=bw he0;have hsbl:=bw hb;obtain⟨⟨xa,xc,e1,_⟩,⟨xb,xe,e2,_⟩⟩:=hx;obtain⟨xf,xm,xd⟩:=x;simp only at e1 e2 l1 l2;subst e1 e2;have hA:Grw w (w.alloc (.cells #[.int .i64 xf.t,.int .i64 xf.p,.slice xa xf.ms.length xc,.slice xb xf.ds.length xe] 135)):=(Grw.refl w).alloc _;have HC:Hid (∀W:World,Below w.heap.size w W→Calls Tryz.prog 94 #[.slice o l.length cap,.agg #[.int .i64 xf.t,.int .i64 xf.p,.slice xa xf.ms.length xc,.slice xb xf.ds.length xe],.func (.func 190) #[] #[.pointer (some ⟨g,0,none⟩)]] W fun e w'=>∃i fd,e= .returned (.tuple #[.int .i64 i,.bool fd])∧(fd=true↔xf∈l)∧Grw W w'):=fun W hW=>
  tN l xf o xa xb cap xc xe g W (HF.out.below hW zr) hS (HE.out.2.below hW) (HX.out.1.below hW zr) (HX.out.2.below hW zr) l1 l2 hl hs
 clear HX HE HF hE hF hS hs;simp only;go_enter Tryz.func93,Tryz.ntmps93;go_wp2_with fail
 refine(ag HC _ hA.below).mono ?_;rintro e w1 ⟨i,fd,rfl,hfd,hg1⟩;have hg:=hA.trans hg1;have HD:=aa hfd;have HG:=aa hg;clear hfd hg hg1 hA HC;go_wp2_with fail
 go_ret;exact⟨fd,rfl,HD.out,HG.out⟩
section
variable {w:World} {blk:Nat}
def yx (w:World) (blk sb ob:Nat) (lo:List Fv) (del:Fl→Bool):Prop:=∀(W:World) (x:Fv),w.grownBy W (some blk)→x∈lo→Calls Tryz.prog 93 #[.agg #[.int .i64 x.f.t,.int .i64 x.f.p,x.mv,x.dv],.pointer (some ⟨sb,0,none⟩),.pointer (some ⟨ob,0,none⟩)] W fun e w'=>e= .returned (.bool (del x.f))∧Grw W w'
theorem uV (lo:List Fv) (del:Fl→Bool) (B cap sb ob:Nat) (hown:w.ownsRow B 135 4 (.slice (some ⟨blk,0,none⟩) lo.length cap) lo.length (C lo)) (hT:yx w blk sb ob lo del) (hok:∀x∈lo,Held w x) (hl:lo.length≤2000000):
  Calls Tryz.prog 155 #[.slice (some ⟨blk,0,none⟩) lo.length cap,.func (.func 93) #[] #[.pointer (some ⟨sb,0,none⟩),.pointer (some ⟨ob,0,none⟩)]] w fun e w'=>∃r:Int,e= .returned (.int .i64 r)∧((r= -1∧∀i,i<lo.length→del (lo.getD i fv0).f=false)∨∃k:Nat,k<lo.length∧r=k∧(∀i,i<k→del (lo.getD i fv0).f=false)∧del (lo.getD k fv0).f=true)∧Grw w w':=by
 have HO:=aa hown;have HT:=aa hT;have HK:=aa hok;have hcap:lo.length≤cap:=by
  obtain⟨_,⟨h,_⟩ |⟨g',cap',cur,hv,_,_,hnc,_⟩⟩:=hown
  ·simp at h
  ·simp only [Value.slice.injEq]at hv;omega
 have hblkw:=(fV hown).2;clear hown hT hok;go_enter Tryz.func155,Tryz.ntmps155;go_wp2_with fail
 go_loopw [8] (fun i wr=>∃k:Nat,k≤lo.length∧i= .int .i64 k∧Hid (∀j,j<k→del (lo.getD j fv0).f=false)∧Grw w wr) (fun i _=>lo.length-(intOf i).toNat)
 case atStart=>exact⟨0,by omega,rfl,aa (fun j h=>absurd h (by omega)),Grw.refl _⟩
 case round=>
  obtain⟨k,hk,rfl,HALL,hgr⟩:=hrel;have hbel:=hgr.below;have hgb:w.grownBy wr (some blk):=Below.grown1 hbel;have HOr:=aa (ar HO.out hbel);have hblkr:=Nat.lt_of_lt_of_le hblkw hbel.size;by_cases hlt:k<lo.length
  ·obtain⟨a0,a1,a2,a3⟩:=cU HOr.out hlt;have hX:=dP hlt;have HXo:=aa (HK.out _ hX);have HST:Hid (∀W:World,w.grownBy W (some blk)→Calls Tryz.prog 93 #[.agg #[.int .i64 (lo.getD k fv0).f.t,.int .i64 (lo.getD k fv0).f.p,(lo.getD k fv0).mv,(lo.getD k fv0).dv],.pointer (some ⟨sb,0,none⟩),.pointer (some ⟨ob,0,none⟩)] W fun e w'=>e= .returned (.bool (del (lo.getD k fv0).f))∧Grw W w'):=fun W hW=>HT.out W _ hW hX;have HNX:Hid (del (lo.getD k fv0).f=false→∀j,j<k+1→del (lo.getD j fv0).f=false):=fun h j hj=>by
    by_cases e:j=k
    ·subst e;exact h
    ·exact HALL.out j (by omega)
   have HFD:Hid (del (lo.getD k fv0).f=true→(∀i,i<k→del (lo.getD i fv0).f=false)∧del (lo.getD k fv0).f=true):=fun h=>⟨HALL.out,h⟩;obtain⟨R,hRd⟩:∃R,R=del (lo.getD k fv0).f:=⟨_,rfl⟩;rw [←hRd]at HST HNX;have HRD:=aa hRd;clear hRd;obtain⟨⟨xa,xc,e1,_⟩,⟨xb,xe,e2,_⟩⟩:=HXo.out;rw [e1]at a2 HST;rw [e2]at a3 HST;clear e1 e2 HXo hX HALL;obtain⟨xt,hxt⟩:∃z,z=(lo.getD k fv0).f.t:=⟨_,rfl⟩;obtain⟨xp,hxp⟩:∃z,z=(lo.getD k fv0).f.p:=⟨_,rfl⟩;obtain⟨xml,hxml⟩:∃z,z=(lo.getD k fv0).f.ms.length:=⟨_,rfl⟩;obtain⟨xdl,hxdl⟩:∃z,z=(lo.getD k fv0).f.ds.length:=⟨_,rfl⟩;rw [←hxt]at a0 HST;rw [←hxp]at a1 HST;rw [←hxml]at a2 HST;rw [←hxdl]at a3 HST;clear hxt hxp hxml hxdl;have q1:(0:Int)≤(k:Int):=(by omega);have q2:(k:Int)<(lo.length:Int):=(by omega);have HGD:Hid (∀n,w.grownBy (wr.drewN n) (some blk)):=fun n=>⟨hgb.os,hgb.tape,hgb.output,hgb.size,hgb.block⟩;clear hgb;go_wp2_with fail
   refine(ag HST _ (Below.grown1 hbel)).mono ?_;rintro e w1 ⟨rfl,hg1⟩;have HG1:=aa (hgr.trans hg1);clear hg1 hgr hbel HGD HST HOr a0 a1 a2 a3;cases R
   ·have HN:=aa (HNX.out rfl);clear HNX HFD HRD;go_wp2_with fail
    go_roundw
    case rel=>exact⟨k+1,by omega,by go_num,HN,HG1.out⟩
    case measure=>simp [intOf];omega
   ·have HN:=aa (HFD.out HRD.out.symm);clear HNX HFD HRD;go_wp2_with fail
    go_ret;exact⟨_,rfl,.inr ⟨k,hlt,rfl,HN.out.1,HN.out.2⟩,HG1.out⟩
  ·have hkl:k=lo.length:=(by omega);have HN:Hid (∀i,i<lo.length→del (lo.getD i fv0).f=false):=fun i hi=>HALL.out i (by omega);have HG1:=aa hgr;clear HALL hkl hgr hbel hgb HOr;go_wp2_with fail
   go_ret;exact⟨_,rfl,.inl ⟨rfl,HN.out⟩,HG1.out⟩
end
def kp (del:Fl→Bool) (lo:List Fv) (j:Nat):List Fv:=(lo.take j).filter fun x=> !del x.f
theorem pN (del:Fl→Bool) (lo:List Fv) (j:Nat) (h:j<lo.length):kp del lo (j+1)=if del (lo.getD j fv0).f=true then kp del lo j else kp del lo j++ [lo.getD j fv0]:=by
 unfold kp;rw [List.take_succ_eq_append_getElem h,List.filter_append];have e:lo.getD j fv0=lo[j]:=by simp [List.getD,List.getElem?_eq_getElem h]
 rw [e];by_cases hd:del lo[j].f=true
 ·rw [if_pos hd];simp [hd]
 ·rw [if_neg hd];simp [hd]
theorem tp (del:Fl→Bool) (lo:List Fv):∀j,j≤lo.length→(∀i,i<j→del (lo.getD i fv0).f=false)→kp del lo j=lo.take j
 | 0,_,_=>by simp [kp]
 | j+1,hj,h=>by
  rw [pN del lo j (by omega),if_neg (by rw [h j (by omega)];simp),tp del lo j (by omega) (fun i hi=>h i (by omega)),List.take_succ_eq_append_getElem (by omega)];simp [List.getD,List.getElem?_eq_getElem (show j<lo.length by omega)]
section
variable {w:World} {blk:Nat}
theorem s9 (lo:List Fv) (del:Fl→Bool) (B cap sb ob:Nat) (hown:w.ownsRow B 135 4 (.slice (some ⟨blk,0,none⟩) lo.length cap) lo.length (C lo)) (hT:yx w blk sb ob lo del) (hok:∀x∈lo,Held w x) (hl:lo.length≤2000000):
  Calls Tryz.prog 91 #[.slice (some ⟨blk,0,none⟩) lo.length cap,.func (.func 93) #[] #[.pointer (some ⟨sb,0,none⟩),.pointer (some ⟨ob,0,none⟩)]] w fun e w'=>e= .returned (.slice (some ⟨blk,0,none⟩) (kp del lo lo.length).length cap)∧w'.ownsRow B 135 4 (.slice (some ⟨blk,0,none⟩) (kp del lo lo.length).length cap) (kp del lo lo.length).length (C (kp del lo lo.length))∧w.grownBy w' (some blk):=by
 have HO:=aa hown;have HT:=aa hT;have HK:=aa hok;have hcap:lo.length≤cap:=by
  obtain⟨_,⟨h,_⟩ |⟨g',cap',cur,hv,_,_,hnc,_⟩⟩:=hown
  ·simp at h
  ·simp only [Value.slice.injEq]at hv;omega
 have hblkw:=(fV hown).2;clear hown hT hok;go_enter Tryz.func91,Tryz.ntmps91;go_wp2_with fail
 refine(uV lo del B cap sb ob HO.out HT.out HK.out hl).mono ?_;rintro e w1 ⟨r,rfl,hr,hg1⟩;have HO1:=aa (ar HO.out hg1.below);have HG1:=aa (Below.grown1 (row:=some blk) hg1.below);clear hg1;rcases hr with⟨rfl,hall⟩ |⟨k,hk,rfl,hall,hdel⟩
 ·have HE:Hid (kp del lo lo.length=lo):=by
   show _=_;rw [tp del lo lo.length zr hall,List.take_length]
  clear hall;go_wp2_with fail
  go_ret;rw [HE.out];exact⟨rfl,HO1.out,HG1.out⟩
 ·have HD0:Hid (kp del lo (k+1)=lo.take k):=by
   show _=_;rw [pN del lo k hk,if_pos hdel,tp del lo k (by omega) hall]
  clear hall hdel;have hne:((k:Int)== -1)=false:=beq_eq_false_iff_ne.mpr (by omega);go_wp2_with fail
  rename World=>W0
  go_loopw [5,6,7] (fun p j _ wq=>∃(jj pp:Nat) (r:List Fv),p= .int .i64 pp∧j= .int .i64 jj∧jj≤lo.length∧pp+1≤jj∧Hid (r.length=lo.length∧r.take pp=kp del lo jj∧pp=(kp del lo jj).length∧∀i,jj≤i→r.getD i fv0=lo.getD i fv0)∧Hid (wq.ownsRow B 135 4 (.slice (some ⟨blk,0,none⟩) r.length cap) r.length (C r))∧Hid (w.grownBy wq (some blk))) (fun _ j _ _=>lo.length-(intOf j).toNat)
  case atStart=>exact⟨k+1,k,lo,rfl,by go_num,by omega,by omega,aa ⟨rfl,HD0.out.symm,by rw [HD0.out];simp;omega,fun i _=>rfl⟩,HO1,HG1⟩
  case round=>
   clear HO1 HG1 HD0;obtain⟨jj,pp,r,rfl,rfl,hjl,hpp,HI,HOq,HGq⟩:=hrel;have hblkq:=(fV HOq.out).2;by_cases hlt2:jj<lo.length
   ·obtain⟨hrl,hrt,hrp,hrd⟩:=HI.out;have hxl:jj<r.length:=(by omega);obtain⟨a0,a1,a2,a3⟩:=cU HOq.out hxl;rw [hrd jj zr]at a0 a1 a2 a3;have hX:=dP hlt2;have HXo:=aa (HK.out _ hX);have HST:Hid (∀W:World,w.grownBy W (some blk)→Calls Tryz.prog 93 #[.agg #[.int .i64 (lo.getD jj fv0).f.t,.int .i64 (lo.getD jj fv0).f.p,(lo.getD jj fv0).mv,(lo.getD jj fv0).dv],.pointer (some ⟨sb,0,none⟩),.pointer (some ⟨ob,0,none⟩)] W fun e w'=>e= .returned (.bool (del (lo.getD jj fv0).f))∧Grw W w'):=fun W hW=>HT.out W _ hW hX;have HDN:=aa (pN del lo jj hlt2);obtain⟨x,hxd⟩:∃x,x=lo.getD jj fv0:=⟨_,rfl⟩;rw [←hxd]at HST HDN a0 a1 a2 a3 HXo;clear hxd hX hrt hrp hrd;have HIR:=HI;clear HI;generalize del x.f=R at*;obtain⟨⟨xa',xc',e1,_⟩,⟨xb',xe',e2,_⟩⟩:=HXo.out;rw [e1]at a2 HST;rw [e2]at a3 HST;have HE1:=aa e1;have HE2:=aa e2;clear e1 e2 HXo;obtain⟨xt',hxt⟩:∃z,z=x.f.t:=⟨_,rfl⟩;obtain⟨xp',hxp⟩:∃z,z=x.f.p:=⟨_,rfl⟩;obtain⟨xml',hxml⟩:∃z,z=x.f.ms.length:=⟨_,rfl⟩;obtain⟨xdl',hxdl⟩:∃z,z=x.f.ds.length:=⟨_,rfl⟩;rw [←hxt]at a0 HST;rw [←hxp]at a1 HST;rw [←hxml]at a2 HST HE1;rw [←hxdl]at a3 HST HE2;have HX4:Hid (xt'=x.f.t∧xp'=x.f.p):=⟨hxt,hxp⟩;clear hxt hxp hxml hxdl;have p1:(0:Int)≤(jj:Int):=(by omega);have p2:(jj:Int)<(lo.length:Int):=(by omega);have hA:Grw wr (wr.alloc (.cells #[.int .i64 xt',.int .i64 xp',.slice xa' xml' xc',.slice xb' xdl' xe'] 135)):=(Grw.refl wr).alloc _;have HGA:=aa (ic HGq.out (Below.grown1 (row:=some blk) hA.below));go_wp2_with fail
    refine(ag HST _ HGA.out).mono ?_;rintro e w2 ⟨rfl,hg2⟩;have z0:w2.cell? ⟨wr.heap.size,0,none⟩=some (.int .i64 xt'):=ae (by simp) hg2.below zr;have z1:w2.cell? ⟨wr.heap.size,1,none⟩=some (.int .i64 xp'):=ae (by simp) hg2.below zr;have z2:w2.cell? ⟨wr.heap.size,2,none⟩=some (.slice xa' xml' xc'):=ae (by simp) hg2.below zr;have z3:w2.cell? ⟨wr.heap.size,3,none⟩=some (.slice xb' xdl' xe'):=ae (by simp) hg2.below zr;have hb2:=(hA.trans hg2).below;have HO2:=aa (ar HOq.out hb2);have HG2:=aa (ic HGq.out (Below.grown1 hb2));have hn1:¬blk=wr.heap.size:=(by omega);have hn2:¬wr.heap.size=blk:=(by omega);clear a0 a1 a2 a3 hg2 hb2 HST HOq HGq HGA hA;cases R
    ·rw [if_neg (by simp)]at HDN;have hppl:pp<r.length:=(by omega);obtain⟨c0,c1,c2,c3⟩:=cU HO2.out hppl;have f0:=HO2.out.frozenAt (pp*4);have f1:=HO2.out.frozenAt (pp*4+1);have f2:=HO2.out.frozenAt (pp*4+2);have f3:=HO2.out.frozenAt (pp*4+3);have HO4:=aa (qm HO2.out pp x hppl);rw [←HX4.out.1, ←HX4.out.2,HE1.out,HE2.out]at HO4;have HG4:=aa (cE (j:=pp*4+3) (v:=.slice xb' xdl' xe') (cE (j:=pp*4+2) (v:=.slice xa' xml' xc') (cE (j:=pp*4+1) (v:=.int .i64 xp') (cE (j:=pp*4) (v:=.int .i64 xt') HG2.out))));have HN:Hid ((r.set pp x).length=lo.length∧(r.set pp x).take (pp+1)=kp del lo (jj+1)∧pp+1=(kp del lo (jj+1)).length∧∀i,jj+1≤i→(r.set pp x).getD i fv0=lo.getD i fv0):=by
      obtain⟨n1,n2,n3,n4⟩:=HIR.out;rw [HDN.out];refine aa ⟨by simpa using n1,?_,by simp;omega,fun i hi=>?_⟩
      ·rw [←n2];rw [List.take_succ_eq_append_getElem (by simpa using hppl),List.take_set_of_le zr];simp
      ·rw [←n4 i (by omega)];simp [List.getD,show¬pp=i by omega]
     generalize (r.getD pp fv0).f.t=ct at*;generalize (r.getD pp fv0).f.p=cp at*;generalize (r.getD pp fv0).mv=cmv at*;generalize (r.getD pp fv0).dv=cdv at*;have t1:(0:Int)≤(pp:Int):=(by omega);have t2:(pp:Int)<(lo.length:Int):=(by omega);clear HDN HIR HE1 HE2 HX4 HO2 HG2;go_wp2_with fail
     go_roundw
     case rel=>exact⟨jj+1,pp+1,r.set pp x,by go_num,by go_num,by omega,by omega,HN,HO4,HG4⟩
     case measure=>simp [intOf];omega
    ·rw [if_pos rfl]at HDN;have HN:Hid (r.length=lo.length∧r.take pp=kp del lo (jj+1)∧pp=(kp del lo (jj+1)).length∧∀i,jj+1≤i→r.getD i fv0=lo.getD i fv0):=by
      obtain⟨n1,n2,n3,n4⟩:=HIR.out;rw [HDN.out];exact aa ⟨n1,n2,n3,fun i hi=>n4 i (by omega)⟩
     clear HDN HIR HE1 HE2 HX4;go_wp2_with fail
     go_roundw
     case rel=>exact⟨jj+1,pp,r,rfl,by go_num,by omega,by omega,HN,HO2,HG2⟩
     case measure=>simp [intOf];omega
   ·obtain⟨hrl,hrt,hrp,hrd⟩:=HI.out;have hend:jj=lo.length:=(by omega);rw [hend]at hrt hrp;have HPP:=aa hrp;have HOP:Hid (wr.ownsRow B 135 4 (.slice (some ⟨blk,0,none⟩) pp cap) pp (C (kp del lo lo.length))):=by
     have:=l9 HOq.out (show pp≤r.length by omega);rw [xG,hrt]at this;exact aa this
    have hpl:pp<lo.length:=(by omega);obtain⟨vs,hclr⟩:∃vs,∀ty,(Builtin.clear_ #[43] ty #[.slice (some ⟨blk,pp*4,none⟩) (lo.length-pp) (cap-pp)]).run Tryz.prog wr= .ok (.tuple #[]) (wr.setCells blk (pp*4) vs):=
     kZ wr blk (pp*4) (lo.length-pp) (cap-pp) (by omega) (fun j hj=>by rw [HOq.out.cellAt (pp*4+j) (by omega),List.getElem?_eq_getElem (by rw [uh];omega)];rfl) (fun j hj=>HOq.out.frozenAt _)
    have s1:(lo.length:Int)≤(jj:Int):=(by omega);have s2:(0:Int)≤(pp:Int):=(by omega);have s3:(pp:Int)≤(lo.length:Int):=(by omega);have s4:(pp:Int)≤(cap:Int):=(by omega);have HOE:=aa (gM vs (pp*4) wr HOP.out zr);have HGE:=aa (fF vs (pp*4) wr HGq.out);clear hrl hrt hrp hrd hend HOP HOq HGq HI hlt2 hjl hpp;go_wp2_with (simp only [hclr])
    go_ret;refine⟨?_,?_,HGE.out⟩
    ·rw [←HPP.out];rfl
    ·rw [←HPP.out];exact HOE.out
end
theorem zV {sl:List Fv} (h:sl.Pairwise fun a b=>¬plc b.f a.f<0):xu (sl.map Fv.f):=by
 intro i j hij hj;have hj':j<sl.length:=by simpa using hj
 have hi':i<sl.length:=by omega
 have:=List.pairwise_iff_getElem.1 h i j hi' hj' hij;have e1:(sl.map Fv.f).getD i fl0=sl[i].f:=by simp [List.getD,List.getElem?_eq_getElem hi']
 have e2:(sl.map Fv.f).getD j fl0=sl[j].f:=by simp [List.getD,List.getElem?_eq_getElem hj']
 rw [e1,e2];exact Int.not_lt.1 fun hc=>this ((fB _ _).2 hc)
theorem A6 (del:Fl→Bool) (lo:List Fv):(kp del lo lo.length).map Fv.f=(lo.map Fv.f).filter fun f=> !del f:=by
 unfold kp;rw [List.take_length,List.filter_map];rfl
theorem AI {del:Fl→Bool} {lo:List Fv} {x:Fv} (h:x∈kp del lo lo.length):x∈lo:=by
 unfold kp at h;rw [List.take_length]at h;exact(List.mem_filter.1 h).1
theorem nN (p:Option Addr) (cap:Nat) (fv:Value) (w:World):Calls Tryz.prog 155 #[.slice p 0 cap,fv] w fun e w'=>e= .returned (.int .i64 (-1))∧w'=w:=by
 go_enter Tryz.func155,Tryz.ntmps155;go_wp2_with fail
 refine wp_loop_rounds 1 ?_;rw [rounds_succ];go_wp2_with fail
 go_ret;exact⟨rfl,rfl⟩
theorem nm (p:Option Addr) (cap:Nat) (fv:Value) (w:World):Calls Tryz.prog 91 #[.slice p 0 cap,fv] w fun e w'=>e= .returned (.slice p 0 cap)∧w'=w:=by
 go_enter Tryz.func91,Tryz.ntmps91;go_wp2_with fail
 refine(nN p cap fv w).mono ?_;rintro e w1 ⟨rfl,rfl⟩;go_wp2_with fail
 go_ret;exact⟨rfl,rfl⟩
theorem li (vl vg:Value) (ls gs:List Fl) (w:World) (hF:FsAt w vl ls) (hG:FsAt w vg gs) (hl:ls.length≤2000000) (hlg:gs.length≤2000000) (hs:∀f∈ls,f.ms.length≤2000000∧f.ds.length≤2000000) (hsg:∀f∈gs,f.ms.length≤2000000∧f.ds.length≤2000000):
  Calls Tryz.prog 49 #[vl,vg] w fun e w'=>∃u,e= .returned u∧∃lo:List Fv,lo.map Fv.f=ls.filter (fun f=> !th f gs gs.length)∧∃w4,(∀x∈lo,Held w4 x)∧w'.ownsRow w4.heap.size 135 4 u lo.length (C lo)∧Below w.heap.size w w4∧Below w4.heap.size w4 w':=by
 have HF:=aa hF;have HG:=aa hG;have HS:=aa hs;have HSG:=aa hsg;obtain⟨a,cap,rfl,_,_⟩:=hF;obtain⟨a2,cap2,rfl,_,_⟩:=hG;clear hs hsg;go_enter Tryz.func49,Tryz.ntmps49;go_wp2_with fail
 refine(fM _).mono ?_;rintro e w1 ⟨rfl,hw1⟩;have hb1:Below w.heap.size w w1:=by rw [hw1];exact((Below.refl _ _).alloc zr _).alloc (by simp) _
 have HO1:Hid (OrdAt w1 (w.heap.size+1)):=by
  rw [hw1];have e:w.heap.size+1=(w.alloc Ab).heap.size:=(by simp);refine aa ⟨w.heap.size,?_,?_⟩
  ·rw [e];simp
  ·simp
 have hs1:=hb1.size;clear hw1;obtain⟨G,hG⟩:∃G,G=w.heap.size+1:=⟨_,rfl⟩;rw [←hG]at HO1⊢;clear hG;go_wp2_with fail
 refine(lg _ gs _ (HG.out.below hb1 zr) hlg HSG.out).mono ?_;rintro e w3 ⟨u,rfl,sl,hp,hsrt,hh,ho3,hb3⟩;obtain⟨so,sc,rfl,hsc,hsg⟩:=jJ ho3;have hb03:=hb1.trans (hb3.mono hb1.size);have HO3:=aa (HO1.out.below hb3);have HFS:Hid (FsAt w3 (.slice so sl.length sc) (sl.map Fv.f)):=aa (ng (w0:=w) ho3 (fun x hx=>(hh x hx).below hb3 zr));have HSO:=aa (zV hsrt);have HPM:Hid (∀f,f∈sl.map Fv.f↔f∈gs):=fun f=>hp.mem_iff;have HLN:Hid ((sl.map Fv.f).length≤2000000):=by
  have:=hp.length_eq;exact aa (by omega)
 have HSL:Hid (∀f∈sl.map Fv.f,f.ms.length≤2000000∧f.ds.length≤2000000):=fun f hf=>HSG.out f (hp.mem_iff.1 hf);have HML:Hid ((sl.map Fv.f).length=sl.length):=aa (List.length_map _);clear hp hh ho3 hsg hsrt hb3 HO1;go_wp2_with fail
 obtain⟨w4,hw4⟩:∃w4,w4=(w3.alloc (.cells #[.func (.func 190) #[] #[.pointer (some ⟨G,0,none⟩)]] 147)).alloc (.cells #[.slice so sl.length sc] 43):=⟨_,rfl⟩;have hb34:Below w3.heap.size w3 w4:=by rw [hw4];exact((Below.refl _ _).alloc zr _).alloc (by simp) _
 have HB4:=aa (hb03.trans (hb34.mono hb03.size));have HE4:Hid (EqAt w4 w3.heap.size G):=by
  refine aa ⟨by rw [hw4];simp,HO3.out.below hb34⟩
 have HC4:Hid (w4.cell? ⟨w3.heap.size+1,0,none⟩=some (.slice so sl.length sc)):=by
  rw [hw4];have e:w3.heap.size+1=(w3.alloc (.cells #[.func (.func 190) #[] #[.pointer (some ⟨G,0,none⟩)]] 147)).heap.size:=(by simp);rw [e];exact aa (by simp)
 have HF4:=aa (HFS.out.below hb34 zr);rw [←hw4];clear hw4 hb34 HO3 HFS;obtain⟨OB,hOB⟩:∃OB,OB=w3.heap.size:=⟨_,rfl⟩;rw [←hOB]at HE4 HC4⊢;clear hOB;refine(ld _ ls w4 (HF.out.below HB4.out zr) hl).mono ?_;rintro e w5 ⟨v,lo,rfl,hlm,hh5,ho5,hb5⟩;have HLM:=aa hlm;have HH5:=aa hh5;have HO5:=aa ho5;have HLL:Hid (lo.length≤2000000):=by
  have:=congrArg List.length hlm;rw [List.length_map]at this;exact aa (by omega)
 have HBD:Hid (∀x∈lo,x.f.ms.length≤2000000∧x.f.ds.length≤2000000):=fun x hx=>HS.out x.f (by rw [←hlm];exact List.mem_map_of_mem hx);clear hlm hh5;by_cases h0:lo.length=0
 ·obtain⟨ua,uc,rfl, -, -⟩:=jJ ho5;obtain rfl:=List.eq_nil_of_length_eq_zero h0;have HNL:Hid (ls= []):=HLM.out.symm;clear ho5 HLM;go_wp2_with fail
  refine(nm _ _ _ _).mono ?_;rintro e w6 ⟨rfl,rfl⟩;have HB5:=aa hb5;go_wp2_with fail
  go_ret;exact⟨_,rfl,[],by rw [HNL.out];rfl,w4,by simp,HO5.out,HB4.out,HB5.out⟩
 ·obtain⟨blk,uc,rfl,_⟩:=ho5.form (by omega);obtain⟨hblk0,hblk1⟩:=fV ho5;clear ho5;have HW:Hid (∀W:World,w5.grownBy W (some blk)→Below w4.heap.size w4 W):=fun W hW=>hb5.grown hW hb5.size (by simp;omega);have HTS:Hid (yx w5 blk (OB+1) OB lo (fun f=>th f gs gs.length)):=fun W x hW hx=>by
   have hbW:=HW.out W hW;have hlen:=HML.out;have hFW:=HF4.out.below hbW zr;rw [←hlen]at hFW;have hcW:=ae HC4.out hbW zr;rw [←hlen]at hcW;refine(wG x (sl.map Fv.f) so sc (OB+1) OB G W hFW HSO.out (HE4.out.below hbW) hcW ((HH5.out x hx).below hbW zr) (HBD.out x hx).1 (HBD.out x hx).2 HLN.out HSL.out).mono ?_;rintro e w' ⟨fd,rfl,hfd,hg⟩;refine⟨?_,hg⟩;have:fd=th x.f gs gs.length:=by
    rw [Bool.eq_iff_iff,hfd,su];exact HPM.out x.f
   rw [this]
  have HHH:Hid (∀x∈lo,Held w5 x):=fun x hx=>(HH5.out x hx).below hb5 zr;clear hb5;go_wp2_with fail
  refine(s9 lo (fun f=>th f gs gs.length) w4.heap.size uc (OB+1) OB HO5.out HTS.out HHH.out HLL.out).mono ?_;rintro e w6 ⟨rfl,ho6,hg6⟩;have HO6:=aa ho6;have HB6:=aa (HW.out w6 hg6);clear ho6 hg6 HO5 HTS HHH;go_wp2_with fail
  go_ret;exact⟨_,rfl,kp (fun f=>th f gs gs.length) lo lo.length,by rw [A6,HLM.out],w4,fun x hx=>HH5.out x (AI hx),HO6.out,HB4.out,HB6.out⟩
def lft (xs ys:List Fl):List Fl:=xs.filter fun f=> !th f ys ys.length
theorem jh (xs ys:List Fl):(lft xs ys).length≤xs.length:=List.length_filter_le _ _
theorem tU {xs ys:List Fl} {f:Fl} (h:f∈lft xs ys):f∈xs:=(List.mem_filter.1 h).1
theorem Few.lft {xs ys:List Fl} (h:Few xs):Few (lft xs ys):=⟨Nat.le_trans (jh xs ys) h.1,fun f hf=>h.2 f (tU hf)⟩
theorem gH (vl vg:Value) (ls gs:List Fl) (w:World) (hF:FsAt w vl ls) (hG:FsAt w vg gs) (hl:Few ls) (hg:Few gs):
  Calls Tryz.prog 49 #[vl,vg] w fun e w'=>∃u,e= .returned u∧FsAt w' u (lft ls gs)∧Below w.heap.size w w':=by
 refine(li vl vg ls gs w hF hG hl.1 hg.1 hl.2 hg.2).mono ?_;rintro e w' ⟨u,rfl,lo,hm,w4,hh,ho,hb,hb'⟩;have:=ng (w0:=w) ho (fun x hx=>(hh x hx).below hb' zr);rw [hm]at this;exact⟨u,rfl,this,hb.trans (hb'.mono hb.size)⟩
theorem vV (va vb:Value) (xs ys:List Fl) (w:World) (hA:FsAt w va xs) (hB:FsAt w vb ys) (hx:Few xs) (hy:Few ys):
  Calls Tryz.prog 22 #[va,vb] w fun e w'=>∃u v,e= .returned (.tuple #[u,v])∧FsAt w' u (srt (lft ys xs) (lft ys xs).length)∧FsAt w' v (srt (lft xs ys) (lft xs ys).length)∧Below w.heap.size w w':=by
 have HA:=aa hA;have HB:=aa hB;have HX:=aa hx;have HY:=aa hy;obtain⟨a,cap,rfl⟩:=bM hA;obtain⟨a2,cap2,rfl⟩:=bM hB;clear hA hB hx hy;go_enter Tryz.func22,Tryz.ntmps22;go_wp2_with fail
 refine(gH _ _ ys xs _ HB.out HA.out HY.out HX.out).mono ?_;rintro e w1 ⟨u1,rfl,hu1,hb1⟩;have HU1:=aa hu1;obtain⟨p1,c1,rfl⟩:=bM hu1;clear hu1;go_wp2_with fail
 refine(mX _ (lft ys xs) _ HU1.out HY.out.lft.1 HY.out.lft.2).mono ?_;rintro e w2 ⟨u2,rfl,hu2,hb2⟩;have HU2:=aa hu2;obtain⟨p2,c2,rfl⟩:=bM hu2;have hb02:=hb1.trans (hb2.mono hb1.size);clear hu2 hb1 hb2 HU1;go_wp2_with fail
 refine(gH _ _ xs ys _ (HA.out.below hb02 zr) (HB.out.below hb02 zr) HX.out HY.out).mono ?_;rintro e w3 ⟨u3,rfl,hu3,hb3⟩;have HU3:=aa hu3;obtain⟨p3,c3,rfl⟩:=bM hu3;clear hu3;go_wp2_with fail
 refine(mX _ (lft xs ys) _ HU3.out HX.out.lft.1 HX.out.lft.2).mono ?_;rintro e w4 ⟨u4,rfl,hu4,hb4⟩;have HU4:=aa hu4;obtain⟨p4,c4,rfl⟩:=bM hu4;have hb24:=hb3.trans (hb4.mono hb3.size);have HU5:=aa (HU2.out.below hb24 zr);have HBB:=aa (hb02.trans (hb24.mono hb02.size));clear hu4 hb3 hb4 HU3 hb24 hb02 HU2;go_wp2_with fail
 go_ret2;exact⟨_,_,rfl,HU5.out,HU4.out,HBB.out⟩

theorem yO {w:World} {ad:Addr} {cap:Nat} {fs:List Fl} (h:FsAt w (.slice (some ad) fs.length cap) fs):∃lc:List Fv,lc.map Fv.f=fs∧lc.length=fs.length∧(∀x∈lc,Held w x)∧∀j u,(C lc)[j]? =some u→w.cell? (ad.add j)=some u:=by
 obtain⟨_,_,lo,h1,h2,h3⟩:=AD h;have hll:lo.length=fs.length:=by rw [←h1];simp
 refine⟨lo,h1,hll,h2,?_⟩;rcases h3 with h |⟨b,off,h4,_,h5⟩
 ·intro j u hj;rw [List.eq_nil_of_length_eq_zero h]at hj;simp [C]at hj
 ·cases h4;exact h5
def As (w:World) (u:Value) (lo:List Fv):Prop:=∀W:World,w.grownBy W u.ownBlock→∀x∈lo,Held W x
theorem nZ {w4 w1:World} {u:Value} {lo:List Fv} (hh:∀x∈lo,Held w4 x) (ho:w1.ownsRow w4.heap.size 135 4 u lo.length (C lo)) (hb:Below w4.heap.size w4 w1):As w1 u lo:=fun W hW x hx=>
 (hh x hx).below (hb.grown hW hb.size (aS ho)) zr
theorem wa {w w1 w2:World} {B:Nat} {u v:Value} {lo lc:List Fv} (hk:As w1 u lo) (hc:∀x∈lc,Held w x) (hb:Below w.heap.size w w2) (hg:w1.grownBy w2 u.ownBlock) (ho:w2.ownsRow B 135 4 v (lo.length+lc.length) (C lo++C lc)):FsAt w2 v (lo.map Fv.f++lc.map Fv.f):=by
 rw [←List.map_append];rw [←im, ←List.length_append]at ho;refine ng (w0:=w) ho fun x hx=>?_;rcases List.mem_append.1 hx with h | h
 ·exact hk w2 hg x h
 ·exact(hc x h).below hb zr
theorem qA (p:Option Addr) (n c:Nat) (h:n≤c) (w:World) (ty:TypeId):(Builtin.append_ #[43,43] ty #[.slice p n c,.slice none 0 0]).run Tryz.prog w= .ok (.slice p n c) w:=by
 obtain⟨i0,hi,hz0,hz1,hz2⟩:=info_parts fD;cases p <;>simp [Builtin.append_,run_underlying Tryz.underlying43,sizeOf,typeInfo,hi,Builtin.lenOf,Builtin.firstCells,h,storeCells]
theorem km {ops:Array Oper} {rest:List Oper} {o:Oper} {a:Act} {Q:Exit→Act→World→Prop} {w:World} (hgd:o.guard=none) (s x:Operand)
  (ho:o.op= .call {callee:=.builtin .append,args:= #[s,x],argTypes:= #[43,43]}) (p:Option Addr) (n c:Nat) (h:n≤c) (hs:a.eval s= .slice p n c) (hx:a.eval x= .slice none 0 0)
  (hK:wpList Tryz.prog ops Q rest (a.put o.dst (.slice p n c)) w):wpList Tryz.prog ops Q (o::rest) a w:=by
 refine wpList_plain hgd fun K hK'=>?_;have hr:=qA p n c h w o.type;unfold Oper.wp execOp;simp only [ho,resolve,invoke,builtin,Sem.run_bind,Sem.run_pure,Result.andThen_ok,List.map_toArray,List.map_cons,List.map_nil,hs,hx,hr];exact hK' _ _ hK
theorem FsOwn.less {w:World} {B B':Nat} {u:Value} {fs:List Fl} (h:FsOwn w B u fs) (hB:B'≤B):FsOwn w B' u fs:=⟨h.1,h.2.imp id fun⟨blk,cap,lo,e1,e2,ho,hx⟩=>⟨blk,cap,lo,e1,e2,aA ho hB,fun x hx'=>⟨(hx x hx').1,fun g hg=>Nat.le_trans hB ((hx x hx').2.1 g hg),fun g hg=>Nat.le_trans hB ((hx x hx').2.2 g hg)⟩⟩⟩
theorem vH (vl vc vg:Value) (ls cs gs:List Fl) (w:World) (hL:FsAt w vl ls) (hC:FsAt w vc cs) (hG:FsAt w vg gs) (fl:Few ls) (fc:Few cs) (fg:Few gs) (hsum:ls.length+cs.length≤2000000):
  Calls Tryz.prog 23 #[vl,vc,vg] w fun e w'=>∃u,e= .returned u∧FsOwn w' w.heap.size u (srt (lft ls gs++cs) (lft ls gs++cs).length)∧Below w.heap.size w w':=by
 obtain⟨i0,hi,hz0,hz1,hz2⟩:=info_parts fD;have HL:=aa hL;have HC:=aa hC;have HG:=aa hG;have HFL:=aa fl;have HFG:=aa fg;have HFW:Hid (Few (lft ls gs++cs)):=by
  refine aa ⟨?_,fun f hf=>?_⟩
  ·have:=jh ls gs;rw [List.length_append];omega
  ·rcases List.mem_append.1 hf with h | h
   ·exact fl.2 f (tU h)
   ·exact fc.2 f h
 obtain⟨a,cap,rfl⟩:=bM hL;obtain⟨a3,cap3,rfl⟩:=bM hG;obtain⟨a2,cap2,rfl,hn2,hL2⟩:=hC;have hlls:=fl.1;clear hL hG fl fc fg;cases a2 with
 | none=>
  obtain rfl:=hn2 rfl;have h0:cs.length=0:=by
   rcases hL2 with h |⟨_,_,h,_⟩
   ·exact h
   ·simp at h
  obtain rfl:=List.eq_nil_of_length_eq_zero h0;clear hL2 h0 hn2;rw [show([]:List Fl).length=0 from rfl];rw [List.append_nil]at HFW⊢;go_enter Tryz.func23,Tryz.ntmps23;go_wp2_with fail
  refine(gH _ _ ls gs _ HL.out HG.out HFL.out HFG.out).mono ?_;rintro e w1 ⟨u,rfl,hu,hb1⟩;have HU:=aa hu;obtain⟨p1,c1,rfl,hpn,hpl⟩:=hu;have hc1:(lft ls gs).length≤c1:=by
   rcases hpl with h |⟨_,_,_,h,_⟩
   ·omega
   ·exact h
  clear hpl hpn;go_wp2_with (at_builtin;refine km rfl _ _ rfl p1 (lft ls gs).length c1 hc1 rfl rfl ?_)
  refine(mw _ (lft ls gs) _ HU.out HFW.out.1 HFW.out.2).mono ?_;rintro e w2 ⟨u2,rfl,hu2,hb2⟩;have HU2:=aa (hu2.less hb1.size);obtain⟨p2,c2,rfl⟩:=bM hu2.1;have HB2:=aa (hb1.trans (hb2.mono hb1.size));clear hu2 hb1 hb2 HU;go_wp2_with fail
  go_ret;exact⟨_,rfl,HU2.out,HB2.out⟩
 | some ad=>
  obtain⟨lc,hlc,hlcl,hhc,hcell⟩:=yO HC.out;have HLC:=aa hlc;have HHC:=aa hhc;have HCL:=aa hcell;have HCN:Hid ((C lc).length=cs.length*4):=by
   rw [←hlcl];exact aa (uh lc)
  have HLL:=aa hlcl;clear hL2 hn2 hlc hhc hcell hlcl;go_enter Tryz.func23,Tryz.ntmps23;go_wp2_with fail
  refine(li _ _ ls gs _ HL.out HG.out HFL.out.1 HFG.out.1 HFL.out.2 HFG.out.2).mono ?_;rintro e w1 ⟨u,rfl,lo,hm,w4,hh,ho,hb4,hb41⟩;have HM:=aa hm;have HKP:=aa (nZ hh ho hb41);have HO:=aa ho;have hb1:=hb4.trans (hb41.mono hb4.size);have hs4:=hb4.size;have hs41:=hb41.size;have hll:lo.length≤ls.length:=by
   have:=congrArg List.length hm;rw [List.length_map]at this;rw [this];exact List.length_filter_le _ _
  have HCW:Hid (∀j u,(C lc)[j]? =some u→w1.cell? (ad.add j)=some u):=fun j u hj=>by
   have h:=HCL.out j u hj;have hsp:(ad.add j).spot=none:=World.cell?_spot h;rcases hq:ad.add j with⟨bb,oo,ss⟩;rw [hq]at h hsp;simp only at hsp;subst hsp;exact ae h hb1 zr
  clear hm hh ho hb4 hb41;go_wp2_with (at_builtin;refine wpList_append_own _ rfl _ _ 43 rfl w4.heap.size 135 i0 _ 4 64 Tryz.underlying43 hi hz0 hz1 hz2 rfl (by decide) _ _ _ rfl (ag HO) ad cs.length cap2 (C lc) rfl (ag HCN) (ag HCW) (rg (ag HHC)) ?a1 ?a2 ?a3 ?_)
  case a1=>unfold maxLen;omega
  case a2=>omega
  case a3=>exact hs41
  intro v2 w2 ho2 hg2 _;have hb2:Below w.heap.size w w2:=hb1.grown hg2 hb1.size (fun g e=>Nat.le_trans hs4 (aS HO.out g e));have HF2:Hid (FsAt w2 v2 (lft ls gs++cs)):=by
   have:=wa HKP.out HHC.out hb2 hg2 (by rw [HLL.out];exact ho2);rw [HM.out,HLC.out]at this;exact aa this
  obtain⟨p2,c2,hv2⟩:=bM HF2.out;have HSRT:=aa (mw v2 (lft ls gs++cs) w2 HF2.out HFW.out.1 HFW.out.2);obtain⟨N,hN⟩:∃N,N=(lft ls gs++cs).length:=⟨_,rfl⟩;rw [←hN]at hv2;subst hv2;clear hN ho2 hg2 HO HKP HCW HCL hb1 HF2;go_wp2_with fail
  refine(ag HSRT).mono ?_;rintro e w3 ⟨u3,rfl,hu3,hb3⟩;have HU3:=aa (hu3.less hb2.size);obtain⟨p3,c3,hv3⟩:=bM hu3.1;obtain⟨N3,hN3⟩:∃N3,N3=(srt (lft ls gs++cs) (lft ls gs++cs).length).length:=⟨_,rfl⟩;rw [←hN3]at hv3;subst hv3;have HB3:=aa (hb2.trans (hb3.mono hb2.size));clear hu3 hb2 hb3 hN3 HSRT;go_wp2_with fail
  go_ret;exact⟨_,rfl,HU3.out,HB3.out⟩
theorem tH (xs ys:List Fl) (x:Fl):x∈lft xs ys↔x∈xs∧¬x∈ys:=by
 unfold lft;rw [List.mem_filter];constructor
 ·rintro⟨h1,h2⟩;refine⟨h1,fun h=>?_⟩;rw [(su x ys).2 h]at h2;simp at h2
 ·rintro⟨h1,h2⟩;refine⟨h1,?_⟩;cases h:th x ys ys.length
  ·rfl
  ·exact absurd ((su x ys).1 h) h2
theorem uH {xs:List Fl} (ys:List Fl) (h:Srt xs):Srt (lft xs ys):=List.Pairwise.filter _ h
theorem qr {a b:List Fl} (ha:Srt a) (hb:Srt b):srt (lft a (lft a b)++lft b a) (lft a (lft a b)++lft b a).length=b:=by
 refine(tf hb fun x=>?_).symm;rw [List.mem_append,tH,tH,tH];constructor
 ·intro h;by_cases hx:x∈a
  ·exact .inl ⟨hx,fun k=>k.2 h⟩
  ·exact .inr ⟨h,hx⟩
 ·rintro(⟨h1,h2⟩ |⟨h1,_⟩)
  ·exact Classical.not_not.1 fun k=>h2 ⟨h1,k⟩
  ·exact h1
theorem Ai {X:Nat→Prop} {w:World} {v:Value} {ms:List Mt} (h:MsAt w v ms) (hX:∀g,v.ownBlock=some g→¬X g):Kept X w fun w'=>MsAt w' v ms:=fun w' hk=>by
 obtain⟨a,cap,rfl,hn,h0 |⟨b,off,rfl,hc,hL⟩⟩:=h
 ·exact⟨a,cap,rfl,hn,.inl h0⟩
 ·refine⟨_,cap,rfl,hn,.inr ⟨b,off,rfl,hc,fun i hi=>?_⟩⟩;obtain⟨h1,h2,h3⟩:=hL i hi;have hb:=hk.2 b (hX b rfl) (am h1);rw [ei hb,ei hb,ei hb];exact⟨h1,h2,h3⟩
theorem zk {X:Nat→Prop} {w:World} {v:Value} {ds:List Do} (h:DsAt w v ds) (hX:∀g,v.ownBlock=some g→¬X g):Kept X w fun w'=>DsAt w' v ds:=fun w' hk=>by
 obtain⟨a,cap,rfl,hn,h0 |⟨b,off,rfl,hc,hL⟩⟩:=h
 ·exact⟨a,cap,rfl,hn,.inl h0⟩
 ·refine⟨_,cap,rfl,hn,.inr ⟨b,off,rfl,hc,fun i hi=>?_⟩⟩;obtain⟨h1,h2,h3⟩:=hL i hi;have hb:=hk.2 b (hX b rfl) (am h1);rw [ei hb,ei hb,ei hb];exact⟨h1,h2,h3⟩
theorem tG {X:Nat→Prop} {w:World} {B:Nat} {u:Value} {fs:List Fl} (h:FsOwn w B u fs) (hX:∀k,X k→k<B):Kept X w fun w'=>FsAt w' u fs:=fun w' hk=>by
 have hno:∀g,B≤g→¬X g:=fun g hg hx=>by have:=hX g hx;omega
 rcases h.2 with h0 |⟨blk,cap,lo,rfl,rfl,ho,hx⟩
 ·obtain⟨a,cap,e,hn,_⟩:=h.1;exact⟨a,cap,e,hn,.inl h0⟩
 ·have ho':=wS ho (fun g hg=>hno g (aS ho g hg)) w' hk;exact mK ho' (fun x hx'=>⟨Ai (hx x hx').1.1 (fun g hg=>hno g ((hx x hx').2.1 g hg)) w' hk,zk (hx x hx').1.2 (fun g hg=>hno g ((hx x hx').2.2 g hg)) w' hk⟩)
theorem KAt.put {w:World} {ks:List Value} {K:Nat→List Fl} (h:KAt w ks K) {m:Nat} (hm:m<6) {u:Value} {fs:List Fl} (hu:FsAt w u fs) (hl:fs.length≤140737488355328):KAt w (ks.set m u) (fun i=>if i=m then fs else K i):=by
 refine⟨by rw [List.length_set];exact h.1,fun i hi v hv=>?_⟩;by_cases e:i=m
 ·subst e;rw [List.getElem?_set_self (by rw [h.1];exact hi)]at hv;cases hv;simp only [if_true];exact⟨hu,hl⟩
 ·rw [List.getElem?_set_ne (Ne.symm e)]at hv;simp only [if_neg e];exact h.2 i hi v hv
def Kok (K:Nat→List Fl):Prop:=∀i,(Srt (K i)∧(K i).length≤100000)∧Few (K i)
def lB (S:List Sw) (P:List Pr) (A:List Ac) (K:Nat→List Fl) (ch:Int):Nat→List Fl:=if cmE S P A ch=0 then(fun i=>if i=ch.toNat then cmL S P A ch else K i)else K
theorem Kok.syn {K:Nat→List Fl} (h:Kok K) (S:List Sw) (P:List Pr) (A:List Ac) (ch:Int):Kok (lB S P A K ch):=by
 unfold lB;split
 ·rename_i he;intro i;by_cases e:i=ch.toNat
  ·simp only [if_pos e];exact sG he
  ·simp only [if_neg e];exact h i
 ·exact h
theorem sX (S:List Sw) (P:List Pr) (A:List Ac) (s1 p1 a1:Option Addr) (s2 p2 a2:Nat) (K:Nat→List Fl) (ks:List Value) (ch:Int) (X:Nat→Prop) (w:World) (hX:∀k,X k→k<w.heap.size) (hK:Kept X w fun W=>KAt W ks K) (hC:CfAt w (.slice s1 S.length s2) (.slice p1 P.length p2) (.slice a1 A.length a2) S P A) (h1:S.length*24≤140737488355328) (h2:P.length*40≤140737488355328) (h3:A.length*72≤140737488355328) (hSA:may S P A=true→∀s b,eV (aP A s b)) (hO:Kok K):
  Calls Tryz.prog 11 #[.agg ks.toArray,.agg #[.slice s1 S.length s2,.slice p1 P.length p2,.slice a1 A.length a2],.int .i64 ch] w fun e w'=>∃ks',e= .returned (.tuple #[.agg ks'.toArray,.int .i64 (cmE S P A ch)])∧Kept X w' (fun W=>KAt W ks' (lB S P A K ch))∧Below w.heap.size w w':=by
 have HSA:=aa hSA;have HO:=aa hO;have HX:=aa hX;have HSK:Hid (lB S P A K ch=if cmE S P A ch=0 then(fun i=>if i=ch.toNat then cmL S P A ch else K i)else K):=rfl;have HL:Hid (ks.length=6):=aa hK.here.1;have HON:=aa (xL hK.here);obtain⟨W0,hW0⟩:∃W0,W0=((w.alloc (.cells ks.toArray 45)).alloc (.cells #[.slice s1 S.length s2,.slice p1 P.length p2,.slice a1 A.length a2] 26)).alloc (.cells #[.slice none 0 0,.slice none 0 0,.slice none 0 0,.slice none 0 0,.slice none 0 0,.slice none 0 0] 45):=⟨_,rfl⟩;have kb:Below w.heap.size w W0:=by rw [hW0];exact(((Below.refl _ w).alloc zr _).alloc (by simp) _).alloc (by simp;omega) _
 have HB0:Hid (Box W0 w.heap.size ks):=by rw [hW0];exact aa (((Box.new w ks 45).alloc _).alloc _)
 have HB1:Hid (Box W0 (w.heap.size+1) [.slice s1 S.length s2,.slice p1 P.length p2,.slice a1 A.length a2]):=by rw [hW0];have h:=(Box.new (w.alloc (.cells ks.toArray 45)) [.slice s1 S.length s2,.slice p1 P.length p2,.slice a1 A.length a2] 26).alloc (.cells #[.slice none 0 0,.slice none 0 0,.slice none 0 0,.slice none 0 0,.slice none 0 0,.slice none 0 0] 45);simpa using aa h
 have HB2:Hid (Box W0 (w.heap.size+1+1) [.slice none 0 0,.slice none 0 0,.slice none 0 0,.slice none 0 0,.slice none 0 0,.slice none 0 0]):=by rw [hW0];have h:=Box.new ((w.alloc (.cells ks.toArray 45)).alloc (.cells #[.slice s1 S.length s2,.slice p1 P.length p2,.slice a1 A.length a2] 26)) [.slice none 0 0,.slice none 0 0,.slice none 0 0,.slice none 0 0,.slice none 0 0,.slice none 0 0] 45;simpa using aa h
 have HW0:Hid (((w.alloc (.cells ks.toArray 45)).alloc (.cells #[.slice s1 S.length s2,.slice p1 P.length p2,.slice a1 A.length a2] 26)).alloc (.cells #[.slice none 0 0,.slice none 0 0,.slice none 0 0,.slice none 0 0,.slice none 0 0,.slice none 0 0] 45)=W0):=hW0.symm;clear hW0;obtain⟨X',hX'⟩:∃X':Nat→Prop,X'=fun k=>X k∨(w.heap.size≤k∧k<w.heap.size+3):=⟨_,rfl⟩;have HX1:Hid (∀k,X k→X' k):=by rw [hX'];exact aa (fun k h=>.inl h)
 have HX2:Hid (∀k,w.heap.size≤k→k<w.heap.size+3→X' k):=by rw [hX'];exact aa (fun k h h'=>.inr ⟨h,h'⟩)
 have HX3:Hid (∀k,X' k→k<w.heap.size+3):=by rw [hX'];exact aa (fun k h=>by rcases h with h | h;have:=HX.out k h;omega;exact h.2)
 have HKA:=aa ((hK.but (X':=X') (fun k h=>by rw [hX']at h;rcases h with h | h;exact .inl h;exact .inr h.1)).below kb);clear hX';have HC:=aa (hC.below kb zr);have HCM:=aa (qn S P A s1 p1 a1 s2 p2 a2 ch W0 HC.out (by omega) (by omega) (by omega) HSA.out (fun hm c0 c1 f hf=>rr (mR hm c0 c1 f hf)));have HFL:=aa (fun h=>sG (S:=S) (P:=P) (A:=A) (ch:=ch) h);have HCZ:=aa (fun h=>jD (S:=S) (P:=P) (A:=A) (ch:=ch) h);clear hK hC hSA hO hX;generalize cmE S P A ch=E at*;generalize cmL S P A ch=L at*;go_enter Tryz.func11,Tryz.ntmps11;go_wp2_with (first | rw [HW0.out] |(refine wpList_load_mid rfl 26 (.tmp 4) rfl (w.heap.size+1) 0 rfl _ _ HB1.out.range Tryz.underlying26 rfl mu ?_))
 refine(ag HCM).mono ?_;rintro e w1 ⟨u1,rfl,hu1,hb1⟩;have HU1:=aa hu1;obtain⟨q1,c1,rfl⟩:=bM hu1;have s0:=HB2.out.lt;replace HB0:=aa (HB0.out.below hb1);replace HB2:=aa (HB2.out.below hb1);replace HKA:=aa (HKA.out.below hb1);replace kb:=kb.trans (hb1.mono kb.size);have s1':=hb1.size;clear hu1 hb1 HCM HC HB1 HSA;by_cases hE:E=0
 ·subst hE;obtain⟨hm,c0,c1'⟩:=HCZ.out rfl;have HLK:=aa (HFL.out rfl);obtain⟨m,rfl⟩:=Int.eq_ofNat_of_zero_le c0;have hm6:m<6:=(by omega);clear hm HCZ HFL HW0;simp only [Int.toNat_natCast,if_true]at HSK;obtain⟨kv,hkv⟩:=sM HL.out hm6;have HF:=aa (HKA.out.here.2 m hm6 kv hkv).1;have ck:=HB0.out.cell m kv hkv;obtain⟨fa,fc,rfl⟩:=bM HF.out;have q0:(0:Int)≤(m:Int):=(by omega);have q6:(m:Int)<6:=(by omega);have HKM:=aa (HO.out m);go_wp2_with fail
  refine(vV _ _ (K m) L w1 HF.out HU1.out HKM.out.2 HLK.out.2).mono ?_;rintro e w2 ⟨u2,u3,rfl,hu2,hu3,hb2⟩;rw [pZ (uH _ HLK.out.1.1)]at hu2;rw [pZ (uH _ HKM.out.1.1)]at hu3;have HU2:=aa hu2;have HU3:=aa hu3;obtain⟨q2,c2,rfl⟩:=bM hu2;obtain⟨q3,c3,rfl⟩:=bM hu3;replace HF:=aa (HF.out.below hb2 zr);replace HB0:=aa (HB0.out.below hb2);replace HB2:=aa (HB2.out.below hb2);replace HKA:=aa (HKA.out.below hb2);replace kb:=kb.trans (hb2.mono kb.size);replace ck:=HB0.out.cell m _ hkv;have s2':=hb2.size;clear hu2 hu3 hb2 HU1;go_wp2_with fail
  refine(vH _ _ _ (K m) (lft L (K m)) (lft (K m) L) w2 HF.out HU2.out HU3.out HKM.out.2 HLK.out.2.lft HKM.out.2.lft (by have:=HKM.out.1.2;have:=HLK.out.1.2;have:=jh L (K m);omega)).mono ?_;rintro e w3 ⟨u4,rfl,hu4,hb3⟩;rw [qr HKM.out.1.1 HLK.out.1.1]at hu4;have HU4:=aa (tG (X:=X') hu4 (fun k hk=>by have:=HX3.out k hk;omega));obtain⟨q4,c4,hv4⟩:=bM hu4.1;subst hv4;replace HB0:=aa (HB0.out.below hb3);replace HB2:=aa (HB2.out.below hb3);replace HKA:=aa (HKA.out.below hb3);replace kb:=kb.trans (hb3.mono kb.size);have fz:=HB0.out.2 m (by rw [HL.out];exact hm6);have s3':=hb3.size;have hLl:L.length≤140737488355328:=by have:=HLK.out.1.2;omega
  obtain⟨kn,hkn⟩:∃kn,kn=ks.set m (.slice q4 L.length c4):=⟨_,rfl⟩;have HKN:Hid (Kept X' w3 fun W=>KAt W kn (lB S P A K m)):=by rw [HSK.out,hkn];exact aa (fun W hk=>(HKA.out W hk).put hm6 (HU4.out W hk) hLl)
  have HKL:Hid (kn.length=6):=aa HKN.out.here.1;have HKO:=aa (xL HKN.out.here);obtain⟨W4,hW4⟩:∃W4,W4=w3.setCell ⟨w.heap.size,m,none⟩ (.slice q4 L.length c4):=⟨_,rfl⟩;have HN0:Hid (Box W4 w.heap.size kn):=by rw [hW4,hkn];exact aa (HB0.out.set1 m _ (by rw [HL.out];exact hm6))
  have HN2:Hid (Box W4 (w.heap.size+1+1) [.slice none 0 0,.slice none 0 0,.slice none 0 0,.slice none 0 0,.slice none 0 0,.slice none 0 0]):=by rw [hW4];exact aa (HB2.out.set1_far (by omega) m _)
  replace HKN:Hid (Kept X' W4 fun W=>KAt W kn (lB S P A K m)):=by rw [hW4];exact aa (HKN.out.set (HX2.out _ zr (by omega)) m [_])
  have kb4:Below w.heap.size w W4:=by rw [hW4];exact kb.setCell (p:=⟨w.heap.size,m,none⟩) zr _
  have HW4:Hid (w3.setCell ⟨w.heap.size,m,none⟩ (.slice q4 L.length c4)=W4):=hW4.symm;clear hW4 hkn;replace ck:=HB0.out.cell m _ hkv;clear hu4 hb3 HU2 HU3 HF HU4 HKA HB0 HB2 kb;go_wp2_with (first | rw [HW4.out] |(refine wpList_load_mid rfl 45 (.tmp 3) rfl w.heap.size 0 rfl _ _ HN0.out.range Tryz.underlying45 rfl (by rw [HKL.out];exact fq) ?_) |(refine wpList_store_mid rfl 45 (.tmp 6) (.tmp 38) rfl (w.heap.size+1+1) 0 _ rfl rfl (by show World.there _ _ _ kn.length;rw [HKL.out];exact HN2.out.fit 6 rfl) (by show _=some kn.length;rw [HKL.out];exact fq) HKO.out ?_))
  refine bodyPost_ret (v:=.tuple #[.agg kn.toArray,.int .i64 0]) ?_ rfl ⟨kn,rfl,?_,bj _ (by omega) _ _ kb4⟩
  ·exact dC (cs:=kn) Tryz.results11 rfl (HN2.out.set kn (by rw [HKL.out];rfl)).range Tryz.underlying45 rfl (by rw [HKL.out];exact fq)
  ·exact(HKN.out.set (b:=w.heap.size+1+1) (HX2.out _ (by omega) (by omega)) 0 kn).but (fun k hk=>.inl (HX1.out k hk))
 ·have hEb:(E != 0)=true:=(by simpa using hE);rw [if_neg hE]at HSK;go_wp2_with (first |(refine wpList_load_mid rfl 45 (.tmp 3) rfl w.heap.size 0 rfl _ _ HB0.out.range Tryz.underlying45 rfl (by rw [HL.out];exact fq) ?_) |(refine wpList_store_mid rfl 45 (.tmp 6) (.tmp 20) rfl (w.heap.size+1+1) 0 _ rfl rfl (by show World.there _ _ _ ks.length;rw [HL.out];exact HB2.out.fit 6 rfl) (by show _=some ks.length;rw [HL.out];exact fq) HON.out ?_))
  refine bodyPost_ret (v:=.tuple #[.agg ks.toArray,.int .i64 E]) ?_ rfl ⟨ks,rfl,?_,bj _ (by omega) _ _ kb⟩
  ·exact dC (cs:=ks) Tryz.results11 rfl (HB2.out.set ks (by rw [HL.out];rfl)).range Tryz.underlying45 rfl (by rw [HL.out];exact fq)
  ·rw [HSK.out];exact(HKA.out.set (b:=w.heap.size+1+1) (HX2.out _ (by omega) (by omega)) 0 ks).but (fun k hk=>.inl (HX1.out k hk))
theorem jB {ops:Array Oper} {rest:List Oper} {o:Oper} {a:Act} {Q:Exit→Act→World→Prop} {P:Program} {w:World} (hgd:o.guard=none) (s x:Operand) (t:TypeId)
  (ho:o.op= .call {callee:=.builtin .append,args:= #[s,x],argTypes:= #[t,t]})
  (base:Nat) (e:TypeId) (i:TypeInfo) (z:Value) (size bytes:Nat) (ht:P.underlying t=some (.slice e)) (hi:P.info? e=some i) (hz:i.zero=some z)
  (hsize:i.size=size) (hby:i.bytes=bytes) (hzs:z.cells.size=size) (hsz:0<size)
  (v:Value) (n:Nat) (xs:List Value) (hs:a.eval s=v) (hown:w.ownsRow base e size v n xs)
  (u:Value) (m B2:Nat) (news:List Value) (hx:a.eval x=u) (hsrc:w.ownsRow B2 e size u m news) (h1:∀u∈news,u.oneCell'=true)
  (h63:n+m≤maxLen) (hbytes:(n+m)*bytes≤140737488355328) (hbase:base≤w.heap.size)
  (h:∀v' w',w'.ownsRow base e size v' (n+m) (xs++news)→w.grownBy w' v.ownBlock→wpList P ops Q rest (a.put o.dst v') w'):wpList P ops Q (o::rest) a w:=by
 have hsrc':=hsrc;obtain⟨hl,⟨rfl,rfl⟩ |⟨g,cap,cur,rfl,hB,hg,hc,hm,hcs,htk⟩⟩:=hsrc
 ·obtain rfl:news= []:=List.eq_nil_of_length_eq_zero (by rw [hl];simp);refine wpList_append_own_none hgd s x t ho base e i size ht hi v n xs hs hown hx ?_;exact h v w (by simpa using hown) ⟨rfl,rfl,rfl,Nat.le_refl _,fun _ _ _=>rfl⟩
 ·refine wpList_append_own w hgd s x t ho base e i z size bytes ht hi hz hsize hby hzs hsz v n xs hs hown ⟨g,0,none⟩ m cap news hx hl (fun j u hj=>?_) h1 h63 hbytes hbase fun v' w' h2 h3 _=>h v' w' h2 h3;have hj':j<m*size:=by have:=(List.getElem?_eq_some_iff.1 hj).1;omega
  rw [rX,hsrc'.cellAt _ hj'];exact hj
theorem A5 (body:ByteArray) (l:List Ar):∀u∈AR body l,u.oneCell'=true:=by
 intro u hu;unfold AR at hu;rw [List.mem_flatMap]at hu;obtain⟨x,_,hu⟩:=hu;exact du (l:=arC body x) rfl u hu
theorem A7 (body:ByteArray) (a b:List Ar):AR body (a++b)=AR body a++AR body b:=by simp [AR]
def cv (id:Int) (p:Pr):Bool:=p.i==id&& !(p.c== -1)
theorem vI:bv 25:=fun args W=>by
 unfold callFunc;simp [Tryz.func25,Tryz.f25]
theorem vN (id:Int) (b:Nat) (w:World) (hc:w.cell? ⟨b,0,none⟩=some (.int .i64 id)):PicksPr w 25 #[.pointer (some ⟨b,0,none⟩)] (cv id):=fun W x hW=>by
 have c0:=zC hc hW;have hlt:=am c0;have hne:¬b=W.heap.size:=by omega
 have HB:Hid (cv id x=(x.i==id&& !(x.c== -1))):=rfl;generalize x.i=x0 at*;generalize x.s=x1 at*;generalize x.m=x2 at*;generalize x.p=x3 at*;generalize x.c=x4 at*;by_cases h0:x0=id
 ·subst h0;by_cases h1:x4= -1
  ·subst h1;go_enter Tryz.func25,Tryz.ntmps25;go_wp2_with fail
   go_ret;rw [HB.out];exact⟨by simp,(Below.refl _ _).alloc zr _⟩
  ·have h1b:(x4 != -1)=true:=(by simpa using h1);go_enter Tryz.func25,Tryz.ntmps25;go_wp2_with fail
   go_ret;rw [HB.out];exact⟨by simp [h1],(Below.refl _ _).alloc zr _⟩
 ·have h0b:(x0==id)=false:=(by simpa using h0);go_enter Tryz.func25,Tryz.ntmps25;go_wp2_with fail
  go_ret;rw [HB.out];exact⟨by simp [h0],(Below.refl _ _).alloc zr _⟩
def jT (K:Nat→List Fl) (n:Nat) (s:Sn):Bool:= !(m8 K n s==0)
def jP (K:Nat→List Fl) (n:Nat) (l:List Sn):Int:=match l.find? (jT K n)with
 | none=>0
 | some s=>m8 K n s
def dh (K:Nat→List Fl) (n:Nat) (l:List Sn):List Ar:=l.flatMap (jN K n)
def dY (P:List Pr) (id:Int):Pr:=P.getD (idx (cv id) P).toNat pr0
def fT (K:Nat→List Fl) (P:List Pr) (id dst src kind ips ipd ttl port:Int) (n:Nat):Int:=
 if idx (cv id) P<0 then 6 else if pkE dst src kind ips ipd ttl port n id 0 0=0 then
  (if dM (K (dY P id).c.toNat) [id,dst,src,kind,ips,ipd,ttl,port,0,0] n=0 then jP K n (ran (K (dY P id).c.toNat) [id,dst,src,kind,ips,ipd,ttl,port,0,0])else dM (K (dY P id).c.toNat) [id,dst,src,kind,ips,ipd,ttl,port,0,0] n)
 else pkE dst src kind ips ipd ttl port n id 0 0
def fW (K:Nat→List Fl) (P:List Pr) (id dst src kind ips ipd ttl port:Int) (n:Nat):List Ar:=
 if fT K P id dst src kind ips ipd ttl port n=0 then dh K n (ran (K (dY P id).c.toNat) [id,dst,src,kind,ips,ipd,ttl,port,0,0])else []
def eI (l:List Ar):Prop:=l.Pairwise fun a b=>¬b.n<a.n
def lI (l:List Ar):Prop:=∀(body:ByteArray) (u:Value) (B:Nat) (w:World),w.ownsRow B 58 9 u l.length (AR body l)→B≤w.heap.size→Calls Tryz.prog 29 #[u,.func (.func 30) #[] #[]] w fun e w'=>e= .returned (.tuple #[])∧∃l',l'.Perm l∧eI l'∧w'.ownsRow B 58 9 u l.length (AR body l')∧w.grownBy w' u.ownBlock
theorem vh {K:Nat→List Fl} {n:Nat} {l:List Sn} {k:Nat} (h:k<l.length):dh K n (l.take (k+1))=dh K n (l.take k)++jN K n (l.getD k snz):=by
 unfold dh;rw [eq snz h,List.flatMap_append];simp
theorem sU {K:Nat→List Fl} {n:Nat} {l:List Sn} {k:Nat} (h:k<l.length) (h0:(l.take k).find? (jT K n)=none) (h1:m8 K n (l.getD k snz)=0):(l.take (k+1)).find? (jT K n)=none:=by
 rw [eq snz h,List.find?_append,h0];generalize l.getD k snz=x at*;simp [jT,h1]
theorem wh {K:Nat→List Fl} {n:Nat} {l:List Sn} {k:Nat} (h:k<l.length) (h0:(l.take k).find? (jT K n)=none) (h1:m8 K n (l.getD k snz)≠0):jP K n l=m8 K n (l.getD k snz):=by
 have e0:l=l.take k++l.getD k snz::l.drop (k+1):=by
  rw [←List.singleton_append, ←List.append_assoc, ←eq snz h,List.take_append_drop]
 have e:(l.take k++l.getD k snz::l.drop (k+1)).find? (jT K n)=some (l.getD k snz):=by
  rw [List.find?_append,h0,List.find?_cons_of_pos (by unfold jT;simpa using h1)];rfl
 rw [←e0]at e;unfold jP;rw [e]
theorem tP (n:Nat) (l:List Sn):(atL n l).length≤l.length:=by
 unfold atL;split
 ·exact tS l
 ·simp
theorem uw {K:Nat→List Fl} {n:Nat} (s:Sn):(jN K n s).length≤1000000:=by
 unfold jN;split
 ·split
  ·split
   ·rename_i h;exact Nat.le_trans (tP _ _) (pS (by simp [fU]) h).2
   ·simp
  ·simp
 ·exact Nat.le_trans (tP _ _) (by simp)
theorem mJ {K:Nat→List Fl} {n:Nat}:∀l:List Sn,(dh K n l).length≤1000000*l.length
 | []=>by simp [dh]
 | s::r=>by
  have h1:=mJ (K:=K) (n:=n) r;have h2:=uw (K:=K) (n:=n) s;unfold dh at h1⊢;rw [List.flatMap_cons,List.length_append,List.length_cons];omega
theorem er {n:Int}:ap n=true↔0≤n∧n≤65535:=by simp [ap]
theorem dI {d s k a b t o:Int} {n:Nat} (h:aQ d s k a b t o n=0):(1≤k∧k≤3)∧((0≤d∧d≤65535)∧(0≤s∧s≤65535)∧(0≤a∧a≤65535)∧(0≤b∧b≤65535)∧(0≤o∧o≤65535)∧0≤t∧t≤255)∧n≤40∧(k≠3→t=0∧o=0∧n=0):=by
 unfold aQ at h;by_cases hk:gY k=true
 ·rw [if_pos hk]at h;by_cases hb:cB d s a b t o=true
  ·rw [if_pos hb]at h;by_cases hn:40<n
   ·rw [if_pos hn]at h;omega
   ·rw [if_neg hn]at h;have h1:1≤k∧k≤3:=(by simpa [gY] using hk);simp only [cB,jc,ap,Bool.and_eq_true,decide_eq_true_eq]at hb;refine⟨h1,⟨hb.1.1.1.1.1,hb.1.1.1.1.2,hb.1.1.1.2,hb.1.1.2,hb.1.2,hb.2⟩,by omega,fun h3=>?_⟩;by_cases hl:jO t o n=true
    ·rw [if_pos ⟨h3,hl⟩]at h;omega
    ·simp only [jO,decide_eq_true_eq]at hl;omega
  ·rw [if_neg hb]at h;omega
 ·rw [if_neg hk]at h;omega
theorem qz {d s k a b t o:Int} {n:Nat} (hk:1≤k∧k≤3) (h:(0≤d∧d≤65535)∧(0≤s∧s≤65535)∧(0≤a∧a≤65535)∧(0≤b∧b≤65535)∧(0≤o∧o≤65535)∧0≤t∧t≤255) (hn:n≤40) (h3:k≠3→t=0∧o=0∧n=0):aQ d s k a b t o n=0:=by
 unfold aQ;rw [if_pos (by simpa [gY] using hk),if_pos (by simp only [cB,jc,ap,Bool.and_eq_true,decide_eq_true_eq];exact⟨⟨⟨⟨⟨h.1,h.2.1⟩,h.2.2.1⟩,h.2.2.2.1⟩,h.2.2.2.2.1⟩,h.2.2.2.2.2⟩),if_neg (by omega),if_neg ?_];rintro⟨e,hl⟩;have:=h3 e;simp only [jO,decide_eq_true_eq]at hl;omega
theorem uD {i d s k a b t o n u:Int} {m:Nat} (hf:aQ d s k a b t o m=0) (hi:ap i=true) (hn:ap n=true) (hu:ap u=true):WF (pkF i d s k a b t o n u):=by
 obtain⟨h1,h2,h3,h4⟩:=dI hf;rw [er]at hi hn hu;refine iU rfl ?_;simp only [pkF,List.all_cons,List.all_nil,Bool.and_true,Bool.and_eq_true,er];omega
theorem eZ {fs:List Fl} {F:List Int} {n:Nat} (h:bh fs=0) (hF:WF F) (hn:n≤40):dM fs F n=0:=by
 unfold dM bV;rw [if_pos h,if_pos (by
  rw [List.all_eq_true];intro x hx;obtain⟨i,hi,rfl⟩:=List.getElem_of_mem hx;have:=hF.2 i
  rwa [List.getD_eq_getElem?_getD,List.getElem?_eq_getElem hi]at this),if_neg (by omega)]
section
variable {S:List Sw} {P:List Pr} {A:List Ac} {K:Nat→List Fl}
def uZ (m:Nat) (g:Gl):Prop:=∃d s k a b t o:Int,g.f= [d,s,k,a,b,t,o]∧aQ d s k a b t o m=0∧ap g.n=true∧ap g.u=true∧0≤g.c∧g.c≤5
theorem sq (hm:may S P A=true) {ch i d s k a b t o:Int} {m:Nat} (hch:0≤ch∧ch≤5) (hi:ap i=true) (hf:aQ d s k a b t o m=0):∀g∈led S P A ch i d s k a b t o,uZ m g:=by
 obtain⟨hS,hP,hA⟩:=aR hm;have hpr:=(bI hS hP).2;have hsw:=(dE hS).2;obtain⟨h1,h2,h3,h4⟩:=dI hf;intro g hg;unfold led at hg;cases hfd:P.find? (fun p=>p.i==i)with
 | none=>rw [hfd]at hg;cases hg
 | some p=>
  rw [hfd]at hg;simp only at hg;have hp:=List.mem_of_find?_eq_some hfd;have hpp:=hpr p hp;obtain⟨hso,hsi⟩:=jZ hP hp;have hss:=hsw _ hso;by_cases hq:p.c=ch∧s=p.m∧a=p.p
  ·rw [if_pos hq]at hg;by_cases hk1:k=1
   ·rw [if_pos hk1]at hg;unfold kf at hg;obtain⟨mac,hmac,rfl⟩:=List.mem_map.1 hg;have hw:0≤mac∧mac≤65535:=by
     rcases List.mem_append.1 hmac with h | h
     ·split at h
      ·obtain rfl:mac=_:=(by simpa using h);omega
      ·cases h
     ·obtain⟨q,hq,rfl⟩:=List.mem_map.1 h;have:=hpr q (List.mem_filter.1 hq).1;omega
    have h0:=h4 (by omega);refine⟨_,_,_,_,_,_,_,rfl,qz (by omega) ?_ h3 (fun _=>⟨rfl,rfl,h0.2.2⟩),by rw [er];show 0≤(dz S p.s).i∧(dz S p.s).i≤65535;omega,hi,hch⟩;omega
   ·rw [if_neg hk1]at hg;by_cases hk3:k=3∧bN A (dz S p.s).i true a b o=true
    ·rw [if_pos hk3]at hg;obtain⟨rfl,_⟩:=hk3;unfold lE at hg;rcases List.mem_append.1 hg with h | h
     ·obtain⟨q,hq2,rfl⟩:=List.mem_map.1 h;obtain⟨hq3,hb⟩:=List.mem_filter.1 hq2;have:=hpr q hq3;have hs:=(Bool.and_eq_true _ _ ▸ hb:aw q=true∧_).1;have hs2:¬q.c= -1:=(by simpa [aw] using hs);exact⟨_,_,_,_,_,_,_,rfl,hf,by rw [er];show 0≤(dz S p.s).i∧(dz S p.s).i≤65535;omega,by rw [er];show 0≤q.i∧q.i≤65535;omega,by show 0≤q.c∧q.c≤5;omega⟩
     ·obtain⟨q,hq2,rfl⟩:=List.mem_map.1 h;obtain⟨hq3,hb⟩:=List.mem_filter.1 hq2;have:=hpr q hq3;have hs:=(Bool.and_eq_true _ _ ▸ hb:aw q=true∧_);have hs2:¬q.c= -1:=(by simpa [aw] using hs.1);have ht:(dz S p.s).g≠0∧d=60000+(dz S p.s).i∧1<t:=by
       have:=(Bool.and_eq_true _ _ ▸ hs.2:_∧_).1;simpa using this
      refine⟨_,_,_,_,_,_,_,rfl,qz (by omega) ?_ h3 (fun h=>absurd rfl h),by rw [er];show 0≤q.s∧q.s≤65535;omega,by rw [er];show 0≤q.i∧q.i≤65535;omega,by show 0≤q.c∧q.c≤5;omega⟩;omega
    ·rw [if_neg hk3]at hg;cases hg
  ·rw [if_neg hq]at hg;cases hg
theorem oy (hP:aL S P=true) {p:Pr} (hp:p∈P) (hc:p.c≠ -1):0≤idx (cv p.i) P∧dY P p.i=p:=by
 have hs:cv p.i p=true:=by simp [cv,hc]
 unfold dY idx;cases hf:P.findIdx? (cv p.i)with
 | none=>
  rw [List.findIdx?_eq_none_iff]at hf;exact absurd (hf p hp) (by rw [hs];simp)
 | some j=>
  obtain⟨hj,hq,_⟩:=List.findIdx?_eq_some_iff_getElem.1 hf;refine⟨by simp,?_⟩;simp only [Int.toNat_natCast];rw [List.getD_eq_getElem?_getD,List.getElem?_eq_getElem hj];have he:P[j].i=p.i:=by
   simp only [cv,Bool.and_eq_true,beq_iff_eq]at hq;exact hq.1
  exact cI hP (List.getElem_mem hj) hp he
end
end Go.Proofs.YtjiajblbpokfgaaGreat
