/- Texts joined: Sh, Si, Sj, Sk, Ks, Ym0, Kq, Qf, Qg, Cc, Ct, Ck, Cp. -/
import Derived.Lib.SliceRun
import Derived.Laws.CopyRow
import Derived.Laws.BitsLemmas
import Derived.Test.YthmblklaeeifiaaGreatJP4
namespace Go.Proofs.YthmblklaeeifiaaGreat
open Go.RowKit
set_option linter.unusedVariables false
set_option maxRecDepth 100000
set_option maxHeartbeats 16000000
theorem qp {w:World} {g j:Nat} {v:Value} {cur:Array Value} {e:TypeId} (h:w.heap[g]? =some (.cells cur e (0,0))):(w.setCell ⟨g,j,none⟩ v).heap[g]? =some (.cells (cur.setIfInBounds j v) e (0,0)):=by
 rw [Go.Sort.setCell_eq];unfold Go.Sort.mapBlock;simp only [Array.getElem?_modify,if_true];rw [h];rfl
theorem eT {w:World} {B e size n cap g:Nat} {xs:List Value} (h:w.ownsRow B e size (.slice (some ⟨g,0,none⟩) n cap) n xs) (j:Nat) (v:Value):(w.setCell ⟨g,j,none⟩ v).ownsRow B e size (.slice (some ⟨g,0,none⟩) n cap) n (xs.set j v):=by
 obtain⟨hlen,⟨h,_⟩ |⟨g',cap',cur,hv,hB,hheap,hnc,hcm,hcs,htk⟩⟩:=h
 ·simp at h
 simp only [Value.slice.injEq,Option.some.injEq,Addr.mk.injEq]at hv;obtain⟨⟨rfl,_⟩,_,rfl⟩:=hv;refine⟨by simpa using hlen,.inr ⟨g,cap,_,rfl,hB,qp hheap,hnc,hcm,by simpa using hcs,?_⟩⟩;rw [←htk,Array.toList_setIfInBounds];refine List.ext_getElem? fun i=>?_;simp only [List.getElem?_take,List.getElem?_set,List.length_take];by_cases hi:i<n*size
 ·simp only [hi,if_true];by_cases hji:j=i
  ·subst hji;simp only [if_true];have:(j<min (n*size) cur.toList.length)↔j<cur.toList.length:=(by omega);simp only [this]
  ·simp [hji]
 ·simp only [hi,if_false];by_cases hji:j=i
  ·subst hji;simp;omega
  ·simp [hji]
theorem set_far {xs:List Value} {j:Nat} {v:Value} (h:xs.length≤j):xs.set j v=xs:=List.set_eq_of_length_le h
theorem nk {w:World} {B e size n m cap g:Nat} {xs:List Value} (h:w.ownsRow B e size (.slice (some ⟨g,0,none⟩) n cap) n xs) (hm:m≤n):w.ownsRow B e size (.slice (some ⟨g,0,none⟩) m cap) m (xs.take (m*size)):=by
 obtain⟨hlen,⟨h,_⟩ |⟨g',cap',cur,hv,hB,hheap,hnc,hcm,hcs,htk⟩⟩:=h
 ·simp at h
 simp only [Value.slice.injEq,Option.some.injEq,Addr.mk.injEq]at hv;obtain⟨⟨rfl,_⟩,_,rfl⟩:=hv;have hmn:m*size≤n*size:=Nat.mul_le_mul_right _ hm;refine⟨by rw [List.length_take,hlen];omega,.inr ⟨g,cap,cur,rfl,hB,hheap,by omega,hcm,hcs,?_⟩⟩;rw [←htk,List.take_take,Nat.min_eq_left hmn]
theorem rO (l:List Fv) (m:Nat):(C l).take (m*4)=C (l.take m):=by
 induction l generalizing m with
 | nil=>simp [C]
 | cons x r ih=>
  cases m with
  | zero=>simp [C]
  | succ m=>
   have e:(m+1)*4=m*4+4:=(by omega);rw [e];simp only [List.take_succ_cons];have:=ih m;simp only [C,List.flatMap_cons]at this⊢;simp only [List.cons_append,List.nil_append,List.take_succ_cons];rw [this]
theorem rr:∀(l:List Fv) (i:Nat) (x:Fv),i<l.length→((((C l).set (i*4) (.int .i64 x.f.t)).set (i*4+1) (.int .i64 x.f.p)).set (i*4+2) x.mv).set (i*4+3) x.dv=C (l.set i x)
 | [],i,_,h=>by simp at h
 | y::r,0,x,_=>by simp [C]
 | y::r,i+1,x,h=>by
  have ih:=rr r i x (by simpa using h);have e:∀k,(i+1)*4+k=(i*4+k)+4:=fun k=>(by omega);have e0:(i+1)*4=(i*4)+4:=(by omega);simp only [C,List.flatMap_cons,List.set_cons_succ]at ih⊢;rw [e 1,e 2,e 3,e0];simp only [List.cons_append,List.nil_append,List.set_cons_succ];rw [ih]
theorem pE {w:World} {B cap g:Nat} {l:List Fv} (h:w.ownsRow B 77 4 (.slice (some ⟨g,0,none⟩) l.length cap) l.length (C l)) (i:Nat) (x:Fv) (hi:i<l.length):
  ((((w.setCell ⟨g,i*4,none⟩ (.int .i64 x.f.t)).setCell ⟨g,i*4+1,none⟩ (.int .i64 x.f.p)).setCell ⟨g,i*4+2,none⟩ x.mv).setCell ⟨g,i*4+3,none⟩ x.dv).ownsRow B 77 4 (.slice (some ⟨g,0,none⟩) (l.set i x).length cap) (l.set i x).length (C (l.set i x)):=by
 have:=eT (eT (eT (eT h (i*4) (.int .i64 x.f.t)) (i*4+1) (.int .i64 x.f.p)) (i*4+2) x.mv) (i*4+3) x.dv;rw [rr l i x hi]at this;simpa using this
theorem df {w w':World} {g j:Nat} {v:Value} (h:w.grownBy w' (some g)):w.grownBy (w'.setCell ⟨g,j,none⟩ v) (some g):=
 ⟨h.os,h.tape,h.output,by simpa using h.size,fun k hk hne=>(Below.heap_setCell w' _ _ k (fun e=>hne (by rw [e]))).trans (h.block k hk hne)⟩
theorem fQ (w:World) (row:Option Nat):w.grownBy w row:=⟨rfl,rfl,rfl,Nat.le_refl _,fun _ _ _=>rfl⟩
theorem lC {a b c:World} {g:Nat} (h:a.grownBy b (some g)) (k:b.grownBy c (some g)):a.grownBy c (some g):=
 ⟨k.os.trans h.os,k.tape.trans h.tape,k.output.trans h.output,Nat.le_trans h.size k.size,fun i hi hne=>(k.block i (Nat.lt_of_lt_of_le hi h.size) hne).trans (h.block i hi hne)⟩
theorem Below.grown1 {w w':World} {row:Option Nat} (h:Below w.heap.size w w'):w.grownBy w' row:=⟨h.os,h.tape,h.output,h.size,fun k hk _=>h.block k hk⟩
def EqAt (w:World) (ob g:Nat):Prop:=w.cell? ⟨ob,0,none⟩=some (.func (.func 114) #[] #[.pointer (some ⟨g,0,none⟩)])∧OrdAt w g
theorem EqAt.below {w w':World} {ob g:Nat} (h:EqAt w ob g) (hb:Below w.heap.size w w'):EqAt w' ob g:=⟨ag h.1 hb zr,h.2.below hb⟩
theorem qc (x y:Fv) (ob g:Nat) (w:World) (hE:EqAt w ob g) (hx:Held w x) (hy:Held w y) (l1:x.f.ms.length≤2000000) (l2:x.f.ds.length≤2000000) (l3:y.f.ms.length≤2000000) (l4:y.f.ds.length≤2000000):
  Calls Tryz.prog 35 #[.agg #[.int .i64 x.f.t,.int .i64 x.f.p,x.mv,x.dv],.agg #[.int .i64 y.f.t,.int .i64 y.f.p,y.mv,y.dv],.pointer (some ⟨ob,0,none⟩)] w fun e w'=>e= .returned (.bool (plc x.f y.f==0))∧Grw w w':=by
 have HX:=aa hx;have HY:=aa hy;have HE:=aa hE;have he0:=hE.1;have hobl:=bs he0;obtain⟨⟨xa,xc,e1,_⟩,⟨xb,xe,e2,_⟩⟩:=hx;obtain⟨⟨ya,yc,e3,_⟩,⟨yb,ye,e4,_⟩⟩:=hy;obtain⟨xf,xm,xd⟩:=x;obtain⟨yf,ym,yd⟩:=y;simp only at e1 e2 e3 e4 l1 l2 l3 l4;subst e1 e2 e3 e4;have hA:Grw w ((w.alloc (.cells #[.int .i64 xf.t,.int .i64 xf.p,.slice xa xf.ms.length xc,.slice xb xf.ds.length xe] 77)).alloc (.cells #[.int .i64 yf.t,.int .i64 yf.p,.slice ya yf.ms.length yc,.slice yb yf.ds.length ye] 77)):=((Grw.refl w).alloc _).alloc _;have HC:Hid (∀W:World,Below w.heap.size w W→Calls Tryz.prog 114 #[.agg #[.int .i64 xf.t,.int .i64 xf.p,.slice xa xf.ms.length xc,.slice xb xf.ds.length xe],.agg #[.int .i64 yf.t,.int .i64 yf.p,.slice ya yf.ms.length yc,.slice yb yf.ds.length ye],.pointer (some ⟨g,0,none⟩)] W fun e w'=>e= .returned (.int .i64 (plc xf yf))∧Grw W w'):=fun W hW=>by
  rw [←lW];exact ke xf yf xa ya xb yb xc yc xe ye g W (HE.out.2.below hW) (HX.out.1.below hW zr) (HX.out.2.below hW zr) (HY.out.1.below hW zr) (HY.out.2.below hW zr) l1 l2 l3 l4
 clear HX HY HE hE;simp only;generalize plc xf yf=R at*;go_enter Tryz.func35,Tryz.ntmps35;go_wp2_with fail
 refine(ae HC _ hA.below).mono ?_;rintro e w1 ⟨rfl,hg1⟩;have hg:=hA.trans hg1;go_wp2_with fail
 go_ret;exact⟨rfl,hg⟩
def bH (lo:List Fv):Nat→List Fv
 | 0=>[]
 | j+1=>if j≠0∧plc (lo.getD j fv0).f (lo.getD (j-1) fv0).f=0 then bH lo j else bH lo j++ [lo.getD j fv0]
theorem nW (lo:List Fv):∀j,(bH lo j).length≤j
 | 0=>by simp [bH]
 | j+1=>by
  have:=nW lo j;unfold bH;split
  ·omega
  ·simp;omega
theorem gC (lo:List Fv):∀j,j≤lo.length→(∀i,1≤i→i<j→plc (lo.getD i fv0).f (lo.getD (i-1) fv0).f≠0)→bH lo j=lo.take j
 | 0,_,_=>by simp [bH]
 | j+1,hj,h=>by
  rw [bH,if_neg (fun hc=>h j (by omega) (by omega) hc.2),gC lo j (by omega) (fun i h1 h2=>h i h1 (by omega)),List.take_succ_eq_append_getElem (by omega)];simp [List.getD,List.getElem?_eq_getElem (show j<lo.length by omega)]
theorem l8 (lo:List Fv):∀j,j≤lo.length→∀x∈bH lo j,x∈lo.take j
 | 0,_,x,hx=>by simp [bH]at hx
 | j+1,hj,x,hx=>by
  have ih:=l8 lo j (by omega) x;have ht:lo.take (j+1)=lo.take j++ [lo.getD j fv0]:=by
   rw [List.take_succ_eq_append_getElem (by omega)];simp [List.getD,List.getElem?_eq_getElem (show j<lo.length by omega)]
  rw [ht,List.mem_append];rw [bH]at hx;split at hx
  ·exact .inl (ih hx)
  ·rw [List.mem_append]at hx;rcases hx with hx | hx
   ·exact .inl (ih hx)
   ·exact .inr hx
theorem ls (lo:List Fv) (hs:lo.Pairwise fun a b=>¬plc b.f a.f<0):∀j,j≤lo.length→Srt ((bH lo j).map Fv.f)∧(∀f,f∈(bH lo j).map Fv.f↔f∈(lo.take j).map Fv.f)∧(1≤j→∃r,bH lo j=r++ [(bH lo j).getLast?.getD fv0]∧((bH lo j).getLast?.getD fv0).f=(lo.getD (j-1) fv0).f)
 | 0,_=>⟨List.Pairwise.nil,fun f=>by simp [bH],fun h=>absurd h (by omega)⟩
 | j+1,hj=>by
  obtain⟨h1,h2,h3⟩:=ls lo hs j (by omega);have ht:lo.take (j+1)=lo.take j++ [lo.getD j fv0]:=by
   rw [List.take_succ_eq_append_getElem (by omega)];simp [List.getD,List.getElem?_eq_getElem (show j<lo.length by omega)]
  rw [bH];by_cases hc:j≠0∧plc (lo.getD j fv0).f (lo.getD (j-1) fv0).f=0
  ·rw [if_pos hc];have hfe:=fl hc.2;obtain⟨r,h4,h5⟩:=h3 (by omega);refine⟨h1,fun f=>?_,fun _=>⟨r,h4,by rw [h5, ←hfe];rfl⟩⟩;rw [h2,ht,List.map_append,List.mem_append];constructor
   ·exact .inl
   ·rintro(h | h)
    ·exact h
    ·simp only [List.map_cons,List.map_nil,List.mem_singleton]at h;rw [h,hfe];have hj1:j-1<(lo.take j).length:=by simp;omega
     have:lo.getD (j-1) fv0∈lo.take j:=by
      have e:lo.getD (j-1) fv0=(lo.take j)[j-1]:=by
       rw [List.getElem_take];simp [List.getD,List.getElem?_eq_getElem (show j-1<lo.length by omega)]
      rw [e];exact List.getElem_mem _
     exact List.mem_map_of_mem this
  ·rw [if_neg hc];refine⟨?_,fun f=>?_,fun _=>⟨bH lo j,by simp,by simp⟩⟩
   ·rw [List.map_append];refine List.pairwise_append.2 ⟨h1,by simp,fun a ha b hb=>?_⟩;simp only [List.map_cons,List.map_nil,List.mem_singleton]at hb;subst hb;rw [h2]at ha;obtain⟨x,hx,rfl⟩:=List.mem_map.1 ha;obtain⟨i,hi,rfl⟩:=List.getElem_of_mem hx;have hi':i<j:=by simp at hi;omega
    rw [List.getElem_take];have hp:∀p q,p<q→q<lo.length→¬plc (lo.getD q fv0).f (lo.getD p fv0).f<0:=fun p q hpq hq=>by
     have:=List.pairwise_iff_getElem.1 hs p q (by omega) hq hpq;simpa [List.getD,List.getElem?_eq_getElem hq,List.getElem?_eq_getElem (show p<lo.length by omega)] using this
    have e:lo[i]=lo.getD i fv0:=(by simp [List.getD,List.getElem?_eq_getElem (show i<lo.length by omega)]);rw [e];have a1:=hp i j hi' (by omega);have a1':¬0<plc (lo.getD i fv0).f (lo.getD j fv0).f:=fun h=>a1 ((eB _ _).2 h);by_cases hz:plc (lo.getD i fv0).f (lo.getD j fv0).f=0
    ·exfalso;have hfe:=fl hz;rcases Nat.lt_or_ge i (j-1)with hij | hij
     ·have b1:=hp i (j-1) hij (by omega);have b2:=hp (j-1) j (by omega) (by omega);rw [←hfe]at b2;have b2':¬0<plc (lo.getD (j-1) fv0).f (lo.getD i fv0).f:=fun h=>b2 ((eB _ _).2 h);have b3:plc (lo.getD (j-1) fv0).f (lo.getD i fv0).f=0:=(by omega);have b4:=fl b3;refine hc ⟨by omega,?_⟩;rw [b4,hfe];exact ff _
     ·have hij':i=j-1:=(by omega);subst hij';refine hc ⟨by omega,?_⟩;rw [←hfe];exact ff _
    ·omega
   ·rw [List.map_append,List.mem_append,h2,ht,List.map_append,List.mem_append]
def EqAt2 (w:World) (ob g blk:Nat):Prop:=ob≠blk∧w.cell? ⟨ob,0,none⟩=some (.func (.func 114) #[] #[.pointer (some ⟨g,0,none⟩)])∧OrdAt2 w g blk
theorem EqAt2.kept {w w':World} {ob g blk:Nat} (h:EqAt2 w ob g blk) (hg:w.grownBy w' (some blk)):EqAt w' ob g:=⟨hg.cell h.2.1 (by simpa using h.1),h.2.2.kept hg⟩
theorem de {w:World} {B blk cap:Nat} {l:List Fv} (h:w.ownsRow B 77 4 (.slice (some ⟨blk,0,none⟩) l.length cap) l.length (C l)) {i:Nat} (hi:i<l.length):
  w.cell? ⟨blk,i*4,none⟩=some (.int .i64 (l.getD i fv0).f.t)∧w.cell? ⟨blk,i*4+1,none⟩=some (.int .i64 (l.getD i fv0).f.p)∧w.cell? ⟨blk,i*4+2,none⟩=some (l.getD i fv0).mv∧w.cell? ⟨blk,i*4+3,none⟩=some (l.getD i fv0).dv:=by
 obtain⟨c0,c1,c2,c3⟩:=qD l i hi;exact⟨(h.cellAt _ (by omega)).trans c0,(h.cellAt _ (by omega)).trans c1,(h.cellAt _ (by omega)).trans c2,(h.cellAt _ (by omega)).trans c3⟩
theorem dT {l:List Fv} {i:Nat} (hi:i<l.length):l.getD i fv0∈l:=by
 rw [List.getD_eq_getElem?_getD,List.getElem?_eq_getElem hi];exact List.getElem_mem hi
theorem fX {B e size n cap g:Nat} {xs:List Value}:∀(vs:List Value) (o:Nat) (w:World),w.ownsRow B e size (.slice (some ⟨g,0,none⟩) n cap) n xs→n*size≤o→(w.setCells g o vs).ownsRow B e size (.slice (some ⟨g,0,none⟩) n cap) n xs
 | [],_,_,h,_=>h
 | v::r,o,w,h,ho=>by
  have h1:=eT h o v;rw [set_far (by rw [h.1];exact ho)]at h1;exact fX r (o+1) _ h1 (by omega)
theorem fx {g:Nat} {w:World}:∀(vs:List Value) (o:Nat) (w':World),w.grownBy w' (some g)→w.grownBy (w'.setCells g o vs) (some g)
 | [],_,_,h=>h
 | v::r,o,w',h=>fx r (o+1) _ (df h)
theorem ld (w:World) (b o n c:Nat) (hn:0<n) (hc:∀j,j<n*4→(w.cell? ⟨b,o+j,none⟩).isSome=true) (hf:∀j,j<n*4→w.frozen? ⟨b,o+j,none⟩=false):
  ∃vs,∀ty,(Builtin.clear_ #[31] ty #[.slice (some ⟨b,o,none⟩) n c]).run Tryz.prog w= .ok (.tuple #[]) (w.setCells b o vs):=by
 have hv:∀w,(zeroValue 77).run Tryz.prog w= .ok (.agg #[.int .i64 0,.int .i64 0,.slice none 0 0,.slice none 0 0]) w:=fun w=>by kernel_rfl
 refine⟨(Builtin.zeroCells #[.int .i64 0,.int .i64 0,.slice none 0 0,.slice none 0 0] n).toList,fun ty=>?_⟩;have hlen:(Builtin.zeroCells #[Value.int .i64 0,.int .i64 0,.slice none 0 0,.slice none 0 0] n).toList.length=n*4:=by simp [Builtin.zeroCells]
 have hone:∀v∈(Builtin.zeroCells #[Value.int .i64 0,.int .i64 0,.slice none 0 0,.slice none 0 0] n).toList,v.oneCell'=true:=by
  intro v hv;obtain⟨i,hi,rfl⟩:=List.getElem_of_mem hv;simp only [Builtin.zeroCells,Array.getElem_toList];simp;have hm:i%4=0∨i%4=1∨i%4=2∨i%4=3:=(by omega);rcases hm with e | e | e | e <;>simp [e] <;>rfl
 have hst:=run_storeCells_cells (P:=Tryz.prog) b o (Builtin.zeroCells #[.int .i64 0,.int .i64 0,.slice none 0 0,.slice none 0 0] n).toList 0 w (by rw [hlen];simpa using hc) (by rw [hlen];simpa using hf) hone;simp only [Nat.add_zero]at hst;obtain⟨m,rfl⟩:∃m,n=m+1:=⟨n-1,by omega⟩;simp [Builtin.clear_,run_underlying Tryz.underlying31,hv,hst,Value.cells]
theorem rx (n:Int) (h0:0≤n) (h1:n≤4000000):IntKind.i64.wrap n=n:=by
 simp [IntKind.wrap,IntKind.bits,IntKind.signed];split <;>omega
theorem lJ (lo:List Fv) (B blk cap ob g:Nat) (w:World) (hown:w.ownsRow B 77 4 (.slice (some ⟨blk,0,none⟩) lo.length cap) lo.length (C lo)) (hE:EqAt2 w ob g blk) (hok:∀x∈lo,FoOk w blk x) (h1:1≤lo.length) (hl:lo.length≤2000000):
  Calls Tryz.prog 33 #[.slice (some ⟨blk,0,none⟩) lo.length cap,.func (.func 35) #[] #[.pointer (some ⟨ob,0,none⟩)]] w fun e w'=>e= .returned (.slice (some ⟨blk,0,none⟩) (bH lo lo.length).length cap)∧w'.ownsRow B 77 4 (.slice (some ⟨blk,0,none⟩) (bH lo lo.length).length cap) (bH lo lo.length).length (C (bH lo lo.length))∧w.grownBy w' (some blk):=by
 have HO:=aa hown;have HE:=aa hE;have HK:=aa hok;have hcap:lo.length≤cap:=by
  obtain⟨_,⟨h,_⟩ |⟨g',cap',cur,hv,_,_,hnc,_⟩⟩:=hown
  ·simp at h
  ·simp only [Value.slice.injEq]at hv;omega
 clear hown hE hok;have HC:Hid (∀(W:World) (x y:Fv),w.grownBy W (some blk)→x∈lo→y∈lo→Calls Tryz.prog 35 #[.agg #[.int .i64 x.f.t,.int .i64 x.f.p,x.mv,x.dv],.agg #[.int .i64 y.f.t,.int .i64 y.f.p,y.mv,y.dv],.pointer (some ⟨ob,0,none⟩)] W fun e w'=>e= .returned (.bool (plc x.f y.f==0))∧Grw W w'):=fun W x y hW hx hy=>
  qc x y ob g W (HE.out.kept hW) ((HK.out x hx).kept hW) ((HK.out y hy).kept hW) (HK.out x hx).2.2.2.1 (HK.out x hx).2.2.2.2 (HK.out y hy).2.2.2.1 (HK.out y hy).2.2.2.2
 by_cases h2:lo.length<2
 ·have hdd:bH lo lo.length=lo:=by
   rw [gC lo lo.length zr (fun i a b=>by omega),List.take_length]
  rw [hdd];clear HC HE HK;go_enter Tryz.func33,Tryz.ntmps33;go_wp2_with fail
  go_ret;exact⟨rfl,HO.out,fQ _ _⟩
 ·go_enter Tryz.func33,Tryz.ntmps33;go_wp2_with fail
  have hblkw:=(gR HO.out).2;go_loopw [5] (fun i wr=>∃k:Nat,1≤k∧k≤lo.length∧i= .int .i64 k∧Hid (∀j,1≤j→j<k→plc (lo.getD j fv0).f (lo.getD (j-1) fv0).f≠0)∧Grw w wr) (fun i _=>lo.length-(intOf i).toNat)
  case atStart=>exact⟨1,by omega,by omega,rfl,aa (fun j a b=>by omega),Grw.refl _⟩
  case round=>
   obtain⟨k,hk1,hk,rfl,HALL,hgr⟩:=hrel;have hbel:=hgr.below;have hgb:w.grownBy wr (some blk):=Below.grown1 hbel;have HOr:=aa (aA HO.out hbel);have hblkr:=Nat.lt_of_lt_of_le hblkw hbel.size;by_cases hlt:k<lo.length
   ·obtain⟨k',hkk⟩:∃k',k=k'+1:=⟨k-1,by omega⟩;have hkm:k-1=k':=(by omega);have hk'l:k'<lo.length:=(by omega);obtain⟨a0,a1,a2,a3⟩:=de HOr.out hlt;obtain⟨b0,b1,b2,b3⟩:=de HOr.out hk'l;have hX:=dT hlt;have hY:=dT hk'l;have HXo:=aa (HK.out _ hX);have HYo:=aa (HK.out _ hY);have HST:Hid (∀W:World,w.grownBy W (some blk)→Calls Tryz.prog 35 #[.agg #[.int .i64 (lo.getD k fv0).f.t,.int .i64 (lo.getD k fv0).f.p,(lo.getD k fv0).mv,(lo.getD k fv0).dv],.agg #[.int .i64 (lo.getD k' fv0).f.t,.int .i64 (lo.getD k' fv0).f.p,(lo.getD k' fv0).mv,(lo.getD k' fv0).dv],.pointer (some ⟨ob,0,none⟩)] W fun e w'=>e= .returned (.bool (plc (lo.getD k fv0).f (lo.getD k' fv0).f==0))∧Grw W w'):=fun W hW=>HC.out W _ _ hW hX hY;have HNX:Hid (plc (lo.getD k fv0).f (lo.getD k' fv0).f≠0→∀j,1≤j→j<k+1→plc (lo.getD j fv0).f (lo.getD (j-1) fv0).f≠0):=fun h j h1 h2=>by
     by_cases e:j=k
     ·subst e;rw [hkm];exact h
     ·exact HALL.out j h1 (by omega)
    have HDD:Hid (bH lo k=lo.take k):=gC lo k hk HALL.out;have HD2:Hid (plc (lo.getD k fv0).f (lo.getD k' fv0).f=0→bH lo (k+1)=lo.take k):=fun h=>by
     rw [bH,if_pos ⟨by omega,by rw [hkm];exact h⟩];exact HDD.out
    generalize plc (lo.getD k fv0).f (lo.getD k' fv0).f=R at*;obtain⟨⟨xa,xc,e1,_⟩,⟨xb,xe,e2,_⟩⟩:=HXo.out.1;obtain⟨⟨ya,yc,e3,_⟩,⟨yb,ye,e4,_⟩⟩:=HYo.out.1;rw [e1]at a2 HST;rw [e2]at a3 HST;rw [e3]at b2 HST;rw [e4]at b3 HST;clear e1 e2 e3 e4 HXo HYo hX hY;generalize (lo.getD k fv0).f.t=xt at*;generalize (lo.getD k fv0).f.p=xp at*;generalize (lo.getD k fv0).f.ms.length=xml at*;generalize (lo.getD k fv0).f.ds.length=xdl at*;generalize (lo.getD k' fv0).f.t=yt at*;generalize (lo.getD k' fv0).f.p=yp at*;generalize (lo.getD k' fv0).f.ms.length=yml at*;generalize (lo.getD k' fv0).f.ds.length=ydl at*;have hwr:IntKind.i64.wrap ((k:Int)-1)=(k':Int):=by rw [show(k:Int)-1=(k':Int) by omega];exact rx _ (by omega) (by omega)
    have q1:(0:Int)≤(k:Int):=(by omega);have q2:(k:Int)<(lo.length:Int):=(by omega);have q3:(0:Int)≤(k':Int):=(by omega);have q4:(k':Int)<(lo.length:Int):=(by omega);have HKK:=aa hkk;clear hkk hkm;have hgd:w.grownBy wr.drew (some blk):=⟨hgb.os,hgb.tape,hgb.output,hgb.size,hgb.block⟩;go_wp2_with fail
    go_region_held3 (fun w'=>w'.cell? ⟨blk,k*4,none⟩=some (.int .i64 xt)∧w'.cell? ⟨blk,k*4+1,none⟩=some (.int .i64 xp)∧w'.cell? ⟨blk,k*4+2,none⟩=some (.slice xa xml xc)∧w'.cell? ⟨blk,k*4+3,none⟩=some (.slice xb xdl xe)∧w'.cell? ⟨blk,k'*4,none⟩=some (.int .i64 yt)∧w'.cell? ⟨blk,k'*4+1,none⟩=some (.int .i64 yp)∧w'.cell? ⟨blk,k'*4+2,none⟩=some (.slice ya yml yc)∧w'.cell? ⟨blk,k'*4+3,none⟩=some (.slice yb ydl ye)) (go_keep)
     (first |(go_at_call 35;refine(ae HST _ hgd).mono ?_;rintro e w1 ⟨rfl,hg1⟩;have hb1:=((Grw.refl wr).drew.trans hg1).below;have z0:=ag a0 hb1 zr;have z1:=ag a1 hb1 zr;have z2:=ag a2 hb1 zr;have z3:=ag a3 hb1 zr;have z4:=ag b0 hb1 zr;have z5:=ag b1 hb1 zr;have z6:=ag b2 hb1 zr;have z7:=ag b3 hb1 zr))
    have hgw:Grw w w1:=hgr.drew.trans hg1;have hgw1:w.grownBy w1 (some blk):=Below.grown1 hgw.below;have HO1:=aa (aA HO.out hgw.below);clear z0 z1 z2 z3 z4 z5 z6 z7 a0 a1 a2 a3 b0 b1 b2 b3 hb1 hg1 hgd HST;by_cases hR:R=0
    ·have HD3:=aa (HD2.out hR);subst hR;rw [show((0:Int)==0)=true from rfl];clear HNX HD2 HALL hgr hbel hgb HOr;have hkc:(k:Int)≤(cap:Int):=(by omega);have hkle:(k:Int)≤(lo.length:Int):=(by omega);go_wp2_with fail
     generalize wr.heap.size=zz at*
     rename World=>W0
     go_loopw [5,7] (fun p j wq=>∃(jj pp:Nat) (r:List Fv),p= .int .i64 pp∧j= .int .i64 jj∧1≤jj∧k+jj≤lo.length∧pp+1≤k+jj∧Hid (r.length=lo.length∧r.take pp=bH lo (k+jj)∧pp=(bH lo (k+jj)).length∧∀i,k+jj≤i+1→r.getD i fv0=lo.getD i fv0)∧Hid (wq.ownsRow B 77 4 (.slice (some ⟨blk,0,none⟩) r.length cap) r.length (C r))∧Hid (w.grownBy wq (some blk))) (fun _ j _=>lo.length-k-(intOf j).toNat)
     case atStart=>exact⟨1,k,lo,rfl,rfl,by omega,by omega,by omega,aa ⟨rfl,HD3.out.symm,by rw [HD3.out];simp;omega,fun i _=>rfl⟩,HO1,aa hgw1⟩
     case round=>
      clear HO1 hgw1 hgw;obtain⟨jj,pp,r,rfl,rfl,hj1,hjl,hpp,HI,HOq,HGq⟩:=hrel;have hblkq:=(gR HOq.out).2;by_cases hlt2:k+jj<lo.length
      ·obtain⟨jp,hjp⟩:∃jp,jj=jp+1:=⟨jj-1,by omega⟩;obtain⟨hrl,hrt,hrp,hrd⟩:=HI.out;have hxl:k+jj<r.length:=(by omega);have hyl:k+jp<r.length:=(by omega);obtain⟨a0,a1,a2,a3⟩:=de HOq.out hxl;obtain⟨b0,b1,b2,b3⟩:=de HOq.out hyl;rw [hrd (k+jj) (by omega)]at a0 a1 a2 a3;rw [hrd (k+jp) (by omega)]at b0 b1 b2 b3;have ex:(k+jj)*4=k*4+jj*4:=(by omega);have ey:(k+jp)*4=k*4+jp*4:=(by omega);rw [ex]at a0 a1 a2 a3;rw [ey]at b0 b1 b2 b3;have hX:=dT hlt2;have hY:=dT (show k+jp<lo.length by omega);have HXo:=aa (HK.out _ hX);have HYo:=aa (HK.out _ hY);have HST:Hid (∀W:World,w.grownBy W (some blk)→Calls Tryz.prog 35 #[.agg #[.int .i64 (lo.getD (k+jj) fv0).f.t,.int .i64 (lo.getD (k+jj) fv0).f.p,(lo.getD (k+jj) fv0).mv,(lo.getD (k+jj) fv0).dv],.agg #[.int .i64 (lo.getD (k+jp) fv0).f.t,.int .i64 (lo.getD (k+jp) fv0).f.p,(lo.getD (k+jp) fv0).mv,(lo.getD (k+jp) fv0).dv],.pointer (some ⟨ob,0,none⟩)] W fun e w'=>e= .returned (.bool (plc (lo.getD (k+jj) fv0).f (lo.getD (k+jp) fv0).f==0))∧Grw W w'):=fun W hW=>HC.out W _ _ hW hX hY;have HDN:Hid (bH lo (k+(jj+1))=if plc (lo.getD (k+jj) fv0).f (lo.getD (k+jp) fv0).f=0 then bH lo (k+jj)else bH lo (k+jj)++ [lo.getD (k+jj) fv0]):=by
        show _=_;have e:k+(jj+1)=(k+jj)+1:=(by omega);have e':k+jj-1=k+jp:=(by omega);rw [e,bH,e'];by_cases hc:plc (lo.getD (k+jj) fv0).f (lo.getD (k+jp) fv0).f=0
        ·rw [if_pos ⟨by omega,hc⟩,if_pos hc]
        ·rw [if_neg (fun h=>hc h.2),if_neg hc]
       have HIR:Hid (r.length=lo.length∧r.take pp=bH lo (k+jj)∧pp=(bH lo (k+jj)).length∧∀i,k+jj≤i+1→r.getD i fv0=lo.getD i fv0):=HI;obtain⟨x,hxd⟩:∃x,x=lo.getD (k+jj) fv0:=⟨_,rfl⟩;rw [←hxd]at HST HDN a0 a1 a2 a3 HXo;have HXD:=aa hxd;clear hxd hX hY hrt hrp hrd HI;generalize plc x.f (lo.getD (k+jp) fv0).f=R at*;obtain⟨⟨xa',xc',e1,_⟩,⟨xb',xe',e2,_⟩⟩:=HXo.out.1;obtain⟨⟨ya',yc',e3,_⟩,⟨yb',ye',e4,_⟩⟩:=HYo.out.1;rw [e1]at a2 HST;rw [e2]at a3 HST;rw [e3]at b2 HST;rw [e4]at b3 HST;have HE1:=aa e1;have HE2:=aa e2;clear e1 e2 e3 e4 HXo HYo;generalize (lo.getD (k+jp) fv0).f.t=yt' at*;generalize (lo.getD (k+jp) fv0).f.p=yp' at*;generalize (lo.getD (k+jp) fv0).f.ms.length=yml' at*;generalize (lo.getD (k+jp) fv0).f.ds.length=ydl' at*;obtain⟨xt',hxt⟩:∃z,z=x.f.t:=⟨_,rfl⟩;obtain⟨xp',hxp⟩:∃z,z=x.f.p:=⟨_,rfl⟩;obtain⟨xml',hxml⟩:∃z,z=x.f.ms.length:=⟨_,rfl⟩;obtain⟨xdl',hxdl⟩:∃z,z=x.f.ds.length:=⟨_,rfl⟩;rw [←hxt]at a0 HST;rw [←hxp]at a1 HST;rw [←hxml]at a2 HST HE1;rw [←hxdl]at a3 HST HE2;have HX4:Hid (xt'=x.f.t∧xp'=x.f.p):=⟨hxt,hxp⟩;clear hxt hxp hxml hxdl;have hwj:IntKind.i64.wrap ((jj:Int)-1)=(jp:Int):=by rw [show(jj:Int)-1=(jp:Int) by omega];exact rx _ (by omega) (by omega)
       have p1:(0:Int)≤(jj:Int):=(by omega);have p2:(jj:Int)<((lo.length-k:Nat):Int):=(by omega);have p3:(0:Int)≤(jp:Int):=(by omega);have p4:(jp:Int)<((lo.length-k:Nat):Int):=(by omega);have HJP:=aa hjp;clear hjp ex ey;have hgd:w.grownBy wr.drew (some blk):=⟨HGq.out.os,HGq.out.tape,HGq.out.output,HGq.out.size,HGq.out.block⟩;have HGD:=aa hgd;clear hgd;go_wp2_with fail
       go_region_held3 (fun w'=>w'.cell? ⟨blk,k*4+jj*4,none⟩=some (.int .i64 xt')∧w'.cell? ⟨blk,k*4+jj*4+1,none⟩=some (.int .i64 xp')∧w'.cell? ⟨blk,k*4+jj*4+2,none⟩=some (.slice xa' xml' xc')∧w'.cell? ⟨blk,k*4+jj*4+3,none⟩=some (.slice xb' xdl' xe')∧w'.cell? ⟨blk,k*4+jp*4,none⟩=some (.int .i64 yt')∧w'.cell? ⟨blk,k*4+jp*4+1,none⟩=some (.int .i64 yp')∧w'.cell? ⟨blk,k*4+jp*4+2,none⟩=some (.slice ya' yml' yc')∧w'.cell? ⟨blk,k*4+jp*4+3,none⟩=some (.slice yb' ydl' ye')) (go_keep)
        (first |(go_at_call 35;refine(ae HST _ (ae HGD)).mono ?_;rintro e w1 ⟨rfl,hg1⟩;have hb1:=((Grw.refl wr).drew.trans hg1).below;have z0:=ag a0 hb1 zr;have z1:=ag a1 hb1 zr;have z2:=ag a2 hb1 zr;have z3:=ag a3 hb1 zr;have z4:=ag b0 hb1 zr;have z5:=ag b1 hb1 zr;have z6:=ag b2 hb1 zr;have z7:=ag b3 hb1 zr))
       have HO1:=aa (aA HOq.out hb1);have HG1:=aa (lC HGq.out (Below.grown1 hb1));clear a0 a1 a2 a3 b0 b1 b2 b3 z4 z5 z6 z7 hg1 HST HOq HGq HGD;by_cases hR:R=0
       ·rw [if_pos hR]at HDN;have HN:Hid (r.length=lo.length∧r.take pp=bH lo (k+(jj+1))∧pp=(bH lo (k+(jj+1))).length∧∀i,k+(jj+1)≤i+1→r.getD i fv0=lo.getD i fv0):=by
         obtain⟨n1,n2,n3,n4⟩:=HIR.out;rw [HDN.out];exact aa ⟨n1,n2,n3,fun i hi=>n4 i (by omega)⟩
        clear HDN HIR;subst hR;rw [show((0:Int)==0)=true from rfl];go_wp2_with fail
        go_roundw
        case rel=>exact⟨jj+1,pp,r,rfl,by go_num,by omega,by omega,by omega,HN,HO1,HG1⟩
        case measure=>simp [intOf];omega
       ·rw [if_neg hR]at HDN;have hrb:(R==0)=false:=(by simpa using hR);have hppl:pp<r.length:=(by omega);obtain⟨c0,c1,c2,c3⟩:=de HO1.out hppl;have f0:=HO1.out.frozenAt (pp*4);have f1:=HO1.out.frozenAt (pp*4+1);have f2:=HO1.out.frozenAt (pp*4+2);have f3:=HO1.out.frozenAt (pp*4+3);have HO4:=aa (pE HO1.out pp x hppl);rw [←HX4.out.1, ←HX4.out.2,HE1.out,HE2.out]at HO4;have HG4:=aa (df (j:=pp*4+3) (v:=.slice xb' xdl' xe') (df (j:=pp*4+2) (v:=.slice xa' xml' xc') (df (j:=pp*4+1) (v:=.int .i64 xp') (df (j:=pp*4) (v:=.int .i64 xt') HG1.out))));have HN:Hid ((r.set pp x).length=lo.length∧(r.set pp x).take (pp+1)=bH lo (k+(jj+1))∧pp+1=(bH lo (k+(jj+1))).length∧∀i,k+(jj+1)≤i+1→(r.set pp x).getD i fv0=lo.getD i fv0):=by
         obtain⟨n1,n2,n3,n4⟩:=HIR.out;rw [HDN.out];refine aa ⟨by simpa using n1,?_,by simp;omega,fun i hi=>?_⟩
         ·rw [←n2];rw [List.take_succ_eq_append_getElem (by simpa using hppl),List.take_set_of_le zr];simp
         ·rw [←n4 i (by omega)];simp [List.getD,show¬pp=i by omega]
        generalize (r.getD pp fv0).f.t=ct at*;generalize (r.getD pp fv0).f.p=cp at*;generalize (r.getD pp fv0).mv=cmv at*;generalize (r.getD pp fv0).dv=cdv at*;have t1:(0:Int)≤(pp:Int):=(by omega);have t2:(pp:Int)<(lo.length:Int):=(by omega);clear HDN HIR HE1 HE2 HX4 HO1 HG1;rw [hrb];clear hrb hR;go_wp2_with fail
        go_roundw
        case rel=>exact⟨jj+1,pp+1,r.set pp x,by go_num,by go_num,by omega,by omega,by omega,HN,HO4,HG4⟩
        case measure=>simp [intOf];omega
      ·obtain⟨hrl,hrt,hrp,hrd⟩:=HI.out;have hend:k+jj=lo.length:=(by omega);rw [hend]at hrt hrp;have HPP:=aa hrp;have HOP:Hid (wr.ownsRow B 77 4 (.slice (some ⟨blk,0,none⟩) pp cap) pp (C (bH lo lo.length))):=by
        have:=nk HOq.out (show pp≤r.length by omega);rw [rO,hrt]at this;exact aa this
       have hpl:pp<lo.length:=(by omega);obtain⟨vs,hclr⟩:∃vs,∀ty,(Builtin.clear_ #[31] ty #[.slice (some ⟨blk,pp*4,none⟩) (lo.length-pp) (cap-pp)]).run Tryz.prog wr= .ok (.tuple #[]) (wr.setCells blk (pp*4) vs):=
        ld wr blk (pp*4) (lo.length-pp) (cap-pp) (by omega) (fun j hj=>by rw [HOq.out.cellAt (pp*4+j) (by omega),List.getElem?_eq_getElem (by rw [rq];omega)];rfl) (fun j hj=>HOq.out.frozenAt _)
       have s1:((lo.length-k:Nat):Int)≤(jj:Int):=(by omega);have s2:(0:Int)≤(pp:Int):=(by omega);have s3:(pp:Int)≤(lo.length:Int):=(by omega);have s4:(pp:Int)≤(cap:Int):=(by omega);have HOE:=aa (fX vs (pp*4) wr HOP.out zr);have HGE:=aa (fx vs (pp*4) wr HGq.out);clear hrl hrt hrp hrd hend HOP HOq HGq HI hlt2 hj1 hjl hpp;go_wp2_with (simp only [hclr])
       go_ret;refine⟨?_,?_,HGE.out⟩
       ·rw [←HPP.out];rfl
       ·rw [←HPP.out];exact HOE.out
    ·have HN:=aa (HNX.out hR);clear HNX HD2;go_wp2_with fail
     go_roundw
     case rel=>exact⟨k+1,by omega,by omega,by go_num,HN,hgw⟩
     case measure=>simp [intOf];omega
   ·have hkl:k=lo.length:=(by omega);have HDD:Hid (bH lo lo.length=lo):=by
     show _=_;rw [gC lo lo.length zr (fun j a b=>HALL.out j a (by omega)),List.take_length]
    have hge:((lo.length:Int))≤(k:Int):=(by omega);clear HALL hkl;go_wp2_with fail
    go_ret;refine⟨?_,?_,hgb⟩
    ·rw [HDD.out];rfl
    ·rw [HDD.out];exact HOr.out
theorem rL:(Tryz.prog.info? 82).map (fun i=>(i.zero,i.size,i.bytes))=some (some (.agg #[.int .i64 0,.int .i64 0,.int .i64 0]),3,24):=by kernel_rfl
theorem rR:(Tryz.prog.info? 85).map (fun i=>(i.zero,i.size,i.bytes))=some (some (.agg #[.int .i64 0,.int .i64 0,.int .i64 0]),3,24):=by kernel_rfl
theorem ry (l:List Do):(D l).length=3*l.length:=by
 induction l with
 | nil=>rfl
 | cons x r ih=>simp [D]at ih⊢;omega
theorem rD (b o j:Nat):(⟨b,o,none⟩:Addr).add j=⟨b,o+j,none⟩:=by by_cases h:j=0 <;>simp [Addr.add,h]
theorem lr (v:Value) (ms:List Mt) (w:World) (hM:MsAt w v ms) (hl:ms.length≤2000000):
  Calls Tryz.prog 36 #[v] w fun e w'=>∃u,e= .returned u∧MsAt w' u ms∧(∀k,u.ownBlock=some k→w.heap.size≤k)∧Below w.heap.size w w':=by
 obtain⟨i0,hi,hz0,hz1,hz2⟩:=info_parts rL;have HM:=aa hM;obtain⟨a,cap,rfl,hn,hL⟩:=hM;cases a with
 | none=>
  obtain rfl:=hn rfl;have h0:ms.length=0:=by
   rcases hL with h |⟨_,_,h,_⟩
   ·exact h
   ·simp at h
  rw [h0];refine(js w).mono ?_;rintro e w' ⟨rfl,rfl⟩;exact⟨_,rfl,⟨none,0,by rw [h0],fun _=>rfl,.inl h0⟩,fun k hk=>by simp [Value.ownBlock]at hk,Below.refl _ _⟩
 | some ad=>
  have hnews:∀j u,(M ms)[j]? =some u→w.cell? (ad.add j)=some u:=by
   rcases hL with h |⟨b,off,h4,_,h5⟩
   ·intro j u hj;rw [List.eq_nil_of_length_eq_zero h]at hj;simp [M]at hj
   ·cases h4;intro j u hj;have hjl:j<3*ms.length:=by
     rcases Nat.lt_or_ge j (3*ms.length)with h | h
     ·exact h
     ·rw [List.getElem?_eq_none (by rw [lY];exact h)]at hj;simp at hj
    obtain⟨c0,c1,c2⟩:=rE ms (j/3) (by omega);obtain⟨d0,d1,d2⟩:=h5 (j/3) (by omega);rw [rD];have hm:j%3=0∨j%3=1∨j%3=2:=(by omega);rcases hm with e | e | e
    ·have ej:j=j/3*3:=(by omega);rw [←ej]at c0 d0;rw [c0]at hj;rw [d0];exact hj
    ·have ej:j=j/3*3+1:=(by omega);rw [←ej]at c1;rw [c1]at hj;rw [show off+j=off+j/3*3+1 by omega,d1];exact hj
    ·have ej:j=j/3*3+2:=(by omega);rw [←ej]at c2;rw [c2]at hj;rw [show off+j=off+j/3*3+2 by omega,d2];exact hj
  have hone:∀u∈M ms,u.oneCell'=true:=by
   intro u hu;simp only [M,List.mem_flatMap]at hu;obtain⟨x,_,hu⟩:=hu;simp only [List.mem_cons,List.not_mem_nil,or_false]at hu;rcases hu with rfl | rfl | rfl <;>rfl
  have HN:=aa hnews;have H1:=aa hone;clear hnews hone hL hn;go_enter Tryz.func36,Tryz.ntmps36;go_wp2_with (at_builtin;refine wpList_append_own _ rfl _ _ 74 rfl w.heap.size 82 i0 _ 3 24 Tryz.underlying74 hi hz0 hz1 hz2 rfl (by decide) _ _ _ rfl (World.ownsRow_nil w w.heap.size 82 3) ad ms.length cap (M ms) rfl ?a0 HN.out H1.out ?a1 ?a2 ?a3 ?_)
  case a0=>rw [lY];omega
  case a1=>unfold maxLen;omega
  case a2=>omega
  case a3=>exact Nat.le_refl _
  intro v1 w1 ho1 hg1 _;have hb1:Below w.heap.size w w1:=(Below.refl _ w).grown hg1 (by simp) (aB (World.ownsRow_nil w w.heap.size 82 3));have ho1':w1.ownsRow w.heap.size 82 3 v1 ms.length (M ms):=(by simpa using ho1);have HMA:=aa (MsAt.of_own ho1');have HGE:=aa (aB ho1');clear ho1 hg1 ho1';go_wp2;go_ret;exact⟨v1,rfl,HMA.out,HGE.out,hb1⟩
theorem lj (v:Value) (ms:List Do) (w:World) (hM:DsAt w v ms) (hl:ms.length≤2000000):
  Calls Tryz.prog 37 #[v] w fun e w'=>∃u,e= .returned u∧DsAt w' u ms∧(∀k,u.ownBlock=some k→w.heap.size≤k)∧Below w.heap.size w w':=by
 obtain⟨i0,hi,hz0,hz1,hz2⟩:=info_parts rR;have HM:=aa hM;obtain⟨a,cap,rfl,hn,hL⟩:=hM;cases a with
 | none=>
  obtain rfl:=hn rfl;have h0:ms.length=0:=by
   rcases hL with h |⟨_,_,h,_⟩
   ·exact h
   ·simp at h
  rw [h0];refine(ja w).mono ?_;rintro e w' ⟨rfl,rfl⟩;exact⟨_,rfl,⟨none,0,by rw [h0],fun _=>rfl,.inl h0⟩,fun k hk=>by simp [Value.ownBlock]at hk,Below.refl _ _⟩
 | some ad=>
  have hnews:∀j u,(D ms)[j]? =some u→w.cell? (ad.add j)=some u:=by
   rcases hL with h |⟨b,off,h4,_,h5⟩
   ·intro j u hj;rw [List.eq_nil_of_length_eq_zero h]at hj;simp [D]at hj
   ·cases h4;intro j u hj;have hjl:j<3*ms.length:=by
     rcases Nat.lt_or_ge j (3*ms.length)with h | h
     ·exact h
     ·rw [List.getElem?_eq_none (by rw [ry];exact h)]at hj;simp at hj
    obtain⟨c0,c1,c2⟩:=rH ms (j/3) (by omega);obtain⟨d0,d1,d2⟩:=h5 (j/3) (by omega);rw [rD];have hm:j%3=0∨j%3=1∨j%3=2:=(by omega);rcases hm with e | e | e
    ·have ej:j=j/3*3:=(by omega);rw [←ej]at c0 d0;rw [c0]at hj;rw [d0];exact hj
    ·have ej:j=j/3*3+1:=(by omega);rw [←ej]at c1;rw [c1]at hj;rw [show off+j=off+j/3*3+1 by omega,d1];exact hj
    ·have ej:j=j/3*3+2:=(by omega);rw [←ej]at c2;rw [c2]at hj;rw [show off+j=off+j/3*3+2 by omega,d2];exact hj
  have hone:∀u∈D ms,u.oneCell'=true:=by
   intro u hu;simp only [D,List.mem_flatMap]at hu;obtain⟨x,_,hu⟩:=hu;simp only [List.mem_cons,List.not_mem_nil,or_false]at hu;rcases hu with rfl | rfl | rfl <;>rfl
  have HN:=aa hnews;have H1:=aa hone;clear hnews hone hL hn;go_enter Tryz.func37,Tryz.ntmps37;go_wp2_with (at_builtin;refine wpList_append_own _ rfl _ _ 75 rfl w.heap.size 85 i0 _ 3 24 Tryz.underlying75 hi hz0 hz1 hz2 rfl (by decide) _ _ _ rfl (World.ownsRow_nil w w.heap.size 85 3) ad ms.length cap (D ms) rfl ?a0 HN.out H1.out ?a1 ?a2 ?a3 ?_)
  case a0=>rw [ry];omega
  case a1=>unfold maxLen;omega
  case a2=>omega
  case a3=>exact Nat.le_refl _
  intro v1 w1 ho1 hg1 _;have hb1:Below w.heap.size w w1:=(Below.refl _ w).grown hg1 (by simp) (aB (World.ownsRow_nil w w.heap.size 85 3));have ho1':w1.ownsRow w.heap.size 85 3 v1 ms.length (D ms):=(by simpa using ho1);have HMA:=aa (DsAt.of_own ho1');have HGE:=aa (aB ho1');clear ho1 hg1 ho1';go_wp2;go_ret;exact⟨v1,rfl,HMA.out,HGE.out,hb1⟩
theorem pL:∀(l:List Fv) (i:Nat) (v:Value),i<l.length→(C l).set (i*4+2) v=C (l.set i ⟨(l.getD i fv0).f,v,(l.getD i fv0).dv⟩)
 | [],i,_,h=>by simp at h
 | y::r,0,v,_=>by simp [C]
 | y::r,i+1,v,h=>by
  have ih:=pL r i v (by simpa using h);have e:(i+1)*4+2=(i*4+2)+4:=(by omega);simp only [C,List.flatMap_cons,List.set_cons_succ,List.getD_cons_succ]at ih⊢;rw [e];simp only [List.cons_append,List.nil_append,List.set_cons_succ];rw [ih]
theorem qf:∀(l:List Fv) (i:Nat) (v:Value),i<l.length→(C l).set (i*4+3) v=C (l.set i ⟨(l.getD i fv0).f,(l.getD i fv0).mv,v⟩)
 | [],i,_,h=>by simp at h
 | y::r,0,v,_=>by simp [C]
 | y::r,i+1,v,h=>by
  have ih:=qf r i v (by simpa using h);have e:(i+1)*4+3=(i*4+3)+4:=(by omega);simp only [C,List.flatMap_cons,List.set_cons_succ,List.getD_cons_succ]at ih⊢;rw [e];simp only [List.cons_append,List.nil_append,List.set_cons_succ];rw [ih]
theorem j8 (l:List Fv) (i:Nat) (x:Fv) (h:i<l.length) (hx:x.f=(l.getD i fv0).f):(l.set i x).map Fv.f=l.map Fv.f:=by
 refine List.ext_getElem? fun j=>?_;simp only [List.getElem?_map,List.getElem?_set];by_cases e:i=j
 ·subst e;simp only [h,if_true,Option.map_some];rw [List.getElem?_eq_getElem h,Option.map_some,hx];simp [List.getD,List.getElem?_eq_getElem h]
 ·simp [e]
theorem iR {l:List Fv} {i:Nat} {x y:Fv} (h:y∈l.set i x):y=x∨y∈l:=by
 rcases List.mem_or_eq_of_mem_set h with h | h
 ·exact .inr h
 ·exact .inl h
theorem FoOk.grown {w w':World} {blk:Nat} {x:Fv} (h:FoOk w blk x) (hb:Below w.heap.size w w'):FoOk w' blk x:=⟨h.1.below hb zr,h.2⟩
theorem qg {w:World} {B blk cap:Nat} {l:List Fv} (h:w.ownsRow B 77 4 (.slice (some ⟨blk,0,none⟩) l.length cap) l.length (C l)) (hok:∀x∈l,Held w x):FsAt w (.slice (some ⟨blk,0,none⟩) l.length cap) (l.map Fv.f):=by
 have hc:l.length≤cap:=by
  obtain⟨_,⟨h,_⟩ |⟨g',cap',cur,hv,_,_,hnc,_⟩⟩:=h
  ·simp at h
  ·simp only [Value.slice.injEq]at hv;omega
 refine⟨_,cap,by simp,by simp,.inr ⟨blk,0,rfl,by simpa using hc,fun i hi=>?_⟩⟩;have hi':i<l.length:=by simpa using hi
 obtain⟨c0,c1,c2,c3⟩:=de h hi';have e:(l.map Fv.f).getD i fl0=(l.getD i fv0).f:=by simp [List.getD,List.getElem?_eq_getElem hi']
 rw [e,Nat.zero_add];have hh:=hok _ (dT hi');exact⟨c0,c1,_,_,c2,c3,hh.1,hh.2⟩
theorem iI (p:Option Addr) (cap:Nat) (fv:Value) (w:World):Calls Tryz.prog 33 #[.slice p 0 cap,fv] w fun e w'=>e= .returned (.slice p 0 cap)∧w'=w:=by
 go_enter Tryz.func33,Tryz.ntmps33;go_wp2_with fail
 go_ret;exact⟨rfl,rfl⟩
def Nw (B:Nat) (x:Fv):Prop:=(∀g,x.mv.ownBlock=some g→B≤g)∧∀g,x.dv.ownBlock=some g→B≤g
def rv (w:World) (B:Nat) (u:Value) (fs:List Fl):Prop:=FsAt w u fs∧(fs.length=0∨∃(blk cap:Nat) (lo:List Fv),u= .slice (some ⟨blk,0,none⟩) lo.length cap∧lo.map Fv.f=fs∧w.ownsRow B 77 4 u lo.length (C lo)∧∀x∈lo,Held w x∧Nw B x)
theorem qd {B k:Nat} {r:List Fv} {y:Fv} (h:∀j,j<k→Nw B (r.getD j fv0)):∀j,j<k→Nw B ((r.set k y).getD j fv0):=fun j hj=>by
 have:=h j hj;simpa [List.getD,List.getElem?_set,show k≠j by omega] using this
theorem qu (v:Value) (fs:List Fl) (w:World) (hF:FsAt w v fs) (hl:fs.length≤2000000) (hs:∀f∈fs,f.ms.length≤2000000∧f.ds.length≤2000000):
  Calls Tryz.prog 12 #[v] w fun e w'=>∃u,e= .returned u∧rv w' w.heap.size u (srt fs fs.length)∧Below w.heap.size w w':=by
 have HF:=aa hF;have HS:=aa hs;obtain⟨a,cap,rfl,_,_⟩:=hF;clear hs;go_enter Tryz.func12,Tryz.ntmps12;go_wp2_with fail
 refine(fw _).mono ?_;rintro e w1 ⟨rfl,hw1⟩;have hb1:Below w.heap.size w w1:=by rw [hw1];exact((Below.refl _ _).alloc zr _).alloc (by simp) _
 have HO1:Hid (OrdAt w1 (w.heap.size+1)):=by
  rw [hw1];have e:w.heap.size+1=(w.alloc rG).heap.size:=(by simp);refine aa ⟨w.heap.size,?_,?_⟩
  ·rw [e];simp
  ·simp
 have hs1:=hb1.size;clear hw1;obtain⟨G,hG⟩:∃G,G=w.heap.size+1:=⟨_,rfl⟩;rw [←hG]at HO1⊢;clear hG;go_wp2_with fail
 obtain⟨w2,hw2⟩:∃w2,w2=w1.alloc (.cells #[.func (.func 114) #[] #[.pointer (some ⟨G,0,none⟩)]] 87):=⟨_,rfl⟩;have hb12:Below w1.heap.size w1 w2:=by rw [hw2];exact(Below.refl _ _).alloc zr _
 have hb2:Below w.heap.size w w2:=hb1.trans (hb12.mono hs1);have HE2:Hid (EqAt w2 w1.heap.size G):=by
  refine aa ⟨by rw [hw2];simp,HO1.out.below hb12⟩
 rw [←hw2];clear hw2 hb12 HO1;obtain⟨OB,hOB⟩:∃OB,OB=w1.heap.size:=⟨_,rfl⟩;rw [←hOB]at HE2⊢;clear hOB;refine(me _ fs w2 (HF.out.below hb2 zr) hl HS.out).mono ?_;rintro e w3 ⟨u,rfl,lo,hp,hsrt,hh,ho3,hb3⟩;have hb03:=hb2.trans (hb3.mono hb2.size);have HSR:Hid ((bH lo lo.length).map Fv.f=srt fs fs.length):=by
  obtain⟨q1,q2,_⟩:=ls lo hsrt lo.length zr;exact pD q1 (fun x=>by rw [q2,List.take_length];exact hp.mem_iff)
 have HLL:Hid (lo.length≤2000000):=by
  have:=hp.length_eq;simp only [List.length_map]at this;exact aa (by omega)
 have HBD:Hid (∀x∈lo,x.f.ms.length≤2000000∧x.f.ds.length≤2000000):=fun x hx=>HS.out x.f (hp.mem_iff.1 (List.mem_map_of_mem hx));have HH:=aa hh;clear hh hp hsrt;by_cases h0:lo.length=0
 ·obtain⟨ua,uc,rfl,hua⟩:∃a c,u= .slice a 0 c∧(a=none→c=0):=by
   obtain⟨_,⟨rfl,_⟩ |⟨g,cap,cur,rfl,_⟩⟩:=ho3
   ·exact⟨_,_,rfl,fun _=>rfl⟩
   ·exact⟨_,_,by rw [h0],by simp⟩
  obtain rfl:=List.eq_nil_of_length_eq_zero h0;have HSN:Hid (srt fs fs.length= []):=by show _=_;rw [←HSR.out];rfl
  clear ho3 HH HBD HSR HLL;go_wp2_with fail
  refine(iI _ _ _ _).mono ?_;rintro e w4 ⟨rfl,rfl⟩;go_wp2_with fail
  refine wp_loop_rounds 1 ?_;rw [rounds_succ];go_wp2_with fail
  go_ret;exact⟨_,rfl,by rw [HSN.out];exact⟨⟨ua,uc,rfl,hua,.inl rfl⟩,.inl rfl⟩,hb03⟩
 ·obtain⟨blk,uc,rfl,_⟩:=ho3.form (by omega);have HO3:=aa ho3;obtain⟨hblk0,hblk1⟩:=gR ho3;clear ho3;have HE3:Hid (EqAt2 w3 OB G blk):=by
   obtain⟨e1,q,o0,o1,o2,o3,o4,o5,o6⟩:=HE2.out;have l1:=bs e1;have l2:=bs o0;have l3:=bs o1;exact aa ⟨by omega,ag e1 hb3 zr,by omega,q,by omega,ag o0 hb3 zr,ag o1 hb3 zr,ag o2 hb3 zr,ag o3 hb3 zr,ag o4 hb3 zr,ag o5 hb3 zr,ag o6 hb3 zr⟩
  have HFO:Hid (∀x∈lo,FoOk w3 blk x):=fun x hx=>by
   obtain⟨q1,q2⟩:=(HH.out x hx).away hblk0;exact⟨(HH.out x hx).below hb3 zr,q1,q2,(HBD.out x hx).1,(HBD.out x hx).2⟩
  go_wp2_with fail
  refine(lJ lo w2.heap.size blk uc OB G w3 HO3.out HE3.out HFO.out (by omega) HLL.out).mono ?_;rintro e w4 ⟨rfl,ho4,hg4⟩;have HO4:=aa ho4;have hb04:Below w.heap.size w w4:=hb03.grown hg4 hb03.size (fun k hk=>by cases hk;exact Nat.le_trans hb2.size hblk0);have HF4:Hid (∀x∈bH lo lo.length,FoOk w4 blk x):=fun x hx=>(HFO.out x (by have:=l8 lo lo.length zr x hx;rwa [List.take_length]at this)).kept2 hg4;have HML:Hid ((bH lo lo.length).length≤2000000):=aa (Nat.le_trans (nW lo lo.length) HLL.out);have hblkw:w.heap.size≤blk:=Nat.le_trans hb2.size hblk0;clear ho4 hg4 HFO HE3 HO3 HH HBD HLL hb03;generalize bH lo lo.length=l2 at*;go_wp2_with fail
  go_loopw [14] (fun i wr=>∃(k:Nat) (r:List Fv),k≤l2.length∧i= .int .i64 k∧Hid (r.map Fv.f=l2.map Fv.f)∧Hid (∀x∈r,FoOk wr blk x)∧Hid (wr.ownsRow w2.heap.size 77 4 (.slice (some ⟨blk,0,none⟩) r.length uc) r.length (C r))∧Below w.heap.size w wr∧Hid (∀j,j<k→Nw w.heap.size (r.getD j fv0))) (fun i _=>l2.length-(intOf i).toNat)
  case atStart=>exact⟨0,l2,by omega,rfl,aa rfl,HF4,HO4,hb04,aa fun j hj=>absurd hj (by omega)⟩
  case round=>
   clear HO4 HF4 hb04;obtain⟨k,r,hk,rfl,HRM,HFr,HOr,hbel,HNW⟩:=hrel;have hrl:r.length=l2.length:=by
    have:=congrArg List.length HRM.out;simpa using this
   have hblkr:=(gR HOr.out).2;have hml:=HML.out;by_cases hlt:k<l2.length
   ·have hkr:k<r.length:=(by omega);obtain⟨c0,c1,c2,c3⟩:=de HOr.out hkr;have z2:=HOr.out.frozenAt (k*4+2);have z3:=HOr.out.frozenAt (k*4+3);obtain⟨x,hx⟩:∃x,x=r.getD k fv0:=⟨_,rfl⟩;have HX:=aa hx;rw [←hx]at c0 c1 c2 c3;have HXK:Hid (FoOk wr blk x):=by rw [hx];exact aa (HFr.out _ (dT hkr))
    clear hx;obtain⟨⟨xa,xc,e1,_⟩,⟨xb,xe,e2,_⟩⟩:=HXK.out.1;have HE1:=aa e1;have HE2':=aa e2;rw [e1]at c2;rw [e2]at c3;clear e1 e2;obtain⟨xml,hxml⟩:∃z,z=x.f.ms.length:=⟨_,rfl⟩;obtain⟨xdl,hxdl⟩:∃z,z=x.f.ds.length:=⟨_,rfl⟩;rw [←hxml]at c2 HE1;rw [←hxdl]at c3 HE2';have HL1:=aa hxml;have HL2:=aa hxdl;clear hxml hxdl;generalize x.f.t=xt at*;generalize x.f.p=xp at*;obtain⟨W1,hW1⟩:∃W1,W1=wr.alloc (.cells #[.int .i64 xt,.int .i64 xp,.slice xa xml xc,.slice xb xdl xe] 77):=⟨_,rfl⟩;have hbW:Below wr.heap.size wr W1:=by rw [hW1];exact(Below.refl _ _).alloc zr _
    have d3:W1.cell? ⟨wr.heap.size,3,none⟩=some (.slice xb xdl xe):=by rw [hW1];simp
    have HWE:Hid (wr.alloc (.cells #[.int .i64 xt,.int .i64 xp,.slice xa xml xc,.slice xb xdl xe] 77)=W1):=hW1.symm;clear hW1;have HCM:Hid (Calls Tryz.prog 36 #[.slice xa xml xc] W1 fun e w'=>∃u,e= .returned u∧MsAt w' u x.f.ms∧(∀k,u.ownBlock=some k→W1.heap.size≤k)∧Below W1.heap.size W1 w'):=by
     have:=lr x.mv x.f.ms W1 (HXK.out.1.1.below hbW zr) HXK.out.2.2.2.1;rw [HE1.out]at this;exact aa this
    go_wp2_with fail
    rw [HWE.out];refine(ae HCM).mono ?_;rintro e w5 ⟨um,rfl,hms,hge,hb5⟩;have hr5:Below wr.heap.size wr w5:=hbW.trans (hb5.mono hbW.size);have hszW:=hbW.size;have hsz5:=hb5.size;have HNM:Hid (∀g,um.ownBlock=some g→w.heap.size≤g):=aa fun g h=>Nat.le_trans (Nat.le_trans hbel.size hszW) (hge g h);have hneM:um.ownBlock≠some blk:=fun h=>by have:=hge blk h;omega
    have HMS:=aa hms;obtain⟨ma,mc,e3,_⟩:=hms;have HUM:=aa e3;have g2:=ag c2 hr5 zr;have g3:=ag c3 hr5 zr;have y2:w5.frozen? ⟨blk,k*4+2,none⟩=false:=(hr5.frozen (p:=⟨blk,k*4+2,none⟩) hblkr).trans z2;have y3:w5.frozen? ⟨blk,k*4+3,none⟩=false:=(hr5.frozen (p:=⟨blk,k*4+3,none⟩) hblkr).trans z3;have g3':=ag d3 hb5 zr;have hW6g:w5.grownBy (w5.setCell ⟨blk,k*4+2,none⟩ um) (some blk):=df (fQ w5 _);have HO6:Hid ((w5.setCell ⟨blk,k*4+2,none⟩ um).ownsRow w2.heap.size 77 4 (.slice (some ⟨blk,0,none⟩) (r.set k ⟨x.f,um,x.dv⟩).length uc) (r.set k ⟨x.f,um,x.dv⟩).length (C (r.set k ⟨x.f,um,x.dv⟩))):=by
     have h:=eT (aA HOr.out hr5) (k*4+2) um;rw [pL r k um hkr, ←HX.out]at h;refine aa ?_;simpa using h
    have HF6:Hid (∀y∈r.set k ⟨x.f,um,x.dv⟩,FoOk (w5.setCell ⟨blk,k*4+2,none⟩ um) blk y):=fun y hy=>by
     rcases iR hy with rfl | hy
     ·have hx5:=(HXK.out.grown hr5).kept2 hW6g;exact⟨⟨HMS.out.kept0 hW6g (.inr hneM),hx5.1.2⟩,.inr hneM,hx5.2.2.1,hx5.2.2.2⟩
     ·exact((HFr.out y hy).grown hr5).kept2 hW6g
    have hb06:Below w.heap.size w (w5.setCell ⟨blk,k*4+2,none⟩ um):=(hbel.trans (hr5.mono hbel.size)).setCell (p:=⟨blk,k*4+2,none⟩) hblkw _;have HRM6:Hid ((r.set k ⟨x.f,um,x.dv⟩).map Fv.f=l2.map Fv.f):=by
     refine aa ?_;rw [j8 r k _ hkr (by rw [←HX.out]),HRM.out]
    have hne36:blk≠wr.heap.size:=(by omega);have i3:(w5.setCell ⟨blk,k*4+2,none⟩ um).cell? ⟨wr.heap.size,3,none⟩=some (.slice xb xdl xe):=by
     rw [World.cell?_setCell_other _ _ _ _ (by simp)];exact g3'
    have j3:(w5.setCell ⟨blk,k*4+2,none⟩ um).cell? ⟨blk,k*4+3,none⟩=some (.slice xb xdl xe):=by
     rw [World.cell?_setCell_other _ _ _ _ (by simp)];exact g3
    have j3f:(w5.setCell ⟨blk,k*4+2,none⟩ um).frozen? ⟨blk,k*4+3,none⟩=false:=by rw [World.frozen?_setCell];exact y3
    have HCD:Hid (Calls Tryz.prog 37 #[.slice xb xdl xe] (w5.setCell ⟨blk,k*4+2,none⟩ um) fun e w'=>∃u,e= .returned u∧DsAt w' u x.f.ds∧(∀k',u.ownBlock=some k'→(w5.setCell ⟨blk,k*4+2,none⟩ um).heap.size≤k')∧Below (w5.setCell ⟨blk,k*4+2,none⟩ um).heap.size (w5.setCell ⟨blk,k*4+2,none⟩ um) w'):=by
     have hx5:=(HXK.out.grown hr5).kept2 hW6g;have:=lj x.dv x.f.ds _ hx5.1.2 HXK.out.2.2.2.2;rw [HE2'.out]at this;exact aa this
    have hs6:(w5.setCell ⟨blk,k*4+2,none⟩ um).heap.size=w5.heap.size:=(by simp);have HXb:=aa (HXK.out.2);clear HRM HFr HOr hbel c0 c1 c2 c3 z2 z3 d3 g3 g3' y3 hge hb5 hbW hr5 HMS HXK HCM HE1 hW6g;clear HUM;subst e3;have HJ3:=aa j3;have HJ3F:=aa j3f;go_wp2_with fail
    clear j3 j3f i3 g2 y2;generalize w5.setCell ⟨blk,k*4+2,none⟩ (.slice ma x.f.ms.length mc)=w6 at*;have hblk6:blk<w6.heap.size:=(by omega);obtain⟨r1,hr1⟩:∃r1,r1=r.set k ⟨x.f,.slice ma x.f.ms.length mc,x.dv⟩:=⟨_,rfl⟩;have hr1l:r1.length=l2.length:=by rw [hr1];simpa using hrl
    have HR1:Hid (r1.getD k fv0=⟨x.f,.slice ma x.f.ms.length mc,x.dv⟩):=by
     refine aa ?_;rw [hr1];simp [List.getD,hkr]
    have HNW1:Hid (∀j,j<k→Nw w.heap.size (r1.getD j fv0)):=by rw [hr1];exact aa (qd HNW.out)
    rw [←hr1]at HO6 HF6 HRM6;clear hr1;refine(ae HCD).mono ?_;rintro e w7 ⟨ud,rfl,hds,hge7,hb7⟩;have hneD:ud.ownBlock≠some blk:=fun h=>by have:=hge7 blk h;omega
    have hW8g:w7.grownBy (w7.setCell ⟨blk,k*4+3,none⟩ ud) (some blk):=df (fQ w7 _);have g3:=ag HJ3.out hb7 zr;have y3:w7.frozen? ⟨blk,k*4+3,none⟩=false:=(hb7.frozen (p:=⟨blk,k*4+3,none⟩) hblk6).trans HJ3F.out;have hk1:k<r1.length:=(by omega);have HO8:Hid ((w7.setCell ⟨blk,k*4+3,none⟩ ud).ownsRow w2.heap.size 77 4 (.slice (some ⟨blk,0,none⟩) (r1.set k ⟨x.f,.slice ma x.f.ms.length mc,ud⟩).length uc) (r1.set k ⟨x.f,.slice ma x.f.ms.length mc,ud⟩).length (C (r1.set k ⟨x.f,.slice ma x.f.ms.length mc,ud⟩))):=by
     have h:=eT (aA HO6.out hb7) (k*4+3) ud;rw [qf r1 k ud hk1,HR1.out]at h;refine aa ?_;simpa using h
    have HF8:Hid (∀y∈r1.set k ⟨x.f,.slice ma x.f.ms.length mc,ud⟩,FoOk (w7.setCell ⟨blk,k*4+3,none⟩ ud) blk y):=fun y hy=>by
     rcases iR hy with rfl | hy
     ·have hx6:=HF6.out _ (dT hk1);rw [HR1.out]at hx6;have hx8:=(hx6.grown hb7).kept2 hW8g;exact⟨⟨hx8.1.1,hds.kept0 hW8g (.inr hneD)⟩,hx8.2.1,.inr hneD,hx8.2.2.2⟩
     ·exact((HF6.out y hy).grown hb7).kept2 hW8g
    have hb08:Below w.heap.size w (w7.setCell ⟨blk,k*4+3,none⟩ ud):=(hb06.trans (hb7.mono hb06.size)).setCell (p:=⟨blk,k*4+3,none⟩) hblkw _;have HRM8:Hid ((r1.set k ⟨x.f,.slice ma x.f.ms.length mc,ud⟩).map Fv.f=l2.map Fv.f):=by
     refine aa ?_;rw [j8 r1 k _ hk1 (by rw [HR1.out]),HRM6.out]
    have HNW8:Hid (∀j,j<k+1→Nw w.heap.size ((r1.set k ⟨x.f,.slice ma x.f.ms.length mc,ud⟩).getD j fv0)):=aa fun j hj=>by
     by_cases hjk:j=k
     ·subst hjk;have e:(r1.set j ⟨x.f,.slice ma x.f.ms.length mc,ud⟩).getD j fv0=⟨x.f,.slice ma x.f.ms.length mc,ud⟩:=(by simp [List.getD,hk1]);rw [e];exact⟨HNM.out,fun g hg=>Nat.le_trans hb06.size (hge7 g hg)⟩
     ·exact qd HNW1.out j (by omega)
    clear HNW HNW1 HNM;obtain⟨da,dc,e4,_⟩:=hds;clear HCD HF6 HO6 HRM6 hb06 HJ3 HJ3F hb7 hge7 hW8g HR1;subst e4;go_wp2_with fail
    go_roundw
    case rel=>exact⟨k+1,_,by omega,by go_num,HRM8,HF8,HO8,hb08,HNW8⟩
    case measure=>simp [intOf];omega
   ·have hke:(l2.length:Int)≤(k:Int):=(by omega);have HFA:Hid (rv wr w.heap.size (.slice (some ⟨blk,0,none⟩) r.length uc) (r.map Fv.f)):=aa ⟨qg HOr.out (fun x hx=>(HFr.out x hx).1),.inr ⟨blk,uc,r,rfl,rfl,aE HOr.out hb2.size,fun x hx=>⟨(HFr.out x hx).1,by
     obtain⟨j,hj,rfl⟩:=List.getElem_of_mem hx;have:=HNW.out j (by omega);simpa [List.getD,hj] using this⟩⟩⟩
    rw [HRM.out,HSR.out]at HFA;clear HRM HFr HOr HNW;rw [hrl]at HFA;go_wp2_with fail
    go_ret;exact⟨_,rfl,HFA.out,hbel⟩
theorem lV (v:Value) (fs:List Fl) (w:World) (hF:FsAt w v fs) (hl:fs.length≤2000000) (hs:∀f∈fs,f.ms.length≤2000000∧f.ds.length≤2000000):
  Calls Tryz.prog 12 #[v] w fun e w'=>∃u,e= .returned u∧FsAt w' u (srt fs fs.length)∧Below w.heap.size w w':=
 (qu v fs w hF hl hs).mono fun e w' ⟨u,h1,h2,h3⟩=>⟨u,h1,h2.1,h3⟩
theorem ql (u v:Value) (ms:List Mt) (w:World) (hu:MsAt w u ms) (hv:MsAt w v ms) (hl:ms.length≤2000000):
  Calls Tryz.prog 30 #[u,v] w fun e w'=>e= .returned (.bool true)∧∃n,w'=w.drewN n:=by
 obtain⟨ua,uc,rfl,hun,huL⟩:=hu;obtain⟨va,vc,rfl,hvn,hvL⟩:=hv;go_enter Tryz.func30,Tryz.ntmps30;go_wp2_with fail
 go_loopw [13] (fun i wr=>∃k:Nat,k≤ms.length∧i= .int .i64 k∧∃n,wr=w.drewN n) (fun i _=>ms.length-(intOf i).toNat)
 case atStart=>exact⟨0,by omega,rfl,0,rfl⟩
 case round=>
  obtain⟨k,hk,rfl,n,hwn⟩:=hrel;have HW:=aa hwn;by_cases hlt:k<ms.length
  ·obtain⟨b,off,rfl,hcap,hcell⟩:∃b off,ua=some ⟨b,off,none⟩∧ms.length≤uc∧∀i,i<ms.length→w.cell? ⟨b,off+i*3,none⟩=some (.int .i64 (ms.getD i mt0).f)∧w.cell? ⟨b,off+i*3+1,none⟩=some (.int .i64 (ms.getD i mt0).m)∧w.cell? ⟨b,off+i*3+2,none⟩=some (.int .i64 (ms.getD i mt0).v):=by
    rcases huL with h0 | h
    ·omega
    ·exact h
   obtain⟨b2,off2,rfl,hcap2,hcell2⟩:∃b off,va=some ⟨b,off,none⟩∧ms.length≤vc∧∀i,i<ms.length→w.cell? ⟨b,off+i*3,none⟩=some (.int .i64 (ms.getD i mt0).f)∧w.cell? ⟨b,off+i*3+1,none⟩=some (.int .i64 (ms.getD i mt0).m)∧w.cell? ⟨b,off+i*3+2,none⟩=some (.int .i64 (ms.getD i mt0).v):=by
    rcases hvL with h0 | h
    ·omega
    ·exact h
   obtain⟨g0,g1,g2⟩:=hcell k hlt;obtain⟨k0,k1,k2⟩:=hcell2 k hlt;have e:∀a:Addr,wr.cell? a=w.cell? a:=fun a=>by rw [hwn];rfl
   rw [←e]at g0 g1 g2 k0 k1 k2;clear hcell hcell2 huL hvL hwn e;generalize (ms.getD k mt0).f=x0 at*;generalize (ms.getD k mt0).m=x1 at*;generalize (ms.getD k mt0).v=x2 at*;have heq:=sB x0 x1 x2;have hgd:=rj;go_wp2_with fail
   go_quiet (fail);go_wp2;go_roundw
   case rel=>exact⟨k+1,by omega,by go_num,_,by rw [HW.out];exact World.drewN_drewN _ _ _⟩
   case measure=>simp [intOf];omega
  ·clear huL hvL hwn;go_wp2_with fail
   go_ret;exact⟨rfl,n,HW.out⟩
theorem pQ (u v:Value) (ms:List Do) (w:World) (hu:DsAt w u ms) (hv:DsAt w v ms) (hl:ms.length≤2000000):
  Calls Tryz.prog 31 #[u,v] w fun e w'=>e= .returned (.bool true)∧∃n,w'=w.drewN n:=by
 obtain⟨ua,uc,rfl,hun,huL⟩:=hu;obtain⟨va,vc,rfl,hvn,hvL⟩:=hv;go_enter Tryz.func31,Tryz.ntmps31;go_wp2_with fail
 go_loopw [13] (fun i wr=>∃k:Nat,k≤ms.length∧i= .int .i64 k∧∃n,wr=w.drewN n) (fun i _=>ms.length-(intOf i).toNat)
 case atStart=>exact⟨0,by omega,rfl,0,rfl⟩
 case round=>
  obtain⟨k,hk,rfl,n,hwn⟩:=hrel;have HW:=aa hwn;by_cases hlt:k<ms.length
  ·obtain⟨b,off,rfl,hcap,hcell⟩:∃b off,ua=some ⟨b,off,none⟩∧ms.length≤uc∧∀i,i<ms.length→w.cell? ⟨b,off+i*3,none⟩=some (.int .i64 (ms.getD i do0).k)∧w.cell? ⟨b,off+i*3+1,none⟩=some (.int .i64 (ms.getD i do0).a)∧w.cell? ⟨b,off+i*3+2,none⟩=some (.int .i64 (ms.getD i do0).n):=by
    rcases huL with h0 | h
    ·omega
    ·exact h
   obtain⟨b2,off2,rfl,hcap2,hcell2⟩:∃b off,va=some ⟨b,off,none⟩∧ms.length≤vc∧∀i,i<ms.length→w.cell? ⟨b,off+i*3,none⟩=some (.int .i64 (ms.getD i do0).k)∧w.cell? ⟨b,off+i*3+1,none⟩=some (.int .i64 (ms.getD i do0).a)∧w.cell? ⟨b,off+i*3+2,none⟩=some (.int .i64 (ms.getD i do0).n):=by
    rcases hvL with h0 | h
    ·omega
    ·exact h
   obtain⟨g0,g1,g2⟩:=hcell k hlt;obtain⟨k0,k1,k2⟩:=hcell2 k hlt;have e:∀a:Addr,wr.cell? a=w.cell? a:=fun a=>by rw [hwn];rfl
   rw [←e]at g0 g1 g2 k0 k1 k2;clear hcell hcell2 huL hvL hwn e;generalize (ms.getD k do0).k=x0 at*;generalize (ms.getD k do0).a=x1 at*;generalize (ms.getD k do0).n=x2 at*;have heq:=sE x0 x1 x2;have hgd:=qF;go_wp2_with fail
   go_quiet (fail);go_wp2;go_roundw
   case rel=>exact⟨k+1,by omega,by go_num,_,by rw [HW.out];exact World.drewN_drewN _ _ _⟩
   case measure=>simp [intOf];omega
  ·clear huL hvL hwn;go_wp2_with fail
   go_ret;exact⟨rfl,n,HW.out⟩
theorem pT (f:Fl) (ua va ub vb:Option Addr) (uc vc ud vd:Nat) (w:World) (h1:MsAt w (.slice ua f.ms.length uc) f.ms) (h2:DsAt w (.slice ub f.ds.length ud) f.ds) (h3:MsAt w (.slice va f.ms.length vc) f.ms) (h4:DsAt w (.slice vb f.ds.length vd) f.ds) (l1:f.ms.length≤2000000) (l2:f.ds.length≤2000000):
  Calls Tryz.prog 29 #[.agg #[.int .i64 f.t,.int .i64 f.p,.slice ua f.ms.length uc,.slice ub f.ds.length ud],.agg #[.int .i64 f.t,.int .i64 f.p,.slice va f.ms.length vc,.slice vb f.ds.length vd]] w fun e w'=>e= .returned (.bool true)∧Grw w w':=by
 obtain⟨W,hW⟩:∃W,W=(w.alloc (.cells #[.int .i64 f.t,.int .i64 f.p,.slice ua f.ms.length uc,.slice ub f.ds.length ud] 77)).alloc (.cells #[.int .i64 f.t,.int .i64 f.p,.slice va f.ms.length vc,.slice vb f.ds.length vd] 77):=⟨_,rfl⟩;have hg:Grw w W:=by rw [hW];exact((Grw.refl w).alloc _).alloc _
 have HM:Hid (∀V:World,Grw W V→Calls Tryz.prog 30 #[.slice ua f.ms.length uc,.slice va f.ms.length vc] V fun e w'=>e= .returned (.bool true)∧∃n,w'=V.drewN n):=fun V hV=>
  ql _ _ f.ms _ (h1.below (hg.trans hV).below zr) (h3.below (hg.trans hV).below zr) l1
 have HD:Hid (∀V:World,Grw W V→Calls Tryz.prog 31 #[.slice ub f.ds.length ud,.slice vb f.ds.length vd] V fun e w'=>e= .returned (.bool true)∧∃n,w'=V.drewN n):=fun V hV=>
  pQ _ _ f.ds _ (h2.below (hg.trans hV).below zr) (h4.below (hg.trans hV).below zr) l2
 have a0:W.cell? ⟨w.heap.size,0,none⟩=some (.int .i64 f.t):=by rw [hW];simp
 have a1:W.cell? ⟨w.heap.size,1,none⟩=some (.int .i64 f.p):=by rw [hW];simp
 have a2:W.cell? ⟨w.heap.size,2,none⟩=some (.slice ua f.ms.length uc):=by rw [hW];simp
 have a3:W.cell? ⟨w.heap.size,3,none⟩=some (.slice ub f.ds.length ud):=by rw [hW];simp
 have b0:W.cell? ⟨w.heap.size+1,0,none⟩=some (.int .i64 f.t):=by rw [hW];simp
 have b1:W.cell? ⟨w.heap.size+1,1,none⟩=some (.int .i64 f.p):=by rw [hW];simp
 have b2:W.cell? ⟨w.heap.size+1,2,none⟩=some (.slice va f.ms.length vc):=by rw [hW];simp
 have b3:W.cell? ⟨w.heap.size+1,3,none⟩=some (.slice vb f.ds.length vd):=by rw [hW];simp
 have HG:=aa hg;clear h1 h2 h3 h4 hg;generalize f.t=x0 at*;generalize f.p=x1 at*;generalize f.ms.length=x2 at*;generalize f.ds.length=x3 at*;go_enter Tryz.func29,Tryz.ntmps29;go_wp2_with fail
 rw [←hW];clear hW;refine(ae HM _ (Grw.refl _)).mono ?_;rintro e w1 ⟨rfl,n1,hw1⟩;have hg1:Grw W w1:=by rw [hw1];exact(Grw.refl _).drewN _
 have c3:w1.cell? ⟨w.heap.size,3,none⟩=some (.slice ub x3 ud):=by rw [hw1];exact a3
 have d3:w1.cell? ⟨w.heap.size+1,3,none⟩=some (.slice vb x3 vd):=by rw [hw1];exact b3
 clear hw1 a0 a1 a2 a3 b0 b1 b2 b3;go_wp2_with fail
 refine(ae HD _ hg1).mono ?_;rintro e w2 ⟨rfl,n2,hw2⟩;have HG2:Hid (Grw w w2):=by rw [hw2];exact aa ((HG.out.trans hg1).drewN _)
 clear hw2 hg1 c3 d3;go_wp2_with fail
 go_ret;exact⟨rfl,HG2.out⟩
def Few (fs:List Fl):Prop:=fs.length≤2000000∧∀f∈fs,f.ms.length≤2000000∧f.ds.length≤2000000
theorem Few.srt {xs:List Fl} (h:Few xs):Few (srt xs xs.length):=⟨Nat.le_trans (eO xs xs.length) h.1,fun f hf=>h.2 f (nO xs xs.length zr f hf)⟩
theorem rF (l:List Fl) (x:Fl):x∈srt l l.length↔x∈l:=by
 rw [(iO l l.length zr).2,List.take_length]
theorem pY {b:List Fl} (h:Srt b):srt b b.length=b:=(pD h fun _=>Iff.rfl).symm
theorem mn {w:World} {v:Value} {fs:List Fl} (h:FsAt w v fs):∃a cap,v= .slice a fs.length cap:=by
 obtain⟨a,cap,h,_⟩:=h;exact⟨a,cap,h⟩
theorem l5 {w:World} {a:Option Addr} {cap k:Nat} {fs:List Fl} (h:FsAt w (.slice a fs.length cap) fs) (hk:k<fs.length):∃b off,a=some ⟨b,off,none⟩∧fs.length≤cap∧FlAt w b (off+k*4) (fs.getD k fl0):=by
 obtain⟨a1,c1,h1,_,h0 |⟨b,off,h2,h3,h4⟩⟩:=h
 ·omega
 ·simp only [Value.slice.injEq]at h1;obtain⟨rfl,_,rfl⟩:=h1;exact⟨b,off,h2,h3,h4 k hk⟩
theorem qH {fs:List Fl} {k:Nat} (h:k<fs.length):fs.getD k fl0∈fs:=by
 rw [List.getD_eq_getElem?_getD,List.getElem?_eq_getElem h];exact List.getElem_mem h
theorem kK (ua va:Option Addr) (uc vc:Nat) (fs:List Fl) (w:World) (hu:FsAt w (.slice ua fs.length uc) fs) (hv:FsAt w (.slice va fs.length vc) fs) (hl:fs.length≤2000000) (hs:∀f∈fs,f.ms.length≤2000000∧f.ds.length≤2000000):
  Calls Tryz.prog 28 #[.slice ua fs.length uc,.slice va fs.length vc,.func (.func 29) #[] #[]] w fun e w'=>e= .returned (.bool true)∧Grw w w':=by
 have HU:=aa hu;have HV:=aa hv;have HS:=aa hs;clear hu hv hs;go_enter Tryz.func28,Tryz.ntmps28;go_wp2_with fail
 go_loopw [17] (fun i wr=>∃k:Nat,k≤fs.length∧i= .int .i64 k∧Grw w wr) (fun i _=>fs.length-(intOf i).toNat)
 case atStart=>exact⟨0,by omega,rfl,Grw.refl _⟩
 case round=>
  obtain⟨k,hk,rfl,hgr⟩:=hrel;by_cases hlt:k<fs.length
  ·obtain⟨b,off,rfl,hcap,hcell⟩:=l5 HU.out hlt;obtain⟨b2,off2,rfl,hcap2,hcell2⟩:=l5 HV.out hlt;obtain⟨g0,g1,gm,gd,g2,g3,hm1,hd1⟩:=hcell.below hgr.below zr;obtain⟨k0,k1,km,kd,k2,k3,hm2,hd2⟩:=hcell2.below hgr.below zr;have hbd:=HS.out _ (qH hlt);have hb1:=bs g0;have hb2:=bs k0;obtain⟨ma1,mc1,rfl, -, -⟩:=id hm1;obtain⟨ma2,mc2,rfl, -, -⟩:=id hm2;obtain⟨da1,dc1,rfl, -, -⟩:=id hd1;obtain⟨da2,dc2,rfl, -, -⟩:=id hd2;have HC:Hid (∀V:World,Grw wr V→Calls Tryz.prog 29 #[.agg #[.int .i64 (fs.getD k fl0).t,.int .i64 (fs.getD k fl0).p,.slice ma1 (fs.getD k fl0).ms.length mc1,.slice da1 (fs.getD k fl0).ds.length dc1],.agg #[.int .i64 (fs.getD k fl0).t,.int .i64 (fs.getD k fl0).p,.slice ma2 (fs.getD k fl0).ms.length mc2,.slice da2 (fs.getD k fl0).ds.length dc2]] V fun e w'=>e= .returned (.bool true)∧Grw V w'):=fun V hV=>
    pT (fs.getD k fl0) _ _ _ _ _ _ _ _ V (hm1.below hV.below zr) (hd1.below hV.below zr) (hm2.below hV.below zr) (hd2.below hV.below zr) hbd.1 hbd.2
   have HG:=aa hgr;clear hm1 hd1 hm2 hd2 hcell hcell2 hbd hgr;generalize (fs.getD k fl0).t=x0 at*;generalize (fs.getD k fl0).p=x1 at*;generalize (fs.getD k fl0).ms.length=x2 at*;generalize (fs.getD k fl0).ds.length=x3 at*;have q1:(0:Int)≤(k:Int):=(by omega);have q2:(k:Int)<(fs.length:Int):=(by omega);have hA:Grw wr ((wr.alloc (.cells #[.int .i64 x0,.int .i64 x1,.slice ma1 x2 mc1,.slice da1 x3 dc1] 77)).alloc (.cells #[.int .i64 x0,.int .i64 x1,.slice ma2 x2 mc2,.slice da2 x3 dc2] 77)):=((Grw.refl wr).alloc _).alloc _;have HA:=aa hA;clear hA;go_wp2_with fail
   refine(ae HC _ HA.out).mono ?_;rintro e w1 ⟨rfl,hg1⟩;have HG1:=aa ((HG.out.trans HA.out).trans hg1);clear hg1 HC HA HG g0 g1 g2 g3 k0 k1 k2 k3;go_wp2_with fail
   go_roundw
   case rel=>exact⟨k+1,by omega,by go_num,HG1.out⟩
   case measure=>simp [intOf];omega
  ·have HG:=aa hgr;clear hgr;go_wp2_with fail
   go_ret;exact⟨rfl,HG.out⟩
theorem ku (u v:Value) (fs:List Fl) (w:World) (hu:FsAt w u fs) (hv:FsAt w v fs) (hf:Few fs):
  Calls Tryz.prog 11 #[u,v] w fun e w'=>e= .returned (.bool true)∧Grw w w':=by
 obtain⟨ua,uc,hu1⟩:=mn hu;obtain⟨va,vc,hv1⟩:=mn hv;subst hu1 hv1;have HE:=aa (kK ua va uc vc fs w hu hv hf.1 hf.2);clear hu hv;generalize fs.length=n at*;go_enter Tryz.func11,Tryz.ntmps11;go_wp2_with fail
 refine(ae HE).mono ?_;rintro e w1 ⟨rfl,hg1⟩;have HG:=aa hg1;clear hg1 HE;go_wp2_with fail
 go_ret;exact⟨rfl,HG.out⟩
theorem pA {P:Program} {c:Code} {Q:Exit→Act→World→Prop} {a:Act} {w:World} (F:Nat→Nat→Nat→Nat→Nat→Nat→World→Prop) (A1:Nat→Nat→Nat→Nat→Nat→Nat→Act) (h:c.wp P (fun e a' w'=>e= .normal∧∃x y z u v s,a'=A1 x y z u v s∧F x y z u v s w') a w) (hq:∀x y z u v s w',F x y z u v s w'→Q .normal (A1 x y z u v s) w'):c.wp P Q a w:=
 Code.wp_mono (fun e a' w' ⟨he,x,y,z,u,v,s,ha,hf⟩=>by subst he;subst ha;exact hq x y z u v s w' hf) h
theorem jy {w:World} {b:Nat} {p q r s:Value} (h0:w.cell? ⟨b,0,none⟩=some p) (h1:w.cell? ⟨b,1,none⟩=some q) (h2:w.cell? ⟨b,2,none⟩=some r) (h3:w.cell? ⟨b,3,none⟩=some s) (x y z u:Value):
  ((((w.setCell ⟨b,0,none⟩ x).setCell ⟨b,1,none⟩ y).setCell ⟨b,2,none⟩ z).setCell ⟨b,3,none⟩ u).cell? ⟨b,0,none⟩=some x∧((((w.setCell ⟨b,0,none⟩ x).setCell ⟨b,1,none⟩ y).setCell ⟨b,2,none⟩ z).setCell ⟨b,3,none⟩ u).cell? ⟨b,1,none⟩=some y∧((((w.setCell ⟨b,0,none⟩ x).setCell ⟨b,1,none⟩ y).setCell ⟨b,2,none⟩ z).setCell ⟨b,3,none⟩ u).cell? ⟨b,2,none⟩=some z∧((((w.setCell ⟨b,0,none⟩ x).setCell ⟨b,1,none⟩ y).setCell ⟨b,2,none⟩ z).setCell ⟨b,3,none⟩ u).cell? ⟨b,3,none⟩=some u:=by
 have o:∀(W:World) (i j:Nat) (v:Value),i≠j→(W.setCell ⟨b,i,none⟩ v).cell? ⟨b,j,none⟩=W.cell? ⟨b,j,none⟩:=fun W i j v hij=>World.cell?_setCell_other _ _ _ _ (fun e=>hij (by simpa using (congrArg Addr.off e)));refine⟨?_,?_,?_,?_⟩
 ·rw [o _ 3 0 _ (by decide),o _ 2 0 _ (by decide),o _ 1 0 _ (by decide)];exact World.cell?_setCell_same _ _ _ h0
 ·rw [o _ 3 1 _ (by decide),o _ 2 1 _ (by decide)];exact World.cell?_setCell_same _ _ _ ((o _ 0 1 _ (by decide)).trans h1)
 ·rw [o _ 3 2 _ (by decide)];exact World.cell?_setCell_same _ _ _ ((o _ 1 2 _ (by decide)).trans ((o _ 0 2 _ (by decide)).trans h2))
 ·exact World.cell?_setCell_same _ _ _ ((o _ 2 3 _ (by decide)).trans ((o _ 1 3 _ (by decide)).trans ((o _ 0 3 _ (by decide)).trans h3)))
theorem bP (w:World) (b:Nat) (x y z u:Value):w.grownBy ((((w.setCell ⟨b,0,none⟩ x).setCell ⟨b,1,none⟩ y).setCell ⟨b,2,none⟩ z).setCell ⟨b,3,none⟩ u) (some b):=by
 have h:=fun(W:World) (i:Nat) (v:Value)=>gW W ⟨b,i,none⟩ v;have t:∀{A B C:World},A.grownBy B (some b)→B.grownBy C (some b)→A.grownBy C (some b):=fun h1 h2=>⟨h2.os.trans h1.os,h2.tape.trans h1.tape,h2.output.trans h1.output,Nat.le_trans h1.size h2.size,fun k hk hne=>(h2.block k (Nat.lt_of_lt_of_le hk h1.size) hne).trans (h1.block k hk hne)⟩;exact t (t (t (h w 0 x) (h _ 1 y)) (h _ 2 z)) (h _ 3 u)
theorem bx (w:World) (b j:Nat) (x y z u:Value):((((w.setCell ⟨b,0,none⟩ x).setCell ⟨b,1,none⟩ y).setCell ⟨b,2,none⟩ z).setCell ⟨b,3,none⟩ u).frozen? ⟨b,j,none⟩=w.frozen? ⟨b,j,none⟩:=by
 rw [World.frozen?_setCell,World.frozen?_setCell,World.frozen?_setCell,World.frozen?_setCell]
theorem nb (r:Ac):2≤(bl r).length∧(bl r).length≤3:=by
 unfold bl;split <;>simp
theorem dQ (R:List Ac):(aZ R).length=R.length:=by
 unfold aZ;rw [iJ,aN,aN,List.length_take,List.length_drop];omega
theorem nE (R:List Ac) (z:Ac):z∈aZ R↔z∈R:=by
 unfold aZ;rw [kE,fA,fA, ←List.mem_append,List.take_append_drop]
def dZ (R:List Ac) (s t n:Int) (k:Nat):List Fl:=⟨t,0,[isM 8 s],[aW n]⟩::(List.range k).map (gV R s t n)
theorem mD (R:List Ac) (s t n:Int) (k:Nat):dZ R s t n (k+1)=dZ R s t n k++ [gV R s t n k]:=by
 unfold dZ;rw [List.range_succ,List.map_append];rfl
theorem mT (R:List Ac) (s t n:Int) (k:Nat):(dZ R s t n k).length=k+1:=by
 unfold dZ;rw [List.length_cons,List.length_map,List.length_range]
theorem fK (R:List Ac) (x:Sw) (t n:Int) (u:Value) (B:Nat) (w:World) (ho:w.ownsRow B 58 9 u R.length (R.flatMap acC)) (hB:B≤w.heap.size) (hS:eM R) (hR:∀r∈R,(0≤r.sb∧r.sb≤16)∧0≤r.db∧r.db≤16) (hl:R.length≤1000):
  Calls Tryz.prog 56 #[u,.agg #[.int .i64 x.i,.int .i64 x.t,.int .i64 x.g],.int .i64 t,.int .i64 n] w fun e w'=>∃v,e= .returned v∧FR w' w.heap.size v (cw (aZ R) x.i t n)∧Below B w w':=by
 obtain⟨iM,inM,zM0,zM1,zM2⟩:=info_parts dO;obtain⟨iD,inD,zD0,zD1,zD2⟩:=info_parts ez;have HS:=aa (fun W (hW:Below w.heap.size w W)=>hS u B W (aA ho hW) (Nat.le_trans hB hW.size));have HUL:=aa (fun g (e:u.ownBlock=some g)=>bB ho e);have HUG:=aa (aB ho);obtain⟨uo,uc,rfl⟩:=aF ho;obtain⟨L,hL⟩:∃L,L=aZ R:=⟨_,rfl⟩;have HLL:Hid (L.length=R.length):=by rw [hL];exact aa (dQ R)
 have HLB:Hid (∀r∈L,(0≤r.sb∧r.sb≤16)∧0≤r.db∧r.db≤16):=aa (fun r hr=>hR r (by rw [hL]at hr;exact(nE R r).1 hr));have HRF:Hid (cw L x.i t n=dZ L x.i t n L.length):=rfl;rw [←hL]at HS⊢;clear hL ho hS hR;obtain⟨N,hN⟩:∃N,N=R.length:=⟨_,rfl⟩;rw [←hN]at HS HLL HUL HUG hl⊢;clear hN;go_enter Tryz.func56,Tryz.ntmps56;go_wp2_with fail
 obtain⟨W0,hW⟩:∃W0,W0=w.alloc (.cells #[.int .i64 x.i,.int .i64 x.t,.int .i64 x.g] 54):=⟨_,rfl⟩;rw [←hW];obtain⟨sb,hblk⟩:∃sb,sb=w.heap.size:=⟨_,rfl⟩;have d0:W0.cell? ⟨sb,0,none⟩=some (.int .i64 x.i):=zN2 hW hblk rfl;have d1:W0.cell? ⟨sb,1,none⟩=some (.int .i64 x.t):=zN2 hW hblk rfl;have d2:W0.cell? ⟨sb,2,none⟩=some (.int .i64 x.g):=zN2 hW hblk rfl;have hbN:Below w.heap.size w W0:=by rw [hW];exact ak _ _
 have hzW0:W0.heap.size=sb+1:=by rw [hW,hblk];simp
 have hsbl:w.heap.size≤sb:=by omega
 rw [←hblk];clear hW hblk;have HB:=hbN;clear hbN hzW0;have hw00:w.heap.size≤W0.heap.size:=HB.size;refine(bo _ _ _).mono ?_;rintro e V1 ⟨rfl,hb1⟩;have hs2:=hb1.size;replace⟨d0,d1,d2⟩:=aR d0 d1 d2 hb1;replace HB:=zT HB hb1;clear hb1;go_wp2_with fail
 refine(aQ _ _ _ _).mono ?_;rintro e V3 ⟨rfl,hb3⟩;have hs4:=hb3.size;replace⟨d0,d1,d2⟩:=aR d0 d1 d2 hb3;replace HB:=zT HB hb3;clear hb3;go_wp2_with fail
 obtain⟨V5,hV⟩:∃V5,V5=V3.alloc (.cells #[.int .i64 8,.int .i64 65535,.int .i64 x.i] 82):=⟨_,rfl⟩;rw [←hV];obtain⟨g5,hg'⟩:∃g5,g5=V3.heap.size:=⟨_,rfl⟩;have hg:g5=V3.heap.size:=hg';rw [←hg'];have hbN:=zB hV;have hg5:V3.heap.size≤g5:=by omega
 have hl5:=zL hV hg;have hzV5:V5.heap.size=g5+1:=by rw [hV,hg];simp
 have m0:V5.cell? ⟨g5,0,none⟩=some (.int .i64 8):=zN2 hV hg rfl;have m1:V5.cell? ⟨g5,1,none⟩=some (.int .i64 65535):=zN2 hV hg rfl;have m2:V5.cell? ⟨g5,2,none⟩=some (.int .i64 x.i):=zN2 hV hg rfl;have hs6:=hbN.size;replace⟨d0,d1,d2⟩:=aR d0 d1 d2 hbN;replace HB:=zT HB hbN;clear hV hg hg' hbN;obtain⟨V7,hV⟩:∃V7,V7=V5.alloc (.cells #[.int .i64 4,.int .i64 0,.int .i64 n] 85):=⟨_,rfl⟩;rw [←hV];obtain⟨g7,hg'⟩:∃g7,g7=g5+1:=⟨_,rfl⟩;have hg:g7=V5.heap.size:=hg'.trans hzV5.symm;rw [←hg'];have hbN:=zB hV;have hg7:V5.heap.size≤g7:=by omega
 have hl7:=zL hV hg;have hzV7:V7.heap.size=g7+1:=by rw [hV,hg];simp
 have e0:V7.cell? ⟨g7,0,none⟩=some (.int .i64 4):=zN2 hV hg rfl;have e1:V7.cell? ⟨g7,1,none⟩=some (.int .i64 0):=zN2 hV hg rfl;have e2:V7.cell? ⟨g7,2,none⟩=some (.int .i64 n):=zN2 hV hg rfl;have hs8:=hbN.size;replace⟨d0,d1,d2,m0,m1,m2⟩:=dy d0 d1 d2 m0 m1 m2 hbN;replace HB:=zT HB hbN;clear hV hg hg' hbN hzV5;clear hzV7;refine(ae HS _ HB).mono ?_;rintro e Ws ⟨rfl,hos,hgr⟩;have hs20:=hgr.size;have hs21:=HB.size;replace d0:=(hgr.cell_far ⟨sb,0,none⟩ (am d0) (fun e=>by have:=HUL.out sb e.symm;omega)).trans d0;replace d1:=(hgr.cell_far ⟨sb,1,none⟩ (am d1) (fun e=>by have:=HUL.out sb e.symm;omega)).trans d1;replace d2:=(hgr.cell_far ⟨sb,2,none⟩ (am d2) (fun e=>by have:=HUL.out sb e.symm;omega)).trans d2;replace m0:=(hgr.cell_far ⟨g5,0,none⟩ (am m0) (fun e=>by have:=HUL.out g5 e.symm;omega)).trans m0;replace m1:=(hgr.cell_far ⟨g5,1,none⟩ (am m1) (fun e=>by have:=HUL.out g5 e.symm;omega)).trans m1;replace m2:=(hgr.cell_far ⟨g5,2,none⟩ (am m2) (fun e=>by have:=HUL.out g5 e.symm;omega)).trans m2;replace e0:=(hgr.cell_far ⟨g7,0,none⟩ (am e0) (fun e=>by have:=HUL.out g7 e.symm;omega)).trans e0;replace e1:=(hgr.cell_far ⟨g7,1,none⟩ (am e1) (fun e=>by have:=HUL.out g7 e.symm;omega)).trans e1;replace e2:=(hgr.cell_far ⟨g7,2,none⟩ (am e2) (fun e=>by have:=HUL.out g7 e.symm;omega)).trans e2;have HBW:Hid (Below B w Ws):=aa ((HB.mono hB).grown hgr (Nat.le_trans hB HB.size) HUG.out);have HROW:Hid (Ws.ownsRow B 58 9 (.slice uo N uc) N (L.flatMap acC)):=aa hos;clear hos hgr HS HB;have HB:Below Ws.heap.size Ws Ws:=Below.refl _ _;have hx1:=am e0;have hx2:¬g7=Ws.heap.size:=by omega
 go_wp2_with fail
 clear hx2;obtain⟨V41,hV⟩:∃V41,V41=Ws.alloc (.cells #[.int .i64 8,.int .i64 65535,.int .i64 x.i] 82):=⟨_,rfl⟩;rw [←hV];obtain⟨g41,hg'⟩:∃g41,g41=Ws.heap.size:=⟨_,rfl⟩;have hg:g41=Ws.heap.size:=hg';rw [←hg'];have hbN:=zB hV;have hg41:Ws.heap.size≤g41:=by omega
 have hl41:=zL hV hg;have hzV41:V41.heap.size=g41+1:=by rw [hV,hg];simp
 have HM1:Hid (V41.ownsRow Ws.heap.size 82 3 (.slice (some ⟨g41,0,none⟩) 1 1) 1 (M [isM 8 x.i])):=zW hV hg HB.size (by decide) rfl;have hs42:=hbN.size;replace⟨d0,d1,d2,m0,m1,m2,e0,e1⟩:=cc d0 d1 d2 m0 m1 m2 e0 e1 hbN;replace e2:=zC e2 hbN;replace HB:=zT HB hbN;clear hV hg hg' hbN;obtain⟨V43,hV⟩:∃V43,V43=V41.alloc (.cells #[.int .i64 4,.int .i64 0,.int .i64 n] 85):=⟨_,rfl⟩;rw [←hV];obtain⟨g43,hg'⟩:∃g43,g43=g41+1:=⟨_,rfl⟩;have hg:g43=V41.heap.size:=hg'.trans hzV41.symm;rw [←hg'];have hbN:=zB hV;have hg43:V41.heap.size≤g43:=by omega
 have hl43:=zL hV hg;have hzV43:V43.heap.size=g43+1:=by rw [hV,hg];simp
 have HD1:Hid (V43.ownsRow Ws.heap.size 85 3 (.slice (some ⟨g43,0,none⟩) 1 1) 1 (D [aW n])):=zW hV hg HB.size (by decide) rfl;have hs44:=hbN.size;replace⟨d0,d1,d2,m0,m1,m2,e0,e1⟩:=cc d0 d1 d2 m0 m1 m2 e0 e1 hbN;replace e2:=zC e2 hbN;replace HM1:=zO HM1 hbN;replace HB:=zT HB hbN;clear hV hg hg' hbN hzV41;clear hzV43;refine(aw _ _ _ _ _ _ _ _ _).mono ?_;rintro e V45 ⟨rfl,hb45⟩;have hs46:=hb45.size;replace⟨d0,d1,d2,m0,m1,m2,e0,e1⟩:=cc d0 d1 d2 m0 m1 m2 e0 e1 hb45;replace e2:=zC e2 hb45;replace HM1:=zO HM1 hb45;replace HD1:=zO HD1 hb45;replace HB:=zT HB hb45;clear hb45;go_wp2_with fail
 obtain⟨V47,hV⟩:∃V47,V47=V45.alloc (.cells #[.int .i64 t,.int .i64 0,.slice (some ⟨g41,0,none⟩) 1 1,.slice (some ⟨g43,0,none⟩) 1 1] 77):=⟨_,rfl⟩;rw [←hV];obtain⟨g47,hg'⟩:∃g47,g47=V45.heap.size:=⟨_,rfl⟩;have hg:g47=V45.heap.size:=hg';rw [←hg'];have hbN:=zB hV;have hg47:V45.heap.size≤g47:=by omega
 have hl47:=zL hV hg;have hzV47:V47.heap.size=g47+1:=by rw [hV,hg];simp
 have HF0:Hid (FR V47 Ws.heap.size (.slice (some ⟨g47,0,none⟩) 1 1) (dZ L x.i t n 0)):=by
  rw [hV,hg];refine aa (FR.lit (lo:=[⟨⟨t,0,[isM 8 x.i],[aW n]⟩,.slice (some ⟨g41,0,none⟩) 1 1,.slice (some ⟨g43,0,none⟩) 1 1⟩]) rfl rfl HB.size (by decide) (fun x hx=>?_));simp only [List.mem_cons,List.not_mem_nil,or_false]at hx;rcases hx with rfl
  ·exact aS HM1.out HD1.out (by simp [Value.ownBlock])
 have hs48:=hbN.size;replace⟨d0,d1,d2,m0,m1,m2,e0,e1⟩:=cc d0 d1 d2 m0 m1 m2 e0 e1 hbN;replace e2:=zC e2 hbN;replace HM1:=zO HM1 hbN;replace HD1:=zO HD1 hbN;replace HB:=zT HB hbN;clear hV hg hg' hbN;clear hzV47;have hz1:Ws.heap.size≤g47:=by omega
 have hz2:g47<V47.heap.size:=by omega
 have hz3:g5<g47:=by omega
 have hz4:g7<g47:=by omega
 have hz5:w.heap.size≤Ws.heap.size:=by omega
 have hz6:w.heap.size≤g5:=by omega
 have hz7:g5<g7:=by omega
 have HROW2:=aa (aA HROW.out HB);have HBV:Hid (Below Ws.heap.size Ws V47):=aa HB;clear HROW HB d0 d1 d2;go_loopw [11,31] (fun v i wr=>∃k:Nat,k≤N∧i= .int .i64 k∧Hid (FR wr Ws.heap.size v (dZ L x.i t n k))∧Hid (∀g,v.ownBlock=some g→g=g47∨V47.heap.size≤g)∧Hid (V47.grownBy wr (some g47))) (fun _ i _=>N-(intOf i).toNat)
 case atStart=>exact⟨0,by omega,rfl,HF0,aa (by simp [Value.ownBlock]),aa ⟨rfl,rfl,rfl,Nat.le_refl _,fun _ _ _=>rfl⟩⟩
 case round=>
  clear HF0;obtain⟨k,hk,rfl,HF,HVB,HGR⟩:=hrel;have hgs:V47.heap.size≤wr.heap.size:=HGR.out.size;by_cases hlt:k<N
  ·have hltL:k<L.length:=by rw [HLL.out];exact hlt
   have HR1:=aa (HROW2.out.kept HGR.out (.inr (fun e=>by have:=HUL.out _ e;omega)));obtain⟨b,off,cap,e1,hcap, -,g0,g1,g2,g3,g4,g5,g6,g7,g8⟩:=qr (RowAt.of_own bO (by decide) (by rw [HLL.out];exact HR1.out)) hltL;rw [HLL.out]at e1 hcap;simp only [Value.slice.injEq,true_and]at e1;obtain⟨rfl,rfl⟩:=e1;have hyb:=HLB.out (L.getD k ac0) (by rw [List.getD_eq_getElem?_getD,List.getElem?_eq_getElem hltL];exact List.getElem_mem _);have HNX:=aa (mD L x.i t n k);have HRA:Hid (gV L x.i t n k=⟨t,(N:Int)-k,bl (L.getD k ac0)++ [isM 8 x.i],if(L.getD k ac0).d then []else [aW n]⟩):=by refine aa ?_;unfold gV;rw [HLL.out]
   have hln:=mT L x.i t n k;obtain⟨vo,vc,rfl⟩:=HF.out.slc;have HE0:Hid (L.getD k ac0=⟨(L.getD k ac0).s,(L.getD k ac0).p,(L.getD k ac0).n,(L.getD k ac0).src,(L.getD k ac0).sb,(L.getD k ac0).dst,(L.getD k ac0).db,(L.getD k ac0).o,(L.getD k ac0).d⟩):=rfl;rw [HE0.out]at HRA;clear HE0 HR1;generalize (L.getD k ac0).s=y0 at*;generalize (L.getD k ac0).p=y1 at*;generalize (L.getD k ac0).n=y2 at*;generalize (L.getD k ac0).src=y3 at*;generalize (L.getD k ac0).sb=y4 at*;generalize (L.getD k ac0).dst=y5 at*;generalize (L.getD k ac0).db=y6 at*;generalize (L.getD k ac0).o=y7 at*;generalize (L.getD k ac0).d=y8 at*;obtain⟨⟨hy0,hy1⟩,hy2,hy3⟩:=hyb;generalize hFK:dZ L x.i t n k=FK at*;have HFK:=aa hFK;clear hFK;obtain⟨NF,hNF⟩:∃NF,NF=FK.length:=⟨_,rfl⟩;rw [←hNF]at HF hln HVB⊢;have HNN:=aa hNF;have hln2:NF≤1001:=(by omega);clear hNF hln;have q1:(0:Int)≤(k:Int):=(by omega);have q2:(k:Int)<(N:Int):=(by omega);have hwr1:IntKind.i64.wrap (N:Int)=(N:Int):=bn _ (by omega) (by omega);have hwr2:IntKind.i64.wrap ((N:Int)-(k:Int))=(N:Int)-(k:Int):=bn _ (by omega) (by omega);have HUB:=aa HF.out.lt;have nm0:=aK HGR.out m0 (by omega);have nm1:=aK HGR.out m1 (by omega);have nm2:=aK HGR.out m2 (by omega);have ne0:=aK HGR.out e0 (by omega);have ne1:=aK HGR.out e1 (by omega);have ne2:=aK HGR.out e2 (by omega);go_wp2_with fail
   obtain⟨W9,hW9⟩:∃W9,W9=wr.alloc (.cells #[.int .i64 y0,.int .i64 y1,.bool y2,.int .i64 y3,.int .i64 y4,.int .i64 y5,.int .i64 y6,.int .i64 y7,.bool y8] 58):=⟨_,rfl⟩;rw [←hW9];obtain⟨pb,hpb⟩:∃pb,pb=wr.heap.size:=⟨_,rfl⟩;have a0:W9.cell? ⟨pb,0,none⟩=some (.int .i64 y0):=zN2 hW9 hpb rfl;have a1:W9.cell? ⟨pb,1,none⟩=some (.int .i64 y1):=zN2 hW9 hpb rfl;have a2:W9.cell? ⟨pb,2,none⟩=some (.bool y2):=zN2 hW9 hpb rfl;have a3:W9.cell? ⟨pb,3,none⟩=some (.int .i64 y3):=zN2 hW9 hpb rfl;have a4:W9.cell? ⟨pb,4,none⟩=some (.int .i64 y4):=zN2 hW9 hpb rfl;have a5:W9.cell? ⟨pb,5,none⟩=some (.int .i64 y5):=zN2 hW9 hpb rfl;have a6:W9.cell? ⟨pb,6,none⟩=some (.int .i64 y6):=zN2 hW9 hpb rfl;have a7:W9.cell? ⟨pb,7,none⟩=some (.int .i64 y7):=zN2 hW9 hpb rfl;have a8:W9.cell? ⟨pb,8,none⟩=some (.bool y8):=zN2 hW9 hpb rfl;have hpb0:wr.heap.size≤pb:=(by omega);have hpb1:pb<W9.heap.size:=by rw [hW9,hpb];simp
   have HB:Below wr.heap.size wr W9:=by rw [hW9];exact ak _ _
   replace⟨nm0,nm1,nm2,ne0,ne1,ne2⟩:=dy nm0 nm1 nm2 ne0 ne1 ne2 HB;have hs10:=HB.size;rw [←hpb];clear hW9 hpb g0 g1 g2 g3 g4 g5 g6 g7 g8;obtain⟨NM,hNM⟩:∃NM,NM=(bl ⟨y0,y1,y2,y3,y4,y5,y6,y7,y8⟩).length:=⟨_,rfl⟩;have HNM:=aa hNM;have hNM2:2≤NM∧NM≤3:=by rw [hNM];exact nb _
   obtain⟨hNMa,hNMb⟩:=hNM2;clear hNM;apply pA (fun _ _ _ g46 c46 fb w'=>w'.cell? ⟨fb,0,none⟩=some (.int .i64 t)∧w'.cell? ⟨fb,1,none⟩=some (.int .i64 ((N:Int)-k))∧w'.cell? ⟨fb,2,none⟩=some (.slice (some ⟨g46,0,none⟩) (NM+1) c46)∧w'.cell? ⟨fb,3,none⟩=some (.slice none 0 0)∧w'.frozen? ⟨fb,3,none⟩=false∧w'.ownsRow wr.heap.size 82 3 (.slice (some ⟨g46,0,none⟩) (NM+1) c46) (NM+1) (M (bl ⟨y0,y1,y2,y3,y4,y5,y6,y7,y8⟩)++M [isM 8 x.i])∧w'.cell? ⟨pb,8,none⟩=some (.bool y8)∧w'.cell? ⟨g7,0,none⟩=some (.int .i64 4)∧w'.cell? ⟨g7,1,none⟩=some (.int .i64 0)∧w'.cell? ⟨g7,2,none⟩=some (.int .i64 n)∧Below wr.heap.size wr w'∧wr.heap.size≤fb∧fb≠g46∧fb<w'.heap.size)
   ·have hs0_7:=HB.size;refine wp_region_held_drew (S:=(fun w'=>w'.cell? ⟨pb,0,none⟩=some (.int .i64 y0)∧w'.cell? ⟨pb,1,none⟩=some (.int .i64 y1)∧w'.cell? ⟨pb,2,none⟩=some (.bool y2)∧w'.cell? ⟨pb,3,none⟩=some (.int .i64 y3)∧w'.cell? ⟨pb,4,none⟩=some (.int .i64 y4)∧w'.cell? ⟨pb,5,none⟩=some (.int .i64 y5)∧w'.cell? ⟨pb,6,none⟩=some (.int .i64 y6)∧w'.cell? ⟨pb,7,none⟩=some (.int .i64 y7)∧w'.cell? ⟨pb,8,none⟩=some (.bool y8)∧w'.cell? ⟨g5,0,none⟩=some (.int .i64 8)∧w'.cell? ⟨g5,1,none⟩=some (.int .i64 65535)∧w'.cell? ⟨g5,2,none⟩=some (.int .i64 x.i)∧w'.cell? ⟨g7,0,none⟩=some (.int .i64 4)∧w'.cell? ⟨g7,1,none⟩=some (.int .i64 0)∧w'.cell? ⟨g7,2,none⟩=some (.int .i64 n))) (by kernel_rfl) ⟨a0,a1,a2,a3,a4,a5,a6,a7,a8,nm0,nm1,nm2,ne0,ne1,ne2⟩ (fun hHeld=>?_);have HDW:Below W9.heap.size W9 W9.drew:=(Below.refl _ _).drew;have hs101:=HDW.size;replace⟨a0,a1,a2,a3,a4,a5,a6,a7,a8,nm0,nm1,nm2,ne0,ne1⟩:=az a0 a1 a2 a3 a4 a5 a6 a7 a8 nm0 nm1 nm2 ne0 ne1 HDW;replace ne2:=zC ne2 HDW;replace HB:=zT HB HDW;clear HDW;generalize W9.drew=V102 at*;refine sqA [(0,36),(1,37),(2,38),(3,39),(4,40),(5,41),(6,42),(8,44)] ?_;(iterate 8 (refine sqN rfl (by kernel_rfl) (fun _ _ _ h=>absurd h.1 (by simp)) rfl ‹_› (by intro w h;go_simp <;>with_reducible rfl) ?_;simp only [nz]));refine sqZ ?_;refine wpAnyH_ready (rs:=[7,9,12]) (by kernel_rfl) (by simp) ?_;refine(AllReadyH.cons (o:=⟨some 43,_,_,_,_,_⟩) rfl (fun K hK=>?_) (AllReadyH.cons (o:=⟨some 45,_,_,_,_,_⟩) rfl (fun K hK=>?_) (AllReadyH.cons (o:=⟨some 14,_,_,_,_,_⟩) rfl (fun K hK=>?_) AllReadyH.nil)))
    ·go_simp;clear hHeld;have HBold:=HB.size;refine(ce ⟨y0,y1,y2,y3,y4,y5,y6,y7,y8⟩ _ hy0 hy1 hy2 hy3).mono ?_;rintro e V103 ⟨u103,rfl,ho103,hb103⟩;have hs104:=hb103.size;replace⟨a0,a1,a2,a3,a4,a5,a6,a7,a8,nm0,nm1,nm2,ne0,ne1⟩:=az a0 a1 a2 a3 a4 a5 a6 a7 a8 nm0 nm1 nm2 ne0 ne1 hb103;replace ne2:=zC ne2 hb103;replace HB:=zT HB hb103;rw [←HNM.out]at ho103;obtain⟨g105,c105,rfl,hg105,hl105⟩:=aP ho103 (by omega);have HRM:=aa (aE ho103 HBold);clear ho103 HBold;clear hb103;refine hK.out _ _ ⟨a0,a1,a2,a3,a4,a5,a6,a7,a8,nm0,nm1,nm2,ne0,ne1,ne2⟩ (fun hHeld=>?_);clear hK K;(try simp only [nz]);refine wpAnyH_ready (rs:=[9,12]) (by kernel_rfl) (by simp) ?_;refine(AllReadyH.cons (o:=⟨some 45,_,_,_,_,_⟩) rfl (fun K hK=>?_) (AllReadyH.cons (o:=⟨some 14,_,_,_,_,_⟩) rfl (fun K hK=>?_) AllReadyH.nil))
     ·go_simp;clear hHeld;refine ah (fun V106 g106 hV hg=>?_);rw [←hg];have hbN:=zB hV;have hg106:V103.heap.size≤g106:=(by omega);have hl106:=zL hV hg;have HL:Hid (V106.ownsRow wr.heap.size 82 3 (.slice (some ⟨g106,0,none⟩) 1 1) 1 (M [isM 8 x.i])):=zW hV hg HB.size (by decide) rfl;have hs107:=hbN.size;replace⟨a0,a1,a2,a3,a4,a5,a6,a7,a8,nm0,nm1,nm2,ne0,ne1⟩:=az a0 a1 a2 a3 a4 a5 a6 a7 a8 nm0 nm1 nm2 ne0 ne1 hbN;replace ne2:=zC ne2 hbN;replace HRM:=zO HRM hbN;replace HB:=zT HB hbN;clear hV hg hbN;refine hK.out _ _ ⟨a0,a1,a2,a3,a4,a5,a6,a7,a8,nm0,nm1,nm2,ne0,ne1,ne2⟩ (fun hHeld=>?_);clear hK K;(try simp only [nz]);refine wpAnyH_ready (rs:=[10,12]) (by kernel_rfl) (by simp) ?_;refine(AllReadyH.cons (o:=⟨some 46,_,_,_,_,_⟩) rfl (fun K hK=>?_) (AllReadyH.cons (o:=⟨some 14,_,_,_,_,_⟩) rfl (fun K hK=>?_) AllReadyH.nil))
      ·clear hHeld;refine step_append_lies _ rfl (.tmp 43) (.tmp 45) 74 rfl wr.heap.size 82 iM _ 3 24 Tryz.underlying74 inM zM0 zM1 zM2 rfl (by decide) (.slice (some ⟨g105,0,none⟩) NM c105) NM _ rfl (ae HRM) ⟨g106,0,none⟩ 1 1 _ rfl rfl (HL.out.cells rfl) (cQ _) (by decide) (by unfold maxLen;omega) (by omega) HB.size _ rfl ?_;intro g108 c108 V108 ho108 hgr ha hl108;replace hgr:V106.grownBy V108 (some g105):=hgr;replace ha:some g105=some g108∨g108=V106.heap.size:=ha;have hs108:=hgr.size;have hge108:g108=g105∨g108=V106.heap.size:=by rcases ha with h | h;exact .inl (Option.some.inj h).symm;exact .inr h
       replace⟨a0,a1,a2,a3,a4,a5,a6,a7,a8,nm0,nm1,nm2,ne0,ne1,ne2⟩:=cY hgr a0 a1 a2 a3 a4 a5 a6 a7 a8 nm0 nm1 nm2 ne0 ne1 ne2 (by omega);replace HB:=HB.grown hgr HB.size (fun k hk=>by cases hk;omega);have HM:=aa ho108;clear HRM HL ho108 hgr ha;refine hK.out _ _ ⟨a0,a1,a2,a3,a4,a5,a6,a7,a8,nm0,nm1,nm2,ne0,ne1,ne2⟩ (fun hHeld=>?_);clear hK K;(try simp only [nz]);refine wpAnyH_ready (rs:=[11,12]) (by kernel_rfl) (by simp) ?_;refine(AllReadyH.cons (o:=⟨some 47,_,_,_,_,_⟩) rfl (fun K hK=>?_) (AllReadyH.cons (o:=⟨some 14,_,_,_,_,_⟩) rfl (fun K hK=>?_) AllReadyH.nil))
       ·go_simp;clear hHeld;refine(aw _ _ _ _ _ _ _ _ _).mono ?_;rintro e V109 ⟨rfl,hb109⟩;have hs110:=hb109.size;replace⟨a0,a1,a2,a3,a4,a5,a6,a7,a8,nm0,nm1,nm2,ne0,ne1⟩:=az a0 a1 a2 a3 a4 a5 a6 a7 a8 nm0 nm1 nm2 ne0 ne1 hb109;replace ne2:=zC ne2 hb109;replace HM:=zO HM hb109;replace HB:=zT HB hb109;clear hb109;refine hK.out _ _ ⟨a0,a1,a2,a3,a4,a5,a6,a7,a8,nm0,nm1,nm2,ne0,ne1,ne2⟩ (fun hHeld=>?_);clear hK K;(try simp only [nz]);refine rs 12 14 (by kernel_rfl) rfl (fun K hK=>?_);go_simp;clear hHeld;refine ah (fun V111 g111 hV hg=>?_);rw [←hg];have hbN:=zB hV;have hg111:V109.heap.size≤g111:=(by omega);have hl111:=zL hV hg;have f0:V111.cell? ⟨g111,0,none⟩=some (.int .i64 0):=zN2 hV hg rfl;have f1:V111.cell? ⟨g111,1,none⟩=some (.int .i64 0):=zN2 hV hg rfl;have f2:V111.cell? ⟨g111,2,none⟩=some (.slice none 0 0):=zN2 hV hg rfl;have f3:V111.cell? ⟨g111,3,none⟩=some (.slice none 0 0):=zN2 hV hg rfl;have z0:V111.frozen? ⟨g111,0,none⟩=false:=zF2 hV hg;have z1:V111.frozen? ⟨g111,1,none⟩=false:=zF2 hV hg;have z2:V111.frozen? ⟨g111,2,none⟩=false:=zF2 hV hg;have z3:V111.frozen? ⟨g111,3,none⟩=false:=zF2 hV hg;have hs112:=hbN.size;replace⟨a0,a1,a2,a3,a4,a5,a6,a7,a8,nm0,nm1,nm2,ne0,ne1⟩:=az a0 a1 a2 a3 a4 a5 a6 a7 a8 nm0 nm1 nm2 ne0 ne1 hbN;replace ne2:=zC ne2 hbN;replace HM:=zO HM hbN;replace HB:=zT HB hbN;clear hV hg hbN;refine hK.out _ _ ⟨a0,a1,a2,a3,a4,a5,a6,a7,a8,nm0,nm1,nm2,ne0,ne1,ne2⟩ (fun hHeld=>?_);clear hK K;(try simp only [nz]);refine rn 13 (by kernel_rfl) rfl (fun K hK=>?_);go_simp;clear hHeld;obtain⟨V113,hV⟩:∃V113,V113=((((V111.setCell ⟨g111,0,none⟩ (.int .i64 t)).setCell ⟨g111,1,none⟩ (.int .i64 ((N:Int)-k))).setCell ⟨g111,2,none⟩ (.slice (some ⟨g108,0,none⟩) (NM+1) c108)).setCell ⟨g111,3,none⟩ (.slice none 0 0)):=⟨_,rfl⟩;rw [←hV];have hgr:V111.grownBy V113 (some g111):=by rw [hV];exact bP _ _ _ _ _ _
        obtain⟨i0,i1,i2,i3⟩:=jy f0 f1 f2 f3 (.int .i64 t) (.int .i64 ((N:Int)-k)) (.slice (some ⟨g108,0,none⟩) (NM+1) c108) (.slice none 0 0);rw [←hV]at i0 i1 i2 i3;replace z3:V113.frozen? ⟨g111,3,none⟩=false:=by rw [hV,bx];exact z3
        have hs113:=hgr.size;replace⟨a0,a1,a2,a3,a4,a5,a6,a7,a8,nm0,nm1,nm2,ne0,ne1,ne2⟩:=cY hgr a0 a1 a2 a3 a4 a5 a6 a7 a8 nm0 nm1 nm2 ne0 ne1 ne2 (by omega);replace HM:=aa (bQ hgr HM.out (by omega));replace HB:=HB.grown hgr HB.size (fun k hk=>by cases hk;omega);clear hV hgr f0 f1 f2 f3 z0 z1 z2;refine hK.out _ _ ⟨a0,a1,a2,a3,a4,a5,a6,a7,a8,nm0,nm1,nm2,ne0,ne1,ne2⟩ (fun hHeld=>?_);clear hK K;(try simp only [nz]);refine wpAnyH_done (by kernel_rfl) ?_ _;clear hHeld;exact⟨rfl,g105,c105,g106,g108,c108,g111,rfl,i0,i1,i2,i3,z3,HM.out,a8,ne0,ne1,ne2,HB,by omega,by omega,by omega⟩
       ·go_simp;clear hHeld;refine ah (fun V109 g109 hV hg=>?_);rw [←hg];have hbN:=zB hV;have hg109:V108.heap.size≤g109:=(by omega);have hl109:=zL hV hg;have f0:V109.cell? ⟨g109,0,none⟩=some (.int .i64 0):=zN2 hV hg rfl;have f1:V109.cell? ⟨g109,1,none⟩=some (.int .i64 0):=zN2 hV hg rfl;have f2:V109.cell? ⟨g109,2,none⟩=some (.slice none 0 0):=zN2 hV hg rfl;have f3:V109.cell? ⟨g109,3,none⟩=some (.slice none 0 0):=zN2 hV hg rfl;have z0:V109.frozen? ⟨g109,0,none⟩=false:=zF2 hV hg;have z1:V109.frozen? ⟨g109,1,none⟩=false:=zF2 hV hg;have z2:V109.frozen? ⟨g109,2,none⟩=false:=zF2 hV hg;have z3:V109.frozen? ⟨g109,3,none⟩=false:=zF2 hV hg;have hs110:=hbN.size;replace⟨a0,a1,a2,a3,a4,a5,a6,a7,a8,nm0,nm1,nm2,ne0,ne1⟩:=az a0 a1 a2 a3 a4 a5 a6 a7 a8 nm0 nm1 nm2 ne0 ne1 hbN;replace ne2:=zC ne2 hbN;replace HM:=zO HM hbN;replace HB:=zT HB hbN;clear hV hg hbN;refine hK.out _ _ ⟨a0,a1,a2,a3,a4,a5,a6,a7,a8,nm0,nm1,nm2,ne0,ne1,ne2⟩ (fun hHeld=>?_);clear hK K;(try simp only [nz]);refine rs 11 47 (by kernel_rfl) rfl (fun K hK=>?_);go_simp;clear hHeld;refine(aw _ _ _ _ _ _ _ _ _).mono ?_;rintro e V111 ⟨rfl,hb111⟩;have hs112:=hb111.size;replace z0:=zK hb111 f0 z0;replace z1:=zK hb111 f1 z1;replace z2:=zK hb111 f2 z2;replace z3:=zK hb111 f3 z3;replace⟨a0,a1,a2,a3,a4,a5,a6,a7,a8,nm0,nm1,nm2,ne0,ne1⟩:=az a0 a1 a2 a3 a4 a5 a6 a7 a8 nm0 nm1 nm2 ne0 ne1 hb111;replace⟨ne2,f0,f1,f2,f3⟩:=bM ne2 f0 f1 f2 f3 hb111;replace HM:=zO HM hb111;replace HB:=zT HB hb111;clear hb111;refine hK.out _ _ ⟨a0,a1,a2,a3,a4,a5,a6,a7,a8,nm0,nm1,nm2,ne0,ne1,ne2⟩ (fun hHeld=>?_);clear hK K;(try simp only [nz]);refine rn 13 (by kernel_rfl) rfl (fun K hK=>?_);go_simp;clear hHeld;obtain⟨V113,hV⟩:∃V113,V113=((((V111.setCell ⟨g109,0,none⟩ (.int .i64 t)).setCell ⟨g109,1,none⟩ (.int .i64 ((N:Int)-k))).setCell ⟨g109,2,none⟩ (.slice (some ⟨g108,0,none⟩) (NM+1) c108)).setCell ⟨g109,3,none⟩ (.slice none 0 0)):=⟨_,rfl⟩;rw [←hV];have hgr:V111.grownBy V113 (some g109):=by rw [hV];exact bP _ _ _ _ _ _
        obtain⟨i0,i1,i2,i3⟩:=jy f0 f1 f2 f3 (.int .i64 t) (.int .i64 ((N:Int)-k)) (.slice (some ⟨g108,0,none⟩) (NM+1) c108) (.slice none 0 0);rw [←hV]at i0 i1 i2 i3;replace z3:V113.frozen? ⟨g109,3,none⟩=false:=by rw [hV,bx];exact z3
        have hs113:=hgr.size;replace⟨a0,a1,a2,a3,a4,a5,a6,a7,a8,nm0,nm1,nm2,ne0,ne1,ne2⟩:=cY hgr a0 a1 a2 a3 a4 a5 a6 a7 a8 nm0 nm1 nm2 ne0 ne1 ne2 (by omega);replace HM:=aa (bQ hgr HM.out (by omega));replace HB:=HB.grown hgr HB.size (fun k hk=>by cases hk;omega);clear hV hgr f0 f1 f2 f3 z0 z1 z2;refine hK.out _ _ ⟨a0,a1,a2,a3,a4,a5,a6,a7,a8,nm0,nm1,nm2,ne0,ne1,ne2⟩ (fun hHeld=>?_);clear hK K;(try simp only [nz]);refine wpAnyH_done (by kernel_rfl) ?_ _;clear hHeld;exact⟨rfl,g105,c105,g106,g108,c108,g109,rfl,i0,i1,i2,i3,z3,HM.out,a8,ne0,ne1,ne2,HB,by omega,by omega,by omega⟩
      ·go_simp;clear hHeld;refine ah (fun V108 g108 hV hg=>?_);rw [←hg];have hbN:=zB hV;have hg108:V106.heap.size≤g108:=(by omega);have hl108:=zL hV hg;have f0:V108.cell? ⟨g108,0,none⟩=some (.int .i64 0):=zN2 hV hg rfl;have f1:V108.cell? ⟨g108,1,none⟩=some (.int .i64 0):=zN2 hV hg rfl;have f2:V108.cell? ⟨g108,2,none⟩=some (.slice none 0 0):=zN2 hV hg rfl;have f3:V108.cell? ⟨g108,3,none⟩=some (.slice none 0 0):=zN2 hV hg rfl;have z0:V108.frozen? ⟨g108,0,none⟩=false:=zF2 hV hg;have z1:V108.frozen? ⟨g108,1,none⟩=false:=zF2 hV hg;have z2:V108.frozen? ⟨g108,2,none⟩=false:=zF2 hV hg;have z3:V108.frozen? ⟨g108,3,none⟩=false:=zF2 hV hg;have hs109:=hbN.size;replace⟨a0,a1,a2,a3,a4,a5,a6,a7,a8,nm0,nm1,nm2,ne0,ne1⟩:=az a0 a1 a2 a3 a4 a5 a6 a7 a8 nm0 nm1 nm2 ne0 ne1 hbN;replace ne2:=zC ne2 hbN;replace HRM:=zO HRM hbN;replace HL:=zO HL hbN;replace HB:=zT HB hbN;clear hV hg hbN;refine hK.out _ _ ⟨a0,a1,a2,a3,a4,a5,a6,a7,a8,nm0,nm1,nm2,ne0,ne1,ne2⟩ (fun hHeld=>?_);clear hK K;(try simp only [nz]);refine rs 10 46 (by kernel_rfl) rfl (fun K hK=>?_);clear hHeld;refine step_append_lies _ rfl (.tmp 43) (.tmp 45) 74 rfl wr.heap.size 82 iM _ 3 24 Tryz.underlying74 inM zM0 zM1 zM2 rfl (by decide) (.slice (some ⟨g105,0,none⟩) NM c105) NM _ rfl (ae HRM) ⟨g106,0,none⟩ 1 1 _ rfl rfl (HL.out.cells rfl) (cQ _) (by decide) (by unfold maxLen;omega) (by omega) HB.size _ rfl ?_;intro g110 c110 V110 ho110 hgr ha hl110;replace hgr:V108.grownBy V110 (some g105):=hgr;replace ha:some g105=some g110∨g110=V108.heap.size:=ha;have hs110:=hgr.size;have hge110:g110=g105∨g110=V108.heap.size:=by rcases ha with h | h;exact .inl (Option.some.inj h).symm;exact .inr h
       replace z0:=(hgr.frozen_far ⟨g108,0,none⟩ (am f0) (by simp;omega)).trans z0;replace z1:=(hgr.frozen_far ⟨g108,1,none⟩ (am f1) (by simp;omega)).trans z1;replace z2:=(hgr.frozen_far ⟨g108,2,none⟩ (am f2) (by simp;omega)).trans z2;replace z3:=(hgr.frozen_far ⟨g108,3,none⟩ (am f3) (by simp;omega)).trans z3;replace⟨a0,a1,a2,a3,a4,a5,a6,a7,a8,nm0,nm1,nm2,ne0,ne1,ne2⟩:=cY hgr a0 a1 a2 a3 a4 a5 a6 a7 a8 nm0 nm1 nm2 ne0 ne1 ne2 (by omega);replace⟨f0,f1,f2,f3⟩:=oS hgr f0 f1 f2 f3 (by omega);replace HB:=HB.grown hgr HB.size (fun k hk=>by cases hk;omega);have HM:=aa ho110;clear HRM HL ho110 hgr ha;refine hK.out _ _ ⟨a0,a1,a2,a3,a4,a5,a6,a7,a8,nm0,nm1,nm2,ne0,ne1,ne2⟩ (fun hHeld=>?_);clear hK K;(try simp only [nz]);refine rs 11 47 (by kernel_rfl) rfl (fun K hK=>?_);go_simp;clear hHeld;refine(aw _ _ _ _ _ _ _ _ _).mono ?_;rintro e V111 ⟨rfl,hb111⟩;have hs112:=hb111.size;replace z0:=zK hb111 f0 z0;replace z1:=zK hb111 f1 z1;replace z2:=zK hb111 f2 z2;replace z3:=zK hb111 f3 z3;replace⟨a0,a1,a2,a3,a4,a5,a6,a7,a8,nm0,nm1,nm2,ne0,ne1⟩:=az a0 a1 a2 a3 a4 a5 a6 a7 a8 nm0 nm1 nm2 ne0 ne1 hb111;replace⟨ne2,f0,f1,f2,f3⟩:=bM ne2 f0 f1 f2 f3 hb111;replace HM:=zO HM hb111;replace HB:=zT HB hb111;clear hb111;refine hK.out _ _ ⟨a0,a1,a2,a3,a4,a5,a6,a7,a8,nm0,nm1,nm2,ne0,ne1,ne2⟩ (fun hHeld=>?_);clear hK K;(try simp only [nz]);refine rn 13 (by kernel_rfl) rfl (fun K hK=>?_);go_simp;clear hHeld;obtain⟨V113,hV⟩:∃V113,V113=((((V111.setCell ⟨g108,0,none⟩ (.int .i64 t)).setCell ⟨g108,1,none⟩ (.int .i64 ((N:Int)-k))).setCell ⟨g108,2,none⟩ (.slice (some ⟨g110,0,none⟩) (NM+1) c110)).setCell ⟨g108,3,none⟩ (.slice none 0 0)):=⟨_,rfl⟩;rw [←hV];have hgr:V111.grownBy V113 (some g108):=by rw [hV];exact bP _ _ _ _ _ _
       obtain⟨i0,i1,i2,i3⟩:=jy f0 f1 f2 f3 (.int .i64 t) (.int .i64 ((N:Int)-k)) (.slice (some ⟨g110,0,none⟩) (NM+1) c110) (.slice none 0 0);rw [←hV]at i0 i1 i2 i3;replace z3:V113.frozen? ⟨g108,3,none⟩=false:=by rw [hV,bx];exact z3
       have hs113:=hgr.size;replace⟨a0,a1,a2,a3,a4,a5,a6,a7,a8,nm0,nm1,nm2,ne0,ne1,ne2⟩:=cY hgr a0 a1 a2 a3 a4 a5 a6 a7 a8 nm0 nm1 nm2 ne0 ne1 ne2 (by omega);replace HM:=aa (bQ hgr HM.out (by omega));replace HB:=HB.grown hgr HB.size (fun k hk=>by cases hk;omega);clear hV hgr f0 f1 f2 f3 z0 z1 z2;refine hK.out _ _ ⟨a0,a1,a2,a3,a4,a5,a6,a7,a8,nm0,nm1,nm2,ne0,ne1,ne2⟩ (fun hHeld=>?_);clear hK K;(try simp only [nz]);refine wpAnyH_done (by kernel_rfl) ?_ _;clear hHeld;exact⟨rfl,g105,c105,g106,g110,c110,g108,rfl,i0,i1,i2,i3,z3,HM.out,a8,ne0,ne1,ne2,HB,by omega,by omega,by omega⟩
     ·go_simp;clear hHeld;refine ah (fun V106 g106 hV hg=>?_);rw [←hg];have hbN:=zB hV;have hg106:V103.heap.size≤g106:=(by omega);have hl106:=zL hV hg;have f0:V106.cell? ⟨g106,0,none⟩=some (.int .i64 0):=zN2 hV hg rfl;have f1:V106.cell? ⟨g106,1,none⟩=some (.int .i64 0):=zN2 hV hg rfl;have f2:V106.cell? ⟨g106,2,none⟩=some (.slice none 0 0):=zN2 hV hg rfl;have f3:V106.cell? ⟨g106,3,none⟩=some (.slice none 0 0):=zN2 hV hg rfl;have z0:V106.frozen? ⟨g106,0,none⟩=false:=zF2 hV hg;have z1:V106.frozen? ⟨g106,1,none⟩=false:=zF2 hV hg;have z2:V106.frozen? ⟨g106,2,none⟩=false:=zF2 hV hg;have z3:V106.frozen? ⟨g106,3,none⟩=false:=zF2 hV hg;have hs107:=hbN.size;replace⟨a0,a1,a2,a3,a4,a5,a6,a7,a8,nm0,nm1,nm2,ne0,ne1⟩:=az a0 a1 a2 a3 a4 a5 a6 a7 a8 nm0 nm1 nm2 ne0 ne1 hbN;replace ne2:=zC ne2 hbN;replace HRM:=zO HRM hbN;replace HB:=zT HB hbN;clear hV hg hbN;refine hK.out _ _ ⟨a0,a1,a2,a3,a4,a5,a6,a7,a8,nm0,nm1,nm2,ne0,ne1,ne2⟩ (fun hHeld=>?_);clear hK K;(try simp only [nz]);refine rs 9 45 (by kernel_rfl) rfl (fun K hK=>?_);go_simp;clear hHeld;refine ah (fun V108 g108 hV hg=>?_);rw [←hg];have hbN:=zB hV;have hg108:V106.heap.size≤g108:=(by omega);have hl108:=zL hV hg;have HL:Hid (V108.ownsRow wr.heap.size 82 3 (.slice (some ⟨g108,0,none⟩) 1 1) 1 (M [isM 8 x.i])):=zW hV hg HB.size (by decide) rfl;have hs109:=hbN.size;replace z0:=zK hbN f0 z0;replace z1:=zK hbN f1 z1;replace z2:=zK hbN f2 z2;replace z3:=zK hbN f3 z3;replace⟨a0,a1,a2,a3,a4,a5,a6,a7,a8,nm0,nm1,nm2,ne0,ne1⟩:=az a0 a1 a2 a3 a4 a5 a6 a7 a8 nm0 nm1 nm2 ne0 ne1 hbN;replace⟨ne2,f0,f1,f2,f3⟩:=bM ne2 f0 f1 f2 f3 hbN;replace HRM:=zO HRM hbN;replace HB:=zT HB hbN;clear hV hg hbN;refine hK.out _ _ ⟨a0,a1,a2,a3,a4,a5,a6,a7,a8,nm0,nm1,nm2,ne0,ne1,ne2⟩ (fun hHeld=>?_);clear hK K;(try simp only [nz]);refine rs 10 46 (by kernel_rfl) rfl (fun K hK=>?_);clear hHeld;refine step_append_lies _ rfl (.tmp 43) (.tmp 45) 74 rfl wr.heap.size 82 iM _ 3 24 Tryz.underlying74 inM zM0 zM1 zM2 rfl (by decide) (.slice (some ⟨g105,0,none⟩) NM c105) NM _ rfl (ae HRM) ⟨g108,0,none⟩ 1 1 _ rfl rfl (HL.out.cells rfl) (cQ _) (by decide) (by unfold maxLen;omega) (by omega) HB.size _ rfl ?_;intro g110 c110 V110 ho110 hgr ha hl110;replace hgr:V108.grownBy V110 (some g105):=hgr;replace ha:some g105=some g110∨g110=V108.heap.size:=ha;have hs110:=hgr.size;have hge110:g110=g105∨g110=V108.heap.size:=by rcases ha with h | h;exact .inl (Option.some.inj h).symm;exact .inr h
      replace z0:=(hgr.frozen_far ⟨g106,0,none⟩ (am f0) (by simp;omega)).trans z0;replace z1:=(hgr.frozen_far ⟨g106,1,none⟩ (am f1) (by simp;omega)).trans z1;replace z2:=(hgr.frozen_far ⟨g106,2,none⟩ (am f2) (by simp;omega)).trans z2;replace z3:=(hgr.frozen_far ⟨g106,3,none⟩ (am f3) (by simp;omega)).trans z3;replace⟨a0,a1,a2,a3,a4,a5,a6,a7,a8,nm0,nm1,nm2,ne0,ne1,ne2⟩:=cY hgr a0 a1 a2 a3 a4 a5 a6 a7 a8 nm0 nm1 nm2 ne0 ne1 ne2 (by omega);replace⟨f0,f1,f2,f3⟩:=oS hgr f0 f1 f2 f3 (by omega);replace HB:=HB.grown hgr HB.size (fun k hk=>by cases hk;omega);have HM:=aa ho110;clear HRM HL ho110 hgr ha;refine hK.out _ _ ⟨a0,a1,a2,a3,a4,a5,a6,a7,a8,nm0,nm1,nm2,ne0,ne1,ne2⟩ (fun hHeld=>?_);clear hK K;(try simp only [nz]);refine rs 11 47 (by kernel_rfl) rfl (fun K hK=>?_);go_simp;clear hHeld;refine(aw _ _ _ _ _ _ _ _ _).mono ?_;rintro e V111 ⟨rfl,hb111⟩;have hs112:=hb111.size;replace z0:=zK hb111 f0 z0;replace z1:=zK hb111 f1 z1;replace z2:=zK hb111 f2 z2;replace z3:=zK hb111 f3 z3;replace⟨a0,a1,a2,a3,a4,a5,a6,a7,a8,nm0,nm1,nm2,ne0,ne1⟩:=az a0 a1 a2 a3 a4 a5 a6 a7 a8 nm0 nm1 nm2 ne0 ne1 hb111;replace⟨ne2,f0,f1,f2,f3⟩:=bM ne2 f0 f1 f2 f3 hb111;replace HM:=zO HM hb111;replace HB:=zT HB hb111;clear hb111;refine hK.out _ _ ⟨a0,a1,a2,a3,a4,a5,a6,a7,a8,nm0,nm1,nm2,ne0,ne1,ne2⟩ (fun hHeld=>?_);clear hK K;(try simp only [nz]);refine rn 13 (by kernel_rfl) rfl (fun K hK=>?_);go_simp;clear hHeld;obtain⟨V113,hV⟩:∃V113,V113=((((V111.setCell ⟨g106,0,none⟩ (.int .i64 t)).setCell ⟨g106,1,none⟩ (.int .i64 ((N:Int)-k))).setCell ⟨g106,2,none⟩ (.slice (some ⟨g110,0,none⟩) (NM+1) c110)).setCell ⟨g106,3,none⟩ (.slice none 0 0)):=⟨_,rfl⟩;rw [←hV];have hgr:V111.grownBy V113 (some g106):=by rw [hV];exact bP _ _ _ _ _ _
      obtain⟨i0,i1,i2,i3⟩:=jy f0 f1 f2 f3 (.int .i64 t) (.int .i64 ((N:Int)-k)) (.slice (some ⟨g110,0,none⟩) (NM+1) c110) (.slice none 0 0);rw [←hV]at i0 i1 i2 i3;replace z3:V113.frozen? ⟨g106,3,none⟩=false:=by rw [hV,bx];exact z3
      have hs113:=hgr.size;replace⟨a0,a1,a2,a3,a4,a5,a6,a7,a8,nm0,nm1,nm2,ne0,ne1,ne2⟩:=cY hgr a0 a1 a2 a3 a4 a5 a6 a7 a8 nm0 nm1 nm2 ne0 ne1 ne2 (by omega);replace HM:=aa (bQ hgr HM.out (by omega));replace HB:=HB.grown hgr HB.size (fun k hk=>by cases hk;omega);clear hV hgr f0 f1 f2 f3 z0 z1 z2;refine hK.out _ _ ⟨a0,a1,a2,a3,a4,a5,a6,a7,a8,nm0,nm1,nm2,ne0,ne1,ne2⟩ (fun hHeld=>?_);clear hK K;(try simp only [nz]);refine wpAnyH_done (by kernel_rfl) ?_ _;clear hHeld;exact⟨rfl,g105,c105,g108,g110,c110,g106,rfl,i0,i1,i2,i3,z3,HM.out,a8,ne0,ne1,ne2,HB,by omega,by omega,by omega⟩
    ·go_simp;clear hHeld;refine ah (fun V103 g103 hV hg=>?_);rw [←hg];have hbN:=zB hV;have hg103:V102.heap.size≤g103:=(by omega);have hl103:=zL hV hg;have HL:Hid (V103.ownsRow wr.heap.size 82 3 (.slice (some ⟨g103,0,none⟩) 1 1) 1 (M [isM 8 x.i])):=zW hV hg HB.size (by decide) rfl;have hs104:=hbN.size;replace⟨a0,a1,a2,a3,a4,a5,a6,a7,a8,nm0,nm1,nm2,ne0,ne1⟩:=az a0 a1 a2 a3 a4 a5 a6 a7 a8 nm0 nm1 nm2 ne0 ne1 hbN;replace ne2:=zC ne2 hbN;replace HB:=zT HB hbN;clear hV hg hbN;refine hK.out _ _ ⟨a0,a1,a2,a3,a4,a5,a6,a7,a8,nm0,nm1,nm2,ne0,ne1,ne2⟩ (fun hHeld=>?_);clear hK K;(try simp only [nz]);refine wpAnyH_ready (rs:=[7,12]) (by kernel_rfl) (by simp) ?_;refine(AllReadyH.cons (o:=⟨some 43,_,_,_,_,_⟩) rfl (fun K hK=>?_) (AllReadyH.cons (o:=⟨some 14,_,_,_,_,_⟩) rfl (fun K hK=>?_) AllReadyH.nil))
     ·go_simp;clear hHeld;have HBold:=HB.size;refine(ce ⟨y0,y1,y2,y3,y4,y5,y6,y7,y8⟩ _ hy0 hy1 hy2 hy3).mono ?_;rintro e V105 ⟨u105,rfl,ho105,hb105⟩;have hs106:=hb105.size;replace⟨a0,a1,a2,a3,a4,a5,a6,a7,a8,nm0,nm1,nm2,ne0,ne1⟩:=az a0 a1 a2 a3 a4 a5 a6 a7 a8 nm0 nm1 nm2 ne0 ne1 hb105;replace ne2:=zC ne2 hb105;replace HL:=zO HL hb105;replace HB:=zT HB hb105;rw [←HNM.out]at ho105;obtain⟨g107,c107,rfl,hg107,hl107⟩:=aP ho105 (by omega);have HRM:=aa (aE ho105 HBold);clear ho105 HBold;clear hb105;refine hK.out _ _ ⟨a0,a1,a2,a3,a4,a5,a6,a7,a8,nm0,nm1,nm2,ne0,ne1,ne2⟩ (fun hHeld=>?_);clear hK K;(try simp only [nz]);refine wpAnyH_ready (rs:=[10,12]) (by kernel_rfl) (by simp) ?_;refine(AllReadyH.cons (o:=⟨some 46,_,_,_,_,_⟩) rfl (fun K hK=>?_) (AllReadyH.cons (o:=⟨some 14,_,_,_,_,_⟩) rfl (fun K hK=>?_) AllReadyH.nil))
      ·clear hHeld;refine step_append_lies _ rfl (.tmp 43) (.tmp 45) 74 rfl wr.heap.size 82 iM _ 3 24 Tryz.underlying74 inM zM0 zM1 zM2 rfl (by decide) (.slice (some ⟨g107,0,none⟩) NM c107) NM _ rfl (ae HRM) ⟨g103,0,none⟩ 1 1 _ rfl rfl (HL.out.cells rfl) (cQ _) (by decide) (by unfold maxLen;omega) (by omega) HB.size _ rfl ?_;intro g108 c108 V108 ho108 hgr ha hl108;replace hgr:V105.grownBy V108 (some g107):=hgr;replace ha:some g107=some g108∨g108=V105.heap.size:=ha;have hs108:=hgr.size;have hge108:g108=g107∨g108=V105.heap.size:=by rcases ha with h | h;exact .inl (Option.some.inj h).symm;exact .inr h
       replace⟨a0,a1,a2,a3,a4,a5,a6,a7,a8,nm0,nm1,nm2,ne0,ne1,ne2⟩:=cY hgr a0 a1 a2 a3 a4 a5 a6 a7 a8 nm0 nm1 nm2 ne0 ne1 ne2 (by omega);replace HB:=HB.grown hgr HB.size (fun k hk=>by cases hk;omega);have HM:=aa ho108;clear HRM HL ho108 hgr ha;refine hK.out _ _ ⟨a0,a1,a2,a3,a4,a5,a6,a7,a8,nm0,nm1,nm2,ne0,ne1,ne2⟩ (fun hHeld=>?_);clear hK K;(try simp only [nz]);refine wpAnyH_ready (rs:=[11,12]) (by kernel_rfl) (by simp) ?_;refine(AllReadyH.cons (o:=⟨some 47,_,_,_,_,_⟩) rfl (fun K hK=>?_) (AllReadyH.cons (o:=⟨some 14,_,_,_,_,_⟩) rfl (fun K hK=>?_) AllReadyH.nil))
       ·go_simp;clear hHeld;refine(aw _ _ _ _ _ _ _ _ _).mono ?_;rintro e V109 ⟨rfl,hb109⟩;have hs110:=hb109.size;replace⟨a0,a1,a2,a3,a4,a5,a6,a7,a8,nm0,nm1,nm2,ne0,ne1⟩:=az a0 a1 a2 a3 a4 a5 a6 a7 a8 nm0 nm1 nm2 ne0 ne1 hb109;replace ne2:=zC ne2 hb109;replace HM:=zO HM hb109;replace HB:=zT HB hb109;clear hb109;refine hK.out _ _ ⟨a0,a1,a2,a3,a4,a5,a6,a7,a8,nm0,nm1,nm2,ne0,ne1,ne2⟩ (fun hHeld=>?_);clear hK K;(try simp only [nz]);refine rs 12 14 (by kernel_rfl) rfl (fun K hK=>?_);go_simp;clear hHeld;refine ah (fun V111 g111 hV hg=>?_);rw [←hg];have hbN:=zB hV;have hg111:V109.heap.size≤g111:=(by omega);have hl111:=zL hV hg;have f0:V111.cell? ⟨g111,0,none⟩=some (.int .i64 0):=zN2 hV hg rfl;have f1:V111.cell? ⟨g111,1,none⟩=some (.int .i64 0):=zN2 hV hg rfl;have f2:V111.cell? ⟨g111,2,none⟩=some (.slice none 0 0):=zN2 hV hg rfl;have f3:V111.cell? ⟨g111,3,none⟩=some (.slice none 0 0):=zN2 hV hg rfl;have z0:V111.frozen? ⟨g111,0,none⟩=false:=zF2 hV hg;have z1:V111.frozen? ⟨g111,1,none⟩=false:=zF2 hV hg;have z2:V111.frozen? ⟨g111,2,none⟩=false:=zF2 hV hg;have z3:V111.frozen? ⟨g111,3,none⟩=false:=zF2 hV hg;have hs112:=hbN.size;replace⟨a0,a1,a2,a3,a4,a5,a6,a7,a8,nm0,nm1,nm2,ne0,ne1⟩:=az a0 a1 a2 a3 a4 a5 a6 a7 a8 nm0 nm1 nm2 ne0 ne1 hbN;replace ne2:=zC ne2 hbN;replace HM:=zO HM hbN;replace HB:=zT HB hbN;clear hV hg hbN;refine hK.out _ _ ⟨a0,a1,a2,a3,a4,a5,a6,a7,a8,nm0,nm1,nm2,ne0,ne1,ne2⟩ (fun hHeld=>?_);clear hK K;(try simp only [nz]);refine rn 13 (by kernel_rfl) rfl (fun K hK=>?_);go_simp;clear hHeld;obtain⟨V113,hV⟩:∃V113,V113=((((V111.setCell ⟨g111,0,none⟩ (.int .i64 t)).setCell ⟨g111,1,none⟩ (.int .i64 ((N:Int)-k))).setCell ⟨g111,2,none⟩ (.slice (some ⟨g108,0,none⟩) (NM+1) c108)).setCell ⟨g111,3,none⟩ (.slice none 0 0)):=⟨_,rfl⟩;rw [←hV];have hgr:V111.grownBy V113 (some g111):=by rw [hV];exact bP _ _ _ _ _ _
        obtain⟨i0,i1,i2,i3⟩:=jy f0 f1 f2 f3 (.int .i64 t) (.int .i64 ((N:Int)-k)) (.slice (some ⟨g108,0,none⟩) (NM+1) c108) (.slice none 0 0);rw [←hV]at i0 i1 i2 i3;replace z3:V113.frozen? ⟨g111,3,none⟩=false:=by rw [hV,bx];exact z3
        have hs113:=hgr.size;replace⟨a0,a1,a2,a3,a4,a5,a6,a7,a8,nm0,nm1,nm2,ne0,ne1,ne2⟩:=cY hgr a0 a1 a2 a3 a4 a5 a6 a7 a8 nm0 nm1 nm2 ne0 ne1 ne2 (by omega);replace HM:=aa (bQ hgr HM.out (by omega));replace HB:=HB.grown hgr HB.size (fun k hk=>by cases hk;omega);clear hV hgr f0 f1 f2 f3 z0 z1 z2;refine hK.out _ _ ⟨a0,a1,a2,a3,a4,a5,a6,a7,a8,nm0,nm1,nm2,ne0,ne1,ne2⟩ (fun hHeld=>?_);clear hK K;(try simp only [nz]);refine wpAnyH_done (by kernel_rfl) ?_ _;clear hHeld;exact⟨rfl,g107,c107,g103,g108,c108,g111,rfl,i0,i1,i2,i3,z3,HM.out,a8,ne0,ne1,ne2,HB,by omega,by omega,by omega⟩
       ·go_simp;clear hHeld;refine ah (fun V109 g109 hV hg=>?_);rw [←hg];have hbN:=zB hV;have hg109:V108.heap.size≤g109:=(by omega);have hl109:=zL hV hg;have f0:V109.cell? ⟨g109,0,none⟩=some (.int .i64 0):=zN2 hV hg rfl;have f1:V109.cell? ⟨g109,1,none⟩=some (.int .i64 0):=zN2 hV hg rfl;have f2:V109.cell? ⟨g109,2,none⟩=some (.slice none 0 0):=zN2 hV hg rfl;have f3:V109.cell? ⟨g109,3,none⟩=some (.slice none 0 0):=zN2 hV hg rfl;have z0:V109.frozen? ⟨g109,0,none⟩=false:=zF2 hV hg;have z1:V109.frozen? ⟨g109,1,none⟩=false:=zF2 hV hg;have z2:V109.frozen? ⟨g109,2,none⟩=false:=zF2 hV hg;have z3:V109.frozen? ⟨g109,3,none⟩=false:=zF2 hV hg;have hs110:=hbN.size;replace⟨a0,a1,a2,a3,a4,a5,a6,a7,a8,nm0,nm1,nm2,ne0,ne1⟩:=az a0 a1 a2 a3 a4 a5 a6 a7 a8 nm0 nm1 nm2 ne0 ne1 hbN;replace ne2:=zC ne2 hbN;replace HM:=zO HM hbN;replace HB:=zT HB hbN;clear hV hg hbN;refine hK.out _ _ ⟨a0,a1,a2,a3,a4,a5,a6,a7,a8,nm0,nm1,nm2,ne0,ne1,ne2⟩ (fun hHeld=>?_);clear hK K;(try simp only [nz]);refine rs 11 47 (by kernel_rfl) rfl (fun K hK=>?_);go_simp;clear hHeld;refine(aw _ _ _ _ _ _ _ _ _).mono ?_;rintro e V111 ⟨rfl,hb111⟩;have hs112:=hb111.size;replace z0:=zK hb111 f0 z0;replace z1:=zK hb111 f1 z1;replace z2:=zK hb111 f2 z2;replace z3:=zK hb111 f3 z3;replace⟨a0,a1,a2,a3,a4,a5,a6,a7,a8,nm0,nm1,nm2,ne0,ne1⟩:=az a0 a1 a2 a3 a4 a5 a6 a7 a8 nm0 nm1 nm2 ne0 ne1 hb111;replace⟨ne2,f0,f1,f2,f3⟩:=bM ne2 f0 f1 f2 f3 hb111;replace HM:=zO HM hb111;replace HB:=zT HB hb111;clear hb111;refine hK.out _ _ ⟨a0,a1,a2,a3,a4,a5,a6,a7,a8,nm0,nm1,nm2,ne0,ne1,ne2⟩ (fun hHeld=>?_);clear hK K;(try simp only [nz]);refine rn 13 (by kernel_rfl) rfl (fun K hK=>?_);go_simp;clear hHeld;obtain⟨V113,hV⟩:∃V113,V113=((((V111.setCell ⟨g109,0,none⟩ (.int .i64 t)).setCell ⟨g109,1,none⟩ (.int .i64 ((N:Int)-k))).setCell ⟨g109,2,none⟩ (.slice (some ⟨g108,0,none⟩) (NM+1) c108)).setCell ⟨g109,3,none⟩ (.slice none 0 0)):=⟨_,rfl⟩;rw [←hV];have hgr:V111.grownBy V113 (some g109):=by rw [hV];exact bP _ _ _ _ _ _
        obtain⟨i0,i1,i2,i3⟩:=jy f0 f1 f2 f3 (.int .i64 t) (.int .i64 ((N:Int)-k)) (.slice (some ⟨g108,0,none⟩) (NM+1) c108) (.slice none 0 0);rw [←hV]at i0 i1 i2 i3;replace z3:V113.frozen? ⟨g109,3,none⟩=false:=by rw [hV,bx];exact z3
        have hs113:=hgr.size;replace⟨a0,a1,a2,a3,a4,a5,a6,a7,a8,nm0,nm1,nm2,ne0,ne1,ne2⟩:=cY hgr a0 a1 a2 a3 a4 a5 a6 a7 a8 nm0 nm1 nm2 ne0 ne1 ne2 (by omega);replace HM:=aa (bQ hgr HM.out (by omega));replace HB:=HB.grown hgr HB.size (fun k hk=>by cases hk;omega);clear hV hgr f0 f1 f2 f3 z0 z1 z2;refine hK.out _ _ ⟨a0,a1,a2,a3,a4,a5,a6,a7,a8,nm0,nm1,nm2,ne0,ne1,ne2⟩ (fun hHeld=>?_);clear hK K;(try simp only [nz]);refine wpAnyH_done (by kernel_rfl) ?_ _;clear hHeld;exact⟨rfl,g107,c107,g103,g108,c108,g109,rfl,i0,i1,i2,i3,z3,HM.out,a8,ne0,ne1,ne2,HB,by omega,by omega,by omega⟩
      ·go_simp;clear hHeld;refine ah (fun V108 g108 hV hg=>?_);rw [←hg];have hbN:=zB hV;have hg108:V105.heap.size≤g108:=(by omega);have hl108:=zL hV hg;have f0:V108.cell? ⟨g108,0,none⟩=some (.int .i64 0):=zN2 hV hg rfl;have f1:V108.cell? ⟨g108,1,none⟩=some (.int .i64 0):=zN2 hV hg rfl;have f2:V108.cell? ⟨g108,2,none⟩=some (.slice none 0 0):=zN2 hV hg rfl;have f3:V108.cell? ⟨g108,3,none⟩=some (.slice none 0 0):=zN2 hV hg rfl;have z0:V108.frozen? ⟨g108,0,none⟩=false:=zF2 hV hg;have z1:V108.frozen? ⟨g108,1,none⟩=false:=zF2 hV hg;have z2:V108.frozen? ⟨g108,2,none⟩=false:=zF2 hV hg;have z3:V108.frozen? ⟨g108,3,none⟩=false:=zF2 hV hg;have hs109:=hbN.size;replace⟨a0,a1,a2,a3,a4,a5,a6,a7,a8,nm0,nm1,nm2,ne0,ne1⟩:=az a0 a1 a2 a3 a4 a5 a6 a7 a8 nm0 nm1 nm2 ne0 ne1 hbN;replace ne2:=zC ne2 hbN;replace HL:=zO HL hbN;replace HRM:=zO HRM hbN;replace HB:=zT HB hbN;clear hV hg hbN;refine hK.out _ _ ⟨a0,a1,a2,a3,a4,a5,a6,a7,a8,nm0,nm1,nm2,ne0,ne1,ne2⟩ (fun hHeld=>?_);clear hK K;(try simp only [nz]);refine rs 10 46 (by kernel_rfl) rfl (fun K hK=>?_);clear hHeld;refine step_append_lies _ rfl (.tmp 43) (.tmp 45) 74 rfl wr.heap.size 82 iM _ 3 24 Tryz.underlying74 inM zM0 zM1 zM2 rfl (by decide) (.slice (some ⟨g107,0,none⟩) NM c107) NM _ rfl (ae HRM) ⟨g103,0,none⟩ 1 1 _ rfl rfl (HL.out.cells rfl) (cQ _) (by decide) (by unfold maxLen;omega) (by omega) HB.size _ rfl ?_;intro g110 c110 V110 ho110 hgr ha hl110;replace hgr:V108.grownBy V110 (some g107):=hgr;replace ha:some g107=some g110∨g110=V108.heap.size:=ha;have hs110:=hgr.size;have hge110:g110=g107∨g110=V108.heap.size:=by rcases ha with h | h;exact .inl (Option.some.inj h).symm;exact .inr h
       replace z0:=(hgr.frozen_far ⟨g108,0,none⟩ (am f0) (by simp;omega)).trans z0;replace z1:=(hgr.frozen_far ⟨g108,1,none⟩ (am f1) (by simp;omega)).trans z1;replace z2:=(hgr.frozen_far ⟨g108,2,none⟩ (am f2) (by simp;omega)).trans z2;replace z3:=(hgr.frozen_far ⟨g108,3,none⟩ (am f3) (by simp;omega)).trans z3;replace⟨a0,a1,a2,a3,a4,a5,a6,a7,a8,nm0,nm1,nm2,ne0,ne1,ne2⟩:=cY hgr a0 a1 a2 a3 a4 a5 a6 a7 a8 nm0 nm1 nm2 ne0 ne1 ne2 (by omega);replace⟨f0,f1,f2,f3⟩:=oS hgr f0 f1 f2 f3 (by omega);replace HB:=HB.grown hgr HB.size (fun k hk=>by cases hk;omega);have HM:=aa ho110;clear HRM HL ho110 hgr ha;refine hK.out _ _ ⟨a0,a1,a2,a3,a4,a5,a6,a7,a8,nm0,nm1,nm2,ne0,ne1,ne2⟩ (fun hHeld=>?_);clear hK K;(try simp only [nz]);refine rs 11 47 (by kernel_rfl) rfl (fun K hK=>?_);go_simp;clear hHeld;refine(aw _ _ _ _ _ _ _ _ _).mono ?_;rintro e V111 ⟨rfl,hb111⟩;have hs112:=hb111.size;replace z0:=zK hb111 f0 z0;replace z1:=zK hb111 f1 z1;replace z2:=zK hb111 f2 z2;replace z3:=zK hb111 f3 z3;replace⟨a0,a1,a2,a3,a4,a5,a6,a7,a8,nm0,nm1,nm2,ne0,ne1⟩:=az a0 a1 a2 a3 a4 a5 a6 a7 a8 nm0 nm1 nm2 ne0 ne1 hb111;replace⟨ne2,f0,f1,f2,f3⟩:=bM ne2 f0 f1 f2 f3 hb111;replace HM:=zO HM hb111;replace HB:=zT HB hb111;clear hb111;refine hK.out _ _ ⟨a0,a1,a2,a3,a4,a5,a6,a7,a8,nm0,nm1,nm2,ne0,ne1,ne2⟩ (fun hHeld=>?_);clear hK K;(try simp only [nz]);refine rn 13 (by kernel_rfl) rfl (fun K hK=>?_);go_simp;clear hHeld;obtain⟨V113,hV⟩:∃V113,V113=((((V111.setCell ⟨g108,0,none⟩ (.int .i64 t)).setCell ⟨g108,1,none⟩ (.int .i64 ((N:Int)-k))).setCell ⟨g108,2,none⟩ (.slice (some ⟨g110,0,none⟩) (NM+1) c110)).setCell ⟨g108,3,none⟩ (.slice none 0 0)):=⟨_,rfl⟩;rw [←hV];have hgr:V111.grownBy V113 (some g108):=by rw [hV];exact bP _ _ _ _ _ _
       obtain⟨i0,i1,i2,i3⟩:=jy f0 f1 f2 f3 (.int .i64 t) (.int .i64 ((N:Int)-k)) (.slice (some ⟨g110,0,none⟩) (NM+1) c110) (.slice none 0 0);rw [←hV]at i0 i1 i2 i3;replace z3:V113.frozen? ⟨g108,3,none⟩=false:=by rw [hV,bx];exact z3
       have hs113:=hgr.size;replace⟨a0,a1,a2,a3,a4,a5,a6,a7,a8,nm0,nm1,nm2,ne0,ne1,ne2⟩:=cY hgr a0 a1 a2 a3 a4 a5 a6 a7 a8 nm0 nm1 nm2 ne0 ne1 ne2 (by omega);replace HM:=aa (bQ hgr HM.out (by omega));replace HB:=HB.grown hgr HB.size (fun k hk=>by cases hk;omega);clear hV hgr f0 f1 f2 f3 z0 z1 z2;refine hK.out _ _ ⟨a0,a1,a2,a3,a4,a5,a6,a7,a8,nm0,nm1,nm2,ne0,ne1,ne2⟩ (fun hHeld=>?_);clear hK K;(try simp only [nz]);refine wpAnyH_done (by kernel_rfl) ?_ _;clear hHeld;exact⟨rfl,g107,c107,g103,g110,c110,g108,rfl,i0,i1,i2,i3,z3,HM.out,a8,ne0,ne1,ne2,HB,by omega,by omega,by omega⟩
     ·go_simp;clear hHeld;refine ah (fun V105 g105 hV hg=>?_);rw [←hg];have hbN:=zB hV;have hg105:V103.heap.size≤g105:=(by omega);have hl105:=zL hV hg;have f0:V105.cell? ⟨g105,0,none⟩=some (.int .i64 0):=zN2 hV hg rfl;have f1:V105.cell? ⟨g105,1,none⟩=some (.int .i64 0):=zN2 hV hg rfl;have f2:V105.cell? ⟨g105,2,none⟩=some (.slice none 0 0):=zN2 hV hg rfl;have f3:V105.cell? ⟨g105,3,none⟩=some (.slice none 0 0):=zN2 hV hg rfl;have z0:V105.frozen? ⟨g105,0,none⟩=false:=zF2 hV hg;have z1:V105.frozen? ⟨g105,1,none⟩=false:=zF2 hV hg;have z2:V105.frozen? ⟨g105,2,none⟩=false:=zF2 hV hg;have z3:V105.frozen? ⟨g105,3,none⟩=false:=zF2 hV hg;have hs106:=hbN.size;replace⟨a0,a1,a2,a3,a4,a5,a6,a7,a8,nm0,nm1,nm2,ne0,ne1⟩:=az a0 a1 a2 a3 a4 a5 a6 a7 a8 nm0 nm1 nm2 ne0 ne1 hbN;replace ne2:=zC ne2 hbN;replace HL:=zO HL hbN;replace HB:=zT HB hbN;clear hV hg hbN;refine hK.out _ _ ⟨a0,a1,a2,a3,a4,a5,a6,a7,a8,nm0,nm1,nm2,ne0,ne1,ne2⟩ (fun hHeld=>?_);clear hK K;(try simp only [nz]);refine rs 7 43 (by kernel_rfl) rfl (fun K hK=>?_);go_simp;clear hHeld;have HBold:=HB.size;refine(ce ⟨y0,y1,y2,y3,y4,y5,y6,y7,y8⟩ _ hy0 hy1 hy2 hy3).mono ?_;rintro e V107 ⟨u107,rfl,ho107,hb107⟩;have hs108:=hb107.size;replace z0:=zK hb107 f0 z0;replace z1:=zK hb107 f1 z1;replace z2:=zK hb107 f2 z2;replace z3:=zK hb107 f3 z3;replace⟨a0,a1,a2,a3,a4,a5,a6,a7,a8,nm0,nm1,nm2,ne0,ne1⟩:=az a0 a1 a2 a3 a4 a5 a6 a7 a8 nm0 nm1 nm2 ne0 ne1 hb107;replace⟨ne2,f0,f1,f2,f3⟩:=bM ne2 f0 f1 f2 f3 hb107;replace HL:=zO HL hb107;replace HB:=zT HB hb107;rw [←HNM.out]at ho107;obtain⟨g109,c109,rfl,hg109,hl109⟩:=aP ho107 (by omega);have HRM:=aa (aE ho107 HBold);clear ho107 HBold;clear hb107;refine hK.out _ _ ⟨a0,a1,a2,a3,a4,a5,a6,a7,a8,nm0,nm1,nm2,ne0,ne1,ne2⟩ (fun hHeld=>?_);clear hK K;(try simp only [nz]);refine rs 10 46 (by kernel_rfl) rfl (fun K hK=>?_);clear hHeld;refine step_append_lies _ rfl (.tmp 43) (.tmp 45) 74 rfl wr.heap.size 82 iM _ 3 24 Tryz.underlying74 inM zM0 zM1 zM2 rfl (by decide) (.slice (some ⟨g109,0,none⟩) NM c109) NM _ rfl (ae HRM) ⟨g103,0,none⟩ 1 1 _ rfl rfl (HL.out.cells rfl) (cQ _) (by decide) (by unfold maxLen;omega) (by omega) HB.size _ rfl ?_;intro g110 c110 V110 ho110 hgr ha hl110;replace hgr:V107.grownBy V110 (some g109):=hgr;replace ha:some g109=some g110∨g110=V107.heap.size:=ha;have hs110:=hgr.size;have hge110:g110=g109∨g110=V107.heap.size:=by rcases ha with h | h;exact .inl (Option.some.inj h).symm;exact .inr h
      replace z0:=(hgr.frozen_far ⟨g105,0,none⟩ (am f0) (by simp;omega)).trans z0;replace z1:=(hgr.frozen_far ⟨g105,1,none⟩ (am f1) (by simp;omega)).trans z1;replace z2:=(hgr.frozen_far ⟨g105,2,none⟩ (am f2) (by simp;omega)).trans z2;replace z3:=(hgr.frozen_far ⟨g105,3,none⟩ (am f3) (by simp;omega)).trans z3;replace⟨a0,a1,a2,a3,a4,a5,a6,a7,a8,nm0,nm1,nm2,ne0,ne1,ne2⟩:=cY hgr a0 a1 a2 a3 a4 a5 a6 a7 a8 nm0 nm1 nm2 ne0 ne1 ne2 (by omega);replace⟨f0,f1,f2,f3⟩:=oS hgr f0 f1 f2 f3 (by omega);replace HB:=HB.grown hgr HB.size (fun k hk=>by cases hk;omega);have HM:=aa ho110;clear HRM HL ho110 hgr ha;refine hK.out _ _ ⟨a0,a1,a2,a3,a4,a5,a6,a7,a8,nm0,nm1,nm2,ne0,ne1,ne2⟩ (fun hHeld=>?_);clear hK K;(try simp only [nz]);refine rs 11 47 (by kernel_rfl) rfl (fun K hK=>?_);go_simp;clear hHeld;refine(aw _ _ _ _ _ _ _ _ _).mono ?_;rintro e V111 ⟨rfl,hb111⟩;have hs112:=hb111.size;replace z0:=zK hb111 f0 z0;replace z1:=zK hb111 f1 z1;replace z2:=zK hb111 f2 z2;replace z3:=zK hb111 f3 z3;replace⟨a0,a1,a2,a3,a4,a5,a6,a7,a8,nm0,nm1,nm2,ne0,ne1⟩:=az a0 a1 a2 a3 a4 a5 a6 a7 a8 nm0 nm1 nm2 ne0 ne1 hb111;replace⟨ne2,f0,f1,f2,f3⟩:=bM ne2 f0 f1 f2 f3 hb111;replace HM:=zO HM hb111;replace HB:=zT HB hb111;clear hb111;refine hK.out _ _ ⟨a0,a1,a2,a3,a4,a5,a6,a7,a8,nm0,nm1,nm2,ne0,ne1,ne2⟩ (fun hHeld=>?_);clear hK K;(try simp only [nz]);refine rn 13 (by kernel_rfl) rfl (fun K hK=>?_);go_simp;clear hHeld;obtain⟨V113,hV⟩:∃V113,V113=((((V111.setCell ⟨g105,0,none⟩ (.int .i64 t)).setCell ⟨g105,1,none⟩ (.int .i64 ((N:Int)-k))).setCell ⟨g105,2,none⟩ (.slice (some ⟨g110,0,none⟩) (NM+1) c110)).setCell ⟨g105,3,none⟩ (.slice none 0 0)):=⟨_,rfl⟩;rw [←hV];have hgr:V111.grownBy V113 (some g105):=by rw [hV];exact bP _ _ _ _ _ _
      obtain⟨i0,i1,i2,i3⟩:=jy f0 f1 f2 f3 (.int .i64 t) (.int .i64 ((N:Int)-k)) (.slice (some ⟨g110,0,none⟩) (NM+1) c110) (.slice none 0 0);rw [←hV]at i0 i1 i2 i3;replace z3:V113.frozen? ⟨g105,3,none⟩=false:=by rw [hV,bx];exact z3
      have hs113:=hgr.size;replace⟨a0,a1,a2,a3,a4,a5,a6,a7,a8,nm0,nm1,nm2,ne0,ne1,ne2⟩:=cY hgr a0 a1 a2 a3 a4 a5 a6 a7 a8 nm0 nm1 nm2 ne0 ne1 ne2 (by omega);replace HM:=aa (bQ hgr HM.out (by omega));replace HB:=HB.grown hgr HB.size (fun k hk=>by cases hk;omega);clear hV hgr f0 f1 f2 f3 z0 z1 z2;refine hK.out _ _ ⟨a0,a1,a2,a3,a4,a5,a6,a7,a8,nm0,nm1,nm2,ne0,ne1,ne2⟩ (fun hHeld=>?_);clear hK K;(try simp only [nz]);refine wpAnyH_done (by kernel_rfl) ?_ _;clear hHeld;exact⟨rfl,g109,c109,g103,g110,c110,g105,rfl,i0,i1,i2,i3,z3,HM.out,a8,ne0,ne1,ne2,HB,by omega,by omega,by omega⟩
    ·go_simp;clear hHeld;refine ah (fun V103 g103 hV hg=>?_);rw [←hg];have hbN:=zB hV;have hg103:V102.heap.size≤g103:=(by omega);have hl103:=zL hV hg;have f0:V103.cell? ⟨g103,0,none⟩=some (.int .i64 0):=zN2 hV hg rfl;have f1:V103.cell? ⟨g103,1,none⟩=some (.int .i64 0):=zN2 hV hg rfl;have f2:V103.cell? ⟨g103,2,none⟩=some (.slice none 0 0):=zN2 hV hg rfl;have f3:V103.cell? ⟨g103,3,none⟩=some (.slice none 0 0):=zN2 hV hg rfl;have z0:V103.frozen? ⟨g103,0,none⟩=false:=zF2 hV hg;have z1:V103.frozen? ⟨g103,1,none⟩=false:=zF2 hV hg;have z2:V103.frozen? ⟨g103,2,none⟩=false:=zF2 hV hg;have z3:V103.frozen? ⟨g103,3,none⟩=false:=zF2 hV hg;have hs104:=hbN.size;replace⟨a0,a1,a2,a3,a4,a5,a6,a7,a8,nm0,nm1,nm2,ne0,ne1⟩:=az a0 a1 a2 a3 a4 a5 a6 a7 a8 nm0 nm1 nm2 ne0 ne1 hbN;replace ne2:=zC ne2 hbN;replace HB:=zT HB hbN;clear hV hg hbN;refine hK.out _ _ ⟨a0,a1,a2,a3,a4,a5,a6,a7,a8,nm0,nm1,nm2,ne0,ne1,ne2⟩ (fun hHeld=>?_);clear hK K;(try simp only [nz]);refine wpAnyH_ready (rs:=[7,9]) (by kernel_rfl) (by simp) ?_;refine(AllReadyH.cons (o:=⟨some 43,_,_,_,_,_⟩) rfl (fun K hK=>?_) (AllReadyH.cons (o:=⟨some 45,_,_,_,_,_⟩) rfl (fun K hK=>?_) AllReadyH.nil))
     ·go_simp;clear hHeld;have HBold:=HB.size;refine(ce ⟨y0,y1,y2,y3,y4,y5,y6,y7,y8⟩ _ hy0 hy1 hy2 hy3).mono ?_;rintro e V105 ⟨u105,rfl,ho105,hb105⟩;have hs106:=hb105.size;replace z0:=zK hb105 f0 z0;replace z1:=zK hb105 f1 z1;replace z2:=zK hb105 f2 z2;replace z3:=zK hb105 f3 z3;replace⟨a0,a1,a2,a3,a4,a5,a6,a7,a8,nm0,nm1,nm2,ne0,ne1⟩:=az a0 a1 a2 a3 a4 a5 a6 a7 a8 nm0 nm1 nm2 ne0 ne1 hb105;replace⟨ne2,f0,f1,f2,f3⟩:=bM ne2 f0 f1 f2 f3 hb105;replace HB:=zT HB hb105;rw [←HNM.out]at ho105;obtain⟨g107,c107,rfl,hg107,hl107⟩:=aP ho105 (by omega);have HRM:=aa (aE ho105 HBold);clear ho105 HBold;clear hb105;refine hK.out _ _ ⟨a0,a1,a2,a3,a4,a5,a6,a7,a8,nm0,nm1,nm2,ne0,ne1,ne2⟩ (fun hHeld=>?_);clear hK K;(try simp only [nz]);refine rs 9 45 (by kernel_rfl) rfl (fun K hK=>?_);go_simp;clear hHeld;refine ah (fun V108 g108 hV hg=>?_);rw [←hg];have hbN:=zB hV;have hg108:V105.heap.size≤g108:=(by omega);have hl108:=zL hV hg;have HL:Hid (V108.ownsRow wr.heap.size 82 3 (.slice (some ⟨g108,0,none⟩) 1 1) 1 (M [isM 8 x.i])):=zW hV hg HB.size (by decide) rfl;have hs109:=hbN.size;replace z0:=zK hbN f0 z0;replace z1:=zK hbN f1 z1;replace z2:=zK hbN f2 z2;replace z3:=zK hbN f3 z3;replace⟨a0,a1,a2,a3,a4,a5,a6,a7,a8,nm0,nm1,nm2,ne0,ne1⟩:=az a0 a1 a2 a3 a4 a5 a6 a7 a8 nm0 nm1 nm2 ne0 ne1 hbN;replace⟨ne2,f0,f1,f2,f3⟩:=bM ne2 f0 f1 f2 f3 hbN;replace HRM:=zO HRM hbN;replace HB:=zT HB hbN;clear hV hg hbN;refine hK.out _ _ ⟨a0,a1,a2,a3,a4,a5,a6,a7,a8,nm0,nm1,nm2,ne0,ne1,ne2⟩ (fun hHeld=>?_);clear hK K;(try simp only [nz]);refine rs 10 46 (by kernel_rfl) rfl (fun K hK=>?_);clear hHeld;refine step_append_lies _ rfl (.tmp 43) (.tmp 45) 74 rfl wr.heap.size 82 iM _ 3 24 Tryz.underlying74 inM zM0 zM1 zM2 rfl (by decide) (.slice (some ⟨g107,0,none⟩) NM c107) NM _ rfl (ae HRM) ⟨g108,0,none⟩ 1 1 _ rfl rfl (HL.out.cells rfl) (cQ _) (by decide) (by unfold maxLen;omega) (by omega) HB.size _ rfl ?_;intro g110 c110 V110 ho110 hgr ha hl110;replace hgr:V108.grownBy V110 (some g107):=hgr;replace ha:some g107=some g110∨g110=V108.heap.size:=ha;have hs110:=hgr.size;have hge110:g110=g107∨g110=V108.heap.size:=by rcases ha with h | h;exact .inl (Option.some.inj h).symm;exact .inr h
      replace z0:=(hgr.frozen_far ⟨g103,0,none⟩ (am f0) (by simp;omega)).trans z0;replace z1:=(hgr.frozen_far ⟨g103,1,none⟩ (am f1) (by simp;omega)).trans z1;replace z2:=(hgr.frozen_far ⟨g103,2,none⟩ (am f2) (by simp;omega)).trans z2;replace z3:=(hgr.frozen_far ⟨g103,3,none⟩ (am f3) (by simp;omega)).trans z3;replace⟨a0,a1,a2,a3,a4,a5,a6,a7,a8,nm0,nm1,nm2,ne0,ne1,ne2⟩:=cY hgr a0 a1 a2 a3 a4 a5 a6 a7 a8 nm0 nm1 nm2 ne0 ne1 ne2 (by omega);replace⟨f0,f1,f2,f3⟩:=oS hgr f0 f1 f2 f3 (by omega);replace HB:=HB.grown hgr HB.size (fun k hk=>by cases hk;omega);have HM:=aa ho110;clear HRM HL ho110 hgr ha;refine hK.out _ _ ⟨a0,a1,a2,a3,a4,a5,a6,a7,a8,nm0,nm1,nm2,ne0,ne1,ne2⟩ (fun hHeld=>?_);clear hK K;(try simp only [nz]);refine rs 11 47 (by kernel_rfl) rfl (fun K hK=>?_);go_simp;clear hHeld;refine(aw _ _ _ _ _ _ _ _ _).mono ?_;rintro e V111 ⟨rfl,hb111⟩;have hs112:=hb111.size;replace z0:=zK hb111 f0 z0;replace z1:=zK hb111 f1 z1;replace z2:=zK hb111 f2 z2;replace z3:=zK hb111 f3 z3;replace⟨a0,a1,a2,a3,a4,a5,a6,a7,a8,nm0,nm1,nm2,ne0,ne1⟩:=az a0 a1 a2 a3 a4 a5 a6 a7 a8 nm0 nm1 nm2 ne0 ne1 hb111;replace⟨ne2,f0,f1,f2,f3⟩:=bM ne2 f0 f1 f2 f3 hb111;replace HM:=zO HM hb111;replace HB:=zT HB hb111;clear hb111;refine hK.out _ _ ⟨a0,a1,a2,a3,a4,a5,a6,a7,a8,nm0,nm1,nm2,ne0,ne1,ne2⟩ (fun hHeld=>?_);clear hK K;(try simp only [nz]);refine rn 13 (by kernel_rfl) rfl (fun K hK=>?_);go_simp;clear hHeld;obtain⟨V113,hV⟩:∃V113,V113=((((V111.setCell ⟨g103,0,none⟩ (.int .i64 t)).setCell ⟨g103,1,none⟩ (.int .i64 ((N:Int)-k))).setCell ⟨g103,2,none⟩ (.slice (some ⟨g110,0,none⟩) (NM+1) c110)).setCell ⟨g103,3,none⟩ (.slice none 0 0)):=⟨_,rfl⟩;rw [←hV];have hgr:V111.grownBy V113 (some g103):=by rw [hV];exact bP _ _ _ _ _ _
      obtain⟨i0,i1,i2,i3⟩:=jy f0 f1 f2 f3 (.int .i64 t) (.int .i64 ((N:Int)-k)) (.slice (some ⟨g110,0,none⟩) (NM+1) c110) (.slice none 0 0);rw [←hV]at i0 i1 i2 i3;replace z3:V113.frozen? ⟨g103,3,none⟩=false:=by rw [hV,bx];exact z3
      have hs113:=hgr.size;replace⟨a0,a1,a2,a3,a4,a5,a6,a7,a8,nm0,nm1,nm2,ne0,ne1,ne2⟩:=cY hgr a0 a1 a2 a3 a4 a5 a6 a7 a8 nm0 nm1 nm2 ne0 ne1 ne2 (by omega);replace HM:=aa (bQ hgr HM.out (by omega));replace HB:=HB.grown hgr HB.size (fun k hk=>by cases hk;omega);clear hV hgr f0 f1 f2 f3 z0 z1 z2;refine hK.out _ _ ⟨a0,a1,a2,a3,a4,a5,a6,a7,a8,nm0,nm1,nm2,ne0,ne1,ne2⟩ (fun hHeld=>?_);clear hK K;(try simp only [nz]);refine wpAnyH_done (by kernel_rfl) ?_ _;clear hHeld;exact⟨rfl,g107,c107,g108,g110,c110,g103,rfl,i0,i1,i2,i3,z3,HM.out,a8,ne0,ne1,ne2,HB,by omega,by omega,by omega⟩
     ·go_simp;clear hHeld;refine ah (fun V105 g105 hV hg=>?_);rw [←hg];have hbN:=zB hV;have hg105:V103.heap.size≤g105:=(by omega);have hl105:=zL hV hg;have HL:Hid (V105.ownsRow wr.heap.size 82 3 (.slice (some ⟨g105,0,none⟩) 1 1) 1 (M [isM 8 x.i])):=zW hV hg HB.size (by decide) rfl;have hs106:=hbN.size;replace z0:=zK hbN f0 z0;replace z1:=zK hbN f1 z1;replace z2:=zK hbN f2 z2;replace z3:=zK hbN f3 z3;replace⟨a0,a1,a2,a3,a4,a5,a6,a7,a8,nm0,nm1,nm2,ne0,ne1⟩:=az a0 a1 a2 a3 a4 a5 a6 a7 a8 nm0 nm1 nm2 ne0 ne1 hbN;replace⟨ne2,f0,f1,f2,f3⟩:=bM ne2 f0 f1 f2 f3 hbN;replace HB:=zT HB hbN;clear hV hg hbN;refine hK.out _ _ ⟨a0,a1,a2,a3,a4,a5,a6,a7,a8,nm0,nm1,nm2,ne0,ne1,ne2⟩ (fun hHeld=>?_);clear hK K;(try simp only [nz]);refine rs 7 43 (by kernel_rfl) rfl (fun K hK=>?_);go_simp;clear hHeld;have HBold:=HB.size;refine(ce ⟨y0,y1,y2,y3,y4,y5,y6,y7,y8⟩ _ hy0 hy1 hy2 hy3).mono ?_;rintro e V107 ⟨u107,rfl,ho107,hb107⟩;have hs108:=hb107.size;replace z0:=zK hb107 f0 z0;replace z1:=zK hb107 f1 z1;replace z2:=zK hb107 f2 z2;replace z3:=zK hb107 f3 z3;replace⟨a0,a1,a2,a3,a4,a5,a6,a7,a8,nm0,nm1,nm2,ne0,ne1⟩:=az a0 a1 a2 a3 a4 a5 a6 a7 a8 nm0 nm1 nm2 ne0 ne1 hb107;replace⟨ne2,f0,f1,f2,f3⟩:=bM ne2 f0 f1 f2 f3 hb107;replace HL:=zO HL hb107;replace HB:=zT HB hb107;rw [←HNM.out]at ho107;obtain⟨g109,c109,rfl,hg109,hl109⟩:=aP ho107 (by omega);have HRM:=aa (aE ho107 HBold);clear ho107 HBold;clear hb107;refine hK.out _ _ ⟨a0,a1,a2,a3,a4,a5,a6,a7,a8,nm0,nm1,nm2,ne0,ne1,ne2⟩ (fun hHeld=>?_);clear hK K;(try simp only [nz]);refine rs 10 46 (by kernel_rfl) rfl (fun K hK=>?_);clear hHeld;refine step_append_lies _ rfl (.tmp 43) (.tmp 45) 74 rfl wr.heap.size 82 iM _ 3 24 Tryz.underlying74 inM zM0 zM1 zM2 rfl (by decide) (.slice (some ⟨g109,0,none⟩) NM c109) NM _ rfl (ae HRM) ⟨g105,0,none⟩ 1 1 _ rfl rfl (HL.out.cells rfl) (cQ _) (by decide) (by unfold maxLen;omega) (by omega) HB.size _ rfl ?_;intro g110 c110 V110 ho110 hgr ha hl110;replace hgr:V107.grownBy V110 (some g109):=hgr;replace ha:some g109=some g110∨g110=V107.heap.size:=ha;have hs110:=hgr.size;have hge110:g110=g109∨g110=V107.heap.size:=by rcases ha with h | h;exact .inl (Option.some.inj h).symm;exact .inr h
      replace z0:=(hgr.frozen_far ⟨g103,0,none⟩ (am f0) (by simp;omega)).trans z0;replace z1:=(hgr.frozen_far ⟨g103,1,none⟩ (am f1) (by simp;omega)).trans z1;replace z2:=(hgr.frozen_far ⟨g103,2,none⟩ (am f2) (by simp;omega)).trans z2;replace z3:=(hgr.frozen_far ⟨g103,3,none⟩ (am f3) (by simp;omega)).trans z3;replace⟨a0,a1,a2,a3,a4,a5,a6,a7,a8,nm0,nm1,nm2,ne0,ne1,ne2⟩:=cY hgr a0 a1 a2 a3 a4 a5 a6 a7 a8 nm0 nm1 nm2 ne0 ne1 ne2 (by omega);replace⟨f0,f1,f2,f3⟩:=oS hgr f0 f1 f2 f3 (by omega);replace HB:=HB.grown hgr HB.size (fun k hk=>by cases hk;omega);have HM:=aa ho110;clear HRM HL ho110 hgr ha;refine hK.out _ _ ⟨a0,a1,a2,a3,a4,a5,a6,a7,a8,nm0,nm1,nm2,ne0,ne1,ne2⟩ (fun hHeld=>?_);clear hK K;(try simp only [nz]);refine rs 11 47 (by kernel_rfl) rfl (fun K hK=>?_);go_simp;clear hHeld;refine(aw _ _ _ _ _ _ _ _ _).mono ?_;rintro e V111 ⟨rfl,hb111⟩;have hs112:=hb111.size;replace z0:=zK hb111 f0 z0;replace z1:=zK hb111 f1 z1;replace z2:=zK hb111 f2 z2;replace z3:=zK hb111 f3 z3;replace⟨a0,a1,a2,a3,a4,a5,a6,a7,a8,nm0,nm1,nm2,ne0,ne1⟩:=az a0 a1 a2 a3 a4 a5 a6 a7 a8 nm0 nm1 nm2 ne0 ne1 hb111;replace⟨ne2,f0,f1,f2,f3⟩:=bM ne2 f0 f1 f2 f3 hb111;replace HM:=zO HM hb111;replace HB:=zT HB hb111;clear hb111;refine hK.out _ _ ⟨a0,a1,a2,a3,a4,a5,a6,a7,a8,nm0,nm1,nm2,ne0,ne1,ne2⟩ (fun hHeld=>?_);clear hK K;(try simp only [nz]);refine rn 13 (by kernel_rfl) rfl (fun K hK=>?_);go_simp;clear hHeld;obtain⟨V113,hV⟩:∃V113,V113=((((V111.setCell ⟨g103,0,none⟩ (.int .i64 t)).setCell ⟨g103,1,none⟩ (.int .i64 ((N:Int)-k))).setCell ⟨g103,2,none⟩ (.slice (some ⟨g110,0,none⟩) (NM+1) c110)).setCell ⟨g103,3,none⟩ (.slice none 0 0)):=⟨_,rfl⟩;rw [←hV];have hgr:V111.grownBy V113 (some g103):=by rw [hV];exact bP _ _ _ _ _ _
      obtain⟨i0,i1,i2,i3⟩:=jy f0 f1 f2 f3 (.int .i64 t) (.int .i64 ((N:Int)-k)) (.slice (some ⟨g110,0,none⟩) (NM+1) c110) (.slice none 0 0);rw [←hV]at i0 i1 i2 i3;replace z3:V113.frozen? ⟨g103,3,none⟩=false:=by rw [hV,bx];exact z3
      have hs113:=hgr.size;replace⟨a0,a1,a2,a3,a4,a5,a6,a7,a8,nm0,nm1,nm2,ne0,ne1,ne2⟩:=cY hgr a0 a1 a2 a3 a4 a5 a6 a7 a8 nm0 nm1 nm2 ne0 ne1 ne2 (by omega);replace HM:=aa (bQ hgr HM.out (by omega));replace HB:=HB.grown hgr HB.size (fun k hk=>by cases hk;omega);clear hV hgr f0 f1 f2 f3 z0 z1 z2;refine hK.out _ _ ⟨a0,a1,a2,a3,a4,a5,a6,a7,a8,nm0,nm1,nm2,ne0,ne1,ne2⟩ (fun hHeld=>?_);clear hK K;(try simp only [nz]);refine wpAnyH_done (by kernel_rfl) ?_ _;clear hHeld;exact⟨rfl,g109,c109,g105,g110,c110,g103,rfl,i0,i1,i2,i3,z3,HM.out,a8,ne0,ne1,ne2,HB,by omega,by omega,by omega⟩
   ·intro g43 c43 g45 g46 c46 fb Wa hW;obtain⟨f0,f1,f2,f3,z3,hM,a8,ne0,ne1,ne2,HB,hfb0,hfb1,hfb2⟩:=hW;have HM:=aa hM;replace HM:Hid (Wa.ownsRow wr.heap.size 82 3 (.slice (some ⟨g46,0,none⟩) (NM+1) c46) (NM+1) (M (bl ⟨y0,y1,y2,y3,y4,y5,y6,y7,y8⟩++ [isM 8 x.i]))):=by rw [r8];exact HM
    clear hM;cases y8
    ·replace HRA:=aa (HRA.out.trans (by rw [if_neg (by simp)]));obtain⟨Wb,hWb⟩:∃Wb,Wb=Wa.alloc (.cells #[.int .i64 4,.int .i64 0,.int .i64 n] 85):=⟨_,rfl⟩;have hbN:Below Wa.heap.size Wa Wb:=by rw [hWb];exact ak _ _
     have NEWD:Hid (∀j u,(D [aW n])[j]? =some u→Wb.cell? ((⟨Wa.heap.size,0,none⟩:Addr).add j)=some u):=by rw [hWb];exact aa (dr Wa _ _)
     have HWb:Hid (Wa.alloc (.cells #[.int .i64 4,.int .i64 0,.int .i64 n] 85)=Wb):=hWb.symm;replace z3:=(hbN.frozen (p:=⟨fb,3,none⟩) hfb2).trans z3;have hfb3:¬fb=Wa.heap.size:=(by omega);have w0:=zC f0 hbN;have w1:=zC f1 hbN;have w2:=zC f2 hbN;have w3:=zC f3 hbN;have HM2:=aa (aA HM.out hbN);have HB2:=HB.trans (hbN.mono HB.size);have hsb:=HB2.size;have hfb4:fb<Wb.heap.size:=by have:=hbN.size;omega
     clear hWb hbN HM HB;go_wp2_with (at_builtin;rw [ae HWb];refine wpList_append_lies _ rfl _ _ 75 rfl wr.heap.size 85 iD _ 3 24 Tryz.underlying75 inD zD0 zD1 zD2 rfl (by decide) _ _ _ rfl (World.ownsRow_nil _ wr.heap.size 85 3) ⟨Wa.heap.size,0,none⟩ 1 1 (D [aW n]) rfl rfl (ae NEWD) (nJ _) (by decide) (by decide) (by decide) hsb _ rfl ?_)
     intro gd cd Wc hod hgd had _;have hbC:Below Wb.heap.size Wb Wc:=(Below.refl _ _).grown hgd zr (by simp [Value.ownBlock]);have hgdx:Wb.heap.size≤gd:=by rcases had with h | h;simp [Value.ownBlock]at h;omega
     replace⟨w0,w1,w2,w3⟩:=oj w0 w1 w2 w3 hbC;replace z3:=(hbC.frozen (p:=⟨fb,3,none⟩) hfb4).trans z3;have HM3:=aa (aA HM2.out hbC);have HB4:=HB2.trans (hbC.mono HB2.size);have HOD:Hid (Wc.ownsRow wr.heap.size 85 3 (.slice (some ⟨gd,0,none⟩) 1 cd) 1 (D [aW n])):=(by simpa using aa hod);obtain⟨Wz,hWz⟩:∃Wz,Wz=Wc.setCell ⟨fb,3,none⟩ (.slice (some ⟨gd,0,none⟩) 1 cd):=⟨_,rfl⟩;have hgz:Wc.grownBy Wz (some fb):=by rw [hWz];exact gW Wc ⟨fb,3,none⟩ _
     have hgd1:gd<Wc.heap.size:=bB HOD.out rfl;have f3x:Wz.cell? ⟨fb,3,none⟩=some (.slice (some ⟨gd,0,none⟩) 1 cd):=by rw [hWz];exact World.cell?_setCell_same _ _ _ w3
     have f0x:Wz.cell? ⟨fb,0,none⟩=some (.int .i64 t):=by rw [hWz];exact(World.cell?_setCell_other _ _ _ _ (by simp)).trans w0
     have f1x:Wz.cell? ⟨fb,1,none⟩=some (.int .i64 ((N:Int)-k)):=by rw [hWz];exact(World.cell?_setCell_other _ _ _ _ (by simp)).trans w1
     have f2x:Wz.cell? ⟨fb,2,none⟩=some (.slice (some ⟨g46,0,none⟩) (NM+1) c46):=by rw [hWz];exact(World.cell?_setCell_other _ _ _ _ (by simp)).trans w2
     have HM:=aa (bQ hgz HM3.out (by omega));replace HOD:=aa (bQ hgz HOD.out (by omega));have HB:Below wr.heap.size wr Wz:=by rw [hWz];exact ev HB4 hfb0 _
     have HZZ:Hid (Wz.heap.size=Wc.heap.size):=by rw [hWz];exact aa (by simp)
     have HWz:Hid (Wc.setCell ⟨fb,3,none⟩ (.slice (some ⟨gd,0,none⟩) 1 cd)=Wz):=hWz.symm;clear hWz hgz hod hgd had hbC HM2 HM3 HB2 HB4 NEWD HWb f0 f1 f2 f3;obtain⟨WA,hWA⟩:∃WA,WA=Wz.alloc (.cells #[.int .i64 t,.int .i64 ((N:Int)-k),.slice (some ⟨g46,0,none⟩) (NM+1) c46,.slice (some ⟨gd,0,none⟩) 1 cd] 77):=⟨_,rfl⟩;have hbN:Below Wz.heap.size Wz WA:=by rw [hWA];exact ak _ _
     have NEWS:Hid (∀j u,(C [(⟨⟨t,(N:Int)-k,bl ⟨y0,y1,y2,y3,y4,y5,y6,y7,false⟩++ [isM 8 x.i],[aW n]⟩,.slice (some ⟨g46,0,none⟩) (NM+1) c46,.slice (some ⟨gd,0,none⟩) 1 cd⟩:Fv)])[j]? =some u→WA.cell? ((⟨Wz.heap.size,0,none⟩:Addr).add j)=some u):=by rw [hWA];exact aa (dr Wz _ _)
     have HFV:Hid (FvIn WA Ws.heap.size (.slice vo NF vc) (⟨⟨t,(N:Int)-k,bl ⟨y0,y1,y2,y3,y4,y5,y6,y7,false⟩++ [isM 8 x.i],[aW n]⟩,.slice (some ⟨g46,0,none⟩) (NM+1) c46,.slice (some ⟨gd,0,none⟩) 1 cd⟩:Fv)):=by
      have h1:=HM.out;rw [show NM+1=(bl ⟨y0,y1,y2,y3,y4,y5,y6,y7,false⟩++ [isM 8 x.i]).length by rw [List.length_append, ←HNM.out];rfl]at h1⊢;exact aa (((aS (f:=⟨t,(N:Int)-k,bl ⟨y0,y1,y2,y3,y4,y5,y6,y7,false⟩++ [isM 8 x.i],[aW n]⟩) h1 HOD.out HUB.out).below hbN).less (by omega))
     have HFv:=aa ((HF.out.below HB zr).below hbN zr);have HB3:=HB.trans (hbN.mono HB.size);have hsA:Ws.heap.size≤WA.heap.size:=by have:=HB3.size;omega
     have HWA:Hid (Wz.alloc (.cells #[.int .i64 t,.int .i64 ((N:Int)-k),.slice (some ⟨g46,0,none⟩) (NM+1) c46,.slice (some ⟨gd,0,none⟩) 1 cd] 77)=WA):=hWA.symm;clear hWA hbN;go_wp2_with (at_builtin;rw [ae HWz,ae HWA];refine cX rfl _ _ rfl Ws.heap.size (.slice vo NF vc) FK rfl (ae HFv) ⟨Wc.heap.size,0,none⟩ 1 1 [(⟨⟨t,(N:Int)-k,bl ⟨y0,y1,y2,y3,y4,y5,y6,y7,false⟩++ [isM 8 x.i],[aW n]⟩,.slice (some ⟨g46,0,none⟩) (NM+1) c46,.slice (some ⟨gd,0,none⟩) 1 cd⟩:Fv)] rfl rfl (by rw [←HZZ.out];exact(ae NEWS)) (fun y hy=>by rw [List.mem_singleton.1 hy];exact HFV.out) (by decide) (by rw [←HNN.out];omega) hsA ?_)
     intro gq cq Vq hfq hgq haq;have HGR2:Hid (V47.grownBy Vq (some g47)):=aa (kU (cu HGR.out HB3) hgq HVB.out);have HVB2:Hid (∀g,(Value.slice (some ⟨gq,0,none⟩) (FK.length+1) cq).ownBlock=some g→g=g47∨V47.heap.size≤g):=aa (fun g e=>by
      have e2:gq=g:=(by simpa [Value.ownBlock] using e);subst e2;rcases haq with h | h
      ·exact HVB.out _ h
      ·exact .inr (by have:=HB3.size;omega))
     have HE:Hid (FR Vq Ws.heap.size (.slice (some ⟨gq,0,none⟩) (FK.length+1) cq) (dZ L x.i t n (k+1))):=by rw [HNX.out,HRA.out];exact aa hfq
     clear hfq hgq haq HFv HFV HUB HNX HB HB3 HM HVB HGR NEWS HWA HRA;rw [←HNN.out]at HE HVB2⊢;go_wp2_with fail
     go_roundw
     case rel=>exact⟨k+1,by omega,by go_num,HE,HVB2,HGR2⟩
     case measure=>simp [intOf];omega
    ·generalize Wa=Wz at*;replace HRA:=aa (HRA.out.trans (by rw [if_pos rfl]));obtain⟨WA,hWA⟩:∃WA,WA=Wz.alloc (.cells #[.int .i64 t,.int .i64 ((N:Int)-k),.slice (some ⟨g46,0,none⟩) (NM+1) c46,.slice none 0 0] 77):=⟨_,rfl⟩;have hbN:Below Wz.heap.size Wz WA:=by rw [hWA];exact ak _ _
     have NEWS:Hid (∀j u,(C [(⟨⟨t,(N:Int)-k,bl ⟨y0,y1,y2,y3,y4,y5,y6,y7,true⟩++ [isM 8 x.i],[]⟩,.slice (some ⟨g46,0,none⟩) (NM+1) c46,.slice none 0 0⟩:Fv)])[j]? =some u→WA.cell? ((⟨Wz.heap.size,0,none⟩:Addr).add j)=some u):=by rw [hWA];exact aa (dr Wz _ _)
     have HFV:Hid (FvIn WA Ws.heap.size (.slice vo NF vc) (⟨⟨t,(N:Int)-k,bl ⟨y0,y1,y2,y3,y4,y5,y6,y7,true⟩++ [isM 8 x.i],[]⟩,.slice (some ⟨g46,0,none⟩) (NM+1) c46,.slice none 0 0⟩:Fv)):=by
      have h1:=HM.out;rw [show NM+1=(bl ⟨y0,y1,y2,y3,y4,y5,y6,y7,true⟩++ [isM 8 x.i]).length by rw [List.length_append, ←HNM.out];rfl]at h1⊢;exact aa (((aS (f:=⟨t,(N:Int)-k,bl ⟨y0,y1,y2,y3,y4,y5,y6,y7,true⟩++ [isM 8 x.i],[]⟩) h1 (World.ownsRow_nil _ _ _ _) HUB.out).below hbN).less (by omega))
     have HFv:=aa ((HF.out.below HB zr).below hbN zr);have HB3:=HB.trans (hbN.mono HB.size);have hsA:Ws.heap.size≤WA.heap.size:=by have:=HB3.size;omega
     have HWA:Hid (Wz.alloc (.cells #[.int .i64 t,.int .i64 ((N:Int)-k),.slice (some ⟨g46,0,none⟩) (NM+1) c46,.slice none 0 0] 77)=WA):=hWA.symm;clear hWA hbN;go_wp2_with (at_builtin;rw [ae HWA];refine cX rfl _ _ rfl Ws.heap.size (.slice vo NF vc) FK rfl (ae HFv) ⟨Wz.heap.size,0,none⟩ 1 1 [(⟨⟨t,(N:Int)-k,bl ⟨y0,y1,y2,y3,y4,y5,y6,y7,true⟩++ [isM 8 x.i],[]⟩,.slice (some ⟨g46,0,none⟩) (NM+1) c46,.slice none 0 0⟩:Fv)] rfl rfl (ae NEWS) (fun y hy=>by rw [List.mem_singleton.1 hy];exact HFV.out) (by decide) (by rw [←HNN.out];omega) hsA ?_)
     intro gq cq Vq hfq hgq haq;have HGR2:Hid (V47.grownBy Vq (some g47)):=aa (kU (cu HGR.out HB3) hgq HVB.out);have HVB2:Hid (∀g,(Value.slice (some ⟨gq,0,none⟩) (FK.length+1) cq).ownBlock=some g→g=g47∨V47.heap.size≤g):=aa (fun g e=>by
      have e2:gq=g:=(by simpa [Value.ownBlock] using e);subst e2;rcases haq with h | h
      ·exact HVB.out _ h
      ·exact .inr (by have:=HB3.size;omega))
     have HE:Hid (FR Vq Ws.heap.size (.slice (some ⟨gq,0,none⟩) (FK.length+1) cq) (dZ L x.i t n (k+1))):=by rw [HNX.out,HRA.out];exact aa hfq
     clear hfq hgq haq HFv HFV HUB HNX HB HB3 HM HVB HGR NEWS HWA HRA;rw [←HNN.out]at HE HVB2⊢;go_wp2_with fail
     go_roundw
     case rel=>exact⟨k+1,by omega,by go_num,HE,HVB2,HGR2⟩
     case measure=>simp [intOf];omega
  ·obtain rfl:k=N:=(by omega);have HF1:Hid (FR wr w.heap.size u11 (cw L x.i t n)):=by rw [HRF.out,HLL.out];exact aa (HF.out.less hz5)
   obtain⟨fo,fc,rfl⟩:=HF1.out.slc;have HB2:Hid (Below B w wr):=aa ((HBW.out.trans (HBV.out.mono (Nat.le_trans hB hz5))).grown HGR.out (by have:=HBV.out.size;omega) (fun k e=>by cases e;omega));clear HF HVB HGR;go_wp2_with fail
   go_ret;exact⟨_,rfl,HF1.out,HB2.out⟩
theorem FR.cat {cur w':World} {B n:Nat} {u:Value} {lo:List Fv} {xs:List Value} (ok:∀x∈lo,∃v,FvIn cur B v x) (ho:w'.ownsRow cur.heap.size 77 4 u n xs) (hxs:xs=C lo) (hn:n=lo.length) (hb:Below cur.heap.size cur w') (hB:B≤cur.heap.size):FR w' B u (lo.map Fv.f):=by
 subst hxs hn;refine⟨lo,rfl,aE ho hB,fun x hx=>?_⟩;obtain⟨v,k0,_,_,k3,k4⟩:=ok x hx;refine⟨k0.below hb,?_,?_,k3,k4⟩
 ·cases e:x.mv.ownBlock with
  | none=>exact .inl e
  | some b=>exact .inr fun e'=>by have h1:=k0.2.2.1 b e;have h2:=aB ho b (by rw [←e',e]);omega
 ·cases e:x.dv.ownBlock with
  | none=>exact .inl e
  | some b=>exact .inr fun e'=>by have h1:=k0.2.2.2 b e;have h2:=aB ho b (by rw [←e',e]);omega
theorem nV (P:List Pr) (s:Sw) (ch:Int):(fH P s ch).length≤P.length+1:=by
 have h:=List.length_filter_le (cn s.i) P;unfold fH;split
 ·rw [List.nil_append,List.length_map];omega
 ·rw [List.length_append,List.length_map,List.length_singleton];omega
theorem gp (R:List Ac) (s t n:Int):(cw R s t n).length=R.length+1:=by
 unfold cw;rw [List.length_cons,List.length_map,List.length_range]
theorem jr (P:List Pr) (s:Sw):(cL P s).length≤P.length:=by
 unfold cL;rw [List.length_map];exact List.length_filter_le _ _
theorem j9 (S:List Sw) (P:List Pr) (s:Sw):(cC S P s).length≤P.length+1:=by
 have h:=List.length_filter_le (fun p=>eq S s.t p&&bg p) P;unfold cC;split
 ·simp
 ·rw [List.length_cons,List.length_map];omega
theorem fy (A:List Ac) (s:Int) (b:Bool):(bf A s b).length≤A.length:=List.length_filter_le _ _
theorem iG (S:List Sw) (P:List Pr) (A:List Ac) (s1 p1 a1:Option Addr) (s2 p2 a2:Nat) (x:Sw) (ch:Int) (w:World) (hC:CfAt w (.slice s1 S.length s2) (.slice p1 P.length p2) (.slice a1 A.length a2) S P A) (hl:P.length≤1000) (hlA:A.length≤1000) (hlS:S.length≤1000) (hx0:0≤x.i) (hx1:x.i≤100000) (hP:∀p∈P,0≤p.s∧p.s≤100000)
  (hR:∀r∈A,(0≤r.sb∧r.sb≤16)∧0≤r.db∧r.db≤16) (hS1:eM (bf A x.i true)) (hS2:eM (bf A x.i false)):
  Calls Tryz.prog 24 #[.agg #[.slice s1 S.length s2,.slice p1 P.length p2,.slice a1 A.length a2],.agg #[.int .i64 x.i,.int .i64 x.t,.int .i64 x.g],.int .i64 ch] w fun e w'=>∃u,e= .returned u∧FR w' w.heap.size u (ck S P A x ch)∧Below w.heap.size w w':=by
 have HC:=aa hC;have HR1:Hid (∀r∈bf A x.i true,(0≤r.sb∧r.sb≤16)∧0≤r.db∧r.db≤16):=aa (fun r hr=>hR r (List.mem_filter.1 hr).1);have HR2:Hid (∀r∈bf A x.i false,(0≤r.sb∧r.sb≤16)∧0≤r.db∧r.db≤16):=aa (fun r hr=>hR r (List.mem_filter.1 hr).1);have HS1:=aa hS1;have HS2:=aa hS2;have HP:=aa hP;have hr1:(bf A x.i true).length≤1000:=Nat.le_trans (fy A x.i true) hlA;have hr2:(bf A x.i false).length≤1000:=Nat.le_trans (fy A x.i false) hlA;have HSW:Hid (ck S P A x ch=fH P x ch++cw (aZ (bf A x.i true)) x.i 2 3++cL P x++cC S P x++cw (aZ (bf A x.i false)) x.i 4 5):=rfl;have HL1:=aa (nV P x ch);have HL2:Hid ((cw (aZ (bf A x.i true)) x.i 2 3).length≤1001):=by
  refine aa ?_;rw [gp,dQ];omega
 have HL3:=aa (jr P x);have HL4:=aa (j9 S P x);have HL5:Hid ((cw (aZ (bf A x.i false)) x.i 4 5).length≤1001):=by
  refine aa ?_;rw [gp,dQ];omega
 go_enter Tryz.func24,Tryz.ntmps24;go_wp2_with fail
 obtain⟨W0,hW⟩:∃W0,W0=w.alloc (.cells #[.slice s1 S.length s2,.slice p1 P.length p2,.slice a1 A.length a2] 29):=⟨_,rfl⟩;rw [←hW];obtain⟨cb,hblk⟩:∃cb,cb=w.heap.size:=⟨_,rfl⟩;have k0:W0.cell? ⟨cb,0,none⟩=some (.slice s1 S.length s2):=zN2 hW hblk rfl;have k1:W0.cell? ⟨cb,1,none⟩=some (.slice p1 P.length p2):=zN2 hW hblk rfl;have k2:W0.cell? ⟨cb,2,none⟩=some (.slice a1 A.length a2):=zN2 hW hblk rfl;have hbN:Below w.heap.size w W0:=by rw [hW];exact ak _ _
 have hzW0:W0.heap.size=cb+1:=by rw [hW,hblk];simp
 have hcbl:w.heap.size≤cb:=by omega
 rw [←hblk];clear hW hblk;have HB:=hbN;clear hbN;obtain⟨W1,hW⟩:∃W1,W1=W0.alloc (.cells #[.int .i64 x.i,.int .i64 x.t,.int .i64 x.g] 54):=⟨_,rfl⟩;rw [←hW];obtain⟨sb,hblk⟩:∃sb,sb=cb+1:=⟨_,rfl⟩;have d0:W1.cell? ⟨sb,0,none⟩=some (.int .i64 x.i):=zN2 hW (hblk.trans hzW0.symm) rfl;have d1:W1.cell? ⟨sb,1,none⟩=some (.int .i64 x.t):=zN2 hW (hblk.trans hzW0.symm) rfl;have d2:W1.cell? ⟨sb,2,none⟩=some (.int .i64 x.g):=zN2 hW (hblk.trans hzW0.symm) rfl;have hbN:Below W0.heap.size W0 W1:=by rw [hW];exact ak _ _
 have hzW1:W1.heap.size=sb+1:=by rw [hW,hblk];simp [hzW0]
 have hsbl:cb<sb:=by omega
 rw [←hblk];clear hW hblk hzW0;replace⟨k0,k1,k2⟩:=aR k0 k1 k2 hbN;replace HB:=zT HB hbN;clear hbN hzW1;have hs0_1:=HB.size;refine wp_region_held_drew (S:=(fun w'=>w'.cell? ⟨cb,0,none⟩=some (.slice s1 S.length s2)∧w'.cell? ⟨cb,1,none⟩=some (.slice p1 P.length p2)∧w'.cell? ⟨cb,2,none⟩=some (.slice a1 A.length a2)∧w'.cell? ⟨sb,0,none⟩=some (.int .i64 x.i)∧w'.cell? ⟨sb,1,none⟩=some (.int .i64 x.t)∧w'.cell? ⟨sb,2,none⟩=some (.int .i64 x.g))) (by kernel_rfl) ⟨k0,k1,k2,d0,d1,d2⟩ (fun hHeld=>?_);have HDW:Below W1.heap.size W1 W1.drew:=(Below.refl _ _).drew;have hs1:=HDW.size;replace⟨k0,k1,k2,d0,d1,d2⟩:=dy k0 k1 k2 d0 d1 d2 HDW;replace HB:=zT HB HDW;clear HDW;generalize W1.drew=V2 at*;refine sqA [(0,7),(1,8),(2,9),(4,11),(5,12),(7,14),(9,16),(10,17),(12,19),(13,20),(15,22),(16,23),(18,25)] ?_;(iterate 13 (refine sqN rfl (by kernel_rfl) (fun _ _ _ h=>h) rfl ‹_› (by intro w h;go_simp <;>with_reducible rfl) ?_;simp only [nz]));refine sqZ ?_;refine rs 3 10 (by kernel_rfl) rfl (fun K hK=>?_);go_simp;clear hHeld;have HBold:=HB.size;refine(kG S P A s1 p1 a1 s2 p2 a2 x ch _ (HC.out.below HB zr) hl hx0 hx1).mono ?_;rintro e V3 ⟨u,rfl,hfr,hb3⟩;have hs4:=hb3.size;replace⟨k0,k1,k2,d0,d1,d2⟩:=dy k0 k1 k2 d0 d1 d2 hb3;replace HB:=zT HB hb3;obtain⟨fo1,fc1,rfl⟩:=hfr.slc;have HF1:=aa (hfr.less HBold);clear hfr HBold;clear hb3;refine hK.out _ _ ⟨k0,k1,k2,d0,d1,d2⟩ (fun hHeld=>?_);clear hK K;(try simp only [nz]);refine rs 6 13 (by kernel_rfl) rfl (fun K hK=>?_);go_simp;clear hHeld;have k0_r:=k0;have k1_r:=k1;have k2_r:=k2;have d0_r:=d0;have d1_r:=d1;have d2_r:=d2;have HF1_r:=HF1;have HBr:=HB;refine(iv S P A s1 p1 a1 s2 p2 a2 x true _ (HC.out.below HB zr) hlA).mono ?_;rintro e V5 ⟨u,rfl,hor,hb5⟩;have hs6:=hb5.size;replace⟨k0,k1,k2,d0,d1,d2⟩:=dy k0 k1 k2 d0 d1 d2 hb5;replace HF1:=aa (HF1.out.below hb5 zr);replace HB:=zT HB hb5;obtain⟨ro1,rc1,rfl⟩:=aF hor;have HRW:=aa hor;have HBR:=aa hb5;clear hor;clear hb5;refine hK.out _ _ ⟨k0,k1,k2,d0,d1,d2⟩ (fun hHeld=>?_);clear hK K;(try simp only [nz]);refine rs 8 15 (by kernel_rfl) rfl (fun K hK=>?_);go_simp;clear hHeld;have HBold:=HB.size;refine(fK (bf A x.i true) x 2 3 _ V3.heap.size V5 HRW.out HBR.out.size HS1.out HR1.out hr1).mono ?_;rintro e V7 ⟨u,rfl,hfr,hbq⟩;have hbX:Below V3.heap.size V3 V7:=HBR.out.trans hbq;replace k0:=zC k0_r hbX;replace k1:=zC k1_r hbX;replace k2:=zC k2_r hbX;replace d0:=zC d0_r hbX;replace d1:=zC d1_r hbX;replace d2:=zC d2_r hbX;replace HF1:=aa (HF1_r.out.below hbX zr);replace HB:=HBr.trans (hbX.mono HBr.size);obtain⟨fo2,fc2,rfl⟩:=hfr.slc;have HF2:=aa (hfr.less HBold);clear hfr HBold hbq hbX HBR HBr HRW k0_r k1_r k2_r d0_r d1_r d2_r HF1_r;refine hK.out _ _ ⟨k0,k1,k2,d0,d1,d2⟩ (fun hHeld=>?_);clear hK K;(try simp only [nz])
 refine rs 11 18 (by kernel_rfl) rfl (fun K hK=>?_);go_simp;clear hHeld;have HBold:=HB.size;refine(iz S P A s1 p1 a1 s2 p2 a2 x _ (HC.out.below HB zr) hl hx0 hx1).mono ?_;rintro e V8 ⟨u,rfl,hfr,hb8⟩;have hs9:=hb8.size;replace⟨k0,k1,k2,d0,d1,d2⟩:=dy k0 k1 k2 d0 d1 d2 hb8;replace HF1:=aa (HF1.out.below hb8 zr);replace HF2:=aa (HF2.out.below hb8 zr);replace HB:=zT HB hb8;obtain⟨fo3,fc3,rfl⟩:=hfr.slc;have HF3:=aa (hfr.less HBold);clear hfr HBold;clear hb8;refine hK.out _ _ ⟨k0,k1,k2,d0,d1,d2⟩ (fun hHeld=>?_);clear hK K;(try simp only [nz]);refine rs 14 21 (by kernel_rfl) rfl (fun K hK=>?_);go_simp;clear hHeld;have HBold:=HB.size;refine(jq S P A s1 p1 a1 s2 p2 a2 x _ (HC.out.below HB zr) hl hx0 hx1 HP.out hlS).mono ?_;rintro e V10 ⟨u,rfl,hfr,hb10⟩;have hs11:=hb10.size;replace⟨k0,k1,k2,d0,d1,d2⟩:=dy k0 k1 k2 d0 d1 d2 hb10;replace HF1:=aa (HF1.out.below hb10 zr);replace HF2:=aa (HF2.out.below hb10 zr);replace HF3:=aa (HF3.out.below hb10 zr);replace HB:=zT HB hb10;obtain⟨fo4,fc4,rfl⟩:=hfr.slc;have HF4:=aa (hfr.less HBold);clear hfr HBold;clear hb10;refine hK.out _ _ ⟨k0,k1,k2,d0,d1,d2⟩ (fun hHeld=>?_);clear hK K;(try simp only [nz]);refine rs 17 24 (by kernel_rfl) rfl (fun K hK=>?_);go_simp;clear hHeld;have k0_r:=k0;have k1_r:=k1;have k2_r:=k2;have d0_r:=d0;have d1_r:=d1;have d2_r:=d2;have HF1_r:=HF1;have HF2_r:=HF2;have HF3_r:=HF3;have HF4_r:=HF4;have HBr:=HB;refine(iv S P A s1 p1 a1 s2 p2 a2 x false _ (HC.out.below HB zr) hlA).mono ?_;rintro e V12 ⟨u,rfl,hor,hb12⟩;have hs13:=hb12.size;replace⟨k0,k1,k2,d0,d1,d2⟩:=dy k0 k1 k2 d0 d1 d2 hb12;replace HF1:=aa (HF1.out.below hb12 zr);replace HF2:=aa (HF2.out.below hb12 zr);replace HF3:=aa (HF3.out.below hb12 zr);replace HF4:=aa (HF4.out.below hb12 zr);replace HB:=zT HB hb12;obtain⟨ro2,rc2,rfl⟩:=aF hor;have HRW:=aa hor;have HBR:=aa hb12;clear hor;clear hb12;refine hK.out _ _ ⟨k0,k1,k2,d0,d1,d2⟩ (fun hHeld=>?_);clear hK K;(try simp only [nz]);refine rs 19 26 (by kernel_rfl) rfl (fun K hK=>?_);go_simp;clear hHeld;have HBold:=HB.size;refine(fK (bf A x.i false) x 4 5 _ V10.heap.size V12 HRW.out HBR.out.size HS2.out HR2.out hr2).mono ?_;rintro e V14 ⟨u,rfl,hfr,hbq⟩;have hbX:Below V10.heap.size V10 V14:=HBR.out.trans hbq;replace k0:=zC k0_r hbX;replace k1:=zC k1_r hbX;replace k2:=zC k2_r hbX;replace d0:=zC d0_r hbX;replace d1:=zC d1_r hbX;replace d2:=zC d2_r hbX;replace HF1:=aa (HF1_r.out.below hbX zr);replace HF2:=aa (HF2_r.out.below hbX zr);replace HF3:=aa (HF3_r.out.below hbX zr);replace HF4:=aa (HF4_r.out.below hbX zr);replace HB:=HBr.trans (hbX.mono HBr.size);obtain⟨fo5,fc5,rfl⟩:=hfr.slc;have HF5:=aa (hfr.less HBold);clear hfr HBold hbq hbX HBR HBr HRW k0_r k1_r k2_r d0_r d1_r d2_r HF1_r HF2_r HF3_r HF4_r
 refine hK.out _ _ ⟨k0,k1,k2,d0,d1,d2⟩ (fun hHeld=>?_);clear hK K;(try simp only [nz]);refine rs 20 27 (by kernel_rfl) rfl (fun K hK=>?_);go_simp;clear hHeld;refine ah (fun V15 g15 hV hg=>?_);rw [←hg];have hbN:=zB hV;have hg15:V14.heap.size≤g15:=by omega
 have hl15:=zL hV hg;have q0:V15.cell? ⟨g15,0,none⟩=some (.slice fo1 (fH P x ch).length fc1):=zN2 hV hg rfl;have q1:V15.cell? ⟨g15,1,none⟩=some (.slice fo2 (cw (aZ (bf A x.i true)) x.i 2 3).length fc2):=zN2 hV hg rfl;have q2:V15.cell? ⟨g15,2,none⟩=some (.slice fo3 (cL P x).length fc3):=zN2 hV hg rfl;have q3:V15.cell? ⟨g15,3,none⟩=some (.slice fo4 (cC S P x).length fc4):=zN2 hV hg rfl;have q4:V15.cell? ⟨g15,4,none⟩=some (.slice fo5 (cw (aZ (bf A x.i false)) x.i 4 5).length fc5):=zN2 hV hg rfl;have hs16:=hbN.size;replace⟨k0,k1,k2,d0,d1,d2⟩:=dy k0 k1 k2 d0 d1 d2 hbN;replace HF1:=aa (HF1.out.below hbN zr);replace HF2:=aa (HF2.out.below hbN zr);replace HF3:=aa (HF3.out.below hbN zr);replace HF4:=aa (HF4.out.below hbN zr);replace HF5:=aa (HF5.out.below hbN zr);replace HB:=zT HB hbN;clear hV hg hbN;refine hK.out _ _ ⟨k0,k1,k2,d0,d1,d2⟩ (fun hHeld=>?_);clear hK K;(try simp only [nz]);refine rs 21 28 (by kernel_rfl) rfl (fun K hK=>?_);go_simp;clear hHeld;obtain⟨lo1,hm1,hll1,hsr1,hk1⟩:=HF1.out.src;obtain⟨lo2,hm2,hll2,hsr2,hk2⟩:=HF2.out.src;obtain⟨lo3,hm3,hll3,hsr3,hk3⟩:=HF3.out.src;obtain⟨lo4,hm4,hll4,hsr4,hk4⟩:=HF4.out.src;obtain⟨lo5,hm5,hll5,hsr5,hk5⟩:=HF5.out.src;have hq1:=HL1.out;have hq2:=HL2.out;have hq3:=HL3.out;have hq4:=HL4.out;have hq5:=HL5.out;refine(ks [((.slice fo1 (fH P x ch).length fc1:Value),lo1.length,C lo1),((.slice fo2 (cw (aZ (bf A x.i true)) x.i 2 3).length fc2:Value),lo2.length,C lo2),((.slice fo3 (cL P x).length fc3:Value),lo3.length,C lo3),((.slice fo4 (cC S P x).length fc4:Value),lo4.length,C lo4),((.slice fo5 (cw (aZ (bf A x.i false)) x.i 4 5).length fc5:Value),lo5.length,C lo5)] g15 5 V15 (fun j hj=>match j,hj with | 0,_=>q0 | 1,_=>q1 | 2,_=>q2 | 3,_=>q3 | 4,_=>q4 | j+5,h=>absurd h (by simp)) (in5 hsr1 hsr2 hsr3 hsr4 hsr5) (by exact(show(5:Nat)≤10 by decide)) (by exact(show(5:Nat)≤5 by decide)) (in5 (show lo1.length≤100000 by omega) (show lo2.length≤100000 by omega) (show lo3.length≤100000 by omega) (show lo4.length≤100000 by omega) (show lo5.length≤100000 by omega))).mono ?_;rintro e V17 ⟨u,rfl,hor,hbq⟩;have HE:Hid (FR V17 w.heap.size u (ck S P A x ch)):=by
  have:=FR.cat (lo:=lo1++lo2++lo3++lo4++lo5) (fun y hy=>?_) hor (by simp [cat,gN]) (by simp [cnt] <;>omega) hbq HB.size
  ·rw [HSW.out, ←hm1, ←hm2, ←hm3, ←hm4, ←hm5];simpa using aa this
  ·simp only [List.mem_append]at hy;rcases hy with(((h | h) | h) | h) | h
   ·exact⟨_,hk1 y h⟩
   ·exact⟨_,hk2 y h⟩
   ·exact⟨_,hk3 y h⟩
   ·exact⟨_,hk4 y h⟩
   ·exact⟨_,hk5 y h⟩
 replace⟨k0,k1,k2,d0,d1,d2⟩:=dy k0 k1 k2 d0 d1 d2 hbq;replace HB:=zT HB hbq;obtain⟨eo,ec,rfl⟩:=HE.out.slc;clear hor hbq HF1 HF2 HF3 HF4 HF5 hm1 hll1 hsr1 hk1 hq1 hm2 hll2 hsr2 hk2 hq2 hm3 hll3 hsr3 hk3 hq3 hm4 hll4 hsr4 hk4 hq4 hm5 hll5 hsr5 hk5 hq5 q0 q1 q2 q3 q4;refine hK.out _ _ ⟨k0,k1,k2,d0,d1,d2⟩ (fun hHeld=>?_);clear hK K;(try simp only [nz]);refine tq 22 6 rfl (by kernel_rfl) (fun _ _ _ h=>h) rfl ‹_› (by intro w h;go_simp <;>with_reducible rfl) ?_;simp only [nz];refine wpAnyH_done (by kernel_rfl) ?_ _;clear hHeld;go_wp2_with fail
 go_ret;exact⟨_,rfl,HE.out,HB⟩
def inB (n a b:Int):Bool:=decide (a≤n∧n≤b)
theorem bY (n a b:Int) (w:World):
  Calls Tryz.prog 119 #[.int .i64 n,.int .i64 a,.int .i64 b] w fun e w'=>e= .returned (.bool (inB n a b))∧w'=w:=by
 go_enter Tryz.func119,Tryz.ntmps119;go_wp2
 all_goals go_ret
 all_goals refine⟨aC ?_,rfl⟩
 all_goals (unfold inB;rw [Bool.eq_iff_iff];simp_all;try omega)
theorem dp (n:Int) (w:World):
  Calls Tryz.prog 120 #[.int .i64 n] w fun e w'=>e= .returned (.bool (inB n 0 65535))∧w'=w:=by
 go_enter Tryz.func120,Tryz.ntmps120;go_wp2_with (go_at_call 119;refine(bY _ _ _ _).mono ?_;rintro e w' ⟨rfl,rfl⟩)
 go_ret;exact⟨rfl,rfl⟩
theorem fG (n:Int) (w:World):
  Calls Tryz.prog 131 #[.int .i64 n] w fun e w'=>e= .returned (.bool (inB n (-1) 5))∧w'=w:=by
 go_enter Tryz.func131,Tryz.ntmps131;go_wp2_with (go_at_call 119;refine(bY _ _ _ _).mono ?_;rintro e w' ⟨rfl,rfl⟩)
 go_ret;exact⟨rfl,rfl⟩
def es (x:Pr):Bool:=inB x.i 1 999&&inB x.m 1 59999&&inB x.p 1 65535&&inB x.c (-1) 5
theorem gT (i s m p c:Int) (w:World):
  Calls Tryz.prog 124 #[.agg #[.int .i64 i,.int .i64 s,.int .i64 m,.int .i64 p,.int .i64 c]] w fun e w'=>e= .returned (.bool (es ⟨i,s,m,p,c⟩))∧Below w.heap.size w w':=by
 go_enter Tryz.func124,Tryz.ntmps124;go_wp2_with (first |(go_at_call 119;refine(bY _ _ _ _).mono ?_;rintro e w' ⟨rfl,rfl⟩) |(go_at_call 131;refine(fG _ _).mono ?_;rintro e w' ⟨rfl,rfl⟩))
 all_goals go_ret
 all_goals refine⟨aC ?_,(Below.refl _ _).alloc zr _⟩
 all_goals (unfold es;simp_all)
def dP (x:Ac):Bool:=inB x.p 0 1000&&inB x.src 0 65535&&inB x.dst 0 65535&&inB x.sb 0 16&&inB x.db 0 16&&inB x.o (-1) 65535
theorem iy (s p:Int) (n:Bool) (src sb dst db o:Int) (d:Bool) (w:World):
  Calls Tryz.prog 128 #[.agg #[.int .i64 s,.int .i64 p,.bool n,.int .i64 src,.int .i64 sb,.int .i64 dst,.int .i64 db,.int .i64 o,.bool d]] w fun e w'=>e= .returned (.bool (dP ⟨s,p,n,src,sb,dst,db,o,d⟩))∧Below w.heap.size w w':=by
 go_enter Tryz.func128,Tryz.ntmps128;go_wp2_with (first |(go_at_call 119;refine(bY _ _ _ _).mono ?_;rintro e w' ⟨rfl,rfl⟩) |(go_at_call 120;refine(dp _ _).mono ?_;rintro e w' ⟨rfl,rfl⟩))
 all_goals go_ret
 all_goals refine⟨aC ?_,(Below.refl _ _).alloc zr _⟩
 all_goals (unfold dP;simp_all)
theorem mu (x:Sw) (id:Int) (b:Nat) (w:World) (h:w.cell? ⟨b,0,none⟩=some (.int .i64 id)):
  Calls Tryz.prog 149 #[.agg #[.int .i64 x.i,.int .i64 x.t,.int .i64 x.g],.pointer (some ⟨b,0,none⟩)] w fun e w'=>e= .returned (.bool (x.i==id))∧Below w.heap.size w w':=by
 have hlt:=am h;have hne:b≠w.heap.size:=by omega
 go_enter Tryz.func149,Tryz.ntmps149;go_wp2
 all_goals go_ret
 all_goals exact⟨aC (by rw [Bool.eq_iff_iff] <;>simp),(Below.refl _ _).alloc zr _⟩
theorem nF {w:World} {b:Nat} {id:Int} (h:w.cell? ⟨b,0,none⟩=some (.int .i64 id)):kI w b (fun x=>x.i==id):=fun W x hW=>mu x id b W (zC h hW)
theorem nG (x:Sw) (tenant ip:Int) (b c:Nat) (w:World) (h:w.cell? ⟨b,0,none⟩=some (.int .i64 tenant)) (h2:w.cell? ⟨c,0,none⟩=some (.int .i64 ip)):
  Calls Tryz.prog 150 #[.agg #[.int .i64 x.i,.int .i64 x.t,.int .i64 x.g],.pointer (some ⟨b,0,none⟩),.pointer (some ⟨c,0,none⟩)] w fun e w'=>e= .returned (.bool (x.t==tenant&&x.g==ip))∧Below w.heap.size w w':=by
 have hlt:=am h;have hne:b≠w.heap.size:=by omega
 have hlt2:=am h2;have hne2:c≠w.heap.size:=by omega
 go_enter Tryz.func150,Tryz.ntmps150;go_wp2
 all_goals go_ret
 all_goals exact⟨aC (by rw [Bool.eq_iff_iff];simp_all),(Below.refl _ _).alloc zr _⟩
theorem pW {w:World} {b c:Nat} {tenant ip:Int} (h:w.cell? ⟨b,0,none⟩=some (.int .i64 tenant)) (h2:w.cell? ⟨c,0,none⟩=some (.int .i64 ip)):gJ w b c (fun x=>x.t==tenant&&x.g==ip):=fun W x hW=>nG x tenant ip b c W (zC h hW) (zC h2 hW)
theorem qi (x:Sw) (s tenant:Int) (b c:Nat) (w:World) (h:w.cell? ⟨b,1,none⟩=some (.int .i64 s)) (h2:w.cell? ⟨c,0,none⟩=some (.int .i64 tenant)):
  Calls Tryz.prog 152 #[.agg #[.int .i64 x.i,.int .i64 x.t,.int .i64 x.g],.pointer (some ⟨b,0,none⟩),.pointer (some ⟨c,0,none⟩)] w fun e w'=>e= .returned (.bool (x.i==s&&x.t==tenant))∧Below w.heap.size w w':=by
 have hlt:=am h;have hne:b≠w.heap.size:=by omega
 have hlt2:=am h2;have hne2:c≠w.heap.size:=by omega
 go_enter Tryz.func152,Tryz.ntmps152;go_wp2
 all_goals go_ret
 all_goals exact⟨aC (by rw [Bool.eq_iff_iff];simp_all),(Below.refl _ _).alloc zr _⟩
theorem rI {w:World} {b c:Nat} {s tenant:Int} (h:w.cell? ⟨b,1,none⟩=some (.int .i64 s)) (h2:w.cell? ⟨c,0,none⟩=some (.int .i64 tenant)):kT w b c (fun x=>x.i==s&&x.t==tenant):=fun W x hW=>qi x s tenant b c W (zC h hW) (zC h2 hW)
theorem mQ (x:Pr) (i s m:Int) (b:Nat) (w:World) (h:w.cell? ⟨b,0,none⟩=some (.int .i64 i)) (h1:w.cell? ⟨b,1,none⟩=some (.int .i64 s)) (h2:w.cell? ⟨b,2,none⟩=some (.int .i64 m)):
  Calls Tryz.prog 127 #[.agg #[.int .i64 x.i,.int .i64 x.s,.int .i64 x.m,.int .i64 x.p,.int .i64 x.c],.pointer (some ⟨b,0,none⟩)] w fun e w'=>e= .returned (.bool (x.i==i|| x.s==s&&x.m==m))∧Below w.heap.size w w':=by
 have hlt:=am h;have hne:b≠w.heap.size:=by omega
 go_enter Tryz.func127,Tryz.ntmps127;go_wp2
 all_goals go_ret
 all_goals exact⟨aC (by rw [Bool.eq_iff_iff];simp_all),(Below.refl _ _).alloc zr _⟩
theorem p8 {w:World} {b:Nat} {i s m:Int} (h:w.cell? ⟨b,0,none⟩=some (.int .i64 i)) (h1:w.cell? ⟨b,1,none⟩=some (.int .i64 s)) (h2:w.cell? ⟨b,2,none⟩=some (.int .i64 m)):gt w b (fun x=>x.i==i|| x.s==s&&x.m==m):=
 fun W x hW=>mQ x i s m b W (zC h hW) (zC h1 hW) (zC h2 hW)
theorem eW (sv pv av:Value) (S:List Sw) (p:Sw→Bool) (b0:Nat) (w:World) (hF:cZ w sv S) (hpv:∃o n c,pv= .slice o n c) (hav:∃o n c,av= .slice o n c) (hT:kI w b0 p) (hl:S.length*24≤140737488355328):
  Calls Tryz.prog 121 #[.agg #[sv,pv,av],.func (.func 149) #[] #[.pointer (some ⟨b0,0,none⟩)]] w fun e w'=>e= .returned (.bool (S.any p))∧Below w.heap.size w w':=by
 have HI:=aa (fun W (hW:Below w.heap.size w W)=>oG S p sv b0 W (RowAt.below hF hW zr) (fun W' x hW'=>hT W' x (hW.trans (hW'.mono hW.size))) hl);obtain⟨o1,c1,rfl⟩:=hF.slice;obtain⟨o2,n2,c2,rfl⟩:=hpv;obtain⟨o3,n3,c3,rfl⟩:=hav;clear hF hT;generalize S.any p=R at*;go_enter Tryz.func121,Tryz.ntmps121;go_wp2_with fail
 have hb0:Below w.heap.size w (w.alloc (.cells #[.slice o1 S.length c1,.slice o2 n2 c2,.slice o3 n3 c3] 29)):=(Below.refl _ _).alloc zr _;refine(ae HI _ hb0).mono ?_;rintro e w1 ⟨rfl,hb1⟩;have hb:=hb0.trans (hb1.mono hb0.size);clear hb1 hb0 HI;go_wp2_with fail
 go_ret;exact⟨rfl,hb⟩
theorem gO (sv pv av:Value) (S:List Sw) (p:Sw→Bool) (b0 b1:Nat) (w:World) (hF:cZ w sv S) (hpv:∃o n c,pv= .slice o n c) (hav:∃o n c,av= .slice o n c) (hT:gJ w b0 b1 p) (hl:S.length*24≤140737488355328):
  Calls Tryz.prog 121 #[.agg #[sv,pv,av],.func (.func 150) #[] #[.pointer (some ⟨b0,0,none⟩),.pointer (some ⟨b1,0,none⟩)]] w fun e w'=>e= .returned (.bool (S.any p))∧Below w.heap.size w w':=by
 have HI:=aa (fun W (hW:Below w.heap.size w W)=>mh S p sv b0 b1 W (RowAt.below hF hW zr) (fun W' x hW'=>hT W' x (hW.trans (hW'.mono hW.size))) hl);obtain⟨o1,c1,rfl⟩:=hF.slice;obtain⟨o2,n2,c2,rfl⟩:=hpv;obtain⟨o3,n3,c3,rfl⟩:=hav;clear hF hT;generalize S.any p=R at*;go_enter Tryz.func121,Tryz.ntmps121;go_wp2_with fail
 have hb0:Below w.heap.size w (w.alloc (.cells #[.slice o1 S.length c1,.slice o2 n2 c2,.slice o3 n3 c3] 29)):=(Below.refl _ _).alloc zr _;refine(ae HI _ hb0).mono ?_;rintro e w1 ⟨rfl,hb1⟩;have hb:=hb0.trans (hb1.mono hb0.size);clear hb1 hb0 HI;go_wp2_with fail
 go_ret;exact⟨rfl,hb⟩
theorem iC (sv pv av:Value) (S:List Sw) (p:Sw→Bool) (b0 b1:Nat) (w:World) (hF:cZ w sv S) (hpv:∃o n c,pv= .slice o n c) (hav:∃o n c,av= .slice o n c) (hT:kT w b0 b1 p) (hl:S.length*24≤140737488355328):
  Calls Tryz.prog 121 #[.agg #[sv,pv,av],.func (.func 152) #[] #[.pointer (some ⟨b0,0,none⟩),.pointer (some ⟨b1,0,none⟩)]] w fun e w'=>e= .returned (.bool (S.any p))∧Below w.heap.size w w':=by
 have HI:=aa (fun W (hW:Below w.heap.size w W)=>oF S p sv b0 b1 W (RowAt.below hF hW zr) (fun W' x hW'=>hT W' x (hW.trans (hW'.mono hW.size))) hl);obtain⟨o1,c1,rfl⟩:=hF.slice;obtain⟨o2,n2,c2,rfl⟩:=hpv;obtain⟨o3,n3,c3,rfl⟩:=hav;clear hF hT;generalize S.any p=R at*;go_enter Tryz.func121,Tryz.ntmps121;go_wp2_with fail
 have hb0:Below w.heap.size w (w.alloc (.cells #[.slice o1 S.length c1,.slice o2 n2 c2,.slice o3 n3 c3] 29)):=(Below.refl _ _).alloc zr _;refine(ae HI _ hb0).mono ?_;rintro e w1 ⟨rfl,hb1⟩;have hb:=hb0.trans (hb1.mono hb0.size);clear hb1 hb0 HI;go_wp2_with fail
 go_ret;exact⟨rfl,hb⟩
theorem iB (sv pv av:Value) (P:List Pr) (p:Pr→Bool) (b0:Nat) (w:World) (hsv:∃o n c,sv= .slice o n c) (hF:dC w pv P) (hav:∃o n c,av= .slice o n c) (hT:gt w b0 p) (hl:P.length*40≤140737488355328):
  Calls Tryz.prog 126 #[.agg #[sv,pv,av],.func (.func 127) #[] #[.pointer (some ⟨b0,0,none⟩)]] w fun e w'=>e= .returned (.bool (P.any p))∧Below w.heap.size w w':=by
 have HI:=aa (fun W (hW:Below w.heap.size w W)=>lG P p pv b0 W (RowAt.below hF hW zr) (fun W' x hW'=>hT W' x (hW.trans (hW'.mono hW.size))) hl);obtain⟨o1,c1,rfl⟩:=hF.slice;obtain⟨o2,n2,c2,rfl⟩:=hsv;obtain⟨o3,n3,c3,rfl⟩:=hav;clear hF hT;generalize P.any p=R at*;go_enter Tryz.func126,Tryz.ntmps126;go_wp2_with fail
 have hb0:Below w.heap.size w (w.alloc (.cells #[.slice o2 n2 c2,.slice o1 P.length c1,.slice o3 n3 c3] 29)):=(Below.refl _ _).alloc zr _;refine(ae HI _ hb0).mono ?_;rintro e w1 ⟨rfl,hb1⟩;have hb:=hb0.trans (hb1.mono hb0.size);clear hb1 hb0 HI;go_wp2_with fail
 go_ret;exact⟨rfl,hb⟩
theorem jE (sv pv av:Value) (P:List Pr) (p:Pr→Bool) (b0 b1 b2:Nat) (w:World) (hsv:∃o n c,sv= .slice o n c) (hF:dC w pv P) (hav:∃o n c,av= .slice o n c) (hT:ny w b0 b1 b2 p) (hl:P.length*40≤140737488355328):
  Calls Tryz.prog 126 #[.agg #[sv,pv,av],.func (.func 151) #[] #[.pointer (some ⟨b0,0,none⟩),.pointer (some ⟨b1,0,none⟩),.pointer (some ⟨b2,0,none⟩)]] w fun e w'=>e= .returned (.bool (P.any p))∧Below w.heap.size w w':=by
 have HI:=aa (fun W (hW:Below w.heap.size w W)=>oR P p pv b0 b1 b2 W (RowAt.below hF hW zr) (fun W' x hW'=>hT W' x (hW.trans (hW'.mono hW.size))) hl);obtain⟨o1,c1,rfl⟩:=hF.slice;obtain⟨o2,n2,c2,rfl⟩:=hsv;obtain⟨o3,n3,c3,rfl⟩:=hav;clear hF hT;generalize P.any p=R at*;go_enter Tryz.func126,Tryz.ntmps126;go_wp2_with fail
 have hb0:Below w.heap.size w (w.alloc (.cells #[.slice o2 n2 c2,.slice o1 P.length c1,.slice o3 n3 c3] 29)):=(Below.refl _ _).alloc zr _;refine(ae HI _ hb0).mono ?_;rintro e w1 ⟨rfl,hb1⟩;have hb:=hb0.trans (hb1.mono hb0.size);clear hb1 hb0 HI;go_wp2_with fail
 go_ret;exact⟨rfl,hb⟩
def bI (S:List Sw) (P:List Pr) (t ip:Int):Bool:=S.any (fun x=>x.t==t&&x.g==ip)|| P.any (fun x=>x.p==ip&&S.any (fun s=>s.i==x.s&&s.t==t))
theorem cj {α:Type} {C:α→List Value} {sz:Nat} {w:World} {v:Value} {l:List α} (h:RowAt C sz w v l):∃o n c,v= .slice o n c:=by
 obtain⟨o,c,h⟩:=h.slice;exact⟨o,_,c,h⟩
theorem qs (x:Pr) (S:List Sw) (sv pv av:Value) (ip t:Int) (bi bc bt:Nat) (w:World) (hS:cZ w sv S) (hpv:∃o n c,pv= .slice o n c) (hav:∃o n c,av= .slice o n c) (h1:w.cell? ⟨bi,0,none⟩=some (.int .i64 ip)) (h2:w.cell? ⟨bc,0,none⟩=some sv) (h3:w.cell? ⟨bc,1,none⟩=some pv) (h4:w.cell? ⟨bc,2,none⟩=some av)
  (h5:w.cell? ⟨bt,0,none⟩=some (.int .i64 t)) (hl:S.length*24≤140737488355328):
  Calls Tryz.prog 151 #[.agg #[.int .i64 x.i,.int .i64 x.s,.int .i64 x.m,.int .i64 x.p,.int .i64 x.c],.pointer (some ⟨bi,0,none⟩),.pointer (some ⟨bc,0,none⟩),.pointer (some ⟨bt,0,none⟩)] w fun e w'=>e= .returned (.bool (x.p==ip&&S.any (fun s=>s.i==x.s&&s.t==t)))∧Below w.heap.size w w':=by
 have q1:=am h1;have q2:=am h2;have q5:=am h5;have n1:bi≠w.heap.size:=by omega
 have n2:bc≠w.heap.size:=by omega
 have n5:bt≠w.heap.size:=by omega
 obtain⟨xi,xs,xm,xp,xc⟩:=x;have HS:=aa hS;have HH:Hid (∀W:World,Below w.heap.size w W→W.cell? ⟨w.heap.size,1,none⟩=some (.int .i64 xs)→Calls Tryz.prog 121 #[.agg #[sv,pv,av],.func (.func 152) #[] #[.pointer (some ⟨w.heap.size,0,none⟩),.pointer (some ⟨bt,0,none⟩)]] W fun e w'=>e= .returned (.bool (S.any (fun s=>s.i==xs&&s.t==t)))∧Below W.heap.size W w'):=
  fun W hW hx=>iC sv pv av S _ w.heap.size bt W (RowAt.below hS hW zr) hpv hav (rI hx (zC h5 hW)) hl
 obtain⟨s1,s2,rfl⟩:=hS.slice;obtain⟨p1,pn,p2,rfl⟩:=hpv;obtain⟨a1,an,a2,rfl⟩:=hav;clear hS;generalize S.any (fun s=>s.i==xs&&s.t==t)=R at*;have hb0:Below w.heap.size w (w.alloc (.cells #[.int .i64 xi,.int .i64 xs,.int .i64 xm,.int .i64 xp,.int .i64 xc] 56)):=(Below.refl _ _).alloc zr _;go_enter Tryz.func151,Tryz.ntmps151;by_cases hx:xp=ip
 ·subst hx;go_wp2_with fail
  refine(ae HH _ hb0 (by simp)).mono ?_;rintro e w1 ⟨rfl,hb1⟩;have hb:=hb0.trans (hb1.mono hb0.size);clear hb1 hb0 HH;go_wp2_with fail
  go_ret;exact⟨aC (by simp),hb⟩
 ·clear HH;go_wp2;go_ret;exact⟨aC (by simp [hx]),hb0⟩
theorem iw (sv pv av:Value) (S:List Sw) (P:List Pr) (A:List Ac) (t ip:Int) (w:World) (hC:CfAt w sv pv av S P A) (h1:S.length*24≤140737488355328) (h2:P.length*40≤140737488355328):
  Calls Tryz.prog 123 #[.agg #[sv,pv,av],.int .i64 t,.int .i64 ip] w fun e w'=>e= .returned (.bool (bI S P t ip))∧Below w.heap.size w w':=by
 have HC:=aa hC;have HG:Hid (∀W:World,Below w.heap.size w W→W.cell? ⟨w.heap.size+1,0,none⟩=some (.int .i64 t)→W.cell? ⟨w.heap.size+1+1,0,none⟩=some (.int .i64 ip)→Calls Tryz.prog 121 #[.agg #[sv,pv,av],.func (.func 150) #[] #[.pointer (some ⟨w.heap.size+1,0,none⟩),.pointer (some ⟨w.heap.size+1+1,0,none⟩)]] W fun e w'=>e= .returned (.bool (S.any (fun x=>x.t==t&&x.g==ip)))∧Below W.heap.size W w'):=
  fun W hW a b=>gO sv pv av S _ _ _ W (RowAt.below hC.1 hW zr) (cj hC.2.1) (cj hC.2.2) (pW a b) h1
 have HP:Hid (∀W:World,Below w.heap.size w W→W.cell? ⟨w.heap.size,0,none⟩=some sv→W.cell? ⟨w.heap.size,1,none⟩=some pv→W.cell? ⟨w.heap.size,2,none⟩=some av→W.cell? ⟨w.heap.size+1,0,none⟩=some (.int .i64 t)→W.cell? ⟨w.heap.size+1+1,0,none⟩=some (.int .i64 ip)→
   Calls Tryz.prog 126 #[.agg #[sv,pv,av],.func (.func 151) #[] #[.pointer (some ⟨w.heap.size+1+1,0,none⟩),.pointer (some ⟨w.heap.size,0,none⟩),.pointer (some ⟨w.heap.size+1,0,none⟩)]] W fun e w'=>e= .returned (.bool (P.any (fun x=>x.p==ip&&S.any (fun s=>s.i==x.s&&s.t==t))))∧Below W.heap.size W w'):=
  fun W hW c0 c1 c2 a b=>jE sv pv av P _ _ _ _ W (cj hC.1) (RowAt.below hC.2.1 hW zr) (cj hC.2.2)
   (fun W' x hW'=>qs x S sv pv av ip t _ _ _ W' (RowAt.below hC.1 (hW.trans (hW'.mono hW.size)) zr) (cj hC.2.1) (cj hC.2.2) (cW b hW' zr) (cW c0 hW' zr) (cW c1 hW' zr) (cW c2 hW' zr) (cW a hW' zr) h1) h2
 have HR:Hid (bI S P t ip=(S.any (fun x=>x.t==t&&x.g==ip)|| P.any (fun x=>x.p==ip&&S.any (fun s=>s.i==x.s&&s.t==t)))):=rfl;generalize bI S P t ip=R at*;generalize S.any (fun x=>x.t==t&&x.g==ip)=R1 at*;generalize P.any (fun x=>x.p==ip&&S.any (fun s=>s.i==x.s&&s.t==t))=R2 at*;obtain⟨s1,s2,rfl⟩:=hC.1.slice;obtain⟨p1,p2,rfl⟩:=hC.2.1.slice;obtain⟨a1,a2,rfl⟩:=hC.2.2.slice;clear hC HC;go_enter Tryz.func123,Tryz.ntmps123;go_wp2_with fail
 obtain⟨W0,hW0⟩:∃W0,W0=((w.alloc (.cells #[.slice s1 S.length s2,.slice p1 P.length p2,.slice a1 A.length a2] 29)).alloc (.cells #[.int .i64 t] 3)).alloc (.cells #[.int .i64 ip] 3):=⟨_,rfl⟩;have hb0:Below w.heap.size w W0:=by rw [hW0];exact(((Below.refl _ _).alloc zr _).alloc (by simp) _).alloc (by simp;omega) _
 have c0:W0.cell? ⟨w.heap.size,0,none⟩=some (.slice s1 S.length s2):=by rw [hW0];exact aq (aq (aj w _ rfl _ _ _ _ rfl) _) _
 have c1:W0.cell? ⟨w.heap.size,1,none⟩=some (.slice p1 P.length p2):=by rw [hW0];exact aq (aq (aj w _ rfl _ _ _ _ rfl) _) _
 have c2:W0.cell? ⟨w.heap.size,2,none⟩=some (.slice a1 A.length a2):=by rw [hW0];exact aq (aq (aj w _ rfl _ _ _ _ rfl) _) _
 have ct:W0.cell? ⟨w.heap.size+1,0,none⟩=some (.int .i64 t):=by rw [hW0];exact aq (aj _ _ (by simp) _ _ _ _ rfl) _
 have ci:W0.cell? ⟨w.heap.size+1+1,0,none⟩=some (.int .i64 ip):=by rw [hW0];exact aj _ _ (by simp) _ _ _ _ rfl
 rw [←hW0];clear hW0;refine(ae HG _ hb0 ct ci).mono ?_;rintro e w1 ⟨rfl,hb1⟩;have z0:=zC c0 hb1;have z1:=zC c1 hb1;have z2:=zC c2 hb1;have zt:=zC ct hb1;have zi:=zC ci hb1;have hb01:=hb0.trans (hb1.mono hb0.size);clear c0 c1 c2 ct ci hb0 hb1 HG;cases R1
 ·go_wp2_with fail
  refine(ae HP _ hb01 z0 z1 z2 zt zi).mono ?_;rintro e w2 ⟨rfl,hb2⟩;have hb:=hb01.trans (hb2.mono hb01.size);clear z0 z1 z2 zt zi hb01 hb2 HP;go_wp2_with fail
  go_ret;exact⟨aC (by rw [HR.out];simp),hb⟩
 ·clear z0 z1 z2 zt zi HP;go_wp2;go_ret;exact⟨aC (by rw [HR.out];simp),hb01⟩
def aT (S:List Sw) (P:List Pr) (x:Sw):Int:=
 if(inB x.i 1 500&&inB x.t 1 9&&inB x.g 0 65535)=false then 2 else if(S.any (fun s=>s.i==x.i)|| (x.g != 0&&bI S P x.t x.g))=true then 7 else if 12≤S.length then 1 else 0
theorem dd (id:Int) (w:World):Calls Tryz.prog 122 #[.int .i64 id] w fun e w'=>∃b,e= .returned (.func (.func 149) #[] #[.pointer (some ⟨b,0,none⟩)])∧w'.cell? ⟨b,0,none⟩=some (.int .i64 id)∧Below w.heap.size w w':=by
 go_enter Tryz.func122,Tryz.ntmps122;go_wp2;go_ret;exact⟨_,rfl,aj _ _ rfl _ _ _ _ rfl,(Below.refl _ _).alloc zr _⟩
theorem eY (sv pv av:Value) (S:List Sw) (P:List Pr) (A:List Ac) (x:Sw) (w:World) (hC:CfAt w sv pv av S P A) (h1:S.length*24≤140737488355328) (h2:P.length*40≤140737488355328):
  Calls Tryz.prog 82 #[.agg #[sv,pv,av],.agg #[.int .i64 x.i,.int .i64 x.t,.int .i64 x.g]] w fun e w'=>e= .returned (.int .i64 (aT S P x))∧Below w.heap.size w w':=by
 obtain⟨xi,xt,xg⟩:=x;have HI:Hid (∀(W:World) (b:Nat),Below w.heap.size w W→W.cell? ⟨b,0,none⟩=some (.int .i64 xi)→Calls Tryz.prog 121 #[.agg #[sv,pv,av],.func (.func 149) #[] #[.pointer (some ⟨b,0,none⟩)]] W fun e w'=>e= .returned (.bool (S.any (fun s=>s.i==xi)))∧Below W.heap.size W w'):=
  fun W b hW a=>eW sv pv av S _ _ W (RowAt.below hC.1 hW zr) (cj hC.2.1) (cj hC.2.2) (nF a) h1
 have HT:Hid (∀W:World,Below w.heap.size w W→Calls Tryz.prog 123 #[.agg #[sv,pv,av],.int .i64 xt,.int .i64 xg] W fun e w'=>e= .returned (.bool (bI S P xt xg))∧Below W.heap.size W w'):=fun W hW=>iw sv pv av S P A xt xg W (hC.below hW zr) h1 h2;have HR:Hid (aT S P ⟨xi,xt,xg⟩=if(inB xi 1 500&&inB xt 1 9&&inB xg 0 65535)=false then 2 else if(S.any (fun s=>s.i==xi)|| (xg != 0&&bI S P xt xg))=true then 7 else if 12≤S.length then 1 else 0):=rfl;generalize aT S P ⟨xi,xt,xg⟩=R at*;generalize S.any (fun s=>s.i==xi)=R1 at*;generalize bI S P xt xg=R2 at*;obtain⟨s1,s2,rfl⟩:=hC.1.slice;obtain⟨p1,p2,rfl⟩:=hC.2.1.slice;obtain⟨a1,a2,rfl⟩:=hC.2.2.slice;clear hC;simp only;by_cases hr1:inB xi 1 500=true
 ·by_cases hr2:inB xt 1 9=true
  ·by_cases hr3:inB xg 0 65535=true
   ·go_enter Tryz.func82,Tryz.ntmps82;go_wp2_with (first |(go_at_call 119;refine(bY _ _ _ _).mono ?_;rintro e w' ⟨rfl,rfl⟩) |(go_at_call 120;refine(dp _ _).mono ?_;rintro e w' ⟨rfl,rfl⟩))
    obtain⟨W0,hW0⟩:∃W0,W0=(w.alloc (.cells #[.slice s1 S.length s2,.slice p1 P.length p2,.slice a1 A.length a2] 29)).alloc (.cells #[.int .i64 xi,.int .i64 xt,.int .i64 xg] 54):=⟨_,rfl⟩;have hb0:Below w.heap.size w W0:=by rw [hW0];exact((Below.refl _ _).alloc zr _).alloc (by simp) _
    have q0:W0.cell? ⟨w.heap.size,0,none⟩=some (.slice s1 S.length s2):=by rw [hW0];exact aq (aj w _ rfl _ _ _ _ rfl) _
    have q1:W0.cell? ⟨w.heap.size,1,none⟩=some (.slice p1 P.length p2):=by rw [hW0];exact aq (aj w _ rfl _ _ _ _ rfl) _
    have q2:W0.cell? ⟨w.heap.size,2,none⟩=some (.slice a1 A.length a2):=by rw [hW0];exact aq (aj w _ rfl _ _ _ _ rfl) _
    have q3:W0.cell? ⟨w.heap.size+1,0,none⟩=some (.int .i64 xi):=by rw [hW0];exact aj _ _ (by simp) _ _ _ _ rfl
    have q4:W0.cell? ⟨w.heap.size+1,1,none⟩=some (.int .i64 xt):=by rw [hW0];exact aj _ _ (by simp) _ _ _ _ rfl
    have q5:W0.cell? ⟨w.heap.size+1,2,none⟩=some (.int .i64 xg):=by rw [hW0];exact aj _ _ (by simp) _ _ _ _ rfl
    rw [←hW0];clear hW0;cases R1
    ·by_cases hg:xg=0
     ·subst hg;refine wp_region_held_drew (S:=(fun w'=>w'.cell? ⟨w.heap.size,0,none⟩=some (.slice s1 S.length s2)∧w'.cell? ⟨w.heap.size,1,none⟩=some (.slice p1 P.length p2)∧w'.cell? ⟨w.heap.size,2,none⟩=some (.slice a1 A.length a2)∧w'.cell? ⟨w.heap.size+1,0,none⟩=some (.int .i64 xi)∧w'.cell? ⟨w.heap.size+1,1,none⟩=some (.int .i64 xt)∧w'.cell? ⟨w.heap.size+1,2,none⟩=some (.int .i64 0))) (by kernel_rfl) ?hS1 (fun hHeld=>?hR1)
      case hS1=>(try dsimp only);go_keep
      refine sqA [(0,23),(1,24),(2,25)] ?_;(iterate 3 (refine sqN rfl (by kernel_rfl) (fun _ _ _ h=>h) rfl ‹_› (by intro w h;go_simp <;>with_reducible rfl) ?_;simp only [nz]));refine sqZ ?_;refine rs 3 26 (by kernel_rfl) rfl (fun K hK=>?_);go_simp;(go_at_call 122;refine(dd _ _).mono ?_;rintro e w1 ⟨bi,rfl,hbi,hb1⟩;have g1:Below W0.heap.size W0 w1:=((Below.refl _ W0).drew).trans hb1;have k1:Below w.heap.size w w1:=hb0.trans (g1.mono hb0.size);have y0:=zC q0 g1;have y1:=zC q1 g1;have y2:=zC q2 g1;have y3:=zC q3 g1;have y4:=zC q4 g1;have y5:=zC q5 g1);go_wp2_with fail
      refine hK.out _ _ ?hS5 (fun hHeld=>?hR5)
      case hS5=>(try dsimp only);go_keep
      clear hK K;(try simp only [nz]);refine rs 4 27 (by kernel_rfl) rfl (fun K hK=>?_);go_simp;(go_at_call 121;refine(ae HI _ _ k1 hbi).mono ?_;rintro e w2 ⟨rfl,hb2⟩;have g2:Below W0.heap.size W0 w2:=g1.trans (hb2.mono g1.size);have k2:Below w.heap.size w w2:=hb0.trans (g2.mono hb0.size);have z0:=zC q0 g2;have z1:=zC q1 g2;have z2:=zC q2 g2;have z3:=zC q3 g2;have z4:=zC q4 g2;have z5:=zC q5 g2);go_wp2_with fail
      refine hK.out _ _ ?hS6 (fun hHeld=>?hR6)
      case hS6=>(try dsimp only);go_keep
      clear hK K;(try simp only [nz]);refine sqA [(5,28),(6,29),(7,30),(8,31),(9,32)] ?_;(iterate 5 (refine sqN rfl (by kernel_rfl) (fun _ _ _ h=>h) rfl ‹_› (by intro w h;go_simp <;>with_reducible rfl) ?_;simp only [nz]));refine sqZ ?_;refine wpAnyH_take (i:=10) (oi:=⟨some 33,_,_,_,_,_⟩) (v:=undef) rfl (by kernel_rfl) (by kernel_rfl) (by kernel_rfl) (fun _ _ _ h=>h) (Or.inr ⟨by rfl,rfl⟩) (by assumption) ?_;(try simp only [nz]);refine wpAnyH_take (i:=11) (oi:=⟨some 34,_,_,_,_,_⟩) (v:=undef) rfl (by kernel_rfl) (by kernel_rfl) (by kernel_rfl) (fun _ _ _ h=>h) (Or.inr ⟨by rfl,rfl⟩) (by assumption) ?_;(try simp only [nz]);refine wpAnyH_take (i:=12) (oi:=⟨some 35,_,_,_,_,_⟩) (v:=undef) rfl (by kernel_rfl) (by kernel_rfl) (by kernel_rfl) (fun _ _ _ h=>h) (Or.inr ⟨by rfl,rfl⟩) (by assumption) ?_;(try simp only [nz]);refine wpAnyH_take (i:=13) (oi:=⟨some 36,_,_,_,_,_⟩) (v:=undef) rfl (by kernel_rfl) (by kernel_rfl) (by kernel_rfl) (fun _ _ _ h=>h) (Or.inr ⟨by rfl,rfl⟩) (by assumption) ?_;(try simp only [nz]);refine wpAnyH_take (i:=14) (oi:=⟨some 37,_,_,_,_,_⟩) (v:=undef) rfl (by kernel_rfl) (by kernel_rfl) (by kernel_rfl) (fun _ _ _ h=>h) (Or.inr ⟨by rfl,rfl⟩) (by assumption) ?_;(try simp only [nz]);refine rs 15 38 (by kernel_rfl) rfl (fun K hK=>?_);rw [if_neg (by rw [Bool.not_eq_true];rfl)];refine hK.out _ _ ?hS12 (fun hHeld=>?hR12)
      case hS12=>(try dsimp only);go_keep
      clear hK K;(try simp only [nz]);refine sqA [(16,39),(17,40),(18,22)] ?_;(iterate 3 (refine sqN rfl (by kernel_rfl) (fun _ _ _ h=>h) rfl ‹_› (by intro w h;go_simp <;>with_reducible rfl) ?_;simp only [nz]));refine sqZ ?_;refine wpAnyH_done (by kernel_rfl) ?_ _;clear HI HT;by_cases h12:12≤S.length
      ·have h12i:(12:Int)≤(S.length:Int):=(by omega);go_wp2_with fail
       go_ret;exact⟨ap (by rw [HR.out];simp_all),k2⟩
      ·have h12i:¬(12:Int)≤(S.length:Int):=(by omega);have h12j:(S.length:Int)<12:=(by omega);go_wp2_with fail
       go_ret;exact⟨ap (by rw [HR.out];simp_all),k2⟩
     ·have hgb:(xg != 0)=true:=(by simpa using hg);cases R2
      ·refine wp_region_held_drew (S:=(fun w'=>w'.cell? ⟨w.heap.size,0,none⟩=some (.slice s1 S.length s2)∧w'.cell? ⟨w.heap.size,1,none⟩=some (.slice p1 P.length p2)∧w'.cell? ⟨w.heap.size,2,none⟩=some (.slice a1 A.length a2)∧w'.cell? ⟨w.heap.size+1,0,none⟩=some (.int .i64 xi)∧w'.cell? ⟨w.heap.size+1,1,none⟩=some (.int .i64 xt)∧w'.cell? ⟨w.heap.size+1,2,none⟩=some (.int .i64 xg))) (by kernel_rfl) ?hS16 (fun hHeld=>?hR16)
       case hS16=>(try dsimp only);go_keep
       refine sqA [(0,23),(1,24),(2,25)] ?_;(iterate 3 (refine sqN rfl (by kernel_rfl) (fun _ _ _ h=>h) rfl ‹_› (by intro w h;go_simp <;>with_reducible rfl) ?_;simp only [nz]));refine sqZ ?_;refine rs 3 26 (by kernel_rfl) rfl (fun K hK=>?_);go_simp;(go_at_call 122;refine(dd _ _).mono ?_;rintro e w1 ⟨bi,rfl,hbi,hb1⟩;have g1:Below W0.heap.size W0 w1:=((Below.refl _ W0).drew).trans hb1;have k1:Below w.heap.size w w1:=hb0.trans (g1.mono hb0.size);have y0:=zC q0 g1;have y1:=zC q1 g1;have y2:=zC q2 g1;have y3:=zC q3 g1;have y4:=zC q4 g1;have y5:=zC q5 g1);go_wp2_with fail
       refine hK.out _ _ ?hS20 (fun hHeld=>?hR20)
       case hS20=>(try dsimp only);go_keep
       clear hK K;(try simp only [nz]);refine rs 4 27 (by kernel_rfl) rfl (fun K hK=>?_);go_simp;(go_at_call 121;refine(ae HI _ _ k1 hbi).mono ?_;rintro e w2 ⟨rfl,hb2⟩;have g2:Below W0.heap.size W0 w2:=g1.trans (hb2.mono g1.size);have k2:Below w.heap.size w w2:=hb0.trans (g2.mono hb0.size);have z0:=zC q0 g2;have z1:=zC q1 g2;have z2:=zC q2 g2;have z3:=zC q3 g2;have z4:=zC q4 g2;have z5:=zC q5 g2);go_wp2_with fail
       refine hK.out _ _ ?hS21 (fun hHeld=>?hR21)
       case hS21=>(try dsimp only);go_keep
       clear hK K;(try simp only [nz]);refine sqA [(5,28),(6,29),(7,30),(8,31),(9,32),(10,33),(11,34),(12,35),(13,36),(14,37)] ?_;(iterate 10 (refine sqN rfl (by kernel_rfl) (fun _ _ _ h=>h) rfl ‹_› (by intro w h;go_simp <;>with_reducible rfl) ?_;simp only [nz]));refine sqZ ?_;refine rs 15 38 (by kernel_rfl) rfl (fun K hK=>?_);go_simp;(go_at_call 123;refine(ae HT _ k2).mono ?_;rintro e w3 ⟨rfl,hb3⟩;have g3:Below W0.heap.size W0 w3:=g2.trans (hb3.mono g2.size);have k3:Below w.heap.size w w3:=hb0.trans (g3.mono hb0.size);have v0:=zC q0 g3;have v1:=zC q1 g3;have v2:=zC q2 g3;have v3:=zC q3 g3;have v4:=zC q4 g3;have v5:=zC q5 g3);go_wp2_with fail
       refine hK.out _ _ ?hS32 (fun hHeld=>?hR32)
       case hS32=>(try dsimp only);go_keep
       clear hK K;(try simp only [nz]);refine sqA [(16,39),(17,40),(18,22)] ?_;(iterate 3 (refine sqN rfl (by kernel_rfl) (fun _ _ _ h=>h) rfl ‹_› (by intro w h;go_simp <;>with_reducible rfl) ?_;simp only [nz]));refine sqZ ?_;refine wpAnyH_done (by kernel_rfl) ?_ _;clear HI HT;by_cases h12:12≤S.length
       ·have h12i:(12:Int)≤(S.length:Int):=(by omega);go_wp2_with fail
        go_ret;exact⟨ap (by rw [HR.out];simp_all),k3⟩
       ·have h12i:¬(12:Int)≤(S.length:Int):=(by omega);have h12j:(S.length:Int)<12:=(by omega);go_wp2_with fail
        go_ret;exact⟨ap (by rw [HR.out];simp_all),k3⟩
      ·refine wp_region_held_drew (S:=(fun w'=>w'.cell? ⟨w.heap.size,0,none⟩=some (.slice s1 S.length s2)∧w'.cell? ⟨w.heap.size,1,none⟩=some (.slice p1 P.length p2)∧w'.cell? ⟨w.heap.size,2,none⟩=some (.slice a1 A.length a2)∧w'.cell? ⟨w.heap.size+1,0,none⟩=some (.int .i64 xi)∧w'.cell? ⟨w.heap.size+1,1,none⟩=some (.int .i64 xt)∧w'.cell? ⟨w.heap.size+1,2,none⟩=some (.int .i64 xg))) (by kernel_rfl) ?hS36 (fun hHeld=>?hR36)
       case hS36=>(try dsimp only);go_keep
       refine sqA [(0,23),(1,24),(2,25)] ?_;(iterate 3 (refine sqN rfl (by kernel_rfl) (fun _ _ _ h=>h) rfl ‹_› (by intro w h;go_simp <;>with_reducible rfl) ?_;simp only [nz]));refine sqZ ?_;refine rs 3 26 (by kernel_rfl) rfl (fun K hK=>?_);go_simp;(go_at_call 122;refine(dd _ _).mono ?_;rintro e w1 ⟨bi,rfl,hbi,hb1⟩;have g1:Below W0.heap.size W0 w1:=((Below.refl _ W0).drew).trans hb1;have k1:Below w.heap.size w w1:=hb0.trans (g1.mono hb0.size);have y0:=zC q0 g1;have y1:=zC q1 g1;have y2:=zC q2 g1;have y3:=zC q3 g1;have y4:=zC q4 g1;have y5:=zC q5 g1);go_wp2_with fail
       refine hK.out _ _ ?hS40 (fun hHeld=>?hR40)
       case hS40=>(try dsimp only);go_keep
       clear hK K;(try simp only [nz]);refine rs 4 27 (by kernel_rfl) rfl (fun K hK=>?_);go_simp;(go_at_call 121;refine(ae HI _ _ k1 hbi).mono ?_;rintro e w2 ⟨rfl,hb2⟩;have g2:Below W0.heap.size W0 w2:=g1.trans (hb2.mono g1.size);have k2:Below w.heap.size w w2:=hb0.trans (g2.mono hb0.size);have z0:=zC q0 g2;have z1:=zC q1 g2;have z2:=zC q2 g2;have z3:=zC q3 g2;have z4:=zC q4 g2;have z5:=zC q5 g2);go_wp2_with fail
       refine hK.out _ _ ?hS41 (fun hHeld=>?hR41)
       case hS41=>(try dsimp only);go_keep
       clear hK K;(try simp only [nz]);refine sqA [(5,28),(6,29),(7,30),(8,31),(9,32),(10,33),(11,34),(12,35),(13,36),(14,37)] ?_;(iterate 10 (refine sqN rfl (by kernel_rfl) (fun _ _ _ h=>h) rfl ‹_› (by intro w h;go_simp <;>with_reducible rfl) ?_;simp only [nz]));refine sqZ ?_;refine rs 15 38 (by kernel_rfl) rfl (fun K hK=>?_);go_simp;(go_at_call 123;refine(ae HT _ k2).mono ?_;rintro e w3 ⟨rfl,hb3⟩;have g3:Below W0.heap.size W0 w3:=g2.trans (hb3.mono g2.size);have k3:Below w.heap.size w w3:=hb0.trans (g3.mono hb0.size);have v0:=zC q0 g3;have v1:=zC q1 g3;have v2:=zC q2 g3;have v3:=zC q3 g3;have v4:=zC q4 g3;have v5:=zC q5 g3);go_wp2_with fail
       refine hK.out _ _ ?hS52 (fun hHeld=>?hR52)
       case hS52=>(try dsimp only);go_keep
       clear hK K;(try simp only [nz]);refine sqA [(16,39),(17,40),(18,22)] ?_;(iterate 3 (refine sqN rfl (by kernel_rfl) (fun _ _ _ h=>h) rfl ‹_› (by intro w h;go_simp <;>with_reducible rfl) ?_;simp only [nz]));refine sqZ ?_;refine wpAnyH_done (by kernel_rfl) ?_ _;clear HI HT;go_wp2_with fail
       go_ret;exact⟨ap (by rw [HR.out];simp_all),k3⟩
    ·refine wp_region_held_drew (S:=(fun w'=>w'.cell? ⟨w.heap.size,0,none⟩=some (.slice s1 S.length s2)∧w'.cell? ⟨w.heap.size,1,none⟩=some (.slice p1 P.length p2)∧w'.cell? ⟨w.heap.size,2,none⟩=some (.slice a1 A.length a2)∧w'.cell? ⟨w.heap.size+1,0,none⟩=some (.int .i64 xi)∧w'.cell? ⟨w.heap.size+1,1,none⟩=some (.int .i64 xt)∧w'.cell? ⟨w.heap.size+1,2,none⟩=some (.int .i64 xg))) (by kernel_rfl) ?hS56 (fun hHeld=>?hR56)
     case hS56=>(try dsimp only);go_keep
     refine sqA [(0,23),(1,24),(2,25)] ?_;(iterate 3 (refine sqN rfl (by kernel_rfl) (fun _ _ _ h=>h) rfl ‹_› (by intro w h;go_simp <;>with_reducible rfl) ?_;simp only [nz]));refine sqZ ?_;refine rs 3 26 (by kernel_rfl) rfl (fun K hK=>?_);go_simp;(go_at_call 122;refine(dd _ _).mono ?_;rintro e w1 ⟨bi,rfl,hbi,hb1⟩;have g1:Below W0.heap.size W0 w1:=((Below.refl _ W0).drew).trans hb1;have k1:Below w.heap.size w w1:=hb0.trans (g1.mono hb0.size);have y0:=zC q0 g1;have y1:=zC q1 g1;have y2:=zC q2 g1;have y3:=zC q3 g1;have y4:=zC q4 g1;have y5:=zC q5 g1);go_wp2_with fail
     refine hK.out _ _ ?hS60 (fun hHeld=>?hR60)
     case hS60=>(try dsimp only);go_keep
     clear hK K;(try simp only [nz]);refine rs 4 27 (by kernel_rfl) rfl (fun K hK=>?_);go_simp;(go_at_call 121;refine(ae HI _ _ k1 hbi).mono ?_;rintro e w2 ⟨rfl,hb2⟩;have g2:Below W0.heap.size W0 w2:=g1.trans (hb2.mono g1.size);have k2:Below w.heap.size w w2:=hb0.trans (g2.mono hb0.size);have z0:=zC q0 g2;have z1:=zC q1 g2;have z2:=zC q2 g2;have z3:=zC q3 g2;have z4:=zC q4 g2;have z5:=zC q5 g2);go_wp2_with fail
     refine hK.out _ _ ?hS61 (fun hHeld=>?hR61)
     case hS61=>(try dsimp only);go_keep
     clear hK K;(try simp only [nz]);refine tq 5 28 rfl (by kernel_rfl) (fun _ _ _ h=>h) rfl ‹_› (by intro w h;go_simp <;>with_reducible rfl) ?_;simp only [nz];refine wpAnyH_take (i:=6) (oi:=⟨some 29,_,_,_,_,_⟩) (v:=undef) rfl (by kernel_rfl) (by kernel_rfl) (by kernel_rfl) (fun _ _ _ h=>h) (Or.inr ⟨by rfl,rfl⟩) (by assumption) ?_;(try simp only [nz]);refine wpAnyH_take (i:=7) (oi:=⟨some 30,_,_,_,_,_⟩) (v:=undef) rfl (by kernel_rfl) (by kernel_rfl) (by kernel_rfl) (fun _ _ _ h=>h) (Or.inr ⟨by rfl,rfl⟩) (by assumption) ?_;(try simp only [nz]);refine wpAnyH_take (i:=8) (oi:=⟨some 31,_,_,_,_,_⟩) (v:=undef) rfl (by kernel_rfl) (by kernel_rfl) (by kernel_rfl) (fun _ _ _ h=>h) (Or.inr ⟨by rfl,rfl⟩) (by assumption) ?_;(try simp only [nz]);refine wpAnyH_take (i:=9) (oi:=⟨some 32,_,_,_,_,_⟩) (v:=undef) rfl (by kernel_rfl) (by kernel_rfl) (by kernel_rfl) (fun _ _ _ h=>h) (Or.inr ⟨by rfl,rfl⟩) (by assumption) ?_;(try simp only [nz]);refine wpAnyH_take (i:=10) (oi:=⟨some 33,_,_,_,_,_⟩) (v:=undef) rfl (by kernel_rfl) (by kernel_rfl) (by kernel_rfl) (fun _ _ _ h=>h) (Or.inr ⟨by rfl,rfl⟩) (by assumption) ?_;(try simp only [nz]);refine wpAnyH_take (i:=11) (oi:=⟨some 34,_,_,_,_,_⟩) (v:=undef) rfl (by kernel_rfl) (by kernel_rfl) (by kernel_rfl) (fun _ _ _ h=>h) (Or.inr ⟨by rfl,rfl⟩) (by assumption) ?_;(try simp only [nz]);refine wpAnyH_take (i:=12) (oi:=⟨some 35,_,_,_,_,_⟩) (v:=undef) rfl (by kernel_rfl) (by kernel_rfl) (by kernel_rfl) (fun _ _ _ h=>h) (Or.inr ⟨by rfl,rfl⟩) (by assumption) ?_;(try simp only [nz]);refine wpAnyH_take (i:=13) (oi:=⟨some 36,_,_,_,_,_⟩) (v:=undef) rfl (by kernel_rfl) (by kernel_rfl) (by kernel_rfl) (fun _ _ _ h=>h) (Or.inr ⟨by rfl,rfl⟩) (by assumption) ?_;(try simp only [nz]);refine wpAnyH_take (i:=14) (oi:=⟨some 37,_,_,_,_,_⟩) (v:=undef) rfl (by kernel_rfl) (by kernel_rfl) (by kernel_rfl) (fun _ _ _ h=>h) (Or.inr ⟨by rfl,rfl⟩) (by assumption) ?_;(try simp only [nz]);refine rs 15 38 (by kernel_rfl) rfl (fun K hK=>?_);rw [if_neg (by rw [Bool.not_eq_true];rfl)];refine hK.out _ _ ?hS63 (fun hHeld=>?hR63)
     case hS63=>(try dsimp only);go_keep
     clear hK K;(try simp only [nz]);refine wpAnyH_take (i:=16) (oi:=⟨some 39,_,_,_,_,_⟩) (v:=undef) rfl (by kernel_rfl) (by kernel_rfl) (by kernel_rfl) (fun _ _ _ h=>h) (Or.inr ⟨by rfl,rfl⟩) (by assumption) ?_;(try simp only [nz]);refine sqA [(17,40),(18,22)] ?_;(iterate 2 (refine sqN rfl (by kernel_rfl) (fun _ _ _ h=>h) rfl ‹_› (by intro w h;go_simp <;>with_reducible rfl) ?_;simp only [nz]));refine sqZ ?_;refine wpAnyH_done (by kernel_rfl) ?_ _;clear HI HT;go_wp2_with fail
     go_ret;exact⟨ap (by rw [HR.out];simp_all),k2⟩
   ·have hr3':inB xg 0 65535=false:=(by simpa using hr3);clear hr3 HI HT;go_enter Tryz.func82,Tryz.ntmps82;go_wp2_with (first |(go_at_call 119;refine(bY _ _ _ _).mono ?_;rintro e w' ⟨rfl,rfl⟩) |(go_at_call 120;refine(dp _ _).mono ?_;rintro e w' ⟨rfl,rfl⟩))
    go_ret;exact⟨ap (by rw [HR.out];simp_all),((Below.refl _ _).alloc zr _).alloc (by simp) _⟩
  ·have hr2':inB xt 1 9=false:=(by simpa using hr2);clear hr2 HI HT;go_enter Tryz.func82,Tryz.ntmps82;go_wp2_with (first |(go_at_call 119;refine(bY _ _ _ _).mono ?_;rintro e w' ⟨rfl,rfl⟩) |(go_at_call 120;refine(dp _ _).mono ?_;rintro e w' ⟨rfl,rfl⟩))
   go_ret;exact⟨ap (by rw [HR.out];simp_all),((Below.refl _ _).alloc zr _).alloc (by simp) _⟩
 ·have hr1':inB xi 1 500=false:=(by simpa using hr1);clear hr1 HI HT;go_enter Tryz.func82,Tryz.ntmps82;go_wp2_with (first |(go_at_call 119;refine(bY _ _ _ _).mono ?_;rintro e w' ⟨rfl,rfl⟩) |(go_at_call 120;refine(dp _ _).mono ?_;rintro e w' ⟨rfl,rfl⟩))
  go_ret;exact⟨ap (by rw [HR.out];simp_all),((Below.refl _ _).alloc zr _).alloc (by simp) _⟩
def ba (S:List Sw) (P:List Pr) (x:Pr):Int:=
 if es x=false then 2 else if idx (fun s=>s.i==x.s) S<0 then 6 else if P.any (fun y=>y.i==x.i|| y.s==x.s&&y.m==x.m)=true then 7 else
 if bI S P (S.getD (idx (fun s=>s.i==x.s) S).toNat sw0).t x.p=true then 7 else if 40≤P.length then 1 else 0
theorem fF (sv pv av:Value) (S:List Sw) (P:List Pr) (A:List Ac) (x:Pr) (w:World) (hC:CfAt w sv pv av S P A) (h1:S.length*24≤140737488355328) (h2:P.length*40≤140737488355328):
  Calls Tryz.prog 83 #[.agg #[sv,pv,av],.agg #[.int .i64 x.i,.int .i64 x.s,.int .i64 x.m,.int .i64 x.p,.int .i64 x.c]] w fun e w'=>e= .returned (.int .i64 (ba S P x))∧Below w.heap.size w w':=by
 obtain⟨xi,xs,xm,xp,xc⟩:=x;have HC:=aa hC;have HB:=aa (fun W=>gT xi xs xm xp xc W);have HI:Hid (∀(W:World) (b:Nat),Below w.heap.size w W→W.cell? ⟨b,0,none⟩=some (.int .i64 xs)→Calls Tryz.prog 125 #[sv,.func (.func 149) #[] #[.pointer (some ⟨b,0,none⟩)]] W fun e w'=>e= .returned (.int .i64 (idx (fun s=>s.i==xs) S))∧Below W.heap.size W w'):=
  fun W b hW a=>kn S _ sv _ W (RowAt.below hC.1 hW zr) (nF a) h1
 have HP:Hid (∀(W:World),Below w.heap.size w W→W.cell? ⟨w.heap.size+1,0,none⟩=some (.int .i64 xi)→W.cell? ⟨w.heap.size+1,1,none⟩=some (.int .i64 xs)→W.cell? ⟨w.heap.size+1,2,none⟩=some (.int .i64 xm)→Calls Tryz.prog 126 #[.agg #[sv,pv,av],.func (.func 127) #[] #[.pointer (some ⟨w.heap.size+1,0,none⟩)]] W fun e w'=>e= .returned (.bool (P.any (fun y=>y.i==xi|| y.s==xs&&y.m==xm)))∧Below W.heap.size W w'):=
  fun W hW a b c=>iB sv pv av P _ _ W (cj hC.1) (RowAt.below hC.2.1 hW zr) (cj hC.2.2) (p8 a b c) h2
 have HT:Hid (∀(W:World) (t:Int),Below w.heap.size w W→Calls Tryz.prog 123 #[.agg #[sv,pv,av],.int .i64 t,.int .i64 xp] W fun e w'=>e= .returned (.bool (bI S P t xp))∧Below W.heap.size W w'):=fun W t hW=>iw sv pv av S P A t xp W (hC.below hW zr) h1 h2;have HR:Hid (ba S P ⟨xi,xs,xm,xp,xc⟩=if es ⟨xi,xs,xm,xp,xc⟩=false then 2 else if idx (fun s=>s.i==xs) S<0 then 6 else if P.any (fun y=>y.i==xi|| y.s==xs&&y.m==xm)=true then 7 else
  if bI S P (S.getD (idx (fun s=>s.i==xs) S).toNat sw0).t xp=true then 7 else if 40≤P.length then 1 else 0):=rfl
 have hbd:=kP (fun s:Sw=>s.i==xs) S;generalize ba S P ⟨xi,xs,xm,xp,xc⟩=R at*;generalize idx (fun s:Sw=>s.i==xs) S=I at*;generalize P.any (fun y=>y.i==xi|| y.s==xs&&y.m==xm)=R1 at*;generalize es ⟨xi,xs,xm,xp,xc⟩=R0 at*;obtain⟨s1,s2,rfl⟩:=hC.1.slice;obtain⟨p1,p2,rfl⟩:=hC.2.1.slice;obtain⟨a1,a2,rfl⟩:=hC.2.2.slice;clear hC;simp only;go_enter Tryz.func83,Tryz.ntmps83;go_wp2_with fail
 obtain⟨W0,hW0⟩:∃W0,W0=(w.alloc (.cells #[.slice s1 S.length s2,.slice p1 P.length p2,.slice a1 A.length a2] 29)).alloc (.cells #[.int .i64 xi,.int .i64 xs,.int .i64 xm,.int .i64 xp,.int .i64 xc] 56):=⟨_,rfl⟩;have hb0:Below w.heap.size w W0:=by rw [hW0];exact((Below.refl _ _).alloc zr _).alloc (by simp) _
 have d0:W0.cell? ⟨w.heap.size,0,none⟩=some (.slice s1 S.length s2):=by rw [hW0];exact aq (aj w _ rfl _ _ _ _ rfl) _
 have d1:W0.cell? ⟨w.heap.size,1,none⟩=some (.slice p1 P.length p2):=by rw [hW0];exact aq (aj w _ rfl _ _ _ _ rfl) _
 have d2:W0.cell? ⟨w.heap.size,2,none⟩=some (.slice a1 A.length a2):=by rw [hW0];exact aq (aj w _ rfl _ _ _ _ rfl) _
 have d3:W0.cell? ⟨w.heap.size+1,0,none⟩=some (.int .i64 xi):=by rw [hW0];exact aj _ _ (by simp) _ _ _ _ rfl
 have d4:W0.cell? ⟨w.heap.size+1,1,none⟩=some (.int .i64 xs):=by rw [hW0];exact aj _ _ (by simp) _ _ _ _ rfl
 have d5:W0.cell? ⟨w.heap.size+1,2,none⟩=some (.int .i64 xm):=by rw [hW0];exact aj _ _ (by simp) _ _ _ _ rfl
 have d6:W0.cell? ⟨w.heap.size+1,3,none⟩=some (.int .i64 xp):=by rw [hW0];exact aj _ _ (by simp) _ _ _ _ rfl
 have d7:W0.cell? ⟨w.heap.size+1,4,none⟩=some (.int .i64 xc):=by rw [hW0];exact aj _ _ (by simp) _ _ _ _ rfl
 rw [←hW0];clear hW0;refine(ae HB _).mono ?_;rintro e W1 ⟨rfl,hB1⟩;have q0:=zC d0 hB1;have q1:=zC d1 hB1;have q2:=zC d2 hB1;have q3:=zC d3 hB1;have q4:=zC d4 hB1;have q5:=zC d5 hB1;have q6:=zC d6 hB1;have q7:=zC d7 hB1;have hb1:=hb0.trans (hB1.mono hb0.size);clear HB hB1 hb0 d0 d1 d2 d3 d4 d5 d6 d7;cases R0
 ·clear HI HP HT;go_wp2_with fail
  go_ret;exact⟨ap (by rw [HR.out];simp),hb1⟩
 ·go_wp2_with fail
  go_region_held3 (fun w'=>w'.cell? ⟨w.heap.size,0,none⟩=some (.slice s1 S.length s2)∧w'.cell? ⟨w.heap.size,1,none⟩=some (.slice p1 P.length p2)∧w'.cell? ⟨w.heap.size,2,none⟩=some (.slice a1 A.length a2)∧w'.cell? ⟨w.heap.size+1,0,none⟩=some (.int .i64 xi)∧w'.cell? ⟨w.heap.size+1,1,none⟩=some (.int .i64 xs)∧w'.cell? ⟨w.heap.size+1,2,none⟩=some (.int .i64 xm)∧w'.cell? ⟨w.heap.size+1,3,none⟩=some (.int .i64 xp)∧w'.cell? ⟨w.heap.size+1,4,none⟩=some (.int .i64 xc)) (go_keep)
   (first |(go_at_call 122;refine(dd _ _).mono ?_;rintro e w1 ⟨bi,rfl,hbi,hc1⟩;have g1:Below W1.heap.size W1 w1:=((Below.refl _ W1).drew).trans hc1;have k1:Below w.heap.size w w1:=hb1.trans (g1.mono hb1.size);have y0:=zC q0 g1;have y1:=zC q1 g1;have y2:=zC q2 g1;have y3:=zC q3 g1;have y4:=zC q4 g1;have y5:=zC q5 g1;have y6:=zC q6 g1;have y7:=zC q7 g1) |(go_at_call 125;refine(ae HI _ _ k1 hbi).mono ?_;rintro e w2 ⟨rfl,hc2⟩;have g2:Below W1.heap.size W1 w2:=g1.trans (hc2.mono g1.size);have k2:Below w.heap.size w w2:=hb1.trans (g2.mono hb1.size);have z0:=zC q0 g2;have z1:=zC q1 g2;have z2:=zC q2 g2;have z3:=zC q3 g2;have z4:=zC q4 g2;have z5:=zC q5 g2;have z6:=zC q6 g2;have z7:=zC q7 g2))
  clear y0 y1 y2 y3 y4 y5 y6 y7 q0 q1 q2 q3 q4 q5 q6 q7 HI hbi hc1 hc2 g1 g2 k1 hb1;by_cases hI:I<0
  ·clear HP HT;go_wp2_with fail
   go_ret;exact⟨ap (by rw [HR.out];simp [hI]),k2⟩
  ·obtain⟨k,rfl⟩:∃k:Nat,I=(k:Int):=⟨I.toNat,by omega⟩;have hk:k<S.length:=(by omega);have hi1:(0:Int)≤(k:Int):=(by omega);have hi2:(k:Int)<(S.length:Int):=(by omega);go_wp2_with fail
   refine(ae HP _ k2 z3 z4 z5).mono ?_;rintro e w3 ⟨rfl,hc3⟩;have k3:=k2.trans (hc3.mono k2.size);have q0:=zC z0 hc3;have q1:=zC z1 hc3;have q2:=zC z2 hc3;have q3:=zC z3 hc3;have q4:=zC z4 hc3;have q5:=zC z5 hc3;have q6:=zC z6 hc3;have q7:=zC z7 hc3;clear HP hc3 k2 z0 z1 z2 z3 z4 z5 z6 z7;cases R1
   ·obtain⟨b,off,cap,e1,hcap,hb,u0,u1,u2⟩:=iu (RowAt.below HC.out.1 k3 zr) hk;simp only [Value.slice.injEq,true_and]at e1;obtain⟨rfl,rfl⟩:=e1;have HTT:=aa (fun W hW=>HT.out W (S.getD k sw0).t hW);have HRR:Hid (R=if bI S P (S.getD k sw0).t xp=true then 7 else if 40≤P.length then 1 else 0):=by
     show R=_;rw [HR.out,if_neg (by simp),if_neg (by omega),if_neg (by simp),Int.toNat_natCast]
    clear HR HT HC;generalize bI S P (S.getD k sw0).t xp=R2 at*;generalize (S.getD k sw0).t=xt at*;generalize (S.getD k sw0).i=xj at*;generalize (S.getD k sw0).g=xg at*;go_wp2_with fail
    go_region_held3 (fun w'=>w'.cell? ⟨w.heap.size,0,none⟩=some (.slice (some ⟨b,off,none⟩) S.length s2)∧w'.cell? ⟨w.heap.size,1,none⟩=some (.slice p1 P.length p2)∧w'.cell? ⟨w.heap.size,2,none⟩=some (.slice a1 A.length a2)∧w'.cell? ⟨w.heap.size+1,3,none⟩=some (.int .i64 xp)∧w'.cell? ⟨b,off+k*3+1,none⟩=some (.int .i64 xt)) (go_keep)
     (first |(go_at_call 123;refine(ae HTT _ k3.drew).mono ?_;rintro e w4 ⟨rfl,hc4⟩;have g4:Below w3.heap.size w3 w4:=((Below.refl _ w3).drew).trans hc4;have k4:Below w.heap.size w w4:=k3.trans (g4.mono k3.size);have v0:=zC q0 g4;have v1:=zC q1 g4;have v2:=zC q2 g4;have v3:=zC q6 g4;have v4:=zC u1 g4))
    clear HTT q0 q1 q2 q3 q4 q5 q6 q7 u0 u1 u2 k3 g4 hc4;cases R2
    ·by_cases h40:40≤P.length
     ·have h40i:(40:Int)≤(P.length:Int):=(by omega);go_wp2_with fail
      go_ret;exact⟨ap (by rw [HRR.out,if_neg (by simp),if_pos h40]),k4⟩
     ·have h40i:(P.length:Int)<40:=(by omega);go_wp2_with fail
      go_ret;exact⟨ap (by rw [HRR.out,if_neg (by simp),if_neg h40]),k4⟩
    ·go_wp2_with fail
     go_ret;exact⟨ap (by rw [HRR.out];simp),k4⟩
   ·clear HT;go_wp2_with fail
    go_ret;exact⟨ap (by rw [HR.out,if_neg (by simp),if_neg (by omega)];simp),k3⟩
end Go.Proofs.YthmblklaeeifiaaGreat
