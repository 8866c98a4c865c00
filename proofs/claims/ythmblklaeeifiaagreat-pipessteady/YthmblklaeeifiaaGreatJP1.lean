/- Texts joined: Ba, Bb, Cn, Tj, Wa, Kp, Kt, Kf. -/
import Derived.Test.YthmblklaeeifiaaGreatRows
import Derived.WalkKit
import Derived.WalkSpells
import Derived.WalkLawsBesides
import Derived.Below
import Derived.Deep.Light
import Derived.OwnWalk
import Derived.Laws.IdiomCopy
import Derived.Deep.AppendLies
import Derived.Deep.RegionHeld3
import Derived.Deep.QuietTactic
import Derived.BigQuiet
import Derived.Deep.DeepCutAuto
namespace Go.Proofs.YthmblklaeeifiaaGreat
open Go.RowKit
set_option linter.unusedVariables false
set_option maxRecDepth 100000
set_option maxHeartbeats 16000000
theorem aa {p:Prop} (h:p):Hid p:=h
theorem ae {p:Prop} (h:Hid p):p:=h
def aV (n:Int):Bool:=decide (0≤n∧n≤65535)
theorem aC {a b:Bool} (h:a=b):Ending.returned (.bool a)= .returned (.bool b):=by rw [h]
theorem ap {k:IntKind} {a b:Int} (h:a=b):Ending.returned (.int k a)= .returned (.int k b):=by rw [h]
theorem sq {W w1:World} (hb:Below W.heap.size W w1):(∀b o,b<W.heap.size→w1.cell? ⟨b,o,none⟩=W.cell? ⟨b,o,none⟩)∧(∀b o,b<W.heap.size→w1.frozen? ⟨b,o,none⟩=W.frozen? ⟨b,o,none⟩):=
 ⟨fun b o h=>hb.cell (p:=⟨b,o,none⟩) h,fun b o h=>hb.frozen (p:=⟨b,o,none⟩) h⟩
theorem aB {w:World} {B:Nat} {e:TypeId} {size:Nat} {v:Value} {n:Nat} {xs:List Value} (h:w.ownsRow B e size v n xs):∀k,v.ownBlock=some k→B≤k:=by
 intro k hk;obtain⟨_,⟨rfl,_⟩ |⟨g,cap,cur,rfl,hg,_⟩⟩:=h
 ·simp [Value.ownBlock]at hk
 ·simp [Value.ownBlock]at hk;omega
theorem aE {w:World} {B B':Nat} {e:TypeId} {size:Nat} {v:Value} {n:Nat} {xs:List Value} (h:w.ownsRow B e size v n xs) (hB:B'≤B):w.ownsRow B' e size v n xs:=by
 obtain⟨h1,h2 |⟨g,cap,cur,hv,hg,h3⟩⟩:=h
 ·exact⟨h1,.inl h2⟩
 ·exact⟨h1,.inr ⟨g,cap,cur,hv,by omega,h3⟩⟩
theorem Below.grown0 {w w':World} (h:Below w.heap.size w w'):w.grownBy w' none:=⟨h.os,h.tape,h.output,h.size,fun k hk _=>h.block k hk⟩
theorem aA {w w':World} {B e size n:Nat} {v:Value} {xs:List Value} (h:w.ownsRow B e size v n xs) (hb:Below w.heap.size w w'):w'.ownsRow B e size v n xs:=by
 refine h.kept (Below.grown0 hb) ?_;cases v.ownBlock
 ·exact .inl rfl
 ·exact .inr (by simp)
theorem am {w:World} {b o:Nat} {v:Value} (h:w.cell? ⟨b,o,none⟩=some v):b<w.heap.size:=by
 rcases Nat.lt_or_ge b w.heap.size with h' | h'
 ·exact h'
 ·simp [World.cell?,Array.getElem?_eq_none h']at h
theorem cW {w w':World} {B b o:Nat} {v:Value} (h:w.cell? ⟨b,o,none⟩=some v) (hb:Below B w w') (hB:w.heap.size≤B):w'.cell? ⟨b,o,none⟩=some v:=
 (hb.cell (p:=⟨b,o,none⟩) (Nat.lt_of_lt_of_le (am h) hB)).trans h
theorem aj (W:World) (n:Nat) (h:W.heap.size=n) (cs:Array Value) (t:TypeId) (j:Nat) (v:Value) (hv:cs[j]? =some v):(W.alloc (.cells cs t)).cell? ⟨n,j,none⟩=some v:=by
 subst h;simp [hv]
theorem aq {W:World} {b o:Nat} {v:Value} (h:W.cell? ⟨b,o,none⟩=some v) (x:Obj):(W.alloc x).cell? ⟨b,o,none⟩=some v:=cW h ((Below.refl _ _).alloc (Nat.le_refl _) _) (Nat.le_refl _)
theorem bZ (W:World) (n:Nat) (h:W.heap.size=n) (cs:Array Value) (t:TypeId) (j:Nat):(W.alloc (.cells cs t)).frozen? ⟨n,j,none⟩=false:=by
 subst h;simp
theorem mV {W:World} {b o:Nat} (hb:b<W.heap.size) (h:W.frozen? ⟨b,o,none⟩=false) (x:Obj):(W.alloc x).frozen? ⟨b,o,none⟩=false:=(((Below.refl W.heap.size W).alloc (Nat.le_refl _) x).frozen (p:=⟨b,o,none⟩) hb).trans h
theorem bS {w:World} {b:Nat} {vs:List Value} (h:∀j,j<vs.length→(w.cell? ⟨b,j,none⟩).isSome=true) {j:Nat} {v:Value} (hv:vs[j]? =some v):(w.setCells b 0 vs).cell? ⟨b,j,none⟩=some v:=by
 have hj:j<vs.length:=by
  rcases Nat.lt_or_ge j vs.length with h' | h'
  ·exact h'
  ·simp [List.getElem?_eq_none h']at hv
 have:=World.cell?_setCells_in b vs 0 w (fun k hk=>by rw [Nat.zero_add];exact h k hk) j hj;rw [Nat.zero_add]at this;rw [this];rw [List.getElem?_eq_getElem hj]at hv;exact hv
theorem bv {B b:Nat} {a:World} (hb:B≤b):∀(vs:List Value) (o:Nat) (w:World),Below B a w→Below B a (w.setCells b o vs)
 | [],_,_,h=>h
 | v::vs,o,w,h=>bv hb vs (o+1) _ (h.setCell hb v)
theorem jm (W:World) (n:Nat) (h:W.heap.size=n) (cs:Array Value) (t:TypeId) (j:Nat) (hj:j<cs.size):((W.alloc (.cells cs t)).cell? ⟨n,j,none⟩).isSome=true:=by
 rw [aj W n h cs t j cs[j] (by simp [hj])];rfl
structure Sw where
 i:Int
 t:Int
 g:Int
structure Pr where
 i:Int
 s:Int
 m:Int
 p:Int
 c:Int
structure Ac where
 s:Int
 p:Int
 n:Bool
 src:Int
 sb:Int
 dst:Int
 db:Int
 o:Int
 d:Bool
def sw0:Sw:=⟨0,0,0⟩
def pr0:Pr:=⟨0,0,0,0,0⟩
def ac0:Ac:=⟨0,0,false,0,0,0,0,0,false⟩
def swC (x:Sw):List Value:=[.int .i64 x.i,.int .i64 x.t,.int .i64 x.g]
def prC (x:Pr):List Value:=[.int .i64 x.i,.int .i64 x.s,.int .i64 x.m,.int .i64 x.p,.int .i64 x.c]
def acC (x:Ac):List Value:=[.int .i64 x.s,.int .i64 x.p,.bool x.n,.int .i64 x.src,.int .i64 x.sb,.int .i64 x.dst,.int .i64 x.db,.int .i64 x.o,.bool x.d]
def RowAt {α:Type} (C:α→List Value) (sz:Nat) (w:World) (v:Value) (l:List α):Prop:=
 ∃a cap,v= .slice a l.length cap∧(a=none→cap=0)∧(l.length=0∨∃b off,a=some ⟨b,off,none⟩∧l.length≤cap∧∀i x,l[i]? =some x→∀j u,(C x)[j]? =some u→w.cell? ⟨b,off+i*sz+j,none⟩=some u)
def cZ:=RowAt swC 3
def dC:=RowAt prC 5
def nT:=RowAt acC 9
theorem RowAt.below {α:Type} {C:α→List Value} {sz:Nat} {w w':World} {B:Nat} {v:Value} {l:List α} (h:RowAt C sz w v l) (hb:Below B w w') (hB:w.heap.size≤B):RowAt C sz w' v l:=by
 obtain⟨a,cap,hv,hn,h0 |⟨b,off,ha,hc,hL⟩⟩:=h
 ·exact⟨a,cap,hv,hn,.inl h0⟩
 ·exact⟨a,cap,hv,hn,.inr ⟨b,off,ha,hc,fun i x hx j u hu=>cW (hL i x hx j u hu) hb hB⟩⟩
theorem RowAt.slice {α:Type} {C:α→List Value} {sz:Nat} {w:World} {v:Value} {l:List α} (h:RowAt C sz w v l):∃a cap,v= .slice a l.length cap:=by
 obtain⟨a,cap,hv,_⟩:=h;exact⟨a,cap,hv⟩
theorem RowAt.nil {α:Type} (C:α→List Value) (sz:Nat) (w:World):RowAt C sz w (.slice none 0 0) []:=⟨none,0,rfl,fun _=>rfl,.inl rfl⟩
theorem RowAt.take {α:Type} {C:α→List Value} {sz:Nat} {w:World} {a:Option Addr} {n cap:Nat} {l:List α} (h:RowAt C sz w (.slice a n cap) l) (k:Nat) (hk:k<l.length):RowAt C sz w (.slice a k cap) (l.take k):=by
 obtain⟨a',cap',hv,hn,h0 |⟨b,off,ha,hc,hL⟩⟩:=h
 ·omega
 ·simp only [Value.slice.injEq]at hv;obtain⟨rfl,_,rfl⟩:=hv;refine⟨a,cap,by rw [List.length_take,Nat.min_eq_left (by omega)],hn,.inr ⟨b,off,ha,by rw [List.length_take];omega,fun i x hx=>hL i x ?_⟩⟩;rw [List.getElem?_take]at hx;split at hx
  ·exact hx
  ·simp at hx
theorem bF {α:Type} {l:List α} {k:Nat} (d:α) (hk:k<l.length):l[k]? =some (l.getD k d):=by
 simp [List.getD,List.getElem?_eq_getElem hk]
theorem iu {w:World} {v:Value} {l:List Sw} {k:Nat} (h:cZ w v l) (hk:k<l.length):∃b off cap,v= .slice (some ⟨b,off,none⟩) l.length cap∧l.length≤cap∧b<w.heap.size∧
  w.cell? ⟨b,off+k*3,none⟩=some (.int .i64 (l.getD k sw0).i)∧w.cell? ⟨b,off+k*3+1,none⟩=some (.int .i64 (l.getD k sw0).t)∧w.cell? ⟨b,off+k*3+2,none⟩=some (.int .i64 (l.getD k sw0).g):=by
 obtain⟨a,cap,hv,hn,h0 |⟨b,off,rfl,hc,hL⟩⟩:=h
 ·omega
 ·have h0:=hL k _ (bF sw0 hk) 0 _ rfl;exact⟨b,off,cap,hv,hc,am h0,h0,hL k _ (bF sw0 hk) 1 _ rfl,hL k _ (bF sw0 hk) 2 _ rfl⟩
theorem eZ {w:World} {v:Value} {l:List Pr} {k:Nat} (h:dC w v l) (hk:k<l.length):∃b off cap,v= .slice (some ⟨b,off,none⟩) l.length cap∧l.length≤cap∧b<w.heap.size∧
  w.cell? ⟨b,off+k*5,none⟩=some (.int .i64 (l.getD k pr0).i)∧w.cell? ⟨b,off+k*5+1,none⟩=some (.int .i64 (l.getD k pr0).s)∧w.cell? ⟨b,off+k*5+2,none⟩=some (.int .i64 (l.getD k pr0).m)∧w.cell? ⟨b,off+k*5+3,none⟩=some (.int .i64 (l.getD k pr0).p)∧
  w.cell? ⟨b,off+k*5+4,none⟩=some (.int .i64 (l.getD k pr0).c):=by
 obtain⟨a,cap,hv,hn,h0 |⟨b,off,rfl,hc,hL⟩⟩:=h
 ·omega
 ·have h0:=hL k _ (bF pr0 hk) 0 _ rfl;exact⟨b,off,cap,hv,hc,am h0,h0,hL k _ (bF pr0 hk) 1 _ rfl,hL k _ (bF pr0 hk) 2 _ rfl,hL k _ (bF pr0 hk) 3 _ rfl,hL k _ (bF pr0 hk) 4 _ rfl⟩
theorem qr {w:World} {v:Value} {l:List Ac} {k:Nat} (h:nT w v l) (hk:k<l.length):∃b off cap,v= .slice (some ⟨b,off,none⟩) l.length cap∧l.length≤cap∧b<w.heap.size∧
  w.cell? ⟨b,off+k*9,none⟩=some (.int .i64 (l.getD k ac0).s)∧w.cell? ⟨b,off+k*9+1,none⟩=some (.int .i64 (l.getD k ac0).p)∧w.cell? ⟨b,off+k*9+2,none⟩=some (.bool (l.getD k ac0).n)∧w.cell? ⟨b,off+k*9+3,none⟩=some (.int .i64 (l.getD k ac0).src)∧
  w.cell? ⟨b,off+k*9+4,none⟩=some (.int .i64 (l.getD k ac0).sb)∧w.cell? ⟨b,off+k*9+5,none⟩=some (.int .i64 (l.getD k ac0).dst)∧w.cell? ⟨b,off+k*9+6,none⟩=some (.int .i64 (l.getD k ac0).db)∧w.cell? ⟨b,off+k*9+7,none⟩=some (.int .i64 (l.getD k ac0).o)∧
  w.cell? ⟨b,off+k*9+8,none⟩=some (.bool (l.getD k ac0).d):=by
 obtain⟨a,cap,hv,hn,h0 |⟨b,off,rfl,hc,hL⟩⟩:=h
 ·omega
 ·have h0:=hL k _ (bF ac0 hk) 0 _ rfl;exact⟨b,off,cap,hv,hc,am h0,h0,hL k _ (bF ac0 hk) 1 _ rfl,hL k _ (bF ac0 hk) 2 _ rfl,hL k _ (bF ac0 hk) 3 _ rfl,hL k _ (bF ac0 hk) 4 _ rfl,hL k _ (bF ac0 hk) 5 _ rfl,hL k _ (bF ac0 hk) 6 _ rfl,hL k _ (bF ac0 hk) 7 _ rfl,hL k _ (bF ac0 hk) 8 _ rfl⟩
theorem bL {α:Type} {C:α→List Value} {sz:Nat} (hC:∀x,(C x).length=sz):∀l:List α,(l.flatMap C).length=l.length*sz
 | []=>by simp
 | x::r=>by
  have:=bL hC r;simp [List.flatMap_cons,hC,this,Nat.add_mul];omega
theorem kF {α:Type} {C:α→List Value} {sz:Nat} (hC:∀x,(C x).length=sz):∀(l:List α) (i:Nat) (x:α),l[i]? =some x→∀j u,(C x)[j]? =some u→(l.flatMap C)[i*sz+j]? =some u
 | [],i,x,h=>by simp at h
 | y::r,0,x,h=>fun j u hu=>by
  simp at h;subst h;have hj:j<(C y).length:=by
   rcases Nat.lt_or_ge j (C y).length with h | h
   ·exact h
   ·simp [List.getElem?_eq_none h]at hu
  rw [List.flatMap_cons,Nat.zero_mul,Nat.zero_add,List.getElem?_append_left hj];exact hu
 | y::r,i+1,x,h=>fun j u hu=>by
  have ih:=kF hC r i x (by simpa using h) j u hu;rw [List.flatMap_cons,List.getElem?_append_right (by rw [hC,Nat.add_mul];omega)];rw [hC,show(i+1)*sz+j-sz=i*sz+j by rw [Nat.add_mul];omega];exact ih
theorem k9 {α:Type} {C:α→List Value} {sz:Nat} (hC:∀x,(C x).length=sz):∀(l:List α) (k:Nat) (u:Value),(l.flatMap C)[k]? =some u→∃i x j,l[i]? =some x∧(C x)[j]? =some u∧k=i*sz+j
 | [],k,u,h=>by simp at h
 | y::r,k,u,h=>by
  rw [List.flatMap_cons]at h;by_cases hk:k<(C y).length
  ·rw [List.getElem?_append_left hk]at h;exact⟨0,y,k,rfl,h,by omega⟩
  ·rw [List.getElem?_append_right (by omega)]at h;obtain⟨i,x,j,h1,h2,h3⟩:=k9 hC r _ u h;rw [hC]at hk h3;exact⟨i+1,x,j,by simpa using h1,h2,by rw [Nat.add_mul];omega⟩
theorem dg (x:Sw):(swC x).length=3:=rfl
theorem bp (x:Pr):(prC x).length=5:=rfl
theorem bO (x:Ac):(acC x).length=9:=rfl
theorem rh (l:List Sw):∀u∈l.flatMap swC,u.oneCell'=true:=by
 intro u hu;simp only [List.mem_flatMap]at hu;obtain⟨x,_,hu⟩:=hu;simp only [swC,List.mem_cons,List.not_mem_nil,or_false]at hu;rcases hu with rfl | rfl | rfl <;>rfl
theorem nS (l:List Pr):∀u∈l.flatMap prC,u.oneCell'=true:=by
 intro u hu;simp only [List.mem_flatMap]at hu;obtain⟨x,_,hu⟩:=hu;simp only [prC,List.mem_cons,List.not_mem_nil,or_false]at hu;rcases hu with rfl | rfl | rfl | rfl | rfl <;>rfl
theorem nU (l:List Ac):∀u∈l.flatMap acC,u.oneCell'=true:=by
 intro u hu;simp only [List.mem_flatMap]at hu;obtain⟨x,_,hu⟩:=hu;simp only [acC,List.mem_cons,List.not_mem_nil,or_false]at hu;rcases hu with rfl | rfl | rfl | rfl | rfl | rfl | rfl | rfl | rfl <;>rfl
theorem eP (b o j:Nat):(⟨b,o,none⟩:Addr).add j=⟨b,o+j,none⟩:=by by_cases h:j=0 <;>simp [Addr.add,h]
theorem RowAt.news {α:Type} {C:α→List Value} {sz:Nat} (hC:∀x,(C x).length=sz) {w:World} {ad:Addr} {n cap:Nat} {l:List α} (h:RowAt C sz w (.slice (some ad) n cap) l):∀j u,(l.flatMap C)[j]? =some u→w.cell? (ad.add j)=some u:=by
 obtain⟨a,c,hv,hn,h0 |⟨b,off,ha,hc,hL⟩⟩:=h
 ·intro j u hj;rw [List.eq_nil_of_length_eq_zero h0]at hj;simp at hj
 ·simp only [Value.slice.injEq]at hv;obtain⟨h1,_,rfl⟩:=hv;rw [ha]at h1;simp at h1;subst h1;intro j u hj;obtain⟨i,x,k,hx,hu,rfl⟩:=k9 hC l j u hj;rw [eP, ←Nat.add_assoc];exact hL i x hx k u hu
theorem RowAt.of_own {α:Type} {C:α→List Value} {sz:Nat} (hC:∀x,(C x).length=sz) (hs:0<sz) {w:World} {B e:Nat} {v:Value} {l:List α} (h:w.ownsRow B e sz v l.length (l.flatMap C)):RowAt C sz w v l:=by
 by_cases h0:l.length=0
 ·obtain⟨_,⟨rfl,hn⟩ |⟨g,cap,cur,rfl,_⟩⟩:=h
  ·exact⟨none,0,by rw [h0],fun _=>rfl,.inl h0⟩
  ·exact⟨_,cap,rfl,by simp,.inl h0⟩
 ·obtain⟨g,cap,rfl,_,_⟩:=h.form (by omega);have hc:l.length≤cap:=by
   obtain⟨_,⟨h,_⟩ |⟨g',cap',cur,h,_,_,hc,_⟩⟩:=h
   ·simp at h
   ·simp only [Value.slice.injEq]at h;omega
  refine⟨_,cap,rfl,by simp,.inr ⟨g,0,rfl,hc,fun i x hx j u hu=>?_⟩⟩;have hj:j<sz:=by
   rcases Nat.lt_or_ge j (C x).length with h | h
   ·rw [hC]at h;exact h
   ·simp [List.getElem?_eq_none h]at hu
  have hi:i<l.length:=by
   rcases Nat.lt_or_ge i l.length with h | h
   ·exact h
   ·simp [List.getElem?_eq_none h]at hx
  have hlt:i*sz+j<l.length*sz:=Nat.lt_of_lt_of_le (by rw [Nat.add_mul];omega:i*sz+j<(i+1)*sz) (Nat.mul_le_mul_right _ hi);rw [Nat.zero_add];exact(h.cellAt _ hlt).trans (kF hC l i x hx j u hu)
theorem qh {w:World} {b:Nat} {x y z:Value} (t0:w.cell? ⟨b,0,none⟩=some x) (t1:w.cell? ⟨b,1,none⟩=some y) (t2:w.cell? ⟨b,2,none⟩=some z) (p q r:Value):
  (((w.setCell ⟨b,0,none⟩ p).setCell ⟨b,1,none⟩ q).setCell ⟨b,2,none⟩ r).cell? ⟨b,0,none⟩=some p∧(((w.setCell ⟨b,0,none⟩ p).setCell ⟨b,1,none⟩ q).setCell ⟨b,2,none⟩ r).cell? ⟨b,1,none⟩=some q∧(((w.setCell ⟨b,0,none⟩ p).setCell ⟨b,1,none⟩ q).setCell ⟨b,2,none⟩ r).cell? ⟨b,2,none⟩=some r:=by
 refine⟨?_,?_,?_⟩
 ·rw [World.cell?_setCell_other _ _ _ _ (by simp),World.cell?_setCell_other _ _ _ _ (by simp),World.cell?_setCell_same _ _ _ t0]
 ·rw [World.cell?_setCell_other _ _ _ _ (by simp)];exact World.cell?_setCell_same _ _ _ ((World.cell?_setCell_other _ _ _ _ (by simp)).trans t1)
 ·exact World.cell?_setCell_same _ _ _ ((World.cell?_setCell_other _ _ _ _ (by simp)).trans ((World.cell?_setCell_other _ _ _ _ (by simp)).trans t2))
def CfAt (w:World) (sv pv av:Value) (S:List Sw) (P:List Pr) (A:List Ac):Prop:=cZ w sv S∧dC w pv P∧nT w av A
theorem CfAt.below {w w':World} {B:Nat} {sv pv av:Value} {S:List Sw} {P:List Pr} {A:List Ac} (h:CfAt w sv pv av S P A) (hb:Below B w w') (hB:w.heap.size≤B):CfAt w' sv pv av S P A:=
 ⟨RowAt.below h.1 hb hB,RowAt.below h.2.1 hb hB,RowAt.below h.2.2 hb hB⟩
theorem nt:(Tryz.prog.info? 54).map (fun i=>(i.zero,i.size,i.bytes))=some (some (.agg #[.int .i64 0,.int .i64 0,.int .i64 0]),3,24):=by kernel_rfl
theorem kW:(Tryz.prog.info? 56).map (fun i=>(i.zero,i.size,i.bytes))=some (some (.agg #[.int .i64 0,.int .i64 0,.int .i64 0,.int .i64 0,.int .i64 0]),5,40):=by kernel_rfl
theorem kq:(Tryz.prog.info? 58).map (fun i=>(i.zero,i.size,i.bytes))=some (some (.agg #[.int .i64 0,.int .i64 0,.bool false,.int .i64 0,.int .i64 0,.int .i64 0,.int .i64 0,.int .i64 0,.bool false]),9,72):=by kernel_rfl
theorem aF {w:World} {B e size n:Nat} {v:Value} {xs:List Value} (h:w.ownsRow B e size v n xs):∃o c,v= .slice o n c:=by
 obtain⟨_,⟨rfl,h0⟩ |⟨g',cap',cur,rfl,_⟩⟩:=h
 ·exact⟨_,_,by rw [h0]⟩
 ·exact⟨_,_,rfl⟩
theorem bB {w:World} {B e size n:Nat} {v:Value} {xs:List Value} (h:w.ownsRow B e size v n xs) {g:Nat} (hg:v.ownBlock=some g):g<w.heap.size:=by
 obtain⟨_,⟨rfl,_⟩ |⟨g',cap',cur,rfl,hB,hb,_⟩⟩:=h
 ·simp [Value.ownBlock]at hg
 ·simp [Value.ownBlock]at hg;subst hg;rcases Nat.lt_or_ge g' w.heap.size with h' | h'
  ·exact h'
  ·simp [Array.getElem?_eq_none h']at hb
theorem hJ {w w':World} {B B' e e' size size' n n':Nat} {u v:Value} {xs ys:List Value} (h:w.ownsRow B e size u n xs) (h':w'.ownsRow B' e' size' v n' ys) (hB:w.heap.size≤B'):u.ownBlock=none∨u.ownBlock≠v.ownBlock:=by
 cases hu:u.ownBlock with
 | none=>exact .inl rfl
 | some g=>
  refine .inr fun e=>?_;have h1:=bB h hu;have h2:=aB h' g e.symm;omega
theorem dH {l:List Value} (h:l.all (fun u=>u.oneCell')=true):∀u∈l,u.oneCell'=true:=fun u hu=>List.all_eq_true.1 h u hu
section
variable {P:Program} {ops:Array Oper} {Q:Exit→Act→World→Prop} {md:Region.Mode} {S:World→Prop} {fuel:Nat} {listed:Array Bool} {a:Act} {w:World} {v:Value}
theorem tq (i d:Nat) {o:Op} {ty:TypeId} {pos:String} {af:Array Edge} {gd:Option (Nat×Bool)} (hi:ops[i]? =some ⟨some d,o,ty,pos,af,gd⟩) (hk:(Region.noSelect ops&&Region.free md ops listed i&&(Region.ready md ops listed).contains i)=true)
  (hQ:∀c a w,Q (.panic c) (a.put (some d) v) w→Q (.panic c) a w) (hw:Region.wanted ⟨some d,o,ty,pos,af,gd⟩ (yielded ops a.tmps)=true) (hS:S w) (hy:∀w,S w→(execOp a.eval ⟨some d,o,ty,pos,af,gd⟩).run P w= .ok (.value v) w)
  (h:wpAnyH P md ops Q S fuel (listed.setIfInBounds i true) (a.put (some d) v) w):wpAnyH P md ops Q S (fuel+1) listed a w:=by
 simp only [Bool.and_eq_true]at hk;exact wpAnyH_take (oi:=⟨some d,o,ty,pos,af,gd⟩) hi hk.1.1 hk.1.2 hk.2 hQ (Or.inl ⟨hw,hy⟩) hS h
theorem rd {i:Nat} {o:Oper} (hr:Region.ready md ops listed= [i]) (ho:ops[i]? =some o) (h:∀K':Act→World→Prop,Shut (∀a w,S w→(S w→wpAnyH P md ops Q S fuel (listed.setIfInBounds i true) a w)→K' a w)→if Region.wanted o (yielded ops a.tmps)=true then Oper.wp P o a w K' Q else K' (a.put o.dst undef) w):wpAnyH P md ops Q S (fuel+1) listed a w:=
 wpAnyH_ready hr (by simp) (AllReadyH.cons ho h AllReadyH.nil)
theorem rs (i d:Nat) {o:Op} {ty:TypeId} {pos:String} {af:Array Edge} {gd:Option (Nat×Bool)} (hr:Region.ready md ops listed= [i]) (ho:ops[i]? =some ⟨some d,o,ty,pos,af,gd⟩) (h:∀K':Act→World→Prop,Shut (∀a w,S w→(S w→wpAnyH P md ops Q S fuel (listed.setIfInBounds i true) a w)→K' a w)→if Region.wanted ⟨some d,o,ty,pos,af,gd⟩ (yielded ops a.tmps)=true then Oper.wp P ⟨some d,o,ty,pos,af,gd⟩ a w K' Q else K' (a.put (some d) undef) w):wpAnyH P md ops Q S (fuel+1) listed a w:=rd hr ho h
theorem rn (i:Nat) {o:Op} {ty:TypeId} {pos:String} {af:Array Edge} {gd:Option (Nat×Bool)} (hr:Region.ready md ops listed= [i]) (ho:ops[i]? =some ⟨none,o,ty,pos,af,gd⟩) (h:∀K':Act→World→Prop,Shut (∀a w,S w→(S w→wpAnyH P md ops Q S fuel (listed.setIfInBounds i true) a w)→K' a w)→if Region.wanted ⟨none,o,ty,pos,af,gd⟩ (yielded ops a.tmps)=true then Oper.wp P ⟨none,o,ty,pos,af,gd⟩ a w K' Q else K' (a.put none undef) w):wpAnyH P md ops Q S (fuel+1) listed a w:=rd hr ho h
def SqL (l:List (Nat×Nat)) (p:Prop):Prop:=p
theorem sqA (l:List (Nat×Nat)) {p:Prop} (h:SqL l p):p:=h
theorem sqZ {p:Prop} (h:p):SqL [] p:=h
theorem sqN {i d:Nat} {l:List (Nat×Nat)} {o:Op} {ty:TypeId} {pos:String} {af:Array Edge} {gd:Option (Nat×Bool)} (hi:ops[i]? =some ⟨some d,o,ty,pos,af,gd⟩) (hk:(Region.noSelect ops&&Region.free md ops listed i&&(Region.ready md ops listed).contains i)=true)
  (hQ:∀c a w,Q (.panic c) (a.put (some d) v) w→Q (.panic c) a w) (hw:Region.wanted ⟨some d,o,ty,pos,af,gd⟩ (yielded ops a.tmps)=true) (hS:S w) (hy:∀w,S w→(execOp a.eval ⟨some d,o,ty,pos,af,gd⟩).run P w= .ok (.value v) w)
  (h:SqL l (wpAnyH P md ops Q S fuel (listed.setIfInBounds i true) (a.put (some d) v) w)):SqL ((i,d)::l) (wpAnyH P md ops Q S (fuel+1) listed a w):=tq i d hi hk hQ hw hS hy h
end
theorem nz:(∀(a:Act) (d:Nat) (v:Value),a.put (some d) v={a with tmps:=a.tmps.setIfInBounds d v})∧(∀(a:Act) (v:Value),a.put none v=a)∧(∀(α:Type) (l:List α) (i:Nat) (x:α),l.toArray.setIfInBounds i x=(l.set i x).toArray)∧(∀(α:Type) (x y:α) (l:List α),(x::l).set 0 y=y::l)∧(∀(α:Type) (x y:α) (l:List α) (n:Nat),(x::l).set (n+1) y=x::l.set n y):=
 ⟨fun _ _ _=>rfl,fun _ _=>rfl,fun _ _ _ _=>by simp,fun _ _ _ _=>rfl,fun _ _ _ _ _=>rfl⟩
theorem zC {w w':World} {b o:Nat} {v:Value} (h:w.cell? ⟨b,o,none⟩=some v) (hb:Below w.heap.size w w'):w'.cell? ⟨b,o,none⟩=some v:=cW h hb (Nat.le_refl _)
theorem zO {w w':World} {B e sz n:Nat} {u:Value} {xs:List Value} (h:Hid (w.ownsRow B e sz u n xs)) (hb:Below w.heap.size w w'):Hid (w'.ownsRow B e sz u n xs):=aa (aA h.out hb)
theorem zT {a b c:World} (h:Below a.heap.size a b) (h2:Below b.heap.size b c):Below a.heap.size a c:=h.trans (h2.mono h.size)
theorem zB {V W:World} {o:Obj} (h:W=V.alloc o):Below V.heap.size V W:=by rw [h];exact(Below.refl _ _).alloc (Nat.le_refl _) _
theorem zL {V W:World} {o:Obj} {g:Nat} (h:W=V.alloc o) (hg:g=V.heap.size):g<W.heap.size:=by rw [h,hg];simp
theorem zr {n:Nat}:n≤n:=Nat.le_refl n
theorem zN1 {V W:World} {cs:Array Value} {t:TypeId} {k:Nat} {v:Value} (h:W=V.alloc (.cells cs t)) (hk:cs[k]? =some v):W.cell? ⟨V.heap.size,k,none⟩=some v:=by rw [h];exact aj V _ rfl _ _ _ _ hk
theorem zN2 {V W:World} {cs:Array Value} {t:TypeId} {k g:Nat} {v:Value} (h:W=V.alloc (.cells cs t)) (hg:g=V.heap.size) (hk:cs[k]? =some v):W.cell? ⟨g,k,none⟩=some v:=by rw [hg];exact zN1 h hk
theorem zF2 {V W:World} {cs:Array Value} {t:TypeId} {k g:Nat} (h:W=V.alloc (.cells cs t)) (hg:g=V.heap.size):W.frozen? ⟨g,k,none⟩=false:=by rw [h,hg];exact bZ V _ rfl _ _ _
theorem zW {V W:World} {cs:Array Value} {e B sz n g:Nat} (h:W=V.alloc (.cells cs e)) (hg:g=V.heap.size) (hb:B≤V.heap.size) (hn:n≤maxLen) (hs:cs.size=n*sz):Hid (W.ownsRow B e sz (.slice (some ⟨g,0,none⟩) n n) n cs.toList):=by rw [h,hg];exact aa (World.ownsRow_lit V _ n hb hn hs)
theorem zK {w w':World} {b j:Nat} {v:Value} (hb:Below w.heap.size w w') (hc:w.cell? ⟨b,j,none⟩=some v) (h:w.frozen? ⟨b,j,none⟩=false):w'.frozen? ⟨b,j,none⟩=false:=(hb.frozen (p:=⟨b,j,none⟩) (am hc)).trans h
theorem aR {w w':World}{b0 b1 b2 o0 o1 o2:Nat}{v0 v1 v2:Value}(h0:w.cell? ⟨b0,o0,none⟩=some v0)(h1:w.cell? ⟨b1,o1,none⟩=some v1)(h2:w.cell? ⟨b2,o2,none⟩=some v2)(h:Below w.heap.size w w'):w'.cell? ⟨b0,o0,none⟩=some v0∧w'.cell? ⟨b1,o1,none⟩=some v1∧w'.cell? ⟨b2,o2,none⟩=some v2:=⟨zC h0 h,zC h1 h,zC h2 h⟩
theorem oj {w w':World}{b0 b1 b2 b3 o0 o1 o2 o3:Nat}{v0 v1 v2 v3:Value}(h0:w.cell? ⟨b0,o0,none⟩=some v0)(h1:w.cell? ⟨b1,o1,none⟩=some v1)(h2:w.cell? ⟨b2,o2,none⟩=some v2)(h3:w.cell? ⟨b3,o3,none⟩=some v3)(h:Below w.heap.size w w'):w'.cell? ⟨b0,o0,none⟩=some v0∧w'.cell? ⟨b1,o1,none⟩=some v1∧w'.cell? ⟨b2,o2,none⟩=some v2∧w'.cell? ⟨b3,o3,none⟩=some v3:=⟨zC h0 h,zC h1 h,zC h2 h,zC h3 h⟩
theorem bM {w w':World}{b0 b1 b2 b3 b4 o0 o1 o2 o3 o4:Nat}{v0 v1 v2 v3 v4:Value}(h0:w.cell? ⟨b0,o0,none⟩=some v0)(h1:w.cell? ⟨b1,o1,none⟩=some v1)(h2:w.cell? ⟨b2,o2,none⟩=some v2)(h3:w.cell? ⟨b3,o3,none⟩=some v3)(h4:w.cell? ⟨b4,o4,none⟩=some v4)(h:Below w.heap.size w w'):w'.cell? ⟨b0,o0,none⟩=some v0∧w'.cell? ⟨b1,o1,none⟩=some v1∧w'.cell? ⟨b2,o2,none⟩=some v2∧w'.cell? ⟨b3,o3,none⟩=some v3∧w'.cell? ⟨b4,o4,none⟩=some v4:=⟨zC h0 h,zC h1 h,zC h2 h,zC h3 h,zC h4 h⟩
theorem dy {w w':World}{b0 b1 b2 b3 b4 b5 o0 o1 o2 o3 o4 o5:Nat}{v0 v1 v2 v3 v4 v5:Value}(h0:w.cell? ⟨b0,o0,none⟩=some v0)(h1:w.cell? ⟨b1,o1,none⟩=some v1)(h2:w.cell? ⟨b2,o2,none⟩=some v2)(h3:w.cell? ⟨b3,o3,none⟩=some v3)(h4:w.cell? ⟨b4,o4,none⟩=some v4)(h5:w.cell? ⟨b5,o5,none⟩=some v5)(h:Below w.heap.size w w'):w'.cell? ⟨b0,o0,none⟩=some v0∧w'.cell? ⟨b1,o1,none⟩=some v1∧w'.cell? ⟨b2,o2,none⟩=some v2∧w'.cell? ⟨b3,o3,none⟩=some v3∧w'.cell? ⟨b4,o4,none⟩=some v4∧w'.cell? ⟨b5,o5,none⟩=some v5:=⟨zC h0 h,zC h1 h,zC h2 h,zC h3 h,zC h4 h,zC h5 h⟩
theorem cc {w w':World}{b0 b1 b2 b3 b4 b5 b6 b7 o0 o1 o2 o3 o4 o5 o6 o7:Nat}{v0 v1 v2 v3 v4 v5 v6 v7:Value}(h0:w.cell? ⟨b0,o0,none⟩=some v0)(h1:w.cell? ⟨b1,o1,none⟩=some v1)(h2:w.cell? ⟨b2,o2,none⟩=some v2)(h3:w.cell? ⟨b3,o3,none⟩=some v3)(h4:w.cell? ⟨b4,o4,none⟩=some v4)(h5:w.cell? ⟨b5,o5,none⟩=some v5)(h6:w.cell? ⟨b6,o6,none⟩=some v6)(h7:w.cell? ⟨b7,o7,none⟩=some v7)(h:Below w.heap.size w w'):w'.cell? ⟨b0,o0,none⟩=some v0∧w'.cell? ⟨b1,o1,none⟩=some v1∧w'.cell? ⟨b2,o2,none⟩=some v2∧w'.cell? ⟨b3,o3,none⟩=some v3∧w'.cell? ⟨b4,o4,none⟩=some v4∧w'.cell? ⟨b5,o5,none⟩=some v5∧w'.cell? ⟨b6,o6,none⟩=some v6∧w'.cell? ⟨b7,o7,none⟩=some v7:=⟨zC h0 h,zC h1 h,zC h2 h,zC h3 h,zC h4 h,zC h5 h,zC h6 h,zC h7 h⟩
theorem az {w w':World}{b0 b1 b2 b3 b4 b5 b6 b7 b8 b9 b10 b11 b12 b13 o0 o1 o2 o3 o4 o5 o6 o7 o8 o9 o10 o11 o12 o13:Nat}{v0 v1 v2 v3 v4 v5 v6 v7 v8 v9 v10 v11 v12 v13:Value}(h0:w.cell? ⟨b0,o0,none⟩=some v0)(h1:w.cell? ⟨b1,o1,none⟩=some v1)(h2:w.cell? ⟨b2,o2,none⟩=some v2)(h3:w.cell? ⟨b3,o3,none⟩=some v3)(h4:w.cell? ⟨b4,o4,none⟩=some v4)(h5:w.cell? ⟨b5,o5,none⟩=some v5)(h6:w.cell? ⟨b6,o6,none⟩=some v6)(h7:w.cell? ⟨b7,o7,none⟩=some v7)(h8:w.cell? ⟨b8,o8,none⟩=some v8)(h9:w.cell? ⟨b9,o9,none⟩=some v9)(h10:w.cell? ⟨b10,o10,none⟩=some v10)(h11:w.cell? ⟨b11,o11,none⟩=some v11)(h12:w.cell? ⟨b12,o12,none⟩=some v12)(h13:w.cell? ⟨b13,o13,none⟩=some v13)(h:Below w.heap.size w w'):w'.cell? ⟨b0,o0,none⟩=some v0∧w'.cell? ⟨b1,o1,none⟩=some v1∧w'.cell? ⟨b2,o2,none⟩=some v2∧w'.cell? ⟨b3,o3,none⟩=some v3∧w'.cell? ⟨b4,o4,none⟩=some v4∧w'.cell? ⟨b5,o5,none⟩=some v5∧w'.cell? ⟨b6,o6,none⟩=some v6∧w'.cell? ⟨b7,o7,none⟩=some v7∧w'.cell? ⟨b8,o8,none⟩=some v8∧w'.cell? ⟨b9,o9,none⟩=some v9∧w'.cell? ⟨b10,o10,none⟩=some v10∧w'.cell? ⟨b11,o11,none⟩=some v11∧w'.cell? ⟨b12,o12,none⟩=some v12∧w'.cell? ⟨b13,o13,none⟩=some v13:=⟨zC h0 h,zC h1 h,zC h2 h,zC h3 h,zC h4 h,zC h5 h,zC h6 h,zC h7 h,zC h8 h,zC h9 h,zC h10 h,zC h11 h,zC h12 h,zC h13 h⟩
theorem dt {w w':World}{B0 B1 B2 e0 e1 e2 s0 s1 s2 n0 n1 n2:Nat}{u0 u1 u2:Value}{x0 x1 x2:List Value}(h0:Hid (w.ownsRow B0 e0 s0 u0 n0 x0))(h1:Hid (w.ownsRow B1 e1 s1 u1 n1 x1))(h2:Hid (w.ownsRow B2 e2 s2 u2 n2 x2))(h:Below w.heap.size w w'):Hid (w'.ownsRow B0 e0 s0 u0 n0 x0)∧Hid (w'.ownsRow B1 e1 s1 u1 n1 x1)∧Hid (w'.ownsRow B2 e2 s2 u2 n2 x2):=⟨zO h0 h,zO h1 h,zO h2 h⟩
theorem fE {w w':World}{B0 B1 B2 B3 e0 e1 e2 e3 s0 s1 s2 s3 n0 n1 n2 n3:Nat}{u0 u1 u2 u3:Value}{x0 x1 x2 x3:List Value}(h0:Hid (w.ownsRow B0 e0 s0 u0 n0 x0))(h1:Hid (w.ownsRow B1 e1 s1 u1 n1 x1))(h2:Hid (w.ownsRow B2 e2 s2 u2 n2 x2))(h3:Hid (w.ownsRow B3 e3 s3 u3 n3 x3))(h:Below w.heap.size w w'):Hid (w'.ownsRow B0 e0 s0 u0 n0 x0)∧Hid (w'.ownsRow B1 e1 s1 u1 n1 x1)∧Hid (w'.ownsRow B2 e2 s2 u2 n2 x2)∧Hid (w'.ownsRow B3 e3 s3 u3 n3 x3):=⟨zO h0 h,zO h1 h,zO h2 h,zO h3 h⟩
theorem ed {w w':World}{B0 B1 B2 B3 B4 B5 B6 B7 e0 e1 e2 e3 e4 e5 e6 e7 s0 s1 s2 s3 s4 s5 s6 s7 n0 n1 n2 n3 n4 n5 n6 n7:Nat}{u0 u1 u2 u3 u4 u5 u6 u7:Value}{x0 x1 x2 x3 x4 x5 x6 x7:List Value}(h0:Hid (w.ownsRow B0 e0 s0 u0 n0 x0))(h1:Hid (w.ownsRow B1 e1 s1 u1 n1 x1))(h2:Hid (w.ownsRow B2 e2 s2 u2 n2 x2))(h3:Hid (w.ownsRow B3 e3 s3 u3 n3 x3))(h4:Hid (w.ownsRow B4 e4 s4 u4 n4 x4))(h5:Hid (w.ownsRow B5 e5 s5 u5 n5 x5))(h6:Hid (w.ownsRow B6 e6 s6 u6 n6 x6))(h7:Hid (w.ownsRow B7 e7 s7 u7 n7 x7))(h:Below w.heap.size w w'):Hid (w'.ownsRow B0 e0 s0 u0 n0 x0)∧Hid (w'.ownsRow B1 e1 s1 u1 n1 x1)∧Hid (w'.ownsRow B2 e2 s2 u2 n2 x2)∧Hid (w'.ownsRow B3 e3 s3 u3 n3 x3)∧Hid (w'.ownsRow B4 e4 s4 u4 n4 x4)∧Hid (w'.ownsRow B5 e5 s5 u5 n5 x5)∧Hid (w'.ownsRow B6 e6 s6 u6 n6 x6)∧Hid (w'.ownsRow B7 e7 s7 u7 n7 x7):=⟨zO h0 h,zO h1 h,zO h2 h,zO h3 h,zO h4 h,zO h5 h,zO h6 h,zO h7 h⟩
theorem eV {w w':World}{B0 B1 B2 B3 B4 B5 B6 B7 B8 B9 e0 e1 e2 e3 e4 e5 e6 e7 e8 e9 s0 s1 s2 s3 s4 s5 s6 s7 s8 s9 n0 n1 n2 n3 n4 n5 n6 n7 n8 n9:Nat}{u0 u1 u2 u3 u4 u5 u6 u7 u8 u9:Value}{x0 x1 x2 x3 x4 x5 x6 x7 x8 x9:List Value}(h0:Hid (w.ownsRow B0 e0 s0 u0 n0 x0))(h1:Hid (w.ownsRow B1 e1 s1 u1 n1 x1))(h2:Hid (w.ownsRow B2 e2 s2 u2 n2 x2))(h3:Hid (w.ownsRow B3 e3 s3 u3 n3 x3))(h4:Hid (w.ownsRow B4 e4 s4 u4 n4 x4))(h5:Hid (w.ownsRow B5 e5 s5 u5 n5 x5))(h6:Hid (w.ownsRow B6 e6 s6 u6 n6 x6))(h7:Hid (w.ownsRow B7 e7 s7 u7 n7 x7))(h8:Hid (w.ownsRow B8 e8 s8 u8 n8 x8))(h9:Hid (w.ownsRow B9 e9 s9 u9 n9 x9))(h:Below w.heap.size w w'):Hid (w'.ownsRow B0 e0 s0 u0 n0 x0)∧Hid (w'.ownsRow B1 e1 s1 u1 n1 x1)∧Hid (w'.ownsRow B2 e2 s2 u2 n2 x2)∧Hid (w'.ownsRow B3 e3 s3 u3 n3 x3)∧Hid (w'.ownsRow B4 e4 s4 u4 n4 x4)∧Hid (w'.ownsRow B5 e5 s5 u5 n5 x5)∧Hid (w'.ownsRow B6 e6 s6 u6 n6 x6)∧Hid (w'.ownsRow B7 e7 s7 u7 n7 x7)∧Hid (w'.ownsRow B8 e8 s8 u8 n8 x8)∧Hid (w'.ownsRow B9 e9 s9 u9 n9 x9):=⟨zO h0 h,zO h1 h,zO h2 h,zO h3 h,zO h4 h,zO h5 h,zO h6 h,zO h7 h,zO h8 h,zO h9 h⟩
def jk (n:Int):Bool:=decide (1≤n∧n≤3)
def nM (n:Int):Bool:=decide (0≤n∧n≤255)
theorem nA (n:Int) (w:World):
  Calls Tryz.prog 60 #[.int .i64 n] w fun e w'=>e= .returned (.bool (jk n))∧w'=w:=by
 go_enter Tryz.func60,Tryz.ntmps60;go_wp2
 all_goals go_ret
 all_goals refine⟨aC ?_,rfl⟩
 all_goals (unfold jk;rw [Bool.eq_iff_iff];simp_all;try omega)
theorem mK (n:Int) (w:World):
  Calls Tryz.prog 110 #[.int .i64 n] w fun e w'=>e= .returned (.bool (aV n))∧w'=w:=by
 go_enter Tryz.func110,Tryz.ntmps110;go_wp2
 all_goals go_ret
 all_goals refine⟨aC ?_,rfl⟩
 all_goals (unfold aV;rw [Bool.eq_iff_iff];simp_all;try omega)
theorem lf (b:ByteArray):b.toList= []↔b=ByteArray.empty:=by
 rw [ByteArray.toList_eq, ←ByteArray.size_eq_zero_iff];show b.data.toList= []↔b.data.size=0;rw [←Array.length_toList,List.length_eq_zero_iff]
abbrev fr (dst src kind ips ipd ttl port:Int) (body:ByteArray):Value:=
 .agg #[.int .i64 dst,.int .i64 src,.int .i64 kind,.int .i64 ips,.int .i64 ipd,.int .i64 ttl,.int .i64 port,.string body]
def lT (ttl port:Int) (n:Nat):Bool:=decide (ttl≠0∨port≠0∨n≠0)
def eG (dst src ips ipd ttl port:Int):Bool:=aV dst&&aV src&&aV ips&&aV ipd&&aV port&&nM ttl
theorem kB (dst src kind ips ipd ttl port:Int) (body:ByteArray) (w:World):
  Calls Tryz.prog 61 #[fr dst src kind ips ipd ttl port body] w fun e w'=>e= .returned (.bool (eG dst src ips ipd ttl port))∧Below w.heap.size w w':=by
 go_enter Tryz.func61,Tryz.ntmps61;go_wp2_with (go_at_call 110;refine(mK _ _).mono ?_;rintro e w' ⟨rfl,rfl⟩)
 all_goals go_ret
 all_goals refine⟨aC ?_,(Below.refl _ _).alloc zr _⟩
 all_goals (unfold eG nM;rw [Bool.eq_iff_iff];simp_all;try omega)
theorem lE (dst src kind ips ipd ttl port:Int) (body:ByteArray) (w:World):
  Calls Tryz.prog 62 #[fr dst src kind ips ipd ttl port body] w fun e w'=>e= .returned (.bool (lT ttl port body.size))∧Below w.heap.size w w':=by
 go_enter Tryz.func62,Tryz.ntmps62;go_wp2
 all_goals go_ret
 all_goals refine⟨aC ?_,(Below.refl _ _).alloc zr _⟩
 all_goals (unfold lT;rw [Bool.eq_iff_iff];simp_all [lf])
def dV (dst src kind ips ipd ttl port:Int) (n:Nat):Int:=
 if jk kind then(if eG dst src ips ipd ttl port then(if 40<n then 1 else if kind≠3∧lT ttl port n=true then 4 else 0)else 2)else 3
theorem kf (dst src kind ips ipd ttl port:Int) (body:ByteArray) (w:World) (hb:body.size≤maxLen):
  Calls Tryz.prog 25 #[fr dst src kind ips ipd ttl port body] w fun e w'=>e= .returned (.int .i64 (dV dst src kind ips ipd ttl port body.size))∧Below w.heap.size w w':=by
 unfold maxLen at hb;go_enter Tryz.func25,Tryz.ntmps25;go_wp2_with (first |(go_at_call 60;refine(nA _ _).mono ?_;rintro e w' ⟨rfl,rfl⟩) |(go_at_call 61;refine(kB _ _ _ _ _ _ _ _ _).mono ?_;rintro e w1 ⟨rfl,hb1⟩;obtain⟨hc1,hf1⟩:=sq hb1) |(go_at_call 62;refine(lE _ _ _ _ _ _ _ _ _).mono ?_;rintro e w2 ⟨rfl,hb2⟩))
 all_goals go_ret
 all_goals refine⟨ap ?_,?_⟩
 all_goals first | exact(Below.refl _ _).alloc zr _ | exact((Below.refl _ _).alloc zr _).trans (hb1.mono (by simp)) | exact(((Below.refl _ _).alloc zr _).trans (hb1.mono (by simp))).trans (hb2.mono (by have:=hb1.size;simp at this;omega)) |(unfold dV;simp_all;try omega)
def pk (n many:Int):Int:=(if n<0 then-(n+1)else n)%many
theorem bm (n many:Int) (hm:0<many):0≤pk n many∧pk n many<many:=by
 unfold pk;exact⟨Int.emod_nonneg _ (by omega),Int.emod_lt_of_pos _ hm⟩
theorem aG (n many:Int) (w:World) (h0: -9223372036854775808≤n) (h1:n≤9223372036854775807) (hm:0<many) (hm1:many≤9223372036854775807):
  Calls Tryz.prog 6 #[.int .i64 n,.int .i64 many] w fun e w'=>e= .returned (.int .i64 (pk n many))∧w'=w:=by
 have HP:Hid (pk n many=(if n<0 then-(n+1)else n)%many):=rfl;have hne:(many==0)=false:=by simp;omega
 by_cases hn:n<0
 ·have hz:(0:Int)≤ -(n+1):=(by omega);go_enter Tryz.func6,Tryz.ntmps6;go_wp2;go_ret;exact⟨ap (by rw [HP.out,if_pos (by omega)];first | rw [Int.tmod_eq_emod_of_nonneg hz] | rw [←Int.neg_tmod,Int.tmod_eq_emod_of_nonneg hz]),rfl⟩
 ·have hz:(0:Int)≤n:=(by omega);go_enter Tryz.func6,Tryz.ntmps6;go_wp2;go_ret;exact⟨ap (by rw [HP.out,if_neg (by omega)]),rfl⟩
theorem di (a k:Int) (hk:1≤k) (h0: -9223372036854775808≤a) (h1:a≤9223372036854775807): -9223372036854775808≤a.tdiv k∧a.tdiv k≤9223372036854775807:=by
 rcases Int.le_total 0 a with h | h
 ·rw [Int.tdiv_eq_ediv_of_nonneg h];have:=Int.ediv_le_self k h;have:=Int.ediv_nonneg h (by omega:(0:Int)≤k);omega
 ·have e:a.tdiv k= -((-a).tdiv k):=by rw [Int.neg_tdiv];omega
  rw [e,Int.tdiv_eq_ediv_of_nonneg (by omega)];have:=Int.ediv_le_self k (by omega:(0:Int)≤ -a);have:=Int.ediv_nonneg (by omega:(0:Int)≤ -a) (by omega:(0:Int)≤k);omega
theorem ay (n:Int) (h0: -9223372036854775808≤n) (h1:n≤9223372036854775807):IntKind.i64.wrap n=n:=by
 simp [IntKind.wrap,IntKind.bits,IntKind.signed];split <;>omega
theorem jb {dst src kind ips ipd ttl port:Int} {n:Nat} (hd0:0≤dst) (hd1:dst≤65535) (hs0:0≤src) (hs1:src≤65535) (hk0:1≤kind) (hk1:kind≤3) (hi0:0≤ips) (hi1:ips≤65535) (hj0:0≤ipd) (hj1:ipd≤65535)
  (ht0:0≤ttl) (ht1:ttl≤255) (hp0:0≤port) (hp1:port≤65535) (hn:n≤40) (h:kind=3∨(ttl=0∧port=0∧n=0)):dV dst src kind ips ipd ttl port n=0:=by
 have hk:jk kind=true:=by unfold jk;simp;omega
 have hb:eG dst src ips ipd ttl port=true:=by unfold eG aV nM;simp;omega
 unfold dV;rw [if_pos hk,if_pos hb,if_neg (by omega)];rcases h with h |⟨h1,h2,h3⟩
 ·rw [if_neg (by omega)]
 ·have:lT ttl port n=false:=by unfold lT;simp [h1,h2,h3]
  simp [this]
theorem oY (k a b c:Int) (s:ByteArray) (w:World) (hk: -9223372036854775808≤k∧k≤9223372036854775807) (ha: -9223372036854775808≤a∧a≤9223372036854775807) (hb: -9223372036854775808≤b∧b≤9223372036854775807)
  (hc: -9223372036854775808≤c∧c≤9223372036854775807) (hs:s.size≤maxLen):
  Calls Tryz.prog 7 #[.agg #[.int .i64 k,.int .i64 a,.int .i64 b,.int .i64 c],.string s] w fun e w'=>∃dst src kind ips ipd ttl port:Int,∃body:ByteArray,e= .returned (fr dst src kind ips ipd ttl port body)∧
   dV dst src kind ips ipd ttl port body.size=0∧Below w.heap.size w w':=by
 unfold maxLen at hs;have ha3:=di a 3 (by omega) ha.1 ha.2;have hc5:=di c 5 (by omega) hc.1 hc.2;have wa3:=ay _ ha3.1 ha3.2;have wc5:=ay _ hc5.1 hc5.2;obtain⟨p10,p11⟩:=bm a 65536 (by omega);obtain⟨p20,p21⟩:=bm b 65536 (by omega);obtain⟨p30,p31⟩:=bm k 3 (by omega);obtain⟨p40,p41⟩:=bm c 65536 (by omega);obtain⟨p50,p51⟩:=bm (a.tdiv 3) 65536 (by omega);obtain⟨p60,p61⟩:=bm b 256 (by omega);obtain⟨p70,p71⟩:=bm (c.tdiv 5) 65536 (by omega);have w1p:=ay (1+pk k 3) (by omega) (by omega);obtain⟨hk0,hk1⟩:=hk;obtain⟨ha0,ha1⟩:=ha;obtain⟨hb0,hb1⟩:=hb;obtain⟨hc0,hc1⟩:=hc;go_enter Tryz.func7,Tryz.ntmps7;go_upto_region 1 with fail
 go_cut [5] (fun f wx=>f= .pointer (some ⟨w.heap.size+1+1,0,none⟩)∧
  wx=(((w.alloc (.cells #[.int .i64 k,.int .i64 a,.int .i64 b,.int .i64 c] 24)).alloc (.cells #[.int .i64 0,.int .i64 0,.int .i64 0,.int .i64 0,.int .i64 0,.int .i64 0,.int .i64 0,.string ⟨#[]⟩] 37)).alloc
   (.cells #[.int .i64 (pk a 65536),.int .i64 (pk b 65536),.int .i64 (1+pk k 3),.int .i64 (pk c 65536),.int .i64 (pk (a.tdiv 3) 65536),.int .i64 0,.int .i64 0,.string ⟨#[]⟩] 37)).drew)
 case first=>
  go_region_held3 (fun w'=>w'.cell? ⟨w.heap.size,0,none⟩=some (.int .i64 k)∧w'.cell? ⟨w.heap.size,1,none⟩=some (.int .i64 a)∧w'.cell? ⟨w.heap.size,2,none⟩=some (.int .i64 b)∧w'.cell? ⟨w.heap.size,3,none⟩=some (.int .i64 c)) (go_keep)
   (first |(go_at_call 6;refine(aG _ _ _ ?_ ?_ ?_ ?_).mono ?_;(first | omega | skip);(first | omega | skip);(first | omega | skip);(first | omega | skip);rintro e w' ⟨rfl,rfl⟩))
  all_goals (go_wp2_with fail;go_meet;exact⟨rfl,rfl⟩)
 case rest=>
  obtain⟨rfl,rfl⟩:=hcut;by_cases hq:pk k 3=2
  ·rw [hq];clear wa3 ha3 w1p;have k0:(0:Int)≤(s.size:Int):=(by omega);by_cases h40:s.size≤40
   ·have h40':((40:Int)<(s.size:Int))=False:=eq_false (by omega);go_upto_region 3 with fail
    go_region_held3 (fun w'=>w'.cell? ⟨w.heap.size,2,none⟩=some (.int .i64 b)∧w'.cell? ⟨w.heap.size,3,none⟩=some (.int .i64 c)) (go_keep)
     (first |(go_at_call 6;refine(aG _ _ _ ?_ ?_ ?_ ?_).mono ?_;(first | omega | skip);(first | omega | skip);(first | omega | skip);(first | omega | skip);rintro e w' ⟨rfl,rfl⟩))
    all_goals go_wp2
    all_goals refine bodyPost_ret (v:=fr (pk a 65536) (pk b 65536) 3 (pk c 65536) (pk (a.tdiv 3) 65536) (pk b 256) (pk (c.tdiv 5) 65536) s) ?_ rfl ⟨_,_,_,_,_,_,_,_,rfl,jb p10 (by omega) p20 (by omega) (by omega) (by omega) p40 (by omega) p50 (by omega) p60 (by omega) p70 (by omega) h40 (.inl rfl),?_⟩
    all_goals first |(simp [results,Tryz.results7,go_sem];done) | exact((((Below.refl _ _).alloc zr _).alloc (by simp) _).alloc (by simp;omega) _).drew.drew
   ·have h40':((40:Int)<(s.size:Int))=True:=eq_true (by omega);have k40:(40:Int)≤(s.size:Int):=(by omega);go_upto_region 3 with fail
    go_region_held3 (fun w'=>w'.cell? ⟨w.heap.size,2,none⟩=some (.int .i64 b)∧w'.cell? ⟨w.heap.size,3,none⟩=some (.int .i64 c)) (go_keep)
     (first |(go_at_call 6;refine(aG _ _ _ ?_ ?_ ?_ ?_).mono ?_;(first | omega | skip);(first | omega | skip);(first | omega | skip);(first | omega | skip);rintro e w' ⟨rfl,rfl⟩))
    all_goals go_wp2
    all_goals refine bodyPost_ret (v:=fr (pk a 65536) (pk b 65536) 3 (pk c 65536) (pk (a.tdiv 3) 65536) (pk b 256) (pk (c.tdiv 5) 65536) (s.extract 0 40)) ?_ rfl ⟨_,_,_,_,_,_,_,_,rfl,jb p10 (by omega) p20 (by omega) (by omega) (by omega) p40 (by omega) p50 (by omega) p60 (by omega) p70 (by omega) (by simp;omega) (.inl rfl),?_⟩
    all_goals first |(simp [results,Tryz.results7,go_sem];done) | exact((((Below.refl _ _).alloc zr _).alloc (by simp) _).alloc (by simp;omega) _).drew.drew
  ·have hq':(1+pk k 3==3)=false:=by simp;omega
   go_wp2_with fail
   refine bodyPost_ret (v:=fr (pk a 65536) (pk b 65536) (1+pk k 3) (pk c 65536) (pk (a.tdiv 3) 65536) 0 0 ⟨#[]⟩) ?_ rfl ⟨_,_,_,_,_,_,_,_,rfl,?_,?_⟩
   ·simp [results,Tryz.results7,go_sem]
   ·exact jb p10 (by omega) p20 (by omega) (by omega) (by omega) p40 (by omega) p50 (by omega) (by omega) (by omega) (by omega) (by omega) (by decide) (.inr ⟨rfl,rfl,rfl⟩)
   ·exact((((Below.refl _ _).alloc zr _).alloc (by simp) _).alloc (by simp;omega) _).drew
end Go.Proofs.YthmblklaeeifiaaGreat
