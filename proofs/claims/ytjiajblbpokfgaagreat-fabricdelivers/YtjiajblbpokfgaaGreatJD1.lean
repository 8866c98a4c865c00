/- Texts joined: Ba, Bb, Cn, Tj, Ci, Cc, Ri, Cy, Ro, Wa, Mk, Fl, Fd, Pm, Pk, Rn, Na, Zm, Pd, Nb, Ct, Ck, Cp, Ca, Cm, Mf, Mb, Qm, Nc, Nd, Qn. -/
import Derived.Test.YtjiajblbpokfgaaGreatRows
import Derived.WalkKit
import Derived.WalkSpells
import Derived.WalkLawsBesides
import Derived.Below
import Derived.Deep.Light
import Derived.OwnWalk
import Derived.Laws.IdiomCopy
import Derived.Deep.AppendLies
import Derived.Deep.RegionHeld3
import Derived.Deep.QuietTactic
import Derived.BigQuiet
import Derived.Laws.AppendOwnNone
import Derived.Maps.AppendAt
import GoSem.Claim
import Derived.Laws.BytesArg
import Derived.Laws.BitsLemmas
namespace Go.Proofs.YtjiajblbpokfgaaGreat
open Go.RowKit
set_option linter.unusedVariables false
set_option maxRecDepth 100000
set_option maxHeartbeats 16000000
theorem aa {p:Prop} (h:p):Hid p:=h
theorem ag {p:Prop} (h:Hid p):p:=h
def ap (n:Int):Bool:=decide (0≤n∧n≤65535)
theorem aq {a b:Bool} (h:a=b):Ending.returned (.bool a)= .returned (.bool b):=by rw [h]
theorem ah {k:IntKind} {a b:Int} (h:a=b):Ending.returned (.int k a)= .returned (.int k b):=by rw [h]
theorem BC {W w1:World} (hb:Below W.heap.size W w1):(∀b o,b<W.heap.size→w1.cell? ⟨b,o,none⟩=W.cell? ⟨b,o,none⟩)∧(∀b o,b<W.heap.size→w1.frozen? ⟨b,o,none⟩=W.frozen? ⟨b,o,none⟩):=
 ⟨fun b o h=>hb.cell (p:=⟨b,o,none⟩) h,fun b o h=>hb.frozen (p:=⟨b,o,none⟩) h⟩
theorem aS {w:World} {B:Nat} {e:TypeId} {size:Nat} {v:Value} {n:Nat} {xs:List Value} (h:w.ownsRow B e size v n xs):∀k,v.ownBlock=some k→B≤k:=by
 intro k hk;obtain⟨_,⟨rfl,_⟩ |⟨g,cap,cur,rfl,hg,_⟩⟩:=h
 ·simp [Value.ownBlock]at hk
 ·simp [Value.ownBlock]at hk;omega
theorem eJ {B:Nat} {W w1:World} (hb:Below B W w1):(∀b o,b<B→w1.cell? ⟨b,o,none⟩=W.cell? ⟨b,o,none⟩)∧(∀b o,b<B→w1.frozen? ⟨b,o,none⟩=W.frozen? ⟨b,o,none⟩):=
 ⟨fun b o h=>hb.cell (p:=⟨b,o,none⟩) h,fun b o h=>hb.frozen (p:=⟨b,o,none⟩) h⟩
theorem aA {w:World} {B B':Nat} {e:TypeId} {size:Nat} {v:Value} {n:Nat} {xs:List Value} (h:w.ownsRow B e size v n xs) (hB:B'≤B):w.ownsRow B' e size v n xs:=by
 obtain⟨h1,h2 |⟨g,cap,cur,hv,hg,h3⟩⟩:=h
 ·exact⟨h1,.inl h2⟩
 ·exact⟨h1,.inr ⟨g,cap,cur,hv,by omega,h3⟩⟩
theorem Below.grown0 {w w':World} (h:Below w.heap.size w w'):w.grownBy w' none:=⟨h.os,h.tape,h.output,h.size,fun k hk _=>h.block k hk⟩
theorem ar {w w':World} {B e size n:Nat} {v:Value} {xs:List Value} (h:w.ownsRow B e size v n xs) (hb:Below w.heap.size w w'):w'.ownsRow B e size v n xs:=by
 refine h.kept (Below.grown0 hb) ?_;cases v.ownBlock
 ·exact .inl rfl
 ·exact .inr (by simp)
theorem am {w:World} {b o:Nat} {v:Value} (h:w.cell? ⟨b,o,none⟩=some v):b<w.heap.size:=by
 rcases Nat.lt_or_ge b w.heap.size with h' | h'
 ·exact h'
 ·simp [World.cell?,Array.getElem?_eq_none h']at h
theorem dp {w w':World} {B b o:Nat} {v:Value} (h:w.cell? ⟨b,o,none⟩=some v) (hb:Below B w w') (hB:w.heap.size≤B):w'.cell? ⟨b,o,none⟩=some v:=
 (hb.cell (p:=⟨b,o,none⟩) (Nat.lt_of_lt_of_le (am h) hB)).trans h
theorem aj (W:World) (n:Nat) (h:W.heap.size=n) (cs:Array Value) (t:TypeId) (j:Nat) (v:Value) (hv:cs[j]? =some v):(W.alloc (.cells cs t)).cell? ⟨n,j,none⟩=some v:=by
 subst h;simp [hv]
theorem au {W:World} {b o:Nat} {v:Value} (h:W.cell? ⟨b,o,none⟩=some v) (x:Obj):(W.alloc x).cell? ⟨b,o,none⟩=some v:=dp h ((Below.refl _ _).alloc (Nat.le_refl _) _) (Nat.le_refl _)
theorem fy (W:World) (n:Nat) (h:W.heap.size=n) (cs:Array Value) (t:TypeId) (j:Nat):(W.alloc (.cells cs t)).frozen? ⟨n,j,none⟩=false:=by
 subst h;simp
theorem tM {W:World} {b o:Nat} (hb:b<W.heap.size) (h:W.frozen? ⟨b,o,none⟩=false) (x:Obj):(W.alloc x).frozen? ⟨b,o,none⟩=false:=(((Below.refl W.heap.size W).alloc (Nat.le_refl _) x).frozen (p:=⟨b,o,none⟩) hb).trans h
theorem cz {w:World} {b:Nat} {vs:List Value} (h:∀j,j<vs.length→(w.cell? ⟨b,j,none⟩).isSome=true) {j:Nat} {v:Value} (hv:vs[j]? =some v):(w.setCells b 0 vs).cell? ⟨b,j,none⟩=some v:=by
 have hj:j<vs.length:=by
  rcases Nat.lt_or_ge j vs.length with h' | h'
  ·exact h'
  ·simp [List.getElem?_eq_none h']at hv
 have:=World.cell?_setCells_in b vs 0 w (fun k hk=>by rw [Nat.zero_add];exact h k hk) j hj;rw [Nat.zero_add]at this;rw [this];rw [List.getElem?_eq_getElem hj]at hv;exact hv
theorem jz {B b:Nat} {a:World} (hb:B≤b):∀(vs:List Value) (o:Nat) (w:World),Below B a w→Below B a (w.setCells b o vs)
 | [],_,_,h=>h
 | v::vs,o,w,h=>jz hb vs (o+1) _ (h.setCell hb v)
structure Sw where
 i:Int
 t:Int
 g:Int
structure Pr where
 i:Int
 s:Int
 m:Int
 p:Int
 c:Int
structure Ac where
 s:Int
 p:Int
 n:Bool
 src:Int
 sb:Int
 dst:Int
 db:Int
 o:Int
 d:Bool
def sw0:Sw:=⟨0,0,0⟩
def pr0:Pr:=⟨0,0,0,0,0⟩
def ac0:Ac:=⟨0,0,false,0,0,0,0,0,false⟩
def swC (x:Sw):List Value:=[.int .i64 x.i,.int .i64 x.t,.int .i64 x.g]
def prC (x:Pr):List Value:=[.int .i64 x.i,.int .i64 x.s,.int .i64 x.m,.int .i64 x.p,.int .i64 x.c]
def acC (x:Ac):List Value:=[.int .i64 x.s,.int .i64 x.p,.bool x.n,.int .i64 x.src,.int .i64 x.sb,.int .i64 x.dst,.int .i64 x.db,.int .i64 x.o,.bool x.d]
def RowAt {α:Type} (C:α→List Value) (sz:Nat) (w:World) (v:Value) (l:List α):Prop:=
 ∃a cap,v= .slice a l.length cap∧(a=none→cap=0)∧(l.length=0∨∃b off,a=some ⟨b,off,none⟩∧l.length≤cap∧∀i x,l[i]? =some x→∀j u,(C x)[j]? =some u→w.cell? ⟨b,off+i*sz+j,none⟩=some u)
def ev:=RowAt swC 3
def ft:=RowAt prC 5
def xZ:=RowAt acC 9
theorem RowAt.below {α:Type} {C:α→List Value} {sz:Nat} {w w':World} {B:Nat} {v:Value} {l:List α} (h:RowAt C sz w v l) (hb:Below B w w') (hB:w.heap.size≤B):RowAt C sz w' v l:=by
 obtain⟨a,cap,hv,hn,h0 |⟨b,off,ha,hc,hL⟩⟩:=h
 ·exact⟨a,cap,hv,hn,.inl h0⟩
 ·exact⟨a,cap,hv,hn,.inr ⟨b,off,ha,hc,fun i x hx j u hu=>dp (hL i x hx j u hu) hb hB⟩⟩
theorem RowAt.slice {α:Type} {C:α→List Value} {sz:Nat} {w:World} {v:Value} {l:List α} (h:RowAt C sz w v l):∃a cap,v= .slice a l.length cap:=by
 obtain⟨a,cap,hv,_⟩:=h;exact⟨a,cap,hv⟩
theorem RowAt.nil {α:Type} (C:α→List Value) (sz:Nat) (w:World):RowAt C sz w (.slice none 0 0) []:=⟨none,0,rfl,fun _=>rfl,.inl rfl⟩
theorem RowAt.take {α:Type} {C:α→List Value} {sz:Nat} {w:World} {a:Option Addr} {n cap:Nat} {l:List α} (h:RowAt C sz w (.slice a n cap) l) (k:Nat) (hk:k<l.length):RowAt C sz w (.slice a k cap) (l.take k):=by
 obtain⟨a',cap',hv,hn,h0 |⟨b,off,ha,hc,hL⟩⟩:=h
 ·omega
 ·simp only [Value.slice.injEq]at hv;obtain⟨rfl,_,rfl⟩:=hv;refine⟨a,cap,by rw [List.length_take,Nat.min_eq_left (by omega)],hn,.inr ⟨b,off,ha,by rw [List.length_take];omega,fun i x hx=>hL i x ?_⟩⟩;rw [List.getElem?_take]at hx;split at hx
  ·exact hx
  ·simp at hx
theorem co {α:Type} {l:List α} {k:Nat} (d:α) (hk:k<l.length):l[k]? =some (l.getD k d):=by
 simp [List.getD,List.getElem?_eq_getElem hk]
theorem ig {w:World} {v:Value} {l:List Sw} {k:Nat} (h:ev w v l) (hk:k<l.length):∃b off cap,v= .slice (some ⟨b,off,none⟩) l.length cap∧l.length≤cap∧b<w.heap.size∧
  w.cell? ⟨b,off+k*3,none⟩=some (.int .i64 (l.getD k sw0).i)∧w.cell? ⟨b,off+k*3+1,none⟩=some (.int .i64 (l.getD k sw0).t)∧w.cell? ⟨b,off+k*3+2,none⟩=some (.int .i64 (l.getD k sw0).g):=by
 obtain⟨a,cap,hv,hn,h0 |⟨b,off,rfl,hc,hL⟩⟩:=h
 ·omega
 ·have h0:=hL k _ (co sw0 hk) 0 _ rfl;exact⟨b,off,cap,hv,hc,am h0,h0,hL k _ (co sw0 hk) 1 _ rfl,hL k _ (co sw0 hk) 2 _ rfl⟩
theorem eO {w:World} {v:Value} {l:List Pr} {k:Nat} (h:ft w v l) (hk:k<l.length):∃b off cap,v= .slice (some ⟨b,off,none⟩) l.length cap∧l.length≤cap∧b<w.heap.size∧
  w.cell? ⟨b,off+k*5,none⟩=some (.int .i64 (l.getD k pr0).i)∧w.cell? ⟨b,off+k*5+1,none⟩=some (.int .i64 (l.getD k pr0).s)∧w.cell? ⟨b,off+k*5+2,none⟩=some (.int .i64 (l.getD k pr0).m)∧w.cell? ⟨b,off+k*5+3,none⟩=some (.int .i64 (l.getD k pr0).p)∧
  w.cell? ⟨b,off+k*5+4,none⟩=some (.int .i64 (l.getD k pr0).c):=by
 obtain⟨a,cap,hv,hn,h0 |⟨b,off,rfl,hc,hL⟩⟩:=h
 ·omega
 ·have h0:=hL k _ (co pr0 hk) 0 _ rfl;exact⟨b,off,cap,hv,hc,am h0,h0,hL k _ (co pr0 hk) 1 _ rfl,hL k _ (co pr0 hk) 2 _ rfl,hL k _ (co pr0 hk) 3 _ rfl,hL k _ (co pr0 hk) 4 _ rfl⟩
theorem tW {w:World} {v:Value} {l:List Ac} {k:Nat} (h:xZ w v l) (hk:k<l.length):∃b off cap,v= .slice (some ⟨b,off,none⟩) l.length cap∧l.length≤cap∧b<w.heap.size∧
  w.cell? ⟨b,off+k*9,none⟩=some (.int .i64 (l.getD k ac0).s)∧w.cell? ⟨b,off+k*9+1,none⟩=some (.int .i64 (l.getD k ac0).p)∧w.cell? ⟨b,off+k*9+2,none⟩=some (.bool (l.getD k ac0).n)∧w.cell? ⟨b,off+k*9+3,none⟩=some (.int .i64 (l.getD k ac0).src)∧
  w.cell? ⟨b,off+k*9+4,none⟩=some (.int .i64 (l.getD k ac0).sb)∧w.cell? ⟨b,off+k*9+5,none⟩=some (.int .i64 (l.getD k ac0).dst)∧w.cell? ⟨b,off+k*9+6,none⟩=some (.int .i64 (l.getD k ac0).db)∧w.cell? ⟨b,off+k*9+7,none⟩=some (.int .i64 (l.getD k ac0).o)∧
  w.cell? ⟨b,off+k*9+8,none⟩=some (.bool (l.getD k ac0).d):=by
 obtain⟨a,cap,hv,hn,h0 |⟨b,off,rfl,hc,hL⟩⟩:=h
 ·omega
 ·have h0:=hL k _ (co ac0 hk) 0 _ rfl;exact⟨b,off,cap,hv,hc,am h0,h0,hL k _ (co ac0 hk) 1 _ rfl,hL k _ (co ac0 hk) 2 _ rfl,hL k _ (co ac0 hk) 3 _ rfl,hL k _ (co ac0 hk) 4 _ rfl,hL k _ (co ac0 hk) 5 _ rfl,hL k _ (co ac0 hk) 6 _ rfl,hL k _ (co ac0 hk) 7 _ rfl,hL k _ (co ac0 hk) 8 _ rfl⟩
theorem mz {α:Type} {C:α→List Value} {sz:Nat} (hC:∀x,(C x).length=sz):∀l:List α,(l.flatMap C).length=l.length*sz
 | []=>by simp
 | x::r=>by
  have:=mz hC r;simp [List.flatMap_cons,hC,this,Nat.add_mul];omega
theorem ui {α:Type} {C:α→List Value} {sz:Nat} (hC:∀x,(C x).length=sz):∀(l:List α) (i:Nat) (x:α),l[i]? =some x→∀j u,(C x)[j]? =some u→(l.flatMap C)[i*sz+j]? =some u
 | [],i,x,h=>by simp at h
 | y::r,0,x,h=>fun j u hu=>by
  simp at h;subst h;have hj:j<(C y).length:=by
   rcases Nat.lt_or_ge j (C y).length with h | h
   ·exact h
   ·simp [List.getElem?_eq_none h]at hu
  rw [List.flatMap_cons,Nat.zero_mul,Nat.zero_add,List.getElem?_append_left hj];exact hu
 | y::r,i+1,x,h=>fun j u hu=>by
  have ih:=ui hC r i x (by simpa using h) j u hu;rw [List.flatMap_cons,List.getElem?_append_right (by rw [hC,Nat.add_mul];omega)];rw [hC,show(i+1)*sz+j-sz=i*sz+j by rw [Nat.add_mul];omega];exact ih
theorem qF {α:Type} {C:α→List Value} {sz:Nat} (hC:∀x,(C x).length=sz):∀(l:List α) (k:Nat) (u:Value),(l.flatMap C)[k]? =some u→∃i x j,l[i]? =some x∧(C x)[j]? =some u∧k=i*sz+j
 | [],k,u,h=>by simp at h
 | y::r,k,u,h=>by
  rw [List.flatMap_cons]at h;by_cases hk:k<(C y).length
  ·rw [List.getElem?_append_left hk]at h;exact⟨0,y,k,rfl,h,by omega⟩
  ·rw [List.getElem?_append_right (by omega)]at h;obtain⟨i,x,j,h1,h2,h3⟩:=qF hC r _ u h;rw [hC]at hk h3;exact⟨i+1,x,j,by simpa using h1,h2,by rw [Nat.add_mul];omega⟩
theorem jX (x:Sw):(swC x).length=3:=rfl
theorem et (x:Pr):(prC x).length=5:=rfl
theorem iJ (x:Ac):(acC x).length=9:=rfl
theorem jy (b o j:Nat):(⟨b,o,none⟩:Addr).add j=⟨b,o+j,none⟩:=by by_cases h:j=0 <;>simp [Addr.add,h]
theorem RowAt.news {α:Type} {C:α→List Value} {sz:Nat} (hC:∀x,(C x).length=sz) {w:World} {ad:Addr} {n cap:Nat} {l:List α} (h:RowAt C sz w (.slice (some ad) n cap) l):∀j u,(l.flatMap C)[j]? =some u→w.cell? (ad.add j)=some u:=by
 obtain⟨a,c,hv,hn,h0 |⟨b,off,ha,hc,hL⟩⟩:=h
 ·intro j u hj;rw [List.eq_nil_of_length_eq_zero h0]at hj;simp at hj
 ·simp only [Value.slice.injEq]at hv;obtain⟨h1,_,rfl⟩:=hv;rw [ha]at h1;simp at h1;subst h1;intro j u hj;obtain⟨i,x,k,hx,hu,rfl⟩:=qF hC l j u hj;rw [jy, ←Nat.add_assoc];exact hL i x hx k u hu
theorem RowAt.of_own {α:Type} {C:α→List Value} {sz:Nat} (hC:∀x,(C x).length=sz) (hs:0<sz) {w:World} {B e:Nat} {v:Value} {l:List α} (h:w.ownsRow B e sz v l.length (l.flatMap C)):RowAt C sz w v l:=by
 by_cases h0:l.length=0
 ·obtain⟨_,⟨rfl,hn⟩ |⟨g,cap,cur,rfl,_⟩⟩:=h
  ·exact⟨none,0,by rw [h0],fun _=>rfl,.inl h0⟩
  ·exact⟨_,cap,rfl,by simp,.inl h0⟩
 ·obtain⟨g,cap,rfl,_,_⟩:=h.form (by omega);have hc:l.length≤cap:=by
   obtain⟨_,⟨h,_⟩ |⟨g',cap',cur,h,_,_,hc,_⟩⟩:=h
   ·simp at h
   ·simp only [Value.slice.injEq]at h;omega
  refine⟨_,cap,rfl,by simp,.inr ⟨g,0,rfl,hc,fun i x hx j u hu=>?_⟩⟩;have hj:j<sz:=by
   rcases Nat.lt_or_ge j (C x).length with h | h
   ·rw [hC]at h;exact h
   ·simp [List.getElem?_eq_none h]at hu
  have hi:i<l.length:=by
   rcases Nat.lt_or_ge i l.length with h | h
   ·exact h
   ·simp [List.getElem?_eq_none h]at hx
  have hlt:i*sz+j<l.length*sz:=Nat.lt_of_lt_of_le (by rw [Nat.add_mul];omega:i*sz+j<(i+1)*sz) (Nat.mul_le_mul_right _ hi);rw [Nat.zero_add];exact(h.cellAt _ hlt).trans (ui hC l i x hx j u hu)
theorem AP {w:World} {b:Nat} {x y z:Value} (t0:w.cell? ⟨b,0,none⟩=some x) (t1:w.cell? ⟨b,1,none⟩=some y) (t2:w.cell? ⟨b,2,none⟩=some z) (p q r:Value):
  (((w.setCell ⟨b,0,none⟩ p).setCell ⟨b,1,none⟩ q).setCell ⟨b,2,none⟩ r).cell? ⟨b,0,none⟩=some p∧(((w.setCell ⟨b,0,none⟩ p).setCell ⟨b,1,none⟩ q).setCell ⟨b,2,none⟩ r).cell? ⟨b,1,none⟩=some q∧(((w.setCell ⟨b,0,none⟩ p).setCell ⟨b,1,none⟩ q).setCell ⟨b,2,none⟩ r).cell? ⟨b,2,none⟩=some r:=by
 refine⟨?_,?_,?_⟩
 ·rw [World.cell?_setCell_other _ _ _ _ (by simp),World.cell?_setCell_other _ _ _ _ (by simp),World.cell?_setCell_same _ _ _ t0]
 ·rw [World.cell?_setCell_other _ _ _ _ (by simp)];exact World.cell?_setCell_same _ _ _ ((World.cell?_setCell_other _ _ _ _ (by simp)).trans t1)
 ·exact World.cell?_setCell_same _ _ _ ((World.cell?_setCell_other _ _ _ _ (by simp)).trans ((World.cell?_setCell_other _ _ _ _ (by simp)).trans t2))
def CfAt (w:World) (sv pv av:Value) (S:List Sw) (P:List Pr) (A:List Ac):Prop:=ev w sv S∧ft w pv P∧xZ w av A
theorem CfAt.below {w w':World} {B:Nat} {sv pv av:Value} {S:List Sw} {P:List Pr} {A:List Ac} (h:CfAt w sv pv av S P A) (hb:Below B w w') (hB:w.heap.size≤B):CfAt w' sv pv av S P A:=
 ⟨RowAt.below h.1 hb hB,RowAt.below h.2.1 hb hB,RowAt.below h.2.2 hb hB⟩
theorem wO:(Tryz.prog.info? 60).map (fun i=>(i.zero,i.size,i.bytes))=some (some (.agg #[.int .i64 0,.int .i64 0,.int .i64 0]),3,24):=by kernel_rfl
theorem xK:(Tryz.prog.info? 51).map (fun i=>(i.zero,i.size,i.bytes))=some (some (.agg #[.int .i64 0,.int .i64 0,.int .i64 0,.int .i64 0,.int .i64 0]),5,40):=by kernel_rfl
theorem yw:(Tryz.prog.info? 62).map (fun i=>(i.zero,i.size,i.bytes))=some (some (.agg #[.int .i64 0,.int .i64 0,.bool false,.int .i64 0,.int .i64 0,.int .i64 0,.int .i64 0,.int .i64 0,.bool false]),9,72):=by kernel_rfl
theorem az {w:World} {B e size n:Nat} {v:Value} {xs:List Value} (h:w.ownsRow B e size v n xs):∃o c,v= .slice o n c:=by
 obtain⟨_,⟨rfl,h0⟩ |⟨g',cap',cur,rfl,_⟩⟩:=h
 ·exact⟨_,_,by rw [h0]⟩
 ·exact⟨_,_,rfl⟩
theorem dD {w:World} {B e size n:Nat} {v:Value} {xs:List Value} (h:w.ownsRow B e size v n xs) {g:Nat} (hg:v.ownBlock=some g):g<w.heap.size:=by
 obtain⟨_,⟨rfl,_⟩ |⟨g',cap',cur,rfl,hB,hb,_⟩⟩:=h
 ·simp [Value.ownBlock]at hg
 ·simp [Value.ownBlock]at hg;subst hg;rcases Nat.lt_or_ge g' w.heap.size with h' | h'
  ·exact h'
  ·simp [Array.getElem?_eq_none h']at hb
theorem ku {α:Type} {C:α→List Value} (d:α) {l:List α} {k:Nat} (h:k<l.length):(l.take k).flatMap C++C (l.getD k d)=(l.take (k+1)).flatMap C:=by
 rw [List.take_succ_eq_append_getElem h,List.flatMap_append];simp [List.getD,List.getElem?_eq_getElem h]
theorem du {l:List Value} (h:l.all (fun u=>u.oneCell')=true):∀u∈l,u.oneCell'=true:=fun u hu=>List.all_eq_true.1 h u hu
section
variable {P:Program} {ops:Array Oper} {Q:Exit→Act→World→Prop} {md:Region.Mode} {S:World→Prop} {fuel:Nat} {listed:Array Bool} {a:Act} {w:World} {v:Value}
theorem tq (i d:Nat) {o:Op} {ty:TypeId} {pos:String} {af:Array Edge} {gd:Option (Nat×Bool)} (hi:ops[i]? =some ⟨some d,o,ty,pos,af,gd⟩) (hk:(Region.noSelect ops&&Region.free md ops listed i&&(Region.ready md ops listed).contains i)=true)
  (hQ:∀c a w,Q (.panic c) (a.put (some d) v) w→Q (.panic c) a w) (hw:Region.wanted ⟨some d,o,ty,pos,af,gd⟩ (yielded ops a.tmps)=true) (hS:S w) (hy:∀w,S w→(execOp a.eval ⟨some d,o,ty,pos,af,gd⟩).run P w= .ok (.value v) w)
  (h:wpAnyH P md ops Q S fuel (listed.setIfInBounds i true) (a.put (some d) v) w):wpAnyH P md ops Q S (fuel+1) listed a w:=by
 simp only [Bool.and_eq_true]at hk;exact wpAnyH_take (oi:=⟨some d,o,ty,pos,af,gd⟩) hi hk.1.1 hk.1.2 hk.2 hQ (Or.inl ⟨hw,hy⟩) hS h
theorem rd {i:Nat} {o:Oper} (hr:Region.ready md ops listed= [i]) (ho:ops[i]? =some o) (h:∀K':Act→World→Prop,Shut (∀a w,S w→(S w→wpAnyH P md ops Q S fuel (listed.setIfInBounds i true) a w)→K' a w)→if Region.wanted o (yielded ops a.tmps)=true then Oper.wp P o a w K' Q else K' (a.put o.dst undef) w):wpAnyH P md ops Q S (fuel+1) listed a w:=
 wpAnyH_ready hr (by simp) (AllReadyH.cons ho h AllReadyH.nil)
theorem rsq (i d:Nat) {o:Op} {ty:TypeId} {pos:String} {af:Array Edge} {gd:Option (Nat×Bool)} (hr:Region.ready md ops listed= [i]) (ho:ops[i]? =some ⟨some d,o,ty,pos,af,gd⟩) (h:∀K':Act→World→Prop,Shut (∀a w,S w→(S w→wpAnyH P md ops Q S fuel (listed.setIfInBounds i true) a w)→K' a w)→if Region.wanted ⟨some d,o,ty,pos,af,gd⟩ (yielded ops a.tmps)=true then Oper.wp P ⟨some d,o,ty,pos,af,gd⟩ a w K' Q else K' (a.put (some d) undef) w):wpAnyH P md ops Q S (fuel+1) listed a w:=rd hr ho h
theorem rnq (i:Nat) {o:Op} {ty:TypeId} {pos:String} {af:Array Edge} {gd:Option (Nat×Bool)} (hr:Region.ready md ops listed= [i]) (ho:ops[i]? =some ⟨none,o,ty,pos,af,gd⟩) (h:∀K':Act→World→Prop,Shut (∀a w,S w→(S w→wpAnyH P md ops Q S fuel (listed.setIfInBounds i true) a w)→K' a w)→if Region.wanted ⟨none,o,ty,pos,af,gd⟩ (yielded ops a.tmps)=true then Oper.wp P ⟨none,o,ty,pos,af,gd⟩ a w K' Q else K' (a.put none undef) w):wpAnyH P md ops Q S (fuel+1) listed a w:=rd hr ho h
def SqL (l:List (Nat×Nat)) (p:Prop):Prop:=p
theorem sqA (l:List (Nat×Nat)) {p:Prop} (h:SqL l p):p:=h
theorem sqZ {p:Prop} (h:p):SqL [] p:=h
theorem sqN {i d:Nat} {l:List (Nat×Nat)} {o:Op} {ty:TypeId} {pos:String} {af:Array Edge} {gd:Option (Nat×Bool)} (hi:ops[i]? =some ⟨some d,o,ty,pos,af,gd⟩) (hk:(Region.noSelect ops&&Region.free md ops listed i&&(Region.ready md ops listed).contains i)=true)
  (hQ:∀c a w,Q (.panic c) (a.put (some d) v) w→Q (.panic c) a w) (hw:Region.wanted ⟨some d,o,ty,pos,af,gd⟩ (yielded ops a.tmps)=true) (hS:S w) (hy:∀w,S w→(execOp a.eval ⟨some d,o,ty,pos,af,gd⟩).run P w= .ok (.value v) w)
  (h:SqL l (wpAnyH P md ops Q S fuel (listed.setIfInBounds i true) (a.put (some d) v) w)):SqL ((i,d)::l) (wpAnyH P md ops Q S (fuel+1) listed a w):=tq i d hi hk hQ hw hS hy h
end
theorem nz:(∀(a:Act) (d:Nat) (v:Value),a.put (some d) v={a with tmps:=a.tmps.setIfInBounds d v})∧(∀(a:Act) (v:Value),a.put none v=a)∧(∀(α:Type) (l:List α) (i:Nat) (x:α),l.toArray.setIfInBounds i x=(l.set i x).toArray)∧(∀(α:Type) (x y:α) (l:List α),(x::l).set 0 y=y::l)∧(∀(α:Type) (x y:α) (l:List α) (n:Nat),(x::l).set (n+1) y=x::l.set n y):=
 ⟨fun _ _ _=>rfl,fun _ _=>rfl,fun _ _ _ _=>by simp,fun _ _ _ _=>rfl,fun _ _ _ _ _=>rfl⟩
theorem zC {w w':World} {b o:Nat} {v:Value} (h:w.cell? ⟨b,o,none⟩=some v) (hb:Below w.heap.size w w'):w'.cell? ⟨b,o,none⟩=some v:=dp h hb (Nat.le_refl _)
theorem zO {w w':World} {B e sz n:Nat} {u:Value} {xs:List Value} (h:Hid (w.ownsRow B e sz u n xs)) (hb:Below w.heap.size w w'):Hid (w'.ownsRow B e sz u n xs):=aa (ar h.out hb)
theorem zT {a b c:World} (h:Below a.heap.size a b) (h2:Below b.heap.size b c):Below a.heap.size a c:=h.trans (h2.mono h.size)
theorem zB {V W:World} {o:Obj} (h:W=V.alloc o):Below V.heap.size V W:=by rw [h];exact(Below.refl _ _).alloc (Nat.le_refl _) _
theorem zL {V W:World} {o:Obj} {g:Nat} (h:W=V.alloc o) (hg:g=V.heap.size):g<W.heap.size:=by rw [h,hg];simp
theorem zr {n:Nat}:n≤n:=Nat.le_refl n
theorem zN1 {V W:World} {cs:Array Value} {t:TypeId} {k:Nat} {v:Value} (h:W=V.alloc (.cells cs t)) (hk:cs[k]? =some v):W.cell? ⟨V.heap.size,k,none⟩=some v:=by rw [h];exact aj V _ rfl _ _ _ _ hk
theorem zN2 {V W:World} {cs:Array Value} {t:TypeId} {k g:Nat} {v:Value} (h:W=V.alloc (.cells cs t)) (hg:g=V.heap.size) (hk:cs[k]? =some v):W.cell? ⟨g,k,none⟩=some v:=by rw [hg];exact zN1 h hk
theorem zF2 {V W:World} {cs:Array Value} {t:TypeId} {k g:Nat} (h:W=V.alloc (.cells cs t)) (hg:g=V.heap.size):W.frozen? ⟨g,k,none⟩=false:=by rw [h,hg];exact fy V _ rfl _ _ _
theorem zW {V W:World} {cs:Array Value} {e B sz n g:Nat} (h:W=V.alloc (.cells cs e)) (hg:g=V.heap.size) (hb:B≤V.heap.size) (hn:n≤maxLen) (hs:cs.size=n*sz):Hid (W.ownsRow B e sz (.slice (some ⟨g,0,none⟩) n n) n cs.toList):=by rw [h,hg];exact aa (World.ownsRow_lit V _ n hb hn hs)
theorem zK {w w':World} {b j:Nat} {v:Value} (hb:Below w.heap.size w w') (hc:w.cell? ⟨b,j,none⟩=some v) (h:w.frozen? ⟨b,j,none⟩=false):w'.frozen? ⟨b,j,none⟩=false:=(hb.frozen (p:=⟨b,j,none⟩) (am hc)).trans h
theorem ep {w w':World}{b0 b1 b2 o0 o1 o2:Nat}{v0 v1 v2:Value}(h0:w.cell? ⟨b0,o0,none⟩=some v0)(h1:w.cell? ⟨b1,o1,none⟩=some v1)(h2:w.cell? ⟨b2,o2,none⟩=some v2)(h:Below w.heap.size w w'):w'.cell? ⟨b0,o0,none⟩=some v0∧w'.cell? ⟨b1,o1,none⟩=some v1∧w'.cell? ⟨b2,o2,none⟩=some v2:=⟨zC h0 h,zC h1 h,zC h2 h⟩
theorem vJ {w w':World}{b0 b1 b2 b3 o0 o1 o2 o3:Nat}{v0 v1 v2 v3:Value}(h0:w.cell? ⟨b0,o0,none⟩=some v0)(h1:w.cell? ⟨b1,o1,none⟩=some v1)(h2:w.cell? ⟨b2,o2,none⟩=some v2)(h3:w.cell? ⟨b3,o3,none⟩=some v3)(h:Below w.heap.size w w'):w'.cell? ⟨b0,o0,none⟩=some v0∧w'.cell? ⟨b1,o1,none⟩=some v1∧w'.cell? ⟨b2,o2,none⟩=some v2∧w'.cell? ⟨b3,o3,none⟩=some v3:=⟨zC h0 h,zC h1 h,zC h2 h,zC h3 h⟩
theorem dB {w w':World}{b0 b1 b2 b3 b4 o0 o1 o2 o3 o4:Nat}{v0 v1 v2 v3 v4:Value}(h0:w.cell? ⟨b0,o0,none⟩=some v0)(h1:w.cell? ⟨b1,o1,none⟩=some v1)(h2:w.cell? ⟨b2,o2,none⟩=some v2)(h3:w.cell? ⟨b3,o3,none⟩=some v3)(h4:w.cell? ⟨b4,o4,none⟩=some v4)(h:Below w.heap.size w w'):w'.cell? ⟨b0,o0,none⟩=some v0∧w'.cell? ⟨b1,o1,none⟩=some v1∧w'.cell? ⟨b2,o2,none⟩=some v2∧w'.cell? ⟨b3,o3,none⟩=some v3∧w'.cell? ⟨b4,o4,none⟩=some v4:=⟨zC h0 h,zC h1 h,zC h2 h,zC h3 h,zC h4 h⟩
theorem em {w w':World}{b0 b1 b2 b3 b4 b5 o0 o1 o2 o3 o4 o5:Nat}{v0 v1 v2 v3 v4 v5:Value}(h0:w.cell? ⟨b0,o0,none⟩=some v0)(h1:w.cell? ⟨b1,o1,none⟩=some v1)(h2:w.cell? ⟨b2,o2,none⟩=some v2)(h3:w.cell? ⟨b3,o3,none⟩=some v3)(h4:w.cell? ⟨b4,o4,none⟩=some v4)(h5:w.cell? ⟨b5,o5,none⟩=some v5)(h:Below w.heap.size w w'):w'.cell? ⟨b0,o0,none⟩=some v0∧w'.cell? ⟨b1,o1,none⟩=some v1∧w'.cell? ⟨b2,o2,none⟩=some v2∧w'.cell? ⟨b3,o3,none⟩=some v3∧w'.cell? ⟨b4,o4,none⟩=some v4∧w'.cell? ⟨b5,o5,none⟩=some v5:=⟨zC h0 h,zC h1 h,zC h2 h,zC h3 h,zC h4 h,zC h5 h⟩
theorem cR {w w':World}{b0 b1 b2 b3 b4 b5 b6 b7 o0 o1 o2 o3 o4 o5 o6 o7:Nat}{v0 v1 v2 v3 v4 v5 v6 v7:Value}(h0:w.cell? ⟨b0,o0,none⟩=some v0)(h1:w.cell? ⟨b1,o1,none⟩=some v1)(h2:w.cell? ⟨b2,o2,none⟩=some v2)(h3:w.cell? ⟨b3,o3,none⟩=some v3)(h4:w.cell? ⟨b4,o4,none⟩=some v4)(h5:w.cell? ⟨b5,o5,none⟩=some v5)(h6:w.cell? ⟨b6,o6,none⟩=some v6)(h7:w.cell? ⟨b7,o7,none⟩=some v7)(h:Below w.heap.size w w'):w'.cell? ⟨b0,o0,none⟩=some v0∧w'.cell? ⟨b1,o1,none⟩=some v1∧w'.cell? ⟨b2,o2,none⟩=some v2∧w'.cell? ⟨b3,o3,none⟩=some v3∧w'.cell? ⟨b4,o4,none⟩=some v4∧w'.cell? ⟨b5,o5,none⟩=some v5∧w'.cell? ⟨b6,o6,none⟩=some v6∧w'.cell? ⟨b7,o7,none⟩=some v7:=⟨zC h0 h,zC h1 h,zC h2 h,zC h3 h,zC h4 h,zC h5 h,zC h6 h,zC h7 h⟩
theorem uC {w w':World}{b0 b1 b2 b3 b4 b5 b6 b7 b8 b9 b10 b11 b12 b13 o0 o1 o2 o3 o4 o5 o6 o7 o8 o9 o10 o11 o12 o13:Nat}{v0 v1 v2 v3 v4 v5 v6 v7 v8 v9 v10 v11 v12 v13:Value}(h0:w.cell? ⟨b0,o0,none⟩=some v0)(h1:w.cell? ⟨b1,o1,none⟩=some v1)(h2:w.cell? ⟨b2,o2,none⟩=some v2)(h3:w.cell? ⟨b3,o3,none⟩=some v3)(h4:w.cell? ⟨b4,o4,none⟩=some v4)(h5:w.cell? ⟨b5,o5,none⟩=some v5)(h6:w.cell? ⟨b6,o6,none⟩=some v6)(h7:w.cell? ⟨b7,o7,none⟩=some v7)(h8:w.cell? ⟨b8,o8,none⟩=some v8)(h9:w.cell? ⟨b9,o9,none⟩=some v9)(h10:w.cell? ⟨b10,o10,none⟩=some v10)(h11:w.cell? ⟨b11,o11,none⟩=some v11)(h12:w.cell? ⟨b12,o12,none⟩=some v12)(h13:w.cell? ⟨b13,o13,none⟩=some v13)(h:Below w.heap.size w w'):w'.cell? ⟨b0,o0,none⟩=some v0∧w'.cell? ⟨b1,o1,none⟩=some v1∧w'.cell? ⟨b2,o2,none⟩=some v2∧w'.cell? ⟨b3,o3,none⟩=some v3∧w'.cell? ⟨b4,o4,none⟩=some v4∧w'.cell? ⟨b5,o5,none⟩=some v5∧w'.cell? ⟨b6,o6,none⟩=some v6∧w'.cell? ⟨b7,o7,none⟩=some v7∧w'.cell? ⟨b8,o8,none⟩=some v8∧w'.cell? ⟨b9,o9,none⟩=some v9∧w'.cell? ⟨b10,o10,none⟩=some v10∧w'.cell? ⟨b11,o11,none⟩=some v11∧w'.cell? ⟨b12,o12,none⟩=some v12∧w'.cell? ⟨b13,o13,none⟩=some v13:=⟨zC h0 h,zC h1 h,zC h2 h,zC h3 h,zC h4 h,zC h5 h,zC h6 h,zC h7 h,zC h8 h,zC h9 h,zC h10 h,zC h11 h,zC h12 h,zC h13 h⟩
theorem Bp {w w':World}{B0 B1 B2 e0 e1 e2 s0 s1 s2 n0 n1 n2:Nat}{u0 u1 u2:Value}{x0 x1 x2:List Value}(h0:Hid (w.ownsRow B0 e0 s0 u0 n0 x0))(h1:Hid (w.ownsRow B1 e1 s1 u1 n1 x1))(h2:Hid (w.ownsRow B2 e2 s2 u2 n2 x2))(h:Below w.heap.size w w'):Hid (w'.ownsRow B0 e0 s0 u0 n0 x0)∧Hid (w'.ownsRow B1 e1 s1 u1 n1 x1)∧Hid (w'.ownsRow B2 e2 s2 u2 n2 x2):=⟨zO h0 h,zO h1 h,zO h2 h⟩
def idx {α:Type} (p:α→Bool) (l:List α):Int:=match l.findIdx? p with
 | some k=>(k:Int)
 | none=> -1
theorem gJ {α:Type} {p:α→Bool} (d:α) {l:List α} {k:Nat} (hk:k<l.length) (h1:∀j,j<k→p (l.getD j d)=false) (h2:p (l.getD k d)=true):idx p l=k:=by
 have e:l.findIdx? p=some k:=by
  rw [List.findIdx?_eq_some_iff_getElem];refine⟨hk,by simpa [List.getD,List.getElem?_eq_getElem hk] using h2,fun j hj=>?_⟩;have:=h1 j hj;simpa [List.getD,List.getElem?_eq_getElem (show j<l.length by omega)] using this
 unfold idx;rw [e]
theorem gR {α:Type} {p:α→Bool} (d:α) {l:List α} (h1:∀j,j<l.length→p (l.getD j d)=false):idx p l= -1:=by
 have e:l.findIdx? p=none:=by
  rw [List.findIdx?_eq_none_iff];intro x hx;obtain⟨j,hj,rfl⟩:=List.getElem_of_mem hx;have:=h1 j hj;simpa [List.getD,List.getElem?_eq_getElem hj] using this
 unfold idx;rw [e]
theorem bX {α:Type} (p:α→Bool) (l:List α):decide (0≤idx p l)=l.any p:=by
 unfold idx;cases h:l.findIdx? p with
 | none=>
  rw [List.findIdx?_eq_none_iff]at h;simp only [Int.reduceNeg,Int.reduceLE,decide_false];symm;rw [List.any_eq_false];intro x hx;simp [h x hx]
 | some k=>
  rw [List.findIdx?_eq_some_iff_getElem]at h;obtain⟨hk,h1,_⟩:=h;have h2:l.any p=true:=by
   rw [List.any_eq_true];exact⟨_,List.getElem_mem hk,h1⟩
  rw [h2];simp
theorem yJ {α:Type} (p:α→Bool) (l:List α): -1≤idx p l∧idx p l<l.length:=by
 unfold idx;cases h:l.findIdx? p with
 | none=>exact⟨by simp,by simp <;>omega⟩
 | some k=>
  rw [List.findIdx?_eq_some_iff_getElem]at h;obtain⟨hk,_⟩:=h;exact⟨by simp <;>omega,by simpa using hk⟩
def pw (w:World) (b0:Nat) (p:Sw→Bool):Prop:=∀(W:World) (x:Sw),Below w.heap.size w W→Calls Tryz.prog 200 #[.agg #[.int .i64 x.i,.int .i64 x.t,.int .i64 x.g],.pointer (some ⟨b0,0,none⟩)] W fun e w'=>e= .returned (.bool (p x))∧Below W.heap.size W w'
theorem oL (l:List Sw) (p:Sw→Bool) (v:Value) (b0:Nat) (w:World) (hF:ev w v l) (hT:pw w b0 p) (hl:l.length*24≤140737488355328):
  Calls Tryz.prog 176 #[v,.func (.func 200) #[] #[.pointer (some ⟨b0,0,none⟩)]] w fun e w'=>e= .returned (.int .i64 (idx p l))∧Below w.heap.size w w':=by
 have HF:=aa hF;have HT:=aa hT;obtain⟨a,cap,rfl⟩:=hF.slice;clear hF hT;go_enter Tryz.func176,Tryz.ntmps176;go_wp2_with fail
 go_loopw [8] (fun i wr=>∃k:Nat,k≤l.length∧i= .int .i64 k∧Hid (∀j,j<k→p (l.getD j sw0)=false)∧Below w.heap.size w wr) (fun i _=>l.length-(intOf i).toNat)
 case atStart=>exact⟨0,by omega,rfl,aa (fun j h=>absurd h (by omega)),Below.refl _ _⟩
 case round=>
  obtain⟨k,hk,rfl,HALL,hbr⟩:=hrel;by_cases hlt:k<l.length
  ·obtain⟨b,off,cap',e1,hcap, -,g0,g1,g2⟩:=ig (RowAt.below HF.out hbr zr) hlt;simp only [Value.slice.injEq,true_and]at e1;obtain⟨rfl,rfl⟩:=e1;have HST:Hid (∀W:World,Below w.heap.size w W→Calls Tryz.prog 200 #[.agg #[.int .i64 (l.getD k sw0).i,.int .i64 (l.getD k sw0).t,.int .i64 (l.getD k sw0).g],.pointer (some ⟨b0,0,none⟩)] W fun e w'=>e= .returned (.bool (p (l.getD k sw0)))∧Below W.heap.size W w'):=fun W hW=>HT.out W _ hW;have HNX:Hid (p (l.getD k sw0)=false→∀j,j<k+1→p (l.getD j sw0)=false):=fun h j hj=>by
    by_cases e:j=k
    ·subst e;exact h
    ·exact HALL.out j (by omega)
   have HFD:Hid (p (l.getD k sw0)=true→idx p l=k):=fun h=>gJ sw0 hlt HALL.out h;generalize p (l.getD k sw0)=R at*;generalize (l.getD k sw0).i=y0 at*;generalize (l.getD k sw0).t=y1 at*;generalize (l.getD k sw0).g=y2 at*;have q1:(0:Int)≤(k:Int):=(by omega);have q2:(k:Int)<(l.length:Int):=(by omega);clear HALL;go_wp2_with fail
   refine(ag HST _ ?_).mono ?_
   ·first | exact hbr | exact hbr.drew | exact⟨hbr.os,hbr.tape,hbr.output,hbr.size,hbr.block⟩
   rintro e w1 ⟨rfl,hb1⟩;have HB1:Hid (Below w.heap.size w w1):=hbr.trans (hb1.mono hbr.size);clear hb1 hbr HST g0 g1 g2;cases R
   ·have HN:=aa (HNX.out rfl);clear HNX HFD;go_wp2_with fail
    go_roundw
    case rel=>exact⟨k+1,by omega,by go_num,HN,HB1.out⟩
    case measure=>simp [intOf];omega
   ·have HN:=aa (HFD.out rfl);clear HNX HFD;go_wp2_with fail
    go_ret;exact⟨ah HN.out.symm,HB1.out⟩
  ·have HN:Hid (idx p l= -1):=gR sw0 fun i hi=>HALL.out i (by omega);have HB1:=aa hbr;clear HALL hbr;go_wp2_with fail
   go_ret;exact⟨ah HN.out.symm,HB1.out⟩
theorem vM (l:List Sw) (p:Sw→Bool) (v:Value) (b0:Nat) (w:World) (hF:ev w v l) (hT:pw w b0 p) (hl:l.length*24≤140737488355328):
  Calls Tryz.prog 187 #[v,.func (.func 200) #[] #[.pointer (some ⟨b0,0,none⟩)]] w fun e w'=>e= .returned (.bool (l.any p))∧Below w.heap.size w w':=by
 have HI:=aa (oL l p v b0 w hF hT hl);have HA:=aa (bX p l);obtain⟨a,cap,rfl⟩:=hF.slice;clear hF hT;generalize idx p l=I at*;go_enter Tryz.func187,Tryz.ntmps187;go_wp2_with fail
 refine(ag HI).mono ?_;rintro e w1 ⟨rfl,hb1⟩;go_wp2_with fail
 go_ret;exact⟨aq HA.out,hb1⟩
def kl (w:World) (b0 b1:Nat) (p:Sw→Bool):Prop:=∀(W:World) (x:Sw),Below w.heap.size w W→Calls Tryz.prog 201 #[.agg #[.int .i64 x.i,.int .i64 x.t,.int .i64 x.g],.pointer (some ⟨b0,0,none⟩),.pointer (some ⟨b1,0,none⟩)] W fun e w'=>e= .returned (.bool (p x))∧Below W.heap.size W w'
theorem qX (l:List Sw) (p:Sw→Bool) (v:Value) (b0 b1:Nat) (w:World) (hF:ev w v l) (hT:kl w b0 b1 p) (hl:l.length*24≤140737488355328):
  Calls Tryz.prog 176 #[v,.func (.func 201) #[] #[.pointer (some ⟨b0,0,none⟩),.pointer (some ⟨b1,0,none⟩)]] w fun e w'=>e= .returned (.int .i64 (idx p l))∧Below w.heap.size w w':=by
 have HF:=aa hF;have HT:=aa hT;obtain⟨a,cap,rfl⟩:=hF.slice;clear hF hT;go_enter Tryz.func176,Tryz.ntmps176;go_wp2_with fail
 go_loopw [8] (fun i wr=>∃k:Nat,k≤l.length∧i= .int .i64 k∧Hid (∀j,j<k→p (l.getD j sw0)=false)∧Below w.heap.size w wr) (fun i _=>l.length-(intOf i).toNat)
 case atStart=>exact⟨0,by omega,rfl,aa (fun j h=>absurd h (by omega)),Below.refl _ _⟩
 case round=>
  obtain⟨k,hk,rfl,HALL,hbr⟩:=hrel;by_cases hlt:k<l.length
  ·obtain⟨b,off,cap',e1,hcap, -,g0,g1,g2⟩:=ig (RowAt.below HF.out hbr zr) hlt;simp only [Value.slice.injEq,true_and]at e1;obtain⟨rfl,rfl⟩:=e1;have HST:Hid (∀W:World,Below w.heap.size w W→Calls Tryz.prog 201 #[.agg #[.int .i64 (l.getD k sw0).i,.int .i64 (l.getD k sw0).t,.int .i64 (l.getD k sw0).g],.pointer (some ⟨b0,0,none⟩),.pointer (some ⟨b1,0,none⟩)] W fun e w'=>e= .returned (.bool (p (l.getD k sw0)))∧Below W.heap.size W w'):=fun W hW=>HT.out W _ hW;have HNX:Hid (p (l.getD k sw0)=false→∀j,j<k+1→p (l.getD j sw0)=false):=fun h j hj=>by
    by_cases e:j=k
    ·subst e;exact h
    ·exact HALL.out j (by omega)
   have HFD:Hid (p (l.getD k sw0)=true→idx p l=k):=fun h=>gJ sw0 hlt HALL.out h;generalize p (l.getD k sw0)=R at*;generalize (l.getD k sw0).i=y0 at*;generalize (l.getD k sw0).t=y1 at*;generalize (l.getD k sw0).g=y2 at*;have q1:(0:Int)≤(k:Int):=(by omega);have q2:(k:Int)<(l.length:Int):=(by omega);clear HALL;go_wp2_with fail
   refine(ag HST _ ?_).mono ?_
   ·first | exact hbr | exact hbr.drew | exact⟨hbr.os,hbr.tape,hbr.output,hbr.size,hbr.block⟩
   rintro e w1 ⟨rfl,hb1⟩;have HB1:Hid (Below w.heap.size w w1):=hbr.trans (hb1.mono hbr.size);clear hb1 hbr HST g0 g1 g2;cases R
   ·have HN:=aa (HNX.out rfl);clear HNX HFD;go_wp2_with fail
    go_roundw
    case rel=>exact⟨k+1,by omega,by go_num,HN,HB1.out⟩
    case measure=>simp [intOf];omega
   ·have HN:=aa (HFD.out rfl);clear HNX HFD;go_wp2_with fail
    go_ret;exact⟨ah HN.out.symm,HB1.out⟩
  ·have HN:Hid (idx p l= -1):=gR sw0 fun i hi=>HALL.out i (by omega);have HB1:=aa hbr;clear HALL hbr;go_wp2_with fail
   go_ret;exact⟨ah HN.out.symm,HB1.out⟩
theorem qa (l:List Sw) (p:Sw→Bool) (v:Value) (b0 b1:Nat) (w:World) (hF:ev w v l) (hT:kl w b0 b1 p) (hl:l.length*24≤140737488355328):
  Calls Tryz.prog 187 #[v,.func (.func 201) #[] #[.pointer (some ⟨b0,0,none⟩),.pointer (some ⟨b1,0,none⟩)]] w fun e w'=>e= .returned (.bool (l.any p))∧Below w.heap.size w w':=by
 have HI:=aa (qX l p v b0 b1 w hF hT hl);have HA:=aa (bX p l);obtain⟨a,cap,rfl⟩:=hF.slice;clear hF hT;generalize idx p l=I at*;go_enter Tryz.func187,Tryz.ntmps187;go_wp2_with fail
 refine(ag HI).mono ?_;rintro e w1 ⟨rfl,hb1⟩;go_wp2_with fail
 go_ret;exact⟨aq HA.out,hb1⟩
def pE (w:World) (b0 b1:Nat) (p:Sw→Bool):Prop:=∀(W:World) (x:Sw),Below w.heap.size w W→Calls Tryz.prog 203 #[.agg #[.int .i64 x.i,.int .i64 x.t,.int .i64 x.g],.pointer (some ⟨b0,0,none⟩),.pointer (some ⟨b1,0,none⟩)] W fun e w'=>e= .returned (.bool (p x))∧Below W.heap.size W w'
theorem vd (l:List Sw) (p:Sw→Bool) (v:Value) (b0 b1:Nat) (w:World) (hF:ev w v l) (hT:pE w b0 b1 p) (hl:l.length*24≤140737488355328):
  Calls Tryz.prog 176 #[v,.func (.func 203) #[] #[.pointer (some ⟨b0,0,none⟩),.pointer (some ⟨b1,0,none⟩)]] w fun e w'=>e= .returned (.int .i64 (idx p l))∧Below w.heap.size w w':=by
 have HF:=aa hF;have HT:=aa hT;obtain⟨a,cap,rfl⟩:=hF.slice;clear hF hT;go_enter Tryz.func176,Tryz.ntmps176;go_wp2_with fail
 go_loopw [8] (fun i wr=>∃k:Nat,k≤l.length∧i= .int .i64 k∧Hid (∀j,j<k→p (l.getD j sw0)=false)∧Below w.heap.size w wr) (fun i _=>l.length-(intOf i).toNat)
 case atStart=>exact⟨0,by omega,rfl,aa (fun j h=>absurd h (by omega)),Below.refl _ _⟩
 case round=>
  obtain⟨k,hk,rfl,HALL,hbr⟩:=hrel;by_cases hlt:k<l.length
  ·obtain⟨b,off,cap',e1,hcap, -,g0,g1,g2⟩:=ig (RowAt.below HF.out hbr zr) hlt;simp only [Value.slice.injEq,true_and]at e1;obtain⟨rfl,rfl⟩:=e1;have HST:Hid (∀W:World,Below w.heap.size w W→Calls Tryz.prog 203 #[.agg #[.int .i64 (l.getD k sw0).i,.int .i64 (l.getD k sw0).t,.int .i64 (l.getD k sw0).g],.pointer (some ⟨b0,0,none⟩),.pointer (some ⟨b1,0,none⟩)] W fun e w'=>e= .returned (.bool (p (l.getD k sw0)))∧Below W.heap.size W w'):=fun W hW=>HT.out W _ hW;have HNX:Hid (p (l.getD k sw0)=false→∀j,j<k+1→p (l.getD j sw0)=false):=fun h j hj=>by
    by_cases e:j=k
    ·subst e;exact h
    ·exact HALL.out j (by omega)
   have HFD:Hid (p (l.getD k sw0)=true→idx p l=k):=fun h=>gJ sw0 hlt HALL.out h;generalize p (l.getD k sw0)=R at*;generalize (l.getD k sw0).i=y0 at*;generalize (l.getD k sw0).t=y1 at*;generalize (l.getD k sw0).g=y2 at*;have q1:(0:Int)≤(k:Int):=(by omega);have q2:(k:Int)<(l.length:Int):=(by omega);clear HALL;go_wp2_with fail
   refine(ag HST _ ?_).mono ?_
   ·first | exact hbr | exact hbr.drew | exact⟨hbr.os,hbr.tape,hbr.output,hbr.size,hbr.block⟩
   rintro e w1 ⟨rfl,hb1⟩;have HB1:Hid (Below w.heap.size w w1):=hbr.trans (hb1.mono hbr.size);clear hb1 hbr HST g0 g1 g2;cases R
   ·have HN:=aa (HNX.out rfl);clear HNX HFD;go_wp2_with fail
    go_roundw
    case rel=>exact⟨k+1,by omega,by go_num,HN,HB1.out⟩
    case measure=>simp [intOf];omega
   ·have HN:=aa (HFD.out rfl);clear HNX HFD;go_wp2_with fail
    go_ret;exact⟨ah HN.out.symm,HB1.out⟩
  ·have HN:Hid (idx p l= -1):=gR sw0 fun i hi=>HALL.out i (by omega);have HB1:=aa hbr;clear HALL hbr;go_wp2_with fail
   go_ret;exact⟨ah HN.out.symm,HB1.out⟩
theorem vt (l:List Sw) (p:Sw→Bool) (v:Value) (b0 b1:Nat) (w:World) (hF:ev w v l) (hT:pE w b0 b1 p) (hl:l.length*24≤140737488355328):
  Calls Tryz.prog 187 #[v,.func (.func 203) #[] #[.pointer (some ⟨b0,0,none⟩),.pointer (some ⟨b1,0,none⟩)]] w fun e w'=>e= .returned (.bool (l.any p))∧Below w.heap.size w w':=by
 have HI:=aa (vd l p v b0 b1 w hF hT hl);have HA:=aa (bX p l);obtain⟨a,cap,rfl⟩:=hF.slice;clear hF hT;generalize idx p l=I at*;go_enter Tryz.func187,Tryz.ntmps187;go_wp2_with fail
 refine(ag HI).mono ?_;rintro e w1 ⟨rfl,hb1⟩;go_wp2_with fail
 go_ret;exact⟨aq HA.out,hb1⟩
def j6 (w:World) (b0:Nat) (p:Pr→Bool):Prop:=∀(W:World) (x:Pr),Below w.heap.size w W→Calls Tryz.prog 178 #[.agg #[.int .i64 x.i,.int .i64 x.s,.int .i64 x.m,.int .i64 x.p,.int .i64 x.c],.pointer (some ⟨b0,0,none⟩)] W fun e w'=>e= .returned (.bool (p x))∧Below W.heap.size W w'
theorem qP (l:List Pr) (p:Pr→Bool) (v:Value) (b0:Nat) (w:World) (hF:ft w v l) (hT:j6 w b0 p) (hl:l.length*40≤140737488355328):
  Calls Tryz.prog 24 #[v,.func (.func 178) #[] #[.pointer (some ⟨b0,0,none⟩)]] w fun e w'=>e= .returned (.int .i64 (idx p l))∧Below w.heap.size w w':=by
 have HF:=aa hF;have HT:=aa hT;obtain⟨a,cap,rfl⟩:=hF.slice;clear hF hT;go_enter Tryz.func24,Tryz.ntmps24;go_wp2_with fail
 go_loopw [8] (fun i wr=>∃k:Nat,k≤l.length∧i= .int .i64 k∧Hid (∀j,j<k→p (l.getD j pr0)=false)∧Below w.heap.size w wr) (fun i _=>l.length-(intOf i).toNat)
 case atStart=>exact⟨0,by omega,rfl,aa (fun j h=>absurd h (by omega)),Below.refl _ _⟩
 case round=>
  obtain⟨k,hk,rfl,HALL,hbr⟩:=hrel;by_cases hlt:k<l.length
  ·obtain⟨b,off,cap',e1,hcap, -,g0,g1,g2,g3,g4⟩:=eO (RowAt.below HF.out hbr zr) hlt;simp only [Value.slice.injEq,true_and]at e1;obtain⟨rfl,rfl⟩:=e1;have HST:Hid (∀W:World,Below w.heap.size w W→Calls Tryz.prog 178 #[.agg #[.int .i64 (l.getD k pr0).i,.int .i64 (l.getD k pr0).s,.int .i64 (l.getD k pr0).m,.int .i64 (l.getD k pr0).p,.int .i64 (l.getD k pr0).c],.pointer (some ⟨b0,0,none⟩)] W fun e w'=>e= .returned (.bool (p (l.getD k pr0)))∧Below W.heap.size W w'):=fun W hW=>HT.out W _ hW;have HNX:Hid (p (l.getD k pr0)=false→∀j,j<k+1→p (l.getD j pr0)=false):=fun h j hj=>by
    by_cases e:j=k
    ·subst e;exact h
    ·exact HALL.out j (by omega)
   have HFD:Hid (p (l.getD k pr0)=true→idx p l=k):=fun h=>gJ pr0 hlt HALL.out h;generalize p (l.getD k pr0)=R at*;generalize (l.getD k pr0).i=y0 at*;generalize (l.getD k pr0).s=y1 at*;generalize (l.getD k pr0).m=y2 at*;generalize (l.getD k pr0).p=y3 at*;generalize (l.getD k pr0).c=y4 at*;have q1:(0:Int)≤(k:Int):=(by omega);have q2:(k:Int)<(l.length:Int):=(by omega);clear HALL;go_wp2_with fail
   refine(ag HST _ ?_).mono ?_
   ·first | exact hbr | exact hbr.drew | exact⟨hbr.os,hbr.tape,hbr.output,hbr.size,hbr.block⟩
   rintro e w1 ⟨rfl,hb1⟩;have HB1:Hid (Below w.heap.size w w1):=hbr.trans (hb1.mono hbr.size);clear hb1 hbr HST g0 g1 g2 g3 g4;cases R
   ·have HN:=aa (HNX.out rfl);clear HNX HFD;go_wp2_with fail
    go_roundw
    case rel=>exact⟨k+1,by omega,by go_num,HN,HB1.out⟩
    case measure=>simp [intOf];omega
   ·have HN:=aa (HFD.out rfl);clear HNX HFD;go_wp2_with fail
    go_ret;exact⟨ah HN.out.symm,HB1.out⟩
  ·have HN:Hid (idx p l= -1):=gR pr0 fun i hi=>HALL.out i (by omega);have HB1:=aa hbr;clear HALL hbr;go_wp2_with fail
   go_ret;exact⟨ah HN.out.symm,HB1.out⟩
theorem rT (l:List Pr) (p:Pr→Bool) (v:Value) (b0:Nat) (w:World) (hF:ft w v l) (hT:j6 w b0 p) (hl:l.length*40≤140737488355328):
  Calls Tryz.prog 45 #[v,.func (.func 178) #[] #[.pointer (some ⟨b0,0,none⟩)]] w fun e w'=>e= .returned (.bool (l.any p))∧Below w.heap.size w w':=by
 have HI:=aa (qP l p v b0 w hF hT hl);have HA:=aa (bX p l);obtain⟨a,cap,rfl⟩:=hF.slice;clear hF hT;generalize idx p l=I at*;go_enter Tryz.func45,Tryz.ntmps45;go_wp2_with fail
 refine(ag HI).mono ?_;rintro e w1 ⟨rfl,hb1⟩;go_wp2_with fail
 go_ret;exact⟨aq HA.out,hb1⟩
def sd (w:World) (b0 b1 b2:Nat) (p:Pr→Bool):Prop:=∀(W:World) (x:Pr),Below w.heap.size w W→Calls Tryz.prog 202 #[.agg #[.int .i64 x.i,.int .i64 x.s,.int .i64 x.m,.int .i64 x.p,.int .i64 x.c],.pointer (some ⟨b0,0,none⟩),.pointer (some ⟨b1,0,none⟩),.pointer (some ⟨b2,0,none⟩)] W fun e w'=>e= .returned (.bool (p x))∧Below W.heap.size W w'
theorem vz (l:List Pr) (p:Pr→Bool) (v:Value) (b0 b1 b2:Nat) (w:World) (hF:ft w v l) (hT:sd w b0 b1 b2 p) (hl:l.length*40≤140737488355328):
  Calls Tryz.prog 24 #[v,.func (.func 202) #[] #[.pointer (some ⟨b0,0,none⟩),.pointer (some ⟨b1,0,none⟩),.pointer (some ⟨b2,0,none⟩)]] w fun e w'=>e= .returned (.int .i64 (idx p l))∧Below w.heap.size w w':=by
 have HF:=aa hF;have HT:=aa hT;obtain⟨a,cap,rfl⟩:=hF.slice;clear hF hT;go_enter Tryz.func24,Tryz.ntmps24;go_wp2_with fail
 go_loopw [8] (fun i wr=>∃k:Nat,k≤l.length∧i= .int .i64 k∧Hid (∀j,j<k→p (l.getD j pr0)=false)∧Below w.heap.size w wr) (fun i _=>l.length-(intOf i).toNat)
 case atStart=>exact⟨0,by omega,rfl,aa (fun j h=>absurd h (by omega)),Below.refl _ _⟩
 case round=>
  obtain⟨k,hk,rfl,HALL,hbr⟩:=hrel;by_cases hlt:k<l.length
  ·obtain⟨b,off,cap',e1,hcap, -,g0,g1,g2,g3,g4⟩:=eO (RowAt.below HF.out hbr zr) hlt;simp only [Value.slice.injEq,true_and]at e1;obtain⟨rfl,rfl⟩:=e1;have HST:Hid (∀W:World,Below w.heap.size w W→Calls Tryz.prog 202 #[.agg #[.int .i64 (l.getD k pr0).i,.int .i64 (l.getD k pr0).s,.int .i64 (l.getD k pr0).m,.int .i64 (l.getD k pr0).p,.int .i64 (l.getD k pr0).c],.pointer (some ⟨b0,0,none⟩),.pointer (some ⟨b1,0,none⟩),.pointer (some ⟨b2,0,none⟩)] W fun e w'=>e= .returned (.bool (p (l.getD k pr0)))∧Below W.heap.size W w'):=fun W hW=>HT.out W _ hW;have HNX:Hid (p (l.getD k pr0)=false→∀j,j<k+1→p (l.getD j pr0)=false):=fun h j hj=>by
    by_cases e:j=k
    ·subst e;exact h
    ·exact HALL.out j (by omega)
   have HFD:Hid (p (l.getD k pr0)=true→idx p l=k):=fun h=>gJ pr0 hlt HALL.out h;generalize p (l.getD k pr0)=R at*;generalize (l.getD k pr0).i=y0 at*;generalize (l.getD k pr0).s=y1 at*;generalize (l.getD k pr0).m=y2 at*;generalize (l.getD k pr0).p=y3 at*;generalize (l.getD k pr0).c=y4 at*;have q1:(0:Int)≤(k:Int):=(by omega);have q2:(k:Int)<(l.length:Int):=(by omega);clear HALL;go_wp2_with fail
   refine(ag HST _ ?_).mono ?_
   ·first | exact hbr | exact hbr.drew | exact⟨hbr.os,hbr.tape,hbr.output,hbr.size,hbr.block⟩
   rintro e w1 ⟨rfl,hb1⟩;have HB1:Hid (Below w.heap.size w w1):=hbr.trans (hb1.mono hbr.size);clear hb1 hbr HST g0 g1 g2 g3 g4;cases R
   ·have HN:=aa (HNX.out rfl);clear HNX HFD;go_wp2_with fail
    go_roundw
    case rel=>exact⟨k+1,by omega,by go_num,HN,HB1.out⟩
    case measure=>simp [intOf];omega
   ·have HN:=aa (HFD.out rfl);clear HNX HFD;go_wp2_with fail
    go_ret;exact⟨ah HN.out.symm,HB1.out⟩
  ·have HN:Hid (idx p l= -1):=gR pr0 fun i hi=>HALL.out i (by omega);have HB1:=aa hbr;clear HALL hbr;go_wp2_with fail
   go_ret;exact⟨ah HN.out.symm,HB1.out⟩
theorem u9 (l:List Pr) (p:Pr→Bool) (v:Value) (b0 b1 b2:Nat) (w:World) (hF:ft w v l) (hT:sd w b0 b1 b2 p) (hl:l.length*40≤140737488355328):
  Calls Tryz.prog 45 #[v,.func (.func 202) #[] #[.pointer (some ⟨b0,0,none⟩),.pointer (some ⟨b1,0,none⟩),.pointer (some ⟨b2,0,none⟩)]] w fun e w'=>e= .returned (.bool (l.any p))∧Below w.heap.size w w':=by
 have HI:=aa (vz l p v b0 b1 b2 w hF hT hl);have HA:=aa (bX p l);obtain⟨a,cap,rfl⟩:=hF.slice;clear hF hT;generalize idx p l=I at*;go_enter Tryz.func45,Tryz.ntmps45;go_wp2_with fail
 refine(ag HI).mono ?_;rintro e w1 ⟨rfl,hb1⟩;go_wp2_with fail
 go_ret;exact⟨aq HA.out,hb1⟩
def inB (n a b:Int):Bool:=decide (a≤n∧n≤b)
theorem de (n a b:Int) (w:World):
  Calls Tryz.prog 170 #[.int .i64 n,.int .i64 a,.int .i64 b] w fun e w'=>e= .returned (.bool (inB n a b))∧w'=w:=by
 go_enter Tryz.func170,Tryz.ntmps170;go_wp2
 all_goals go_ret
 all_goals refine⟨aq ?_,rfl⟩
 all_goals (unfold inB;rw [Bool.eq_iff_iff];simp_all;try omega)
theorem ez (n:Int) (w:World):
  Calls Tryz.prog 171 #[.int .i64 n] w fun e w'=>e= .returned (.bool (inB n 0 65535))∧w'=w:=by
 go_enter Tryz.func171,Tryz.ntmps171;go_wp2_with (go_at_call 170;refine(de _ _ _ _).mono ?_;rintro e w' ⟨rfl,rfl⟩)
 go_ret;exact⟨rfl,rfl⟩
theorem nJ (n:Int) (w:World):
  Calls Tryz.prog 182 #[.int .i64 n] w fun e w'=>e= .returned (.bool (inB n (-1) 5))∧w'=w:=by
 go_enter Tryz.func182,Tryz.ntmps182;go_wp2_with (go_at_call 170;refine(de _ _ _ _).mono ?_;rintro e w' ⟨rfl,rfl⟩)
 go_ret;exact⟨rfl,rfl⟩
def eN (x:Pr):Bool:=inB x.i 1 999&&inB x.m 1 59999&&inB x.p 1 65535&&inB x.c (-1) 5
theorem kJ (i s m p c:Int) (w:World):
  Calls Tryz.prog 175 #[.agg #[.int .i64 i,.int .i64 s,.int .i64 m,.int .i64 p,.int .i64 c]] w fun e w'=>e= .returned (.bool (eN ⟨i,s,m,p,c⟩))∧Below w.heap.size w w':=by
 go_enter Tryz.func175,Tryz.ntmps175;go_wp2_with (first |(go_at_call 170;refine(de _ _ _ _).mono ?_;rintro e w' ⟨rfl,rfl⟩) |(go_at_call 182;refine(nJ _ _).mono ?_;rintro e w' ⟨rfl,rfl⟩))
 all_goals go_ret
 all_goals refine⟨aq ?_,(Below.refl _ _).alloc zr _⟩
 all_goals (unfold eN;simp_all)
def eM (x:Ac):Bool:=inB x.p 0 1000&&inB x.src 0 65535&&inB x.dst 0 65535&&inB x.sb 0 16&&inB x.db 0 16&&inB x.o (-1) 65535
theorem lw (s p:Int) (n:Bool) (src sb dst db o:Int) (d:Bool) (w:World):
  Calls Tryz.prog 179 #[.agg #[.int .i64 s,.int .i64 p,.bool n,.int .i64 src,.int .i64 sb,.int .i64 dst,.int .i64 db,.int .i64 o,.bool d]] w fun e w'=>e= .returned (.bool (eM ⟨s,p,n,src,sb,dst,db,o,d⟩))∧Below w.heap.size w w':=by
 go_enter Tryz.func179,Tryz.ntmps179;go_wp2_with (first |(go_at_call 170;refine(de _ _ _ _).mono ?_;rintro e w' ⟨rfl,rfl⟩) |(go_at_call 171;refine(ez _ _).mono ?_;rintro e w' ⟨rfl,rfl⟩))
 all_goals go_ret
 all_goals refine⟨aq ?_,(Below.refl _ _).alloc zr _⟩
 all_goals (unfold eM;simp_all)
theorem rG (x:Sw) (id:Int) (b:Nat) (w:World) (h:w.cell? ⟨b,0,none⟩=some (.int .i64 id)):
  Calls Tryz.prog 200 #[.agg #[.int .i64 x.i,.int .i64 x.t,.int .i64 x.g],.pointer (some ⟨b,0,none⟩)] w fun e w'=>e= .returned (.bool (x.i==id))∧Below w.heap.size w w':=by
 have hlt:=am h;have hne:b≠w.heap.size:=by omega
 go_enter Tryz.func200,Tryz.ntmps200;go_wp2
 all_goals go_ret
 all_goals exact⟨aq (by rw [Bool.eq_iff_iff] <;>simp),(Below.refl _ _).alloc zr _⟩
theorem sV {w:World} {b:Nat} {id:Int} (h:w.cell? ⟨b,0,none⟩=some (.int .i64 id)):pw w b (fun x=>x.i==id):=fun W x hW=>rG x id b W (zC h hW)
theorem sh (x:Sw) (tenant ip:Int) (b c:Nat) (w:World) (h:w.cell? ⟨b,0,none⟩=some (.int .i64 tenant)) (h2:w.cell? ⟨c,0,none⟩=some (.int .i64 ip)):
  Calls Tryz.prog 201 #[.agg #[.int .i64 x.i,.int .i64 x.t,.int .i64 x.g],.pointer (some ⟨b,0,none⟩),.pointer (some ⟨c,0,none⟩)] w fun e w'=>e= .returned (.bool (x.t==tenant&&x.g==ip))∧Below w.heap.size w w':=by
 have hlt:=am h;have hne:b≠w.heap.size:=by omega
 have hlt2:=am h2;have hne2:c≠w.heap.size:=by omega
 go_enter Tryz.func201,Tryz.ntmps201;go_wp2
 all_goals go_ret
 all_goals exact⟨aq (by rw [Bool.eq_iff_iff];simp_all),(Below.refl _ _).alloc zr _⟩
theorem wn {w:World} {b c:Nat} {tenant ip:Int} (h:w.cell? ⟨b,0,none⟩=some (.int .i64 tenant)) (h2:w.cell? ⟨c,0,none⟩=some (.int .i64 ip)):kl w b c (fun x=>x.t==tenant&&x.g==ip):=fun W x hW=>sh x tenant ip b c W (zC h hW) (zC h2 hW)
theorem wb (x:Sw) (s tenant:Int) (b c:Nat) (w:World) (h:w.cell? ⟨b,1,none⟩=some (.int .i64 s)) (h2:w.cell? ⟨c,0,none⟩=some (.int .i64 tenant)):
  Calls Tryz.prog 203 #[.agg #[.int .i64 x.i,.int .i64 x.t,.int .i64 x.g],.pointer (some ⟨b,0,none⟩),.pointer (some ⟨c,0,none⟩)] w fun e w'=>e= .returned (.bool (x.i==s&&x.t==tenant))∧Below w.heap.size w w':=by
 have hlt:=am h;have hne:b≠w.heap.size:=by omega
 have hlt2:=am h2;have hne2:c≠w.heap.size:=by omega
 go_enter Tryz.func203,Tryz.ntmps203;go_wp2
 all_goals go_ret
 all_goals exact⟨aq (by rw [Bool.eq_iff_iff];simp_all),(Below.refl _ _).alloc zr _⟩
theorem AS {w:World} {b c:Nat} {s tenant:Int} (h:w.cell? ⟨b,1,none⟩=some (.int .i64 s)) (h2:w.cell? ⟨c,0,none⟩=some (.int .i64 tenant)):pE w b c (fun x=>x.i==s&&x.t==tenant):=fun W x hW=>wb x s tenant b c W (zC h hW) (zC h2 hW)
theorem tx (x:Pr) (i s m:Int) (b:Nat) (w:World) (h:w.cell? ⟨b,0,none⟩=some (.int .i64 i)) (h1:w.cell? ⟨b,1,none⟩=some (.int .i64 s)) (h2:w.cell? ⟨b,2,none⟩=some (.int .i64 m)):
  Calls Tryz.prog 178 #[.agg #[.int .i64 x.i,.int .i64 x.s,.int .i64 x.m,.int .i64 x.p,.int .i64 x.c],.pointer (some ⟨b,0,none⟩)] w fun e w'=>e= .returned (.bool (x.i==i|| x.s==s&&x.m==m))∧Below w.heap.size w w':=by
 have hlt:=am h;have hne:b≠w.heap.size:=by omega
 go_enter Tryz.func178,Tryz.ntmps178;go_wp2
 all_goals go_ret
 all_goals exact⟨aq (by rw [Bool.eq_iff_iff];simp_all),(Below.refl _ _).alloc zr _⟩
theorem xE {w:World} {b:Nat} {i s m:Int} (h:w.cell? ⟨b,0,none⟩=some (.int .i64 i)) (h1:w.cell? ⟨b,1,none⟩=some (.int .i64 s)) (h2:w.cell? ⟨b,2,none⟩=some (.int .i64 m)):j6 w b (fun x=>x.i==i|| x.s==s&&x.m==m):=
 fun W x hW=>tx x i s m b W (zC h hW) (zC h1 hW) (zC h2 hW)
theorem gW (sv pv av:Value) (S:List Sw) (p:Sw→Bool) (b0:Nat) (w:World) (hF:ev w sv S) (hpv:∃o n c,pv= .slice o n c) (hav:∃o n c,av= .slice o n c) (hT:pw w b0 p) (hl:S.length*24≤140737488355328):
  Calls Tryz.prog 172 #[.agg #[sv,pv,av],.func (.func 200) #[] #[.pointer (some ⟨b0,0,none⟩)]] w fun e w'=>e= .returned (.bool (S.any p))∧Below w.heap.size w w':=by
 have HI:=aa (fun W (hW:Below w.heap.size w W)=>vM S p sv b0 W (RowAt.below hF hW zr) (fun W' x hW'=>hT W' x (hW.trans (hW'.mono hW.size))) hl);obtain⟨o1,c1,rfl⟩:=hF.slice;obtain⟨o2,n2,c2,rfl⟩:=hpv;obtain⟨o3,n3,c3,rfl⟩:=hav;clear hF hT;generalize S.any p=R at*;go_enter Tryz.func172,Tryz.ntmps172;go_wp2_with fail
 have hb0:Below w.heap.size w (w.alloc (.cells #[.slice o1 S.length c1,.slice o2 n2 c2,.slice o3 n3 c3] 26)):=(Below.refl _ _).alloc zr _;refine(ag HI _ hb0).mono ?_;rintro e w1 ⟨rfl,hb1⟩;have hb:=hb0.trans (hb1.mono hb0.size);clear hb1 hb0 HI;go_wp2_with fail
 go_ret;exact⟨rfl,hb⟩
theorem jS (sv pv av:Value) (S:List Sw) (p:Sw→Bool) (b0 b1:Nat) (w:World) (hF:ev w sv S) (hpv:∃o n c,pv= .slice o n c) (hav:∃o n c,av= .slice o n c) (hT:kl w b0 b1 p) (hl:S.length*24≤140737488355328):
  Calls Tryz.prog 172 #[.agg #[sv,pv,av],.func (.func 201) #[] #[.pointer (some ⟨b0,0,none⟩),.pointer (some ⟨b1,0,none⟩)]] w fun e w'=>e= .returned (.bool (S.any p))∧Below w.heap.size w w':=by
 have HI:=aa (fun W (hW:Below w.heap.size w W)=>qa S p sv b0 b1 W (RowAt.below hF hW zr) (fun W' x hW'=>hT W' x (hW.trans (hW'.mono hW.size))) hl);obtain⟨o1,c1,rfl⟩:=hF.slice;obtain⟨o2,n2,c2,rfl⟩:=hpv;obtain⟨o3,n3,c3,rfl⟩:=hav;clear hF hT;generalize S.any p=R at*;go_enter Tryz.func172,Tryz.ntmps172;go_wp2_with fail
 have hb0:Below w.heap.size w (w.alloc (.cells #[.slice o1 S.length c1,.slice o2 n2 c2,.slice o3 n3 c3] 26)):=(Below.refl _ _).alloc zr _;refine(ag HI _ hb0).mono ?_;rintro e w1 ⟨rfl,hb1⟩;have hb:=hb0.trans (hb1.mono hb0.size);clear hb1 hb0 HI;go_wp2_with fail
 go_ret;exact⟨rfl,hb⟩
theorem lA (sv pv av:Value) (S:List Sw) (p:Sw→Bool) (b0 b1:Nat) (w:World) (hF:ev w sv S) (hpv:∃o n c,pv= .slice o n c) (hav:∃o n c,av= .slice o n c) (hT:pE w b0 b1 p) (hl:S.length*24≤140737488355328):
  Calls Tryz.prog 172 #[.agg #[sv,pv,av],.func (.func 203) #[] #[.pointer (some ⟨b0,0,none⟩),.pointer (some ⟨b1,0,none⟩)]] w fun e w'=>e= .returned (.bool (S.any p))∧Below w.heap.size w w':=by
 have HI:=aa (fun W (hW:Below w.heap.size w W)=>vt S p sv b0 b1 W (RowAt.below hF hW zr) (fun W' x hW'=>hT W' x (hW.trans (hW'.mono hW.size))) hl);obtain⟨o1,c1,rfl⟩:=hF.slice;obtain⟨o2,n2,c2,rfl⟩:=hpv;obtain⟨o3,n3,c3,rfl⟩:=hav;clear hF hT;generalize S.any p=R at*;go_enter Tryz.func172,Tryz.ntmps172;go_wp2_with fail
 have hb0:Below w.heap.size w (w.alloc (.cells #[.slice o1 S.length c1,.slice o2 n2 c2,.slice o3 n3 c3] 26)):=(Below.refl _ _).alloc zr _;refine(ag HI _ hb0).mono ?_;rintro e w1 ⟨rfl,hb1⟩;have hb:=hb0.trans (hb1.mono hb0.size);clear hb1 hb0 HI;go_wp2_with fail
 go_ret;exact⟨rfl,hb⟩
theorem lp (sv pv av:Value) (P:List Pr) (p:Pr→Bool) (b0:Nat) (w:World) (hsv:∃o n c,sv= .slice o n c) (hF:ft w pv P) (hav:∃o n c,av= .slice o n c) (hT:j6 w b0 p) (hl:P.length*40≤140737488355328):
  Calls Tryz.prog 177 #[.agg #[sv,pv,av],.func (.func 178) #[] #[.pointer (some ⟨b0,0,none⟩)]] w fun e w'=>e= .returned (.bool (P.any p))∧Below w.heap.size w w':=by
 have HI:=aa (fun W (hW:Below w.heap.size w W)=>rT P p pv b0 W (RowAt.below hF hW zr) (fun W' x hW'=>hT W' x (hW.trans (hW'.mono hW.size))) hl);obtain⟨o1,c1,rfl⟩:=hF.slice;obtain⟨o2,n2,c2,rfl⟩:=hsv;obtain⟨o3,n3,c3,rfl⟩:=hav;clear hF hT;generalize P.any p=R at*;go_enter Tryz.func177,Tryz.ntmps177;go_wp2_with fail
 have hb0:Below w.heap.size w (w.alloc (.cells #[.slice o2 n2 c2,.slice o1 P.length c1,.slice o3 n3 c3] 26)):=(Below.refl _ _).alloc zr _;refine(ag HI _ hb0).mono ?_;rintro e w1 ⟨rfl,hb1⟩;have hb:=hb0.trans (hb1.mono hb0.size);clear hb1 hb0 HI;go_wp2_with fail
 go_ret;exact⟨rfl,hb⟩
theorem nK (sv pv av:Value) (P:List Pr) (p:Pr→Bool) (b0 b1 b2:Nat) (w:World) (hsv:∃o n c,sv= .slice o n c) (hF:ft w pv P) (hav:∃o n c,av= .slice o n c) (hT:sd w b0 b1 b2 p) (hl:P.length*40≤140737488355328):
  Calls Tryz.prog 177 #[.agg #[sv,pv,av],.func (.func 202) #[] #[.pointer (some ⟨b0,0,none⟩),.pointer (some ⟨b1,0,none⟩),.pointer (some ⟨b2,0,none⟩)]] w fun e w'=>e= .returned (.bool (P.any p))∧Below w.heap.size w w':=by
 have HI:=aa (fun W (hW:Below w.heap.size w W)=>u9 P p pv b0 b1 b2 W (RowAt.below hF hW zr) (fun W' x hW'=>hT W' x (hW.trans (hW'.mono hW.size))) hl);obtain⟨o1,c1,rfl⟩:=hF.slice;obtain⟨o2,n2,c2,rfl⟩:=hsv;obtain⟨o3,n3,c3,rfl⟩:=hav;clear hF hT;generalize P.any p=R at*;go_enter Tryz.func177,Tryz.ntmps177;go_wp2_with fail
 have hb0:Below w.heap.size w (w.alloc (.cells #[.slice o2 n2 c2,.slice o1 P.length c1,.slice o3 n3 c3] 26)):=(Below.refl _ _).alloc zr _;refine(ag HI _ hb0).mono ?_;rintro e w1 ⟨rfl,hb1⟩;have hb:=hb0.trans (hb1.mono hb0.size);clear hb1 hb0 HI;go_wp2_with fail
 go_ret;exact⟨rfl,hb⟩
theorem cC (n a b:Int) (w:World):
  Calls Tryz.prog 18 #[.int .i64 n,.int .i64 a,.int .i64 b] w fun e w'=>e= .returned (.bool (inB n a b))∧w'=w:=by
 go_enter Tryz.func18,Tryz.ntmps18;go_wp2
 all_goals go_ret
 all_goals refine⟨aq ?_,rfl⟩
 all_goals (unfold inB;rw [Bool.eq_iff_iff];simp_all;try omega)
def sof (S:List Sw) (id:Int):Sw:=if idx (fun s=>s.i==id) S<0 then sw0 else S.getD (idx (fun s=>s.i==id) S).toNat sw0
theorem kM {B:Nat} {a w:World} (h:Below B a w) (n:Nat):Below B a (w.drewN n):=⟨h.os,h.tape,h.output,h.size,h.block⟩
theorem dW (sv pv av:Value) (S:List Sw) (P:List Pr) (A:List Ac) (id:Int) (w:World) (hC:CfAt w sv pv av S P A) (h1:S.length*24≤140737488355328):
  Calls Tryz.prog 60 #[.agg #[sv,pv,av],.int .i64 id] w fun e w'=>e= .returned (.tuple #[.agg #[.int .i64 (sof S id).i,.int .i64 (sof S id).t,.int .i64 (sof S id).g],.bool (S.any (fun s=>s.i==id))])∧Below w.heap.size w w':=by
 have HC:=aa hC;have HNO:Hid ((∀j,j<S.length→((S.getD j sw0).i==id)=false)→sof S id=sw0∧S.any (fun s=>s.i==id)=false):=fun h=>by
  have e:=gR (p:=fun s:Sw=>s.i==id) sw0 h;refine⟨by unfold sof;rw [e];rfl,?_⟩;rw [←bX,e];rfl
 have HYE:Hid (∀k,k<S.length→(∀j,j<k→((S.getD j sw0).i==id)=false)→((S.getD k sw0).i==id)=true→sof S id=S.getD k sw0∧S.any (fun s=>s.i==id)=true):=fun k hk h1 h2=>by
  have e:=gJ (p:=fun s:Sw=>s.i==id) sw0 hk h1 h2;refine⟨by unfold sof;rw [e,if_neg (by omega),Int.toNat_natCast],?_⟩;rw [←bX,e];simp
 generalize sof S id=X at*;generalize S.any (fun s=>s.i==id)=R at*;obtain⟨x0,x1,x2⟩:=X;simp only;obtain⟨s1,s2,rfl⟩:=hC.1.slice;obtain⟨p1,p2,rfl⟩:=hC.2.1.slice;obtain⟨a1,a2,rfl⟩:=hC.2.2.slice;clear hC;go_enter Tryz.func60,Tryz.ntmps60;go_wp2_with fail
 obtain⟨W0,hW0⟩:∃W0,W0=(w.alloc (.cells #[.slice s1 S.length s2,.slice p1 P.length p2,.slice a1 A.length a2] 26)).alloc (.cells #[.int .i64 0,.int .i64 0,.int .i64 0] 60):=⟨_,rfl⟩;have hb0:Below w.heap.size w W0:=by rw [hW0];exact((Below.refl _ _).alloc zr _).alloc (by simp) _
 have d0:W0.cell? ⟨w.heap.size,0,none⟩=some (.slice s1 S.length s2):=by rw [hW0];exact au (aj w _ rfl _ _ _ _ rfl) _
 have t0:W0.cell? ⟨w.heap.size+1,0,none⟩=some (.int .i64 0):=by rw [hW0];exact aj _ _ (by simp) _ _ _ _ rfl
 have t1:W0.cell? ⟨w.heap.size+1,1,none⟩=some (.int .i64 0):=by rw [hW0];exact aj _ _ (by simp) _ _ _ _ rfl
 have t2:W0.cell? ⟨w.heap.size+1,2,none⟩=some (.int .i64 0):=by rw [hW0];exact aj _ _ (by simp) _ _ _ _ rfl
 have f0:W0.frozen? ⟨w.heap.size+1,0,none⟩=false:=by rw [hW0];simp
 have f1:W0.frozen? ⟨w.heap.size+1,1,none⟩=false:=by rw [hW0];simp
 have f2:W0.frozen? ⟨w.heap.size+1,2,none⟩=false:=by rw [hW0];simp
 rw [←hW0];clear hW0;have HBE:Hid (∀x y z,Below w.heap.size w (((W0.setCell ⟨w.heap.size+1,0,none⟩ x).setCell ⟨w.heap.size+1,1,none⟩ y).setCell ⟨w.heap.size+1,2,none⟩ z)):=fun x y z=>((hb0.setCell (Nat.le_succ _) _).setCell (Nat.le_succ _) _).setCell (Nat.le_succ _) _;go_loop [6] (fun i=>∃k:Nat,k≤S.length∧i= .int .i64 k∧Hid (∀j,j<k→((S.getD j sw0).i==id)=false)) (fun i=>S.length-(intOf i).toNat)
 case atStart=>exact⟨0,by omega,rfl,aa (fun j h=>absurd h (by omega))⟩
 case round=>
  obtain⟨k,hk,rfl,HALL⟩:=hrel;by_cases hlt:k<S.length
  ·obtain⟨b,off,cap',e1,hcap,hb,g0,g1,g2⟩:=ig (RowAt.below HC.out.1 hb0 zr) hlt;simp only [Value.slice.injEq,true_and]at e1;obtain⟨rfl,rfl⟩:=e1;have q3:(0:Int)≤(k:Int):=(by omega);have q4:(k:Int)<(S.length:Int):=(by omega);by_cases hx:((S.getD k sw0).i==id)=true
   ·obtain⟨hX,rfl⟩:=HYE.out k hlt HALL.out hx;rw [←hX]at g0 g1 g2 hx;clear HALL HNO HYE hX;simp only at g0 g1 g2 hx;obtain rfl:x0=id:=(by simpa using hx);clear hx;obtain⟨u0,u1,u2⟩:=AP t0 t1 t2 (.int .i64 x0) (.int .i64 x1) (.int .i64 x2);have HB:=aa (HBE.out (.int .i64 x0) (.int .i64 x1) (.int .i64 x2));clear HBE;go_wp2_with fail
    refine bodyPost_ret (v:=.tuple #[.agg #[.int .i64 x0,.int .i64 x1,.int .i64 x2],.bool true]) ?_ rfl ⟨rfl,HB.out⟩;clear t0 t1 t2 f0 f1 f2 g0 g1 g2 hb0 HB;generalize (((W0.setCell ⟨w.heap.size+1,0,none⟩ (.int .i64 x0)).setCell ⟨w.heap.size+1,1,none⟩ (.int .i64 x1)).setCell ⟨w.heap.size+1,2,none⟩ (.int .i64 x2))=W at*;simp [results,Tryz.results60,go_sem,u0,u1,u2]
   ·have hx':((S.getD k sw0).i==id)=false:=(by simpa using hx);have HN:Hid (∀j,j<k+1→((S.getD j sw0).i==id)=false):=fun j hj=>by
     by_cases e:j=k
     ·subst e;exact hx'
     ·exact HALL.out j (by omega)
    have hx2:¬(S.getD k sw0).i=id:=(by simpa using hx);clear hx hx' HALL HYE HNO HBE;generalize (S.getD k sw0).i=y0 at*;go_wp2_with fail
    go_round
    case rel=>exact⟨k+1,by omega,by go_num,HN⟩
    case measure=>simp [intOf];omega
  ·obtain⟨hX,rfl⟩:=HNO.out fun j hj=>HALL.out j (by omega);simp only [sw0,Sw.mk.injEq]at hX;obtain⟨rfl,rfl,rfl⟩:=hX;obtain⟨u0,u1,u2⟩:=AP t0 t1 t2 (.int .i64 0) (.int .i64 0) (.int .i64 0);have HB:=aa (HBE.out (.int .i64 0) (.int .i64 0) (.int .i64 0));clear HALL HYE HNO HBE;go_wp2_with fail
   refine bodyPost_ret (v:=.tuple #[.agg #[.int .i64 0,.int .i64 0,.int .i64 0],.bool false]) ?_ rfl ⟨rfl,HB.out⟩;clear t0 t1 t2 f0 f1 f2 hb0 HB;generalize (((W0.setCell ⟨w.heap.size+1,0,none⟩ (.int .i64 0)).setCell ⟨w.heap.size+1,1,none⟩ (.int .i64 0)).setCell ⟨w.heap.size+1,2,none⟩ (.int .i64 0))=W at*;simp [results,Tryz.results60,go_sem,u0,u1,u2]
theorem oX (sv pv av:Value) (S:List Sw) (P:List Pr) (A:List Ac) (x:Pr) (w:World) (hC:CfAt w sv pv av S P A) (h1:S.length*24≤140737488355328):
  Calls Tryz.prog 114 #[.agg #[sv,pv,av],.agg #[.int .i64 x.i,.int .i64 x.s,.int .i64 x.m,.int .i64 x.p,.int .i64 x.c]] w fun e w'=>e= .returned (.int .i64 (sof S x.s).t)∧Below w.heap.size w w':=by
 obtain⟨xi,xs,xm,xp,xc⟩:=x;have HK:Hid (∀W:World,Below w.heap.size w W→Calls Tryz.prog 60 #[.agg #[sv,pv,av],.int .i64 xs] W fun e w'=>e= .returned (.tuple #[.agg #[.int .i64 (sof S xs).i,.int .i64 (sof S xs).t,.int .i64 (sof S xs).g],.bool (S.any (fun s=>s.i==xs))])∧Below W.heap.size W w'):=fun W hW=>dW sv pv av S P A xs W (hC.below hW zr) h1;generalize sof S xs=X at*;generalize S.any (fun s=>s.i==xs)=R at*;obtain⟨y0,y1,y2⟩:=X;obtain⟨s1,s2,rfl⟩:=hC.1.slice;obtain⟨p1,p2,rfl⟩:=hC.2.1.slice;obtain⟨a1,a2,rfl⟩:=hC.2.2.slice;clear hC;simp only at HK⊢;go_enter Tryz.func114,Tryz.ntmps114;go_wp2_with fail
 have hb0:Below w.heap.size w ((w.alloc (.cells #[.slice s1 S.length s2,.slice p1 P.length p2,.slice a1 A.length a2] 26)).alloc (.cells #[.int .i64 xi,.int .i64 xs,.int .i64 xm,.int .i64 xp,.int .i64 xc] 51)):=((Below.refl _ _).alloc zr _).alloc (by simp) _;refine(ag HK _ hb0).mono ?_;rintro e w1 ⟨rfl,hb1⟩;have hb:=hb0.trans (hb1.mono hb0.size);have hs:=hb.size;clear hb0 hb1 HK;go_wp2_with fail
 go_ret;exact⟨rfl,hb.alloc hs _⟩
theorem xq (k:Nat) (hk:k≤16):((65536:Int)/2 ^ k)/2=65536/2 ^ (k+1)∧0≤(65536:Int)/2 ^ k∧(65536:Int)/2 ^ k≤65536:=by
 have hc:k=0∨k=1∨k=2∨k=3∨k=4∨k=5∨k=6∨k=7∨k=8∨k=9∨k=10∨k=11∨k=12∨k=13∨k=14∨k=15∨k=16:=by omega
 rcases hc with rfl | rfl | rfl | rfl | rfl | rfl | rfl | rfl | rfl | rfl | rfl | rfl | rfl | rfl | rfl | rfl | rfl <;>decide
theorem jK (c:Nat) (w:World) (hc:c≤16):
  Calls Tryz.prog 62 #[.int .i64 (c:Int)] w fun e w'=>e= .returned (.int .i64 (65536/2 ^ c))∧w'=w:=by
 go_enter Tryz.func62,Tryz.ntmps62;go_wp2_with fail
 go_loop [0,3] (fun b n=>∃(k:Nat) (B N:Int),k≤c∧b= .int .i64 B∧n= .int .i64 N∧B=(c:Int)-(k:Int)∧Hid (N=65536/2 ^ k)) (fun b _=>(intOf b).toNat)
 case atStart=>exact⟨0,_,_,by omega,rfl,rfl,by omega,aa rfl⟩
 case round=>
  obtain⟨k,B,N,hk,rfl,rfl,hB,HN⟩:=hrel;obtain⟨h1,h2,h3⟩:=xq k (by omega);rw [←HN.out]at h1 h2 h3;have H1:=aa h1;clear h1;by_cases hlt:k<c
  ·have hB1:0<B:=(by omega);have hB2:B≤16:=(by omega);clear HN;go_wp2;go_round
   case rel=>exact⟨k+1,_,_,by omega,by go_num,by go_num,by omega,H1⟩
   case measure=>simp [intOf];omega
  ·obtain rfl:k=c:=(by omega);obtain rfl:B=0:=(by omega);clear hB H1 h2 h3 hlt hk;go_wp2;go_ret;exact⟨ah HN.out,rfl⟩
structure Own3 (w:World) (B:Nat) (sv pv av:Value) (S:List Sw) (P:List Pr) (A:List Ac):Prop where
 s:w.ownsRow B 60 3 sv S.length (S.flatMap swC)
 p:w.ownsRow B 51 5 pv P.length (P.flatMap prC)
 a:w.ownsRow B 62 9 av A.length (A.flatMap acC)
 sp:sv.ownBlock=none∨sv.ownBlock≠pv.ownBlock
 sa:sv.ownBlock=none∨sv.ownBlock≠av.ownBlock
 pa:pv.ownBlock=none∨pv.ownBlock≠av.ownBlock
theorem Own3.cf {w:World} {B:Nat} {sv pv av:Value} {S:List Sw} {P:List Pr} {A:List Ac} (h:Own3 w B sv pv av S P A):CfAt w sv pv av S P A:=
 ⟨RowAt.of_own jX (by omega) h.s,RowAt.of_own et (by omega) h.p,RowAt.of_own iJ (by omega) h.a⟩
theorem Bu {w:World} {b:Nat} {x0 x1 x2 x3 x4:Value} (t0:w.cell? ⟨b,0,none⟩=some x0) (t1:w.cell? ⟨b,1,none⟩=some x1) (t2:w.cell? ⟨b,2,none⟩=some x2) (t3:w.cell? ⟨b,3,none⟩=some x3) (t4:w.cell? ⟨b,4,none⟩=some x4) (y0 y1 y2 y3 y4:Value):
  (((((w.setCell ⟨b,0,none⟩ y0).setCell ⟨b,1,none⟩ y1).setCell ⟨b,2,none⟩ y2).setCell ⟨b,3,none⟩ y3).setCell ⟨b,4,none⟩ y4).cell? ⟨b,0,none⟩=some y0∧(((((w.setCell ⟨b,0,none⟩ y0).setCell ⟨b,1,none⟩ y1).setCell ⟨b,2,none⟩ y2).setCell ⟨b,3,none⟩ y3).setCell ⟨b,4,none⟩ y4).cell? ⟨b,1,none⟩=some y1∧
  (((((w.setCell ⟨b,0,none⟩ y0).setCell ⟨b,1,none⟩ y1).setCell ⟨b,2,none⟩ y2).setCell ⟨b,3,none⟩ y3).setCell ⟨b,4,none⟩ y4).cell? ⟨b,2,none⟩=some y2∧(((((w.setCell ⟨b,0,none⟩ y0).setCell ⟨b,1,none⟩ y1).setCell ⟨b,2,none⟩ y2).setCell ⟨b,3,none⟩ y3).setCell ⟨b,4,none⟩ y4).cell? ⟨b,3,none⟩=some y3∧
  (((((w.setCell ⟨b,0,none⟩ y0).setCell ⟨b,1,none⟩ y1).setCell ⟨b,2,none⟩ y2).setCell ⟨b,3,none⟩ y3).setCell ⟨b,4,none⟩ y4).cell? ⟨b,4,none⟩=some y4:=by
 obtain⟨u0,u1,u2⟩:=AP t0 t1 t2 y0 y1 y2;have o:∀{W:World} {i j:Nat} {v:Value},i≠j→(W.setCell ⟨b,j,none⟩ v).cell? ⟨b,i,none⟩=W.cell? ⟨b,i,none⟩:=fun h=>World.cell?_setCell_other _ _ _ _ (by simp <;>omega);refine⟨?_,?_,?_,?_,?_⟩
 ·rw [o (by omega),o (by omega)];exact u0
 ·rw [o (by omega),o (by omega)];exact u1
 ·rw [o (by omega),o (by omega)];exact u2
 ·rw [o (by omega)];exact World.cell?_setCell_same _ _ _ ((o (by omega)).trans ((o (by omega)).trans ((o (by omega)).trans t3)))
 ·exact World.cell?_setCell_same _ _ _ ((o (by omega)).trans ((o (by omega)).trans ((o (by omega)).trans ((o (by omega)).trans t4))))
def gY (n:Int):Bool:=decide (1≤n∧n≤3)
def jc (n:Int):Bool:=decide (0≤n∧n≤255)
theorem tF (n:Int) (w:World):
  Calls Tryz.prog 95 #[.int .i64 n] w fun e w'=>e= .returned (.bool (gY n))∧w'=w:=by
 go_enter Tryz.func95,Tryz.ntmps95;go_wp2
 all_goals go_ret
 all_goals refine⟨aq ?_,rfl⟩
 all_goals (unfold gY;rw [Bool.eq_iff_iff];simp_all;try omega)
theorem mU (n:Int) (w:World):
  Calls Tryz.prog 156 #[.int .i64 n] w fun e w'=>e= .returned (.bool (ap n))∧w'=w:=by
 go_enter Tryz.func156,Tryz.ntmps156;go_wp2
 all_goals go_ret
 all_goals refine⟨aq ?_,rfl⟩
 all_goals (unfold ap;rw [Bool.eq_iff_iff];simp_all;try omega)
theorem qN (b:ByteArray):b.toList= []↔b=ByteArray.empty:=by
 rw [ByteArray.toList_eq, ←ByteArray.size_eq_zero_iff];show b.data.toList= []↔b.data.size=0;rw [←Array.length_toList,List.length_eq_zero_iff]
abbrev fr (dst src kind ips ipd ttl port:Int) (body:ByteArray):Value:=
 .agg #[.int .i64 dst,.int .i64 src,.int .i64 kind,.int .i64 ips,.int .i64 ipd,.int .i64 ttl,.int .i64 port,.string body]
def jO (ttl port:Int) (n:Nat):Bool:=decide (ttl≠0∨port≠0∨n≠0)
def cB (dst src ips ipd ttl port:Int):Bool:=ap dst&&ap src&&ap ips&&ap ipd&&ap port&&jc ttl
theorem pA (dst src kind ips ipd ttl port:Int) (body:ByteArray) (w:World):
  Calls Tryz.prog 96 #[fr dst src kind ips ipd ttl port body] w fun e w'=>e= .returned (.bool (cB dst src ips ipd ttl port))∧Below w.heap.size w w':=by
 go_enter Tryz.func96,Tryz.ntmps96;go_wp2_with (go_at_call 156;refine(mU _ _).mono ?_;rintro e w' ⟨rfl,rfl⟩)
 all_goals go_ret
 all_goals refine⟨aq ?_,(Below.refl _ _).alloc zr _⟩
 all_goals (unfold cB jc;rw [Bool.eq_iff_iff];simp_all;try omega)
theorem qY (dst src kind ips ipd ttl port:Int) (body:ByteArray) (w:World):
  Calls Tryz.prog 97 #[fr dst src kind ips ipd ttl port body] w fun e w'=>e= .returned (.bool (jO ttl port body.size))∧Below w.heap.size w w':=by
 go_enter Tryz.func97,Tryz.ntmps97;go_wp2
 all_goals go_ret
 all_goals refine⟨aq ?_,(Below.refl _ _).alloc zr _⟩
 all_goals (unfold jO;rw [Bool.eq_iff_iff];simp_all [qN])
def aQ (dst src kind ips ipd ttl port:Int) (n:Nat):Int:=
 if gY kind then(if cB dst src ips ipd ttl port then(if 40<n then 1 else if kind≠3∧jO ttl port n=true then 4 else 0)else 2)else 3
theorem iH (dst src kind ips ipd ttl port:Int) (body:ByteArray) (w:World) (hb:body.size≤maxLen):
  Calls Tryz.prog 50 #[fr dst src kind ips ipd ttl port body] w fun e w'=>e= .returned (.int .i64 (aQ dst src kind ips ipd ttl port body.size))∧Below w.heap.size w w':=by
 unfold maxLen at hb;go_enter Tryz.func50,Tryz.ntmps50;go_wp2_with (first |(go_at_call 95;refine(tF _ _).mono ?_;rintro e w' ⟨rfl,rfl⟩) |(go_at_call 96;refine(pA _ _ _ _ _ _ _ _ _).mono ?_;rintro e w1 ⟨rfl,hb1⟩;obtain⟨hc1,hf1⟩:=BC hb1) |(go_at_call 97;refine(qY _ _ _ _ _ _ _ _ _).mono ?_;rintro e w2 ⟨rfl,hb2⟩))
 all_goals go_ret
 all_goals refine⟨ah ?_,?_⟩
 all_goals first | exact(Below.refl _ _).alloc zr _ | exact((Below.refl _ _).alloc zr _).trans (hb1.mono (by simp)) | exact(((Below.refl _ _).alloc zr _).trans (hb1.mono (by simp))).trans (hb2.mono (by have:=hb1.size;simp at this;omega)) |(unfold aQ;simp_all;try omega)
def mk (n m:Int):Int:=((n.toNat&&& m.toNat:Nat):Int)
theorem ba (n:Int) (h0:0≤n) (h1:n≤1000000):IntKind.i64.wrap n=n:=by
 simp [IntKind.wrap,IntKind.bits,IntKind.signed];split <;>omega
structure Mt where
 f:Int
 m:Int
 v:Int
structure Do where
 k:Int
 a:Int
 n:Int
structure Fl where
 t:Int
 p:Int
 ms:List Mt
 ds:List Do
def mt0:Mt:=⟨0,0,0⟩
def do0:Do:=⟨0,0,0⟩
def fl0:Fl:=⟨0,0,[],[]⟩
def MsAt (w:World) (v:Value) (ms:List Mt):Prop:=
 ∃a cap,v= .slice a ms.length cap∧(a=none→cap=0)∧(ms.length=0∨∃b off,a=some ⟨b,off,none⟩∧ms.length≤cap∧∀i,i<ms.length→
  w.cell? ⟨b,off+i*3,none⟩=some (.int .i64 (ms.getD i mt0).f)∧w.cell? ⟨b,off+i*3+1,none⟩=some (.int .i64 (ms.getD i mt0).m)∧w.cell? ⟨b,off+i*3+2,none⟩=some (.int .i64 (ms.getD i mt0).v))
def DsAt (w:World) (v:Value) (ds:List Do):Prop:=
 ∃a cap,v= .slice a ds.length cap∧(a=none→cap=0)∧(ds.length=0∨∃b off,a=some ⟨b,off,none⟩∧ds.length≤cap∧∀i,i<ds.length→
  w.cell? ⟨b,off+i*3,none⟩=some (.int .i64 (ds.getD i do0).k)∧w.cell? ⟨b,off+i*3+1,none⟩=some (.int .i64 (ds.getD i do0).a)∧w.cell? ⟨b,off+i*3+2,none⟩=some (.int .i64 (ds.getD i do0).n))
def FlAt (w:World) (b off:Nat) (f:Fl):Prop:=
 w.cell? ⟨b,off,none⟩=some (.int .i64 f.t)∧w.cell? ⟨b,off+1,none⟩=some (.int .i64 f.p)∧
 ∃mv dv,w.cell? ⟨b,off+2,none⟩=some mv∧w.cell? ⟨b,off+3,none⟩=some dv∧MsAt w mv f.ms∧DsAt w dv f.ds
def FsAt (w:World) (v:Value) (fs:List Fl):Prop:=
 ∃a cap,v= .slice a fs.length cap∧(a=none→cap=0)∧(fs.length=0∨∃b off,a=some ⟨b,off,none⟩∧fs.length≤cap∧∀i,i<fs.length→FlAt w b (off+i*4) (fs.getD i fl0))
theorem bw {w:World} {b o:Nat} {v:Value} (h:w.cell? ⟨b,o,none⟩=some v):b<w.heap.size:=by
 rcases Nat.lt_or_ge b w.heap.size with h' | h'
 ·exact h'
 ·simp [World.cell?,Array.getElem?_eq_none h']at h
theorem ae {w w':World} {B b o:Nat} {v:Value} (h:w.cell? ⟨b,o,none⟩=some v) (hb:Below B w w') (hB:w.heap.size≤B):w'.cell? ⟨b,o,none⟩=some v:=
 (hb.cell (p:=⟨b,o,none⟩) (Nat.lt_of_lt_of_le (bw h) hB)).trans h
theorem MsAt.below {w w':World} {B:Nat} {v:Value} {ms:List Mt} (h:MsAt w v ms) (hb:Below B w w') (hB:w.heap.size≤B):MsAt w' v ms:=by
 obtain⟨a,cap,hv,hn,h0 |⟨b,off,ha,hc,hL⟩⟩:=h
 ·exact⟨a,cap,hv,hn,.inl h0⟩
 ·exact⟨a,cap,hv,hn,.inr ⟨b,off,ha,hc,fun i hi=>⟨ae (hL i hi).1 hb hB,ae (hL i hi).2.1 hb hB,ae (hL i hi).2.2 hb hB⟩⟩⟩
theorem DsAt.below {w w':World} {B:Nat} {v:Value} {ds:List Do} (h:DsAt w v ds) (hb:Below B w w') (hB:w.heap.size≤B):DsAt w' v ds:=by
 obtain⟨a,cap,hv,hn,h0 |⟨b,off,ha,hc,hL⟩⟩:=h
 ·exact⟨a,cap,hv,hn,.inl h0⟩
 ·exact⟨a,cap,hv,hn,.inr ⟨b,off,ha,hc,fun i hi=>⟨ae (hL i hi).1 hb hB,ae (hL i hi).2.1 hb hB,ae (hL i hi).2.2 hb hB⟩⟩⟩
theorem FlAt.below {w w':World} {B b off:Nat} {f:Fl} (h:FlAt w b off f) (hb:Below B w w') (hB:w.heap.size≤B):FlAt w' b off f:=by
 obtain⟨h0,h1,mv,dv,h2,h3,hm,hd⟩:=h;exact⟨ae h0 hb hB,ae h1 hb hB,mv,dv,ae h2 hb hB,ae h3 hb hB,hm.below hb hB,hd.below hb hB⟩
theorem FsAt.below {w w':World} {B:Nat} {v:Value} {fs:List Fl} (h:FsAt w v fs) (hb:Below B w w') (hB:w.heap.size≤B):FsAt w' v fs:=by
 obtain⟨a,cap,hv,hn,h0 |⟨b,off,ha,hc,hL⟩⟩:=h
 ·exact⟨a,cap,hv,hn,.inl h0⟩
 ·exact⟨a,cap,hv,hn,.inr ⟨b,off,ha,hc,fun i hi=>(hL i hi).below hb hB⟩⟩
def eF (kind a n dK:Int) (last:Bool):Bool:=
 if kind=1 then decide (0≤a∧a≤9)&&decide (0≤n∧n≤65535)
 else if kind=2 then decide (0≤a∧a≤9)&&decide (0≤n∧n≤9)
 else if kind=3 then decide (0≤a∧a≤9)&&(n==0)
 else if kind=4 then(a==0)&&decide (dK+1≤n∧n≤7)&&last
 else if kind=5 then(a==0)&&decide (0≤n∧n≤65535)
 else if kind=6 then(a==0)&&decide (0≤n∧n≤5)
 else false
def ii (n:Int):Bool:=decide (0≤n∧n≤9)
def fC (n:Int):Bool:=decide (0≤n∧n≤7)
def iz (n:Int):Bool:=decide (0≤n∧n≤2000)
def aZ (m:Mt):Bool:=ii m.f&&ap m.m&&ap m.v&&(mk m.v m.m==m.v)
def doB (t:Int) (ds:List Do) (j:Nat):Bool:=eF (ds.getD j do0).k (ds.getD j do0).a (ds.getD j do0).n t ((j:Int)+1==(ds.length:Int))
def aI (f:Fl):Int:=
 if 12<f.ms.length∨100<f.ds.length then 1 else if(fC f.t&&iz f.p)=false then 2 else if f.ms.all aZ=false then 4 else
  if(List.range f.ds.length).all (doB f.t f.ds)=false then 4 else 0
def dN:List Fl→Int
 | []=>0
 | f::r=>if aI f=0 then dN r else aI f
def bh (fs:List Fl):Int:=if 5000<fs.length then 1 else dN fs
theorem Ao:∀(fs:List Fl) (k:Nat),k<fs.length→(∀j,j<k→aI (fs.getD j fl0)=0)→aI (fs.getD k fl0)≠0→dN fs=aI (fs.getD k fl0)
 | [],k,h,_,_=>by simp at h
 | f::r,0,_,_,hn=>by
  simp only [dN];rw [if_neg (by simpa using hn)];rfl
 | f::r,k+1,h,ha,hn=>by
  have h0:=ha 0 (by omega);simp only [dN];rw [if_pos (by simpa using h0)];have:=Ao r k (by simpa using h) (fun j hj=>by simpa using ha (j+1) (by omega)) (by simpa using hn);simpa using this
theorem tE:∀(fs:List Fl),(∀j,j<fs.length→aI (fs.getD j fl0)=0)→dN fs=0
 | [],_=>rfl
 | f::r,h=>by
  simp only [dN];rw [if_pos (by simpa using h 0 (by simp))];exact tE r (fun j hj=>by simpa using h (j+1) (by simpa using hj))
theorem gI {f:Fl} (h:12<f.ms.length∨100<f.ds.length):aI f=1:=by unfold aI;rw [if_pos h]
theorem nX {f:Fl} (h:¬(12<f.ms.length∨100<f.ds.length)) (h2:(fC f.t&&iz f.p)=false):aI f=2:=by unfold aI;rw [if_neg h,if_pos h2]
theorem r9 {f:Fl} (h:¬(12<f.ms.length∨100<f.ds.length)) (h2:(fC f.t&&iz f.p)=true) (h3:f.ms.all aZ=true) (h4:∀j,j<f.ds.length→doB f.t f.ds j=true):aI f=0:=by
 have:(List.range f.ds.length).all (doB f.t f.ds)=true:=by
  rw [List.all_eq_true];intro j hj;exact h4 j (List.mem_range.1 hj)
 unfold aI;rw [if_neg h,if_neg (by simp [h2]),if_neg (by simp [h3]),if_neg (by simp [this])]
def kq (T:Int):Int:=if T=0 then 0 else(T-1)%65535+1
theorem sF (T:Int) (h0:0≤T) (h:T≤65535):kq T=T:=by unfold kq;split <;>omega
theorem zX (T:Int) (h0:0≤T):0≤kq T∧kq T≤65535:=by unfold kq;split <;>omega
theorem sf (T:Int) (h:65535<T):kq (T%65536+T/65536)=kq T:=by
 unfold kq;rw [if_neg (by omega),if_neg (by omega)];omega
def wt (i:Nat) (c:Int):Int:=if i%2=0 then 256*c else c
def tot (l:List Int):Nat→Int
 | 0=>0
 | k+1=>tot l k+wt k (l.getD k 0)
def Bs (l:List Int):Prop:=∀n∈l,0≤n∧n≤255
theorem Bs.at {l:List Int} (h:Bs l) (k:Nat):0≤l.getD k 0∧l.getD k 0≤255:=by
 by_cases hk:k<l.length
 ·have:=h l[k] (List.getElem_mem hk);simpa [List.getD,List.getElem?_eq_getElem hk] using this
 ·simp [List.getD,List.getElem?_eq_none (by omega:l.length≤k)]
theorem Bs.nil:Bs []:=fun n h=>by cases h
theorem Bs.append {a b:List Int} (ha:Bs a) (hb:Bs b):Bs (a++b):=fun n h=>by
 rcases List.mem_append.1 h with h | h
 ·exact ha n h
 ·exact hb n h
theorem Bs.take {a:List Int} (ha:Bs a) (k:Nat):Bs (a.take k):=fun n h=>ha n (List.mem_of_mem_take h)
theorem Bs.drop {a:List Int} (ha:Bs a) (k:Nat):Bs (a.drop k):=fun n h=>ha n (List.mem_of_mem_drop h)
theorem BJ (i:Nat) (c:Int) (h0:0≤c) (h:c≤255):0≤wt i c∧wt i c≤65280:=by unfold wt;split <;>omega
theorem sk {l:List Int} (h:Bs l):∀k:Nat,0≤tot l k∧tot l k≤65280*k
 | 0=>by simp [tot]
 | k+1=>by
  have h1:=sk h k;have h2:=h.at k;have h3:=BJ k _ h2.1 h2.2;simp only [tot];omega
def sm (l:List Int):Int:=65535-kq (tot l l.length)
theorem wM {l:List Int} (h:Bs l):0≤sm l∧sm l≤65535:=by
 have h1:=sk h l.length;have h2:=zX (tot l l.length) h1.1;unfold sm;omega
def bO (n:Int):List Int:=[n/256,n%256]
theorem eS (n:Int) (h0:0≤n) (h:n≤65535):Bs (bO n):=fun x hx=>by
 simp [bO]at hx;rcases hx with rfl | rfl <;>omega
def nD (s:ByteArray):List Int:=s.data.toList.map fun b=>(b.toNat:Int)
theorem fJ (s:ByteArray):(nD s).length=s.size:=by simp [nD]
theorem zJ (s:ByteArray):Bs (nD s):=fun x hx=>by
 simp only [nD,List.mem_map]at hx;obtain⟨b,_,rfl⟩:=hx;have:=b.toNat_lt;omega
def U (l:List Int):List Value:=l.map (Value.int .u8)
theorem wJ (l:List Int):(U l).length=l.length:=by simp [U]
theorem rE (a b:List Int):U (a++b)=U a++U b:=by simp [U]
theorem ug (l:List Int):∀u∈U l,u.oneCell'=true:=fun u hu=>by
 simp only [U,List.mem_map]at hu;obtain⟨n,_,rfl⟩:=hu;rfl
def gj (dst src kind ips ipd ttl port:Int) (body:ByteArray):List Int:=
 bO dst++bO src++ [kind,ttl]++bO ips++bO ipd++bO port++bO body.size++nD body
def enc (dst src kind ips ipd ttl port:Int) (body:ByteArray):List Int:=
 gj dst src kind ips ipd ttl port body++bO (sm (gj dst src kind ips ipd ttl port body))
theorem ew (dst src kind ips ipd ttl port:Int) (body:ByteArray):(gj dst src kind ips ipd ttl port body).length=14+body.size:=by
 simp [gj,bO,fJ];omega
abbrev pkt (f0 f1 f2 f3 f4 f5 f6 f7 f8 f9:Int) (body:ByteArray):Value:=
 .agg #[.int .i64 f0,.int .i64 f1,.int .i64 f2,.int .i64 f3,.int .i64 f4,.int .i64 f5,.int .i64 f6,.int .i64 f7,.int .i64 f8,.int .i64 f9,.string body]
def PkAt (w:World) (b:Nat) (F:List Int) (body:ByteArray):Prop:=
 F.length=10∧(∀i,i<10→w.cell? ⟨b,i,none⟩=some (.int .i64 (F.getD i 0)))∧w.cell? ⟨b,10,none⟩=some (.string body)
theorem PkAt.below {w w':World} {b B:Nat} {F:List Int} {body:ByteArray} (h:PkAt w b F body) (hb:Below B w w') (hB:b<B):PkAt w' b F body:=
 ⟨h.1,fun i hi=>(hb.cell (p:=⟨b,i,none⟩) hB).trans (h.2.1 i hi),(hb.cell (p:=⟨b,10,none⟩) hB).trans h.2.2⟩
def bV (F:List Int) (n:Nat):Int:=if F.all ap then(if 40<n then 1 else 0)else 2
structure Sn where
 k:Int
 n:Int
 F:List Int
def WF (F:List Int):Prop:=F.length=10∧∀i,ap (F.getD i 0)=true
theorem WF.bd {F:List Int} (h:WF F) (i:Nat):0≤F.getD i 0∧F.getD i 0≤65535:=by simpa [ap] using h.2 i
theorem iU {F:List Int} (h:F.length=10) (ha:F.all ap=true):WF F:=by
 refine⟨h,fun i=>?_⟩;by_cases hi:i<F.length
 ·rw [List.all_eq_true]at ha;have:=ha F[i] (List.getElem_mem hi);simpa [List.getD,List.getElem?_eq_getElem hi] using this
 ·simp [List.getD,List.getElem?_eq_none (by omega:F.length≤i),ap]
theorem WF.set {F:List Int} (h:WF F) (i:Nat) (x:Int) (hx:ap x=true):WF (F.set i x):=by
 refine⟨by simp [h.1],fun j=>?_⟩;by_cases hj:j<F.length
 ·have:=h.2 j;simp only [List.getD,List.getElem?_set]at this⊢;split
  ·split
   ·simpa using hx
   ·simp [ap]
  ·exact this
 ·simp [List.getD,List.getElem?_eq_none (show(F.set i x).length≤j by simp;omega),ap]
def bn (F:List Int) (ms:List Mt):Bool:=ms.all fun m=>mk (F.getD m.f.toNat 0) m.m==m.v
def bF (F:List Int) (t:Int) (f:Fl):Bool:=(f.t==t)&&bn F f.ms
def aY (fs:List Fl) (F:List Int) (t:Int):Nat→Int
 | 0=> -1
 | k+1=>if bF F t (fs.getD k fl0)=true∧(aY fs F t k<0∨(fs.getD (aY fs F t k).toNat fl0).p<(fs.getD k fl0).p)then(k:Int)else aY fs F t k
theorem kH (fs:List Fl) (F:List Int) (t:Int):∀k, -1≤aY fs F t k∧aY fs F t k<k
 | 0=>by simp [aY]
 | k+1=>by
  have:=kH fs F t k;unfold aY;split <;>omega
def BR (fs:List Fl) (F:List Int) (t:Int) (lo hi:Nat) (b:Int):Prop:=
 (b= -1∧∀i,lo≤i→i<hi→bF F t (fs.getD i fl0)=false)∨
 (∃j:Nat,b=j∧lo≤j∧j<hi∧bF F t (fs.getD j fl0)=true∧∀i,lo≤i→i<hi→bF F t (fs.getD i fl0)=true→(fs.getD i fl0).p≤(fs.getD j fl0).p∧(i<j→(fs.getD i fl0).p<(fs.getD j fl0).p))
theorem dJ (fs:List Fl) (F:List Int) (t:Int):∀k,BR fs F t 0 k (aY fs F t k)
 | 0=>.inl ⟨rfl,fun i _ h=>absurd h (by omega)⟩
 | k+1=>by
  have ih:=dJ fs F t k;unfold aY;by_cases h:bF F t (fs.getD k fl0)=true∧(aY fs F t k<0∨(fs.getD (aY fs F t k).toNat fl0).p<(fs.getD k fl0).p)
  ·rw [if_pos h];refine .inr ⟨k,rfl,by omega,by omega,h.1,fun i _ hi hf=>?_⟩;rcases ih with⟨hb,ha⟩ |⟨j,hb,_,hj,hfj,ha⟩
   ·by_cases e:i=k
    ·subst e;exact⟨Int.le_refl _,fun h=>absurd h (by omega)⟩
    ·rw [ha i (by omega) (by omega)]at hf;simp at hf
   ·rw [hb]at h;simp only [Int.toNat_natCast]at h;have hp:(fs.getD j fl0).p<(fs.getD k fl0).p:=by rcases h.2 with h' | h' <;>omega
    by_cases e:i=k
    ·subst e;exact⟨Int.le_refl _,fun h=>absurd h (by omega)⟩
    ·have:=ha i (by omega) (by omega) hf;exact⟨by omega,fun _=>by omega⟩
  ·rw [if_neg h];rcases ih with⟨hb,ha⟩ |⟨j,hb,h0,hj,hfj,ha⟩
   ·refine .inl ⟨hb,fun i _ hi=>?_⟩;by_cases e:i=k
    ·subst e;rw [hb]at h;by_cases hf:bF F t (fs.getD i fl0)=true
     ·exact absurd ⟨hf,.inl (by omega)⟩ h
     ·simpa using hf
    ·exact ha i (by omega) (by omega)
   ·refine .inr ⟨j,hb,h0,by omega,hfj,fun i _ hi hf=>?_⟩;by_cases e:i=k
    ·subst e;rw [hb]at h;simp only [Int.toNat_natCast]at h;have:¬(fs.getD j fl0).p<(fs.getD i fl0).p:=fun hp=>h ⟨hf,.inr hp⟩;exact⟨by omega,fun h'=>absurd h' (by omega)⟩
    ·exact ha i (by omega) (by omega) hf
def iZ (fs:List Fl) (b:Int):List Do:=if b<0 then []else(fs.getD b.toNat fl0).ds
def doF (F:List Int) (d:Do):List Int:=
 if d.k=1 then F.set d.a.toNat d.n else if d.k=2 then F.set d.a.toNat (F.getD d.n.toNat 0)else if d.k=3 then F.set d.a.toNat (if 0<F.getD d.a.toNat 0 then F.getD d.a.toNat 0-1 else 0)else F
structure St where
 F:List Int
 t:Int
 out:List Sn
def step (s:St) (d:Do):St:=
 if d.k=5∨d.k=6 then⟨s.F,s.t,s.out++ [⟨d.k,d.n,s.F⟩]⟩else if d.k=4 then⟨s.F,d.n,s.out⟩else⟨doF s.F d,s.t,s.out⟩
def stepTo (s:St) (ds:List Do):Nat→St
 | 0=>s
 | k+1=>step (stepTo s ds k) (ds.getD k do0)
def dK (fs:List Fl) (s:St):St:=stepTo ⟨s.F,8,s.out⟩ (iZ fs (aY fs s.F s.t fs.length)) (iZ fs (aY fs s.F s.t fs.length)).length
def eY (fs:List Fl):Nat→St→St
 | 0,s=>s
 | n+1,s=>if 7<s.t then s else eY fs n (dK fs s)
theorem cQ (fs:List Fl) (s:St) (h:7<s.t):∀n,eY fs n s=s
 | 0=>rfl
 | n+1=>by unfold eY;rw [if_pos h]
def ran (fs:List Fl) (F:List Int):List Sn:=(eY fs 8 ⟨F,0,[]⟩).out
theorem kN {t:Int} {ds:List Do} {k:Nat} (h:doB t ds k=true):
  let d:=ds.getD k do0
  (d.k=1∧0≤d.a∧d.a≤9∧ap d.n=true)∨(d.k=2∧0≤d.a∧d.a≤9∧0≤d.n∧d.n≤9)∨(d.k=3∧0≤d.a∧d.a≤9)∨(d.k=4∧t<d.n∧d.n≤7)∨(d.k=5∧ap d.n=true)∨(d.k=6∧0≤d.n∧d.n≤5):=by
 intro d;have h':eF d.k d.a d.n t ((k:Int)+1==(ds.length:Int))=true:=h
 clear_value d
 unfold eF at h';split at h'
 ·rename_i e;simp at h';exact .inl ⟨e,h'.1.1,h'.1.2,by simpa [ap] using h'.2⟩
 ·split at h'
  ·rename_i e;simp at h';exact .inr (.inl ⟨e,h'.1.1,h'.1.2,h'.2.1,h'.2.2⟩)
  ·split at h'
   ·rename_i e;simp at h';exact .inr (.inr (.inl ⟨e,h'.1.1,h'.1.2⟩))
   ·split at h'
    ·rename_i e;simp at h';exact .inr (.inr (.inr (.inl ⟨e,by omega,h'.1.2.2⟩)))
    ·split at h'
     ·rename_i e;simp at h';exact .inr (.inr (.inr (.inr (.inl ⟨e,by simpa [ap] using h'.2⟩))))
     ·split at h'
      ·rename_i e;simp at h';exact .inr (.inr (.inr (.inr (.inr ⟨e,h'.2.1,h'.2.2⟩))))
      ·simp at h'
def Ok (t:Int) (c:Nat) (s:St):Prop:=WF s.F∧t<s.t∧s.t≤8∧s.out.length≤c
theorem Ok.step {t:Int} {c:Nat} {s:St} {ds:List Do} {k:Nat} (h:Ok t c s) (hd:doB t ds k=true):Ok t (c+1) (step s (ds.getD k do0)):=by
 obtain⟨hF,h1,h2,h3⟩:=h;have hp:=kN hd;generalize ds.getD k do0=d at hp;have hw:∀i,ap (s.F.getD i 0)=true:=hF.2;simp only at hp;rcases hp with⟨e,a0,a1,hn⟩ |⟨e,a0,a1,n0,n1⟩ |⟨e,a0,a1⟩ |⟨e,n0,n1⟩ |⟨e,hn⟩ |⟨e,n0,n1⟩
 ·have:Go.Proofs.YtjiajblbpokfgaaGreat.step s d=⟨s.F.set d.a.toNat d.n,s.t,s.out⟩:=by unfold Go.Proofs.YtjiajblbpokfgaaGreat.step doF;simp [e]
  rw [this];exact⟨hF.set _ _ hn,h1,h2,by simp;omega⟩
 ·have:Go.Proofs.YtjiajblbpokfgaaGreat.step s d=⟨s.F.set d.a.toNat (s.F.getD d.n.toNat 0),s.t,s.out⟩:=by unfold Go.Proofs.YtjiajblbpokfgaaGreat.step doF;simp [e]
  rw [this];exact⟨hF.set _ _ (hw _),h1,h2,by simp;omega⟩
 ·have:Go.Proofs.YtjiajblbpokfgaaGreat.step s d=⟨s.F.set d.a.toNat (if 0<s.F.getD d.a.toNat 0 then s.F.getD d.a.toNat 0-1 else 0),s.t,s.out⟩:=by unfold Go.Proofs.YtjiajblbpokfgaaGreat.step doF;simp [e]
  rw [this];refine⟨hF.set _ _ ?_,h1,h2,by simp;omega⟩;have:=hF.bd d.a.toNat;generalize s.F.getD d.a.toNat 0=x at this;split
  ·simp [ap];omega
  ·simp [ap]
 ·have:Go.Proofs.YtjiajblbpokfgaaGreat.step s d=⟨s.F,d.n,s.out⟩:=by unfold Go.Proofs.YtjiajblbpokfgaaGreat.step;simp [e]
  rw [this];exact⟨hF,n0,by simp;omega,by simp;omega⟩
 ·have:Go.Proofs.YtjiajblbpokfgaaGreat.step s d=⟨s.F,s.t,s.out++ [⟨d.k,d.n,s.F⟩]⟩:=by unfold Go.Proofs.YtjiajblbpokfgaaGreat.step;simp [e]
  rw [this];exact⟨hF,h1,h2,by simp;omega⟩
 ·have:Go.Proofs.YtjiajblbpokfgaaGreat.step s d=⟨s.F,s.t,s.out++ [⟨d.k,d.n,s.F⟩]⟩:=by unfold Go.Proofs.YtjiajblbpokfgaaGreat.step;simp [e]
  rw [this];exact⟨hF,h1,h2,by simp;omega⟩
theorem Ok.stepTo {t:Int} {c:Nat} {s:St} {ds:List Do} (h:Ok t c s) (hd:∀k,k<ds.length→doB t ds k=true):∀k,k≤ds.length→Ok t (c+k) (stepTo s ds k)
 | 0,_=>h
 | k+1,hk=>(Ok.stepTo h hd k (by omega)).step (hd k (by omega))
theorem lM {fs:List Fl} (h:bh fs=0) {i:Nat} (hi:i<fs.length):fs.length≤5000∧(fs.getD i fl0).ms.length≤12∧(fs.getD i fl0).ds.length≤100∧0≤(fs.getD i fl0).t∧(fs.getD i fl0).t≤7∧0≤(fs.getD i fl0).p∧(fs.getD i fl0).p≤2000
  ∧(∀j,j<(fs.getD i fl0).ms.length→aZ ((fs.getD i fl0).ms.getD j mt0)=true)∧(∀j,j<(fs.getD i fl0).ds.length→doB (fs.getD i fl0).t (fs.getD i fl0).ds j=true):=by
 have h5:¬5000<fs.length:=fun h'=>by unfold bh at h;rw [if_pos h']at h;omega
 unfold bh at h;rw [if_neg h5]at h;have hz:aI (fs.getD i fl0)=0:=by
  clear h5
  induction fs generalizing i with
  | nil=>simp at hi
  | cons f r ih=>
   simp only [dN]at h;by_cases e:aI f=0
   ·rw [if_pos e]at h;cases i with
    | zero=>simpa using e
    | succ i=>rw [List.getD_cons_succ];exact ih h (by simpa using hi)
   ·rw [if_neg e]at h;exact absurd h e
 generalize fs.getD i fl0=f at hz;unfold aI at hz;split at hz
 ·omega
 ·rename_i s1;split at hz
  ·omega
  ·rename_i s2;split at hz
   ·omega
   ·rename_i s3;split at hz
    ·omega
    ·rename_i s4;have s2':fC f.t=true∧iz f.p=true:=(by simpa using s2);have s3':f.ms.all aZ=true:=(by simpa using s3);have s4':(List.range f.ds.length).all (doB f.t f.ds)=true:=(by simpa using s4);simp only [fC,iz,decide_eq_true_eq]at s2';rw [List.all_eq_true]at s3' s4';refine⟨by omega,by omega,by omega,s2'.1.1,s2'.1.2,s2'.2.1,s2'.2.2,fun j hj=>?_,fun j hj=>s4' j (List.mem_range.2 hj)⟩;have:=s3' f.ms[j] (List.getElem_mem hj);simpa [List.getD,List.getElem?_eq_getElem hj] using this
def S (body:ByteArray) (l:List Sn):List Value:=l.flatMap fun x=>[.int .i64 x.k,.int .i64 x.n,.int .i64 (x.F.getD 0 0),.int .i64 (x.F.getD 1 0),.int .i64 (x.F.getD 2 0),.int .i64 (x.F.getD 3 0),.int .i64 (x.F.getD 4 0),.int .i64 (x.F.getD 5 0),.int .i64 (x.F.getD 6 0),.int .i64 (x.F.getD 7 0),.int .i64 (x.F.getD 8 0),.int .i64 (x.F.getD 9 0),.string body]
theorem rl (body:ByteArray) (a b:List Sn):S body (a++b)=S body a++S body b:=by simp [S]
theorem fL {α:Type} {l:List α} {d:α} {i:Nat} (h:i<l.length):l.getD i d∈l:=by
 rw [List.getD_eq_getElem?_getD,List.getElem?_eq_getElem h];exact List.getElem_mem h
theorem wR {α:Type} {l:List α} (d:α) {x:α} (h:x∈l):∃i,i<l.length∧l.getD i d=x:=by
 obtain⟨i,hi,e⟩:=List.getElem_of_mem h;exact⟨i,hi,by rw [List.getD_eq_getElem?_getD,List.getElem?_eq_getElem hi];exact e⟩
theorem zu {fs:List Fl} {F:List Int} {t:Int} (h:∀g∈fs,bF F t g=false):aY fs F t fs.length= -1:=by
 rcases dJ fs F t fs.length with⟨e,_⟩ |⟨j,e,_,hj,hf,_⟩
 ·exact e
 ·rw [h _ (fL hj)]at hf;exact absurd hf (by decide)
theorem yZ {fs:List Fl} {F:List Int} {t:Int} {f:Fl} (hf:f∈fs) (h1:bF F t f=true) (h2:∀g∈fs,bF F t g=true→g.p<f.p∨g.ds=f.ds):iZ fs (aY fs F t fs.length)=f.ds:=by
 obtain⟨i,hi,e⟩:=wR fl0 hf;rcases dJ fs F t fs.length with⟨_,hn⟩ |⟨j,hb,_,hj,hfj,ha⟩
 ·have:=hn i (Nat.zero_le _) hi;rw [e,h1]at this;exact absurd this (by decide)
 ·have h3:=(ha i (Nat.zero_le _) hi (by rw [e];exact h1)).1;rw [e]at h3;rw [hb];unfold iZ;rw [if_neg (by omega),Int.toNat_natCast];rcases h2 _ (fL hj) hfj with h | h
  ·omega
  ·exact h
theorem k9 (s:St) (ds:List Do):∀k,k≤ds.length→stepTo s ds k=(ds.take k).foldl step s
 | 0,_=>rfl
 | k+1,hk=>by
  rw [List.take_succ_eq_append_getElem (by omega),List.foldl_append, ←k9 s ds k (by omega)];simp only [stepTo,List.foldl_cons,List.foldl_nil];rw [List.getD_eq_getElem?_getD,List.getElem?_eq_getElem (by omega)];rfl
theorem mC (fs:List Fl) (s:St):dK fs s=(iZ fs (aY fs s.F s.t fs.length)).foldl step ⟨s.F,8,s.out⟩:=by
 unfold dK;rw [k9 _ _ _ zr,List.take_length]
theorem wL {fs:List Fl} {s:St} (h:∀g∈fs,bF s.F s.t g=false):dK fs s=⟨s.F,8,s.out⟩:=by
 rw [mC,zu h];rfl
theorem xC {fs:List Fl} {s:St} {f:Fl} (hf:f∈fs) (h1:bF s.F s.t f=true) (h2:∀g∈fs,bF s.F s.t g=true→g.p<f.p∨g.ds=f.ds):dK fs s=f.ds.foldl step ⟨s.F,8,s.out⟩:=by
 rw [mC,yZ hf h1 h2]
theorem oF (fs:List Fl) (n:Nat) (s:St) (h:s.t≤7):eY fs (n+1) s=eY fs n (dK fs s):=by
 rw [eY,if_neg (by omega)]
theorem gt {fs:List Fl} {n:Nat} {s:St} (hn:0<n) (ht:s.t≤7) (h:∀g∈fs,bF s.F s.t g=false):(eY fs n s).out=s.out:=by
 obtain⟨m,rfl⟩:∃m,n=m+1:=⟨n-1,by omega⟩;rw [oF _ _ _ ht,wL h,cQ _ _ (by simp)]
theorem cL {fs:List Fl} {n:Nat} {s:St} (ht:s.t≤7) {f:Fl} (hf:f∈fs) (h1:bF s.F s.t f=true) (h2:∀g∈fs,bF s.F s.t g=true→g.p<f.p∨g.ds=f.ds):eY fs (n+1) s=eY fs n (f.ds.foldl step ⟨s.F,8,s.out⟩):=by
 rw [oF _ _ _ ht,xC hf h1 h2]
section
variable {α:Type}
def mrg (le:α→α→Bool) (A B:List α):List α:=List.merge A B le
theorem eu (le:α→α→Bool) (B:List α):mrg le [] B=B:=by unfold mrg;simp
theorem dU (le:α→α→Bool) (A:List α):mrg le A []=A:=by unfold mrg;simp
theorem ia (le:α→α→Bool) (x y:α) (A B:List α):mrg le (x::A) (y::B)=if le x y=true then x::mrg le A (y::B)else y::mrg le (x::A) B:=by
 unfold mrg;rw [List.cons_merge_cons]
theorem gb (le:α→α→Bool):∀(n:Nat) (A1 A2 B1 B2:List α),A1.length+B1.length=n→(∀x∈A1,∀y∈B2,le x y=true)→(∀y∈B1,∀x∈A2,le x y=false)→mrg le (A1++A2) (B1++B2)=mrg le A1 B1++mrg le A2 B2:=by
 intro n
 induction n with
 | zero=>
  intro A1 A2 B1 B2 hn _ _;obtain rfl:A1= []:=List.eq_nil_of_length_eq_zero (by omega);obtain rfl:B1= []:=List.eq_nil_of_length_eq_zero (by omega);simp [eu]
 | succ n ih=>
  intro A1 A2 B1 B2 hn h1 h2;cases A1 with
  | nil=>
   cases B1 with
   | nil=>simp at hn
   | cons y ys=>
    rw [eu];cases A2 with
    | nil=>simp [eu]
    | cons x xs=>
     have hq:=ih [] (x::xs) ys B2 (by simpa using hn) (by simp) (fun z hz=>h2 z (List.mem_cons_of_mem _ hz));rw [eu]at hq;simp only [List.nil_append,List.cons_append]at hq⊢;rw [ia,if_neg (by rw [h2 y (by simp) x (by simp)];simp),hq]
  | cons x xs=>
   cases B1 with
   | nil=>
    rw [dU];cases B2 with
    | nil=>simp [dU]
    | cons y ys=>
     have hq:=ih xs A2 [] (y::ys) (by simpa using hn) (fun z hz=>h1 z (List.mem_cons_of_mem _ hz)) (by simp);rw [dU]at hq;simp only [List.nil_append,List.cons_append]at hq⊢;rw [ia,if_pos (h1 x (by simp) y (by simp)),hq]
   | cons y ys=>
    simp only [List.cons_append];rw [ia,ia];by_cases hle:le x y=true
    ·rw [if_pos hle,if_pos hle];have hq:=ih xs A2 (y::ys) B2 (by simp at hn⊢;omega) (fun z hz=>h1 z (List.mem_cons_of_mem _ hz)) h2;simp only [List.cons_append]at hq;rw [hq];rfl
    ·rw [if_neg hle,if_neg hle];have hq:=ih (x::xs) A2 ys B2 (by simp at hn⊢;omega) h1 (fun z hz=>h2 z (List.mem_cons_of_mem _ hz));simp only [List.cons_append]at hq;rw [hq];rfl
theorem Al (le:α→α→Bool) (A B:List α) (h:∀x∈A,∀y∈B,le x y=true):mrg le A B=A++B:=by
 have:=gb le _ A [] [] B rfl h (by simp);simpa [eu,dU] using this
theorem wv (le:α→α→Bool) (A B:List α) (h:∀y∈B,∀x∈A,le x y=false):mrg le A B=B++A:=by
 have:=gb le _ [] A B [] rfl (by simp) h;simpa [eu,dU] using this
theorem zY (le:α→α→Bool) (x:α) (B1 B2:List α) (h1:∀y∈B1,le x y=false) (h2:∀y∈B2,le x y=true):mrg le [x] (B1++B2)=B1++x::B2:=by
 have:=gb le _ [] [x] B1 B2 rfl (by simp) (by simpa using h1);simp only [List.nil_append,eu]at this;rw [this,Al le [x] B2 (by simpa using h2)];rfl
theorem wV (le:α→α→Bool) (y:α) (A1 A2:List α) (h1:∀x∈A1,le x y=true) (h2:∀x∈A2,le x y=false):mrg le (A1++A2) [y]=A1++y::A2:=by
 have:=gb le _ A1 A2 [] [y] rfl (by simpa using h1) (by simp);simp only [List.nil_append,dU]at this;rw [this,wv le A2 [y] (by simpa using h2)];rfl
theorem lK (le:α→α→Bool) (A B:List α) (z:α):z∈mrg le A B↔z∈A∨z∈B:=by
 unfold mrg;exact List.mem_merge
theorem lN (le:α→α→Bool) (A B:List α):(mrg le A B).length=A.length+B.length:=by
 unfold mrg;exact List.length_merge ..
def Asc (le:α→α→Bool) (A:List α):Prop:=A.Pairwise (fun x y=>le x y=true)
theorem Ah {le:α→α→Bool} (tr:∀x y z,le x y=true→le y z=true→le x z=true) (tot:∀x y,le x y=true∨le y x=true) {A B:List α} (hA:Asc le A) (hB:Asc le B):Asc le (mrg le A B):=by
 unfold mrg Asc at*;exact List.pairwise_merge tr (fun x y=>by rcases tot x y with h | h <;>simp [h]) _ _ hA hB
theorem fI {p:List α→Prop} (h0:p []) (h1:∀A x,p A→p (A++ [x])) (A:List α):p A:=by
 have:∀n,∀B:List α,B.length=n→p B:=by
  intro n
  induction n with
  | zero=>intro B hB;rw [List.eq_nil_of_length_eq_zero hB];exact h0
  | succ n ih=>
   intro B hB;have hne:B≠ []:=fun e=>by rw [e]at hB;simp at hB
   rw [←List.dropLast_concat_getLast hne];exact h1 _ _ (ih _ (by simp;omega))
 exact this _ A rfl
def aM (le:α→α→Bool) (A:List α):List α:=A.foldl (fun acc x=>mrg le acc [x]) []
theorem fE (le:α→α→Bool) (A:List α) (x:α):aM le (A++ [x])=mrg le (aM le A) [x]:=by
 unfold aM;rw [List.foldl_append];rfl
theorem dG {le:α→α→Bool} (tr:∀x y z,le x y=true→le y z=true→le x z=true) (tot:∀x y,le x y=true∨le y x=true) (A:List α):Asc le (aM le A):=by
 induction A using fI with
 | h0=>unfold aM Asc;simp
 | h1 A x ih=>
  rw [fE];exact Ah tr tot ih (by unfold Asc;simp)
theorem aO (le:α→α→Bool) (A:List α):(aM le A).length=A.length:=by
 induction A using fI with
 | h0=>rfl
 | h1 A x ih=>rw [fE,lN,ih];simp
theorem fj (le:α→α→Bool) (A:List α) (z:α):z∈aM le A↔z∈A:=by
 induction A using fI with
 | h0=>unfold aM;simp
 | h1 A x ih=>rw [fE,lK,ih];simp
theorem mN (P1 P2 P3:List α) (x y:α):((P1++x::P2++y::P3).set P1.length y).set (P1.length+1+P2.length) x=P1++y::P2++x::P3:=by
 have e1:(P1++x::P2++y::P3).set P1.length y=P1++y::P2++y::P3:=by
  rw [List.append_assoc,List.set_append_right _ _ (by omega)];simp
 rw [e1,List.set_append_right _ _ (by simp;omega)];have e2:P1.length+1+P2.length-(P1++y::P2).length=0:=by simp;omega
 rw [e2];rfl
end
def isM (f v:Int):Mt:=⟨f,65535,v⟩
def hiM (f v b:Int):Mt:=⟨f,65536-2 ^ (16-b).toNat,v⟩
def cX:List Mt:=[isM 3 3,⟨6,65280,0⟩]
def cW (k:Int):List Mt:=[isM 3 k,isM 6 0,isM 7 0]
def bU (p:Pr):List Mt:=[isM 0 p.i,isM 8 0,isM 9 0,isM 2 p.m,isM 4 p.p]
def aT (n:Int):Do:=⟨4,0,n⟩
def ax (q:Pr):List Do:=[⟨1,9,q.i⟩,⟨6,0,q.c⟩]
def gD (ip mac ch:Int):List Do:=[⟨1,3,2⟩,⟨2,1,2⟩,⟨1,2,mac⟩,⟨2,5,4⟩,⟨1,4,ip⟩,⟨2,9,0⟩,⟨6,0,ch⟩]
def cK (p:Pr):List Do:=[⟨1,1,p.m⟩,⟨1,2,60000+p.s⟩,⟨3,6,0⟩,⟨1,8,p.s⟩]
def bl (r:Ac):List Mt:=[hiM 4 r.src r.sb,hiM 5 r.dst r.db]++(if r.o= -1 then []else [isM 7 r.o])
def bZ (s:Int) (p:Pr):Bool:=p.s==s
def aw (p:Pr):Bool:= !(p.c== -1)
def cn (p q:Pr):Bool:=(q.s==p.s&& !(q.i==p.i))&&aw q
def cw (S:List Sw) (t:Int) (p:Pr):Bool:=S.any fun s=>s.i==p.s&&s.t==t&& !(s.g==0)
def tunnelFl:List Fl:=[⟨0,0,cX++ [isM 0 0],[aT 4]⟩,⟨0,0,cW 2++ [isM 0 0],[aT 5]⟩]
def bT (P:List Pr) (p:Pr):List Fl:=
 [⟨0,0,bU p++cX,[⟨1,8,p.s⟩,aT 2]⟩,⟨0,0,bU p++cW 1,[⟨1,8,p.s⟩,aT 1]⟩,⟨1,1,[isM 0 p.i,isM 5 p.p],[]⟩,⟨3,1,[isM 0 p.i,isM 1 p.m],[]⟩,
  ⟨3,0,[isM 0 p.i,isM 1 65535],(P.filter (cn p)).flatMap ax⟩,⟨5,0,[isM 8 p.s,isM 9 p.i],[⟨5,0,p.i⟩]⟩]
def bD (s ip mac ch:Int):Fl:=⟨1,0,[isM 8 s,isM 5 ip],gD ip mac ch⟩
def eP (P:List Pr) (s:Sw) (ch:Int):List Fl:=(if s.g=0 then []else [bD s.i s.g (60000+s.i) ch])++(P.filter (bZ s.i)).map fun p=>bD s.i p.p p.m ch
def cV (R:List Ac) (s t n:Int) (i:Nat):Fl:=⟨t,(R.length:Int)-i,bl (R.getD i ac0)++ [isM 8 s],if(R.getD i ac0).d then []else [aT n]⟩
def bs (R:List Ac) (s t n:Int):List Fl:=⟨t,0,[isM 8 s],[aT n]⟩::(List.range R.length).map (cV R s t n)
def bL (P:List Pr) (s:Sw):List Fl:=(P.filter fun p=>bZ s.i p&&aw p).map fun p=>⟨3,0,[isM 8 s.i,isM 1 p.m],ax p⟩
def aX (s:Sw):List Mt:=[isM 8 s.i,isM 1 (60000+s.i)]
def bG (S:List Sw) (P:List Pr) (s:Sw):List Fl:=if s.g=0 then []else
 ⟨3,1,aX s++ [⟨6,65534,0⟩],[]⟩::(P.filter fun p=>cw S s.t p&&aw p).map fun p=>⟨3,0,aX s++ [isM 5 p.p],cK p++ax p⟩
def aD (x y:Ac):Bool:=decide (y.p≤x.p)
def aH (R:List Ac):List Ac:=mrg aD (aM aD (R.take 20)) (aM aD (R.drop 20))
def aP (A:List Ac) (s:Int) (inn:Bool):List Ac:=A.filter fun r=>r.s==s&&r.n==inn
def bk (S:List Sw) (P:List Pr) (A:List Ac) (s:Sw) (ch:Int):List Fl:=
 eP P s ch++bs (aH (aP A s.i true)) s.i 2 3++bL P s++bG S P s++bs (aH (aP A s.i false)) s.i 4 5
def cm (ch:Int) (p:Pr):Bool:=p.c==ch
def cY (S:List Sw) (P:List Pr) (A:List Ac) (ch:Int):List Fl:=
 tunnelFl++(P.filter (cm ch)).flatMap (bT P)++(S.filter fun s=>(P.filter (cm ch)).any (bZ s.i)).flatMap fun s=>bk S P A s ch
def cu (x y:Option Ac):Option Ac:=
 match x with
 | none=>y
 | some a=>match y with
  | none=>some a
  | some b=>if a.p<b.p then some b else some a
theorem qR (y:Option Ac):cu none y=y:=rfl
theorem eT (y:Option Ac):cu y none=y:=by cases y <;>rfl
theorem pj (x y z:Option Ac):cu (cu x y) z=cu x (cu y z):=by
 cases x with
 | none=>rfl
 | some a=>
  cases y with
  | none=>rfl
  | some b=>
   cases z with
   | none=>rw [eT,eT]
   | some c=>
    simp only [cu];by_cases h1:a.p<b.p
    ·by_cases h2:b.p<c.p
     ·simp only [h1,h2,if_true];rw [if_pos (by omega)]
     ·simp only [h1,h2,if_true,if_false]
    ·by_cases h2:b.p<c.p
     ·simp only [h1,h2,if_true,if_false]
     ·simp only [h1,h2,if_false];rw [if_neg (by omega)]
def dH (l:List Ac):Option Ac:=l.foldl (fun acc r=>cu acc (some r)) none
theorem se (l:List Ac):∀x,l.foldl (fun acc r=>cu acc (some r)) x=cu x (dH l):=by
 induction l with
 | nil=>intro x;simp [dH,eT]
 | cons a r ih=>
  intro x;simp only [dH,List.foldl_cons];rw [ih,ih (cu none (some a)),qR,pj]
theorem kF (a b:List Ac):dH (a++b)=cu (dH a) (dH b):=by
 unfold dH;rw [List.foldl_append,se b];rfl
theorem fO (x y z:Ac) (h1:aD x y=true) (h2:aD y z=true):aD x z=true:=by
 simp [aD]at*;omega
theorem fK (x y:Ac):aD x y=true∨aD y x=true:=by
 simp [aD];omega
theorem uF {q:Ac→Bool} {x z:Ac} {l:List Ac} (h:∀y∈l,y.p≤x.p) (hz:l.find? q=some z):z.p≤x.p:=h z (List.mem_of_find?_eq_some hz)
theorem rR {x:Ac} {o:Option Ac} (h:∀z,o=some z→z.p≤x.p):cu (some x) o=some x:=by
 cases o with
 | none=>rfl
 | some z=>have:=h z rfl;simp only [cu];rw [if_neg (by omega)]
theorem pC {y:Ac} {o:Option Ac} (h:∀z,o=some z→z.p<y.p):cu o (some y)=some y:=by
 cases o with
 | none=>rfl
 | some z=>have:=h z rfl;simp only [cu];rw [if_pos this]
theorem qv (q:Ac→Bool):∀(n:Nat) (A B:List Ac),A.length+B.length=n→Asc aD A→Asc aD B→(mrg aD A B).find? q=cu (A.find? q) (B.find? q):=by
 intro n
 induction n with
 | zero=>
  intro A B hn _ _;obtain rfl:A= []:=List.eq_nil_of_length_eq_zero (by omega);obtain rfl:B= []:=List.eq_nil_of_length_eq_zero (by omega);rw [eu];rfl
 | succ n ih=>
  intro A B hn hA hB;cases A with
  | nil=>rw [eu];rfl
  | cons x xs=>
   cases B with
   | nil=>rw [dU,List.find?_nil,eT]
   | cons y ys=>
    have hA':=List.pairwise_cons.1 hA;have hB':=List.pairwise_cons.1 hB;rw [ia];by_cases hle:aD x y=true
    ·rw [if_pos hle];have hxy:y.p≤x.p:=(by simpa [aD] using hle);cases hq:q x with
     | true=>
      rw [List.find?_cons_of_pos (by simpa using hq),List.find?_cons_of_pos (by simpa using hq),rR];intro z hz;refine uF (fun u hu=>?_) hz;rcases List.mem_cons.1 hu with rfl | hu
      ·exact hxy
      ·have:=hB'.1 u hu;simp [aD]at this;omega
     | false=>
      rw [List.find?_cons_of_neg (by simp [hq]),List.find?_cons_of_neg (by simp [hq])];exact ih xs (y::ys) (by simp at hn⊢;omega) hA'.2 hB
    ·rw [if_neg hle];have hxy:x.p<y.p:=by simp [aD]at hle;exact hle
     cases hq:q y with
     | true=>
      rw [List.find?_cons_of_pos (by simpa using hq),List.find?_cons_of_pos (a:=y) (by simpa using hq),pC];intro z hz;refine Int.lt_of_le_of_lt (uF (x:=x) (fun u hu=>?_) hz) hxy;rcases List.mem_cons.1 hu with rfl | hu
      ·exact Int.le_refl _
      ·have:=hA'.1 u hu;simpa [aD] using this
     | false=>
      rw [List.find?_cons_of_neg (by simp [hq]),List.find?_cons_of_neg (a:=y) (by simp [hq])];exact ih (x::xs) ys (by simp at hn⊢;omega) hA hB'.2
theorem nu (q:Ac→Bool) (l:List Ac):(aM aD l).find? q=dH (l.filter q):=by
 induction l using fI with
 | h0=>rfl
 | h1 A x ih=>
  rw [fE,qv q _ _ _ rfl (dG fO fK A) (by unfold Asc;simp),ih,List.filter_append,kF];congr 1;cases hq:q x <;>simp [hq,dH,cu]
theorem qZ (q:Ac→Bool) (R:List Ac):(aH R).find? q=dH (R.filter q):=by
 unfold aH;rw [qv q _ _ _ rfl (dG fO fK _) (dG fO fK _),nu,nu, ←kF, ←List.filter_append,List.take_append_drop]
theorem rO (R:List Ac) (x:Ac):x∈aH R↔x∈R:=by
 unfold aH;rw [lK,fj,fj, ←List.mem_append,List.take_append_drop]
def bq (S:List Sw) (P:List Pr) (t ip:Int):Bool:=S.any (fun x=>x.t==t&&x.g==ip)|| P.any (fun x=>x.p==ip&&S.any (fun s=>s.i==x.s&&s.t==t))
theorem cO {α:Type} {C:α→List Value} {sz:Nat} {w:World} {v:Value} {l:List α} (h:RowAt C sz w v l):∃o n c,v= .slice o n c:=by
 obtain⟨o,c,h⟩:=h.slice;exact⟨o,_,c,h⟩
theorem xP (x:Pr) (S:List Sw) (sv pv av:Value) (ip t:Int) (bi bc bt:Nat) (w:World) (hS:ev w sv S) (hpv:∃o n c,pv= .slice o n c) (hav:∃o n c,av= .slice o n c) (h1:w.cell? ⟨bi,0,none⟩=some (.int .i64 ip)) (h2:w.cell? ⟨bc,0,none⟩=some sv) (h3:w.cell? ⟨bc,1,none⟩=some pv) (h4:w.cell? ⟨bc,2,none⟩=some av)
  (h5:w.cell? ⟨bt,0,none⟩=some (.int .i64 t)) (hl:S.length*24≤140737488355328):
  Calls Tryz.prog 202 #[.agg #[.int .i64 x.i,.int .i64 x.s,.int .i64 x.m,.int .i64 x.p,.int .i64 x.c],.pointer (some ⟨bi,0,none⟩),.pointer (some ⟨bc,0,none⟩),.pointer (some ⟨bt,0,none⟩)] w fun e w'=>e= .returned (.bool (x.p==ip&&S.any (fun s=>s.i==x.s&&s.t==t)))∧Below w.heap.size w w':=by
 have q1:=am h1;have q2:=am h2;have q5:=am h5;have n1:bi≠w.heap.size:=by omega
 have n2:bc≠w.heap.size:=by omega
 have n5:bt≠w.heap.size:=by omega
 obtain⟨xi,xs,xm,xp,xc⟩:=x;have HS:=aa hS;have HH:Hid (∀W:World,Below w.heap.size w W→W.cell? ⟨w.heap.size,1,none⟩=some (.int .i64 xs)→Calls Tryz.prog 172 #[.agg #[sv,pv,av],.func (.func 203) #[] #[.pointer (some ⟨w.heap.size,0,none⟩),.pointer (some ⟨bt,0,none⟩)]] W fun e w'=>e= .returned (.bool (S.any (fun s=>s.i==xs&&s.t==t)))∧Below W.heap.size W w'):=
  fun W hW hx=>lA sv pv av S _ w.heap.size bt W (RowAt.below hS hW zr) hpv hav (AS hx (zC h5 hW)) hl
 obtain⟨s1,s2,rfl⟩:=hS.slice;obtain⟨p1,pn,p2,rfl⟩:=hpv;obtain⟨a1,an,a2,rfl⟩:=hav;clear hS;generalize S.any (fun s=>s.i==xs&&s.t==t)=R at*;have hb0:Below w.heap.size w (w.alloc (.cells #[.int .i64 xi,.int .i64 xs,.int .i64 xm,.int .i64 xp,.int .i64 xc] 51)):=(Below.refl _ _).alloc zr _;go_enter Tryz.func202,Tryz.ntmps202;by_cases hx:xp=ip
 ·subst hx;go_wp2_with fail
  refine(ag HH _ hb0 (by simp)).mono ?_;rintro e w1 ⟨rfl,hb1⟩;have hb:=hb0.trans (hb1.mono hb0.size);clear hb1 hb0 HH;go_wp2_with fail
  go_ret;exact⟨aq (by simp),hb⟩
 ·clear HH;go_wp2;go_ret;exact⟨aq (by simp [hx]),hb0⟩
theorem kV (sv pv av:Value) (S:List Sw) (P:List Pr) (A:List Ac) (t ip:Int) (w:World) (hC:CfAt w sv pv av S P A) (h1:S.length*24≤140737488355328) (h2:P.length*40≤140737488355328):
  Calls Tryz.prog 174 #[.agg #[sv,pv,av],.int .i64 t,.int .i64 ip] w fun e w'=>e= .returned (.bool (bq S P t ip))∧Below w.heap.size w w':=by
 have HC:=aa hC;have HG:Hid (∀W:World,Below w.heap.size w W→W.cell? ⟨w.heap.size+1,0,none⟩=some (.int .i64 t)→W.cell? ⟨w.heap.size+1+1,0,none⟩=some (.int .i64 ip)→Calls Tryz.prog 172 #[.agg #[sv,pv,av],.func (.func 201) #[] #[.pointer (some ⟨w.heap.size+1,0,none⟩),.pointer (some ⟨w.heap.size+1+1,0,none⟩)]] W fun e w'=>e= .returned (.bool (S.any (fun x=>x.t==t&&x.g==ip)))∧Below W.heap.size W w'):=
  fun W hW a b=>jS sv pv av S _ _ _ W (RowAt.below hC.1 hW zr) (cO hC.2.1) (cO hC.2.2) (wn a b) h1
 have HP:Hid (∀W:World,Below w.heap.size w W→W.cell? ⟨w.heap.size,0,none⟩=some sv→W.cell? ⟨w.heap.size,1,none⟩=some pv→W.cell? ⟨w.heap.size,2,none⟩=some av→W.cell? ⟨w.heap.size+1,0,none⟩=some (.int .i64 t)→W.cell? ⟨w.heap.size+1+1,0,none⟩=some (.int .i64 ip)→
   Calls Tryz.prog 177 #[.agg #[sv,pv,av],.func (.func 202) #[] #[.pointer (some ⟨w.heap.size+1+1,0,none⟩),.pointer (some ⟨w.heap.size,0,none⟩),.pointer (some ⟨w.heap.size+1,0,none⟩)]] W fun e w'=>e= .returned (.bool (P.any (fun x=>x.p==ip&&S.any (fun s=>s.i==x.s&&s.t==t))))∧Below W.heap.size W w'):=
  fun W hW c0 c1 c2 a b=>nK sv pv av P _ _ _ _ W (cO hC.1) (RowAt.below hC.2.1 hW zr) (cO hC.2.2)
   (fun W' x hW'=>xP x S sv pv av ip t _ _ _ W' (RowAt.below hC.1 (hW.trans (hW'.mono hW.size)) zr) (cO hC.2.1) (cO hC.2.2) (dp b hW' zr) (dp c0 hW' zr) (dp c1 hW' zr) (dp c2 hW' zr) (dp a hW' zr) h1) h2
 have HR:Hid (bq S P t ip=(S.any (fun x=>x.t==t&&x.g==ip)|| P.any (fun x=>x.p==ip&&S.any (fun s=>s.i==x.s&&s.t==t)))):=rfl;generalize bq S P t ip=R at*;generalize S.any (fun x=>x.t==t&&x.g==ip)=R1 at*;generalize P.any (fun x=>x.p==ip&&S.any (fun s=>s.i==x.s&&s.t==t))=R2 at*;obtain⟨s1,s2,rfl⟩:=hC.1.slice;obtain⟨p1,p2,rfl⟩:=hC.2.1.slice;obtain⟨a1,a2,rfl⟩:=hC.2.2.slice;clear hC HC;go_enter Tryz.func174,Tryz.ntmps174;go_wp2_with fail
 obtain⟨W0,hW0⟩:∃W0,W0=((w.alloc (.cells #[.slice s1 S.length s2,.slice p1 P.length p2,.slice a1 A.length a2] 26)).alloc (.cells #[.int .i64 t] 3)).alloc (.cells #[.int .i64 ip] 3):=⟨_,rfl⟩;have hb0:Below w.heap.size w W0:=by rw [hW0];exact(((Below.refl _ _).alloc zr _).alloc (by simp) _).alloc (by simp;omega) _
 have c0:W0.cell? ⟨w.heap.size,0,none⟩=some (.slice s1 S.length s2):=by rw [hW0];exact au (au (aj w _ rfl _ _ _ _ rfl) _) _
 have c1:W0.cell? ⟨w.heap.size,1,none⟩=some (.slice p1 P.length p2):=by rw [hW0];exact au (au (aj w _ rfl _ _ _ _ rfl) _) _
 have c2:W0.cell? ⟨w.heap.size,2,none⟩=some (.slice a1 A.length a2):=by rw [hW0];exact au (au (aj w _ rfl _ _ _ _ rfl) _) _
 have ct:W0.cell? ⟨w.heap.size+1,0,none⟩=some (.int .i64 t):=by rw [hW0];exact au (aj _ _ (by simp) _ _ _ _ rfl) _
 have ci:W0.cell? ⟨w.heap.size+1+1,0,none⟩=some (.int .i64 ip):=by rw [hW0];exact aj _ _ (by simp) _ _ _ _ rfl
 rw [←hW0];clear hW0;refine(ag HG _ hb0 ct ci).mono ?_;rintro e w1 ⟨rfl,hb1⟩;have z0:=zC c0 hb1;have z1:=zC c1 hb1;have z2:=zC c2 hb1;have zt:=zC ct hb1;have zi:=zC ci hb1;have hb01:=hb0.trans (hb1.mono hb0.size);clear c0 c1 c2 ct ci hb0 hb1 HG;cases R1
 ·go_wp2_with fail
  refine(ag HP _ hb01 z0 z1 z2 zt zi).mono ?_;rintro e w2 ⟨rfl,hb2⟩;have hb:=hb01.trans (hb2.mono hb01.size);clear z0 z1 z2 zt zi hb01 hb2 HP;go_wp2_with fail
  go_ret;exact⟨aq (by rw [HR.out];simp),hb⟩
 ·clear z0 z1 z2 zt zi HP;go_wp2;go_ret;exact⟨aq (by rw [HR.out];simp),hb01⟩
def aK (S:List Sw) (P:List Pr) (x:Sw):Int:=
 if(inB x.i 1 500&&inB x.t 1 9&&inB x.g 0 65535)=false then 2 else if(S.any (fun s=>s.i==x.i)|| (x.g != 0&&bq S P x.t x.g))=true then 7 else if 12≤S.length then 1 else 0
theorem ee (id:Int) (w:World):Calls Tryz.prog 173 #[.int .i64 id] w fun e w'=>∃b,e= .returned (.func (.func 200) #[] #[.pointer (some ⟨b,0,none⟩)])∧w'.cell? ⟨b,0,none⟩=some (.int .i64 id)∧Below w.heap.size w w':=by
 go_enter Tryz.func173,Tryz.ntmps173;go_wp2;go_ret;exact⟨_,rfl,aj _ _ rfl _ _ _ _ rfl,(Below.refl _ _).alloc zr _⟩
theorem lD (sv pv av:Value) (S:List Sw) (P:List Pr) (A:List Ac) (x:Sw) (w:World) (hC:CfAt w sv pv av S P A) (h1:S.length*24≤140737488355328) (h2:P.length*40≤140737488355328):
  Calls Tryz.prog 115 #[.agg #[sv,pv,av],.agg #[.int .i64 x.i,.int .i64 x.t,.int .i64 x.g]] w fun e w'=>e= .returned (.int .i64 (aK S P x))∧Below w.heap.size w w':=by
 obtain⟨xi,xt,xg⟩:=x;have HI:Hid (∀(W:World) (b:Nat),Below w.heap.size w W→W.cell? ⟨b,0,none⟩=some (.int .i64 xi)→Calls Tryz.prog 172 #[.agg #[sv,pv,av],.func (.func 200) #[] #[.pointer (some ⟨b,0,none⟩)]] W fun e w'=>e= .returned (.bool (S.any (fun s=>s.i==xi)))∧Below W.heap.size W w'):=
  fun W b hW a=>gW sv pv av S _ _ W (RowAt.below hC.1 hW zr) (cO hC.2.1) (cO hC.2.2) (sV a) h1
 have HT:Hid (∀W:World,Below w.heap.size w W→Calls Tryz.prog 174 #[.agg #[sv,pv,av],.int .i64 xt,.int .i64 xg] W fun e w'=>e= .returned (.bool (bq S P xt xg))∧Below W.heap.size W w'):=fun W hW=>kV sv pv av S P A xt xg W (hC.below hW zr) h1 h2;have HR:Hid (aK S P ⟨xi,xt,xg⟩=if(inB xi 1 500&&inB xt 1 9&&inB xg 0 65535)=false then 2 else if(S.any (fun s=>s.i==xi)|| (xg != 0&&bq S P xt xg))=true then 7 else if 12≤S.length then 1 else 0):=rfl;generalize aK S P ⟨xi,xt,xg⟩=R at*;generalize S.any (fun s=>s.i==xi)=R1 at*;generalize bq S P xt xg=R2 at*;obtain⟨s1,s2,rfl⟩:=hC.1.slice;obtain⟨p1,p2,rfl⟩:=hC.2.1.slice;obtain⟨a1,a2,rfl⟩:=hC.2.2.slice;clear hC;simp only;by_cases hr1:inB xi 1 500=true
 ·by_cases hr2:inB xt 1 9=true
  ·by_cases hr3:inB xg 0 65535=true
   ·go_enter Tryz.func115,Tryz.ntmps115;go_wp2_with (first |(go_at_call 170;refine(de _ _ _ _).mono ?_;rintro e w' ⟨rfl,rfl⟩) |(go_at_call 171;refine(ez _ _).mono ?_;rintro e w' ⟨rfl,rfl⟩))
    obtain⟨W0,hW0⟩:∃W0,W0=(w.alloc (.cells #[.slice s1 S.length s2,.slice p1 P.length p2,.slice a1 A.length a2] 26)).alloc (.cells #[.int .i64 xi,.int .i64 xt,.int .i64 xg] 60):=⟨_,rfl⟩;have hb0:Below w.heap.size w W0:=by rw [hW0];exact((Below.refl _ _).alloc zr _).alloc (by simp) _
    have q0:W0.cell? ⟨w.heap.size,0,none⟩=some (.slice s1 S.length s2):=by rw [hW0];exact au (aj w _ rfl _ _ _ _ rfl) _
    have q1:W0.cell? ⟨w.heap.size,1,none⟩=some (.slice p1 P.length p2):=by rw [hW0];exact au (aj w _ rfl _ _ _ _ rfl) _
    have q2:W0.cell? ⟨w.heap.size,2,none⟩=some (.slice a1 A.length a2):=by rw [hW0];exact au (aj w _ rfl _ _ _ _ rfl) _
    have q3:W0.cell? ⟨w.heap.size+1,0,none⟩=some (.int .i64 xi):=by rw [hW0];exact aj _ _ (by simp) _ _ _ _ rfl
    have q4:W0.cell? ⟨w.heap.size+1,1,none⟩=some (.int .i64 xt):=by rw [hW0];exact aj _ _ (by simp) _ _ _ _ rfl
    have q5:W0.cell? ⟨w.heap.size+1,2,none⟩=some (.int .i64 xg):=by rw [hW0];exact aj _ _ (by simp) _ _ _ _ rfl
    rw [←hW0];clear hW0;cases R1
    ·by_cases hg:xg=0
     ·subst hg;refine wp_region_held_drew (S:=(fun w'=>w'.cell? ⟨w.heap.size,0,none⟩=some (.slice s1 S.length s2)∧w'.cell? ⟨w.heap.size,1,none⟩=some (.slice p1 P.length p2)∧w'.cell? ⟨w.heap.size,2,none⟩=some (.slice a1 A.length a2)∧w'.cell? ⟨w.heap.size+1,0,none⟩=some (.int .i64 xi)∧w'.cell? ⟨w.heap.size+1,1,none⟩=some (.int .i64 xt)∧w'.cell? ⟨w.heap.size+1,2,none⟩=some (.int .i64 0))) (by kernel_rfl) ?hS1 (fun hHeld=>?hR1)
      case hS1=>(try dsimp only);go_keep
      refine sqA [(0,23),(1,24),(2,25)] ?_;(iterate 3 (refine sqN rfl (by kernel_rfl) (fun _ _ _ h=>h) rfl ‹_› (by intro w h;go_simp <;>with_reducible rfl) ?_;simp only [nz]));refine sqZ ?_;refine rsq 3 26 (by kernel_rfl) rfl (fun K hK=>?_);go_simp;(go_at_call 173;refine(ee _ _).mono ?_;rintro e w1 ⟨bi,rfl,hbi,hb1⟩;have g1:Below W0.heap.size W0 w1:=((Below.refl _ W0).drew).trans hb1;have k1:Below w.heap.size w w1:=hb0.trans (g1.mono hb0.size);have y0:=zC q0 g1;have y1:=zC q1 g1;have y2:=zC q2 g1;have y3:=zC q3 g1;have y4:=zC q4 g1;have y5:=zC q5 g1);go_wp2_with fail
      refine hK.out _ _ ?hS5 (fun hHeld=>?hR5)
      case hS5=>(try dsimp only);go_keep
      clear hK K;(try simp only [nz]);refine rsq 4 27 (by kernel_rfl) rfl (fun K hK=>?_);go_simp;(go_at_call 172;refine(ag HI _ _ k1 hbi).mono ?_;rintro e w2 ⟨rfl,hb2⟩;have g2:Below W0.heap.size W0 w2:=g1.trans (hb2.mono g1.size);have k2:Below w.heap.size w w2:=hb0.trans (g2.mono hb0.size);have z0:=zC q0 g2;have z1:=zC q1 g2;have z2:=zC q2 g2;have z3:=zC q3 g2;have z4:=zC q4 g2;have z5:=zC q5 g2);go_wp2_with fail
      refine hK.out _ _ ?hS6 (fun hHeld=>?hR6)
      case hS6=>(try dsimp only);go_keep
      clear hK K;(try simp only [nz]);refine sqA [(5,28),(6,29),(7,30),(8,31),(9,32)] ?_;(iterate 5 (refine sqN rfl (by kernel_rfl) (fun _ _ _ h=>h) rfl ‹_› (by intro w h;go_simp <;>with_reducible rfl) ?_;simp only [nz]));refine sqZ ?_;refine wpAnyH_take (i:=10) (oi:=⟨some 33,_,_,_,_,_⟩) (v:=undef) rfl (by kernel_rfl) (by kernel_rfl) (by kernel_rfl) (fun _ _ _ h=>h) (Or.inr ⟨by rfl,rfl⟩) (by assumption) ?_;(try simp only [nz]);refine wpAnyH_take (i:=11) (oi:=⟨some 34,_,_,_,_,_⟩) (v:=undef) rfl (by kernel_rfl) (by kernel_rfl) (by kernel_rfl) (fun _ _ _ h=>h) (Or.inr ⟨by rfl,rfl⟩) (by assumption) ?_;(try simp only [nz]);refine wpAnyH_take (i:=12) (oi:=⟨some 35,_,_,_,_,_⟩) (v:=undef) rfl (by kernel_rfl) (by kernel_rfl) (by kernel_rfl) (fun _ _ _ h=>h) (Or.inr ⟨by rfl,rfl⟩) (by assumption) ?_;(try simp only [nz]);refine wpAnyH_take (i:=13) (oi:=⟨some 36,_,_,_,_,_⟩) (v:=undef) rfl (by kernel_rfl) (by kernel_rfl) (by kernel_rfl) (fun _ _ _ h=>h) (Or.inr ⟨by rfl,rfl⟩) (by assumption) ?_;(try simp only [nz]);refine wpAnyH_take (i:=14) (oi:=⟨some 37,_,_,_,_,_⟩) (v:=undef) rfl (by kernel_rfl) (by kernel_rfl) (by kernel_rfl) (fun _ _ _ h=>h) (Or.inr ⟨by rfl,rfl⟩) (by assumption) ?_;(try simp only [nz]);refine rsq 15 38 (by kernel_rfl) rfl (fun K hK=>?_);rw [if_neg (by rw [Bool.not_eq_true];rfl)];refine hK.out _ _ ?hS12 (fun hHeld=>?hR12)
      case hS12=>(try dsimp only);go_keep
      clear hK K;(try simp only [nz]);refine sqA [(16,39),(17,40),(18,22)] ?_;(iterate 3 (refine sqN rfl (by kernel_rfl) (fun _ _ _ h=>h) rfl ‹_› (by intro w h;go_simp <;>with_reducible rfl) ?_;simp only [nz]));refine sqZ ?_;refine wpAnyH_done (by kernel_rfl) ?_ _;clear HI HT;by_cases h12:12≤S.length
      ·have h12i:(12:Int)≤(S.length:Int):=(by omega);go_wp2_with fail
       go_ret;exact⟨ah (by rw [HR.out];simp_all),k2⟩
      ·have h12i:¬(12:Int)≤(S.length:Int):=(by omega);have h12j:(S.length:Int)<12:=(by omega);go_wp2_with fail
       go_ret;exact⟨ah (by rw [HR.out];simp_all),k2⟩
     ·have hgb:(xg != 0)=true:=(by simpa using hg);cases R2
      ·refine wp_region_held_drew (S:=(fun w'=>w'.cell? ⟨w.heap.size,0,none⟩=some (.slice s1 S.length s2)∧w'.cell? ⟨w.heap.size,1,none⟩=some (.slice p1 P.length p2)∧w'.cell? ⟨w.heap.size,2,none⟩=some (.slice a1 A.length a2)∧w'.cell? ⟨w.heap.size+1,0,none⟩=some (.int .i64 xi)∧w'.cell? ⟨w.heap.size+1,1,none⟩=some (.int .i64 xt)∧w'.cell? ⟨w.heap.size+1,2,none⟩=some (.int .i64 xg))) (by kernel_rfl) ?hS16 (fun hHeld=>?hR16)
       case hS16=>(try dsimp only);go_keep
       refine sqA [(0,23),(1,24),(2,25)] ?_;(iterate 3 (refine sqN rfl (by kernel_rfl) (fun _ _ _ h=>h) rfl ‹_› (by intro w h;go_simp <;>with_reducible rfl) ?_;simp only [nz]));refine sqZ ?_;refine rsq 3 26 (by kernel_rfl) rfl (fun K hK=>?_);go_simp;(go_at_call 173;refine(ee _ _).mono ?_;rintro e w1 ⟨bi,rfl,hbi,hb1⟩;have g1:Below W0.heap.size W0 w1:=((Below.refl _ W0).drew).trans hb1;have k1:Below w.heap.size w w1:=hb0.trans (g1.mono hb0.size);have y0:=zC q0 g1;have y1:=zC q1 g1;have y2:=zC q2 g1;have y3:=zC q3 g1;have y4:=zC q4 g1;have y5:=zC q5 g1);go_wp2_with fail
       refine hK.out _ _ ?hS20 (fun hHeld=>?hR20)
       case hS20=>(try dsimp only);go_keep
       clear hK K;(try simp only [nz]);refine rsq 4 27 (by kernel_rfl) rfl (fun K hK=>?_);go_simp;(go_at_call 172;refine(ag HI _ _ k1 hbi).mono ?_;rintro e w2 ⟨rfl,hb2⟩;have g2:Below W0.heap.size W0 w2:=g1.trans (hb2.mono g1.size);have k2:Below w.heap.size w w2:=hb0.trans (g2.mono hb0.size);have z0:=zC q0 g2;have z1:=zC q1 g2;have z2:=zC q2 g2;have z3:=zC q3 g2;have z4:=zC q4 g2;have z5:=zC q5 g2);go_wp2_with fail
       refine hK.out _ _ ?hS21 (fun hHeld=>?hR21)
       case hS21=>(try dsimp only);go_keep
       clear hK K;(try simp only [nz]);refine sqA [(5,28),(6,29),(7,30),(8,31),(9,32),(10,33),(11,34),(12,35),(13,36),(14,37)] ?_;(iterate 10 (refine sqN rfl (by kernel_rfl) (fun _ _ _ h=>h) rfl ‹_› (by intro w h;go_simp <;>with_reducible rfl) ?_;simp only [nz]));refine sqZ ?_;refine rsq 15 38 (by kernel_rfl) rfl (fun K hK=>?_);go_simp;(go_at_call 174;refine(ag HT _ k2).mono ?_;rintro e w3 ⟨rfl,hb3⟩;have g3:Below W0.heap.size W0 w3:=g2.trans (hb3.mono g2.size);have k3:Below w.heap.size w w3:=hb0.trans (g3.mono hb0.size);have v0:=zC q0 g3;have v1:=zC q1 g3;have v2:=zC q2 g3;have v3:=zC q3 g3;have v4:=zC q4 g3;have v5:=zC q5 g3);go_wp2_with fail
       refine hK.out _ _ ?hS32 (fun hHeld=>?hR32)
       case hS32=>(try dsimp only);go_keep
       clear hK K;(try simp only [nz]);refine sqA [(16,39),(17,40),(18,22)] ?_;(iterate 3 (refine sqN rfl (by kernel_rfl) (fun _ _ _ h=>h) rfl ‹_› (by intro w h;go_simp <;>with_reducible rfl) ?_;simp only [nz]));refine sqZ ?_;refine wpAnyH_done (by kernel_rfl) ?_ _;clear HI HT;by_cases h12:12≤S.length
       ·have h12i:(12:Int)≤(S.length:Int):=(by omega);go_wp2_with fail
        go_ret;exact⟨ah (by rw [HR.out];simp_all),k3⟩
       ·have h12i:¬(12:Int)≤(S.length:Int):=(by omega);have h12j:(S.length:Int)<12:=(by omega);go_wp2_with fail
        go_ret;exact⟨ah (by rw [HR.out];simp_all),k3⟩
      ·refine wp_region_held_drew (S:=(fun w'=>w'.cell? ⟨w.heap.size,0,none⟩=some (.slice s1 S.length s2)∧w'.cell? ⟨w.heap.size,1,none⟩=some (.slice p1 P.length p2)∧w'.cell? ⟨w.heap.size,2,none⟩=some (.slice a1 A.length a2)∧w'.cell? ⟨w.heap.size+1,0,none⟩=some (.int .i64 xi)∧w'.cell? ⟨w.heap.size+1,1,none⟩=some (.int .i64 xt)∧w'.cell? ⟨w.heap.size+1,2,none⟩=some (.int .i64 xg))) (by kernel_rfl) ?hS36 (fun hHeld=>?hR36)
       case hS36=>(try dsimp only);go_keep
       refine sqA [(0,23),(1,24),(2,25)] ?_;(iterate 3 (refine sqN rfl (by kernel_rfl) (fun _ _ _ h=>h) rfl ‹_› (by intro w h;go_simp <;>with_reducible rfl) ?_;simp only [nz]));refine sqZ ?_;refine rsq 3 26 (by kernel_rfl) rfl (fun K hK=>?_);go_simp;(go_at_call 173;refine(ee _ _).mono ?_;rintro e w1 ⟨bi,rfl,hbi,hb1⟩;have g1:Below W0.heap.size W0 w1:=((Below.refl _ W0).drew).trans hb1;have k1:Below w.heap.size w w1:=hb0.trans (g1.mono hb0.size);have y0:=zC q0 g1;have y1:=zC q1 g1;have y2:=zC q2 g1;have y3:=zC q3 g1;have y4:=zC q4 g1;have y5:=zC q5 g1);go_wp2_with fail
       refine hK.out _ _ ?hS40 (fun hHeld=>?hR40)
       case hS40=>(try dsimp only);go_keep
       clear hK K;(try simp only [nz]);refine rsq 4 27 (by kernel_rfl) rfl (fun K hK=>?_);go_simp;(go_at_call 172;refine(ag HI _ _ k1 hbi).mono ?_;rintro e w2 ⟨rfl,hb2⟩;have g2:Below W0.heap.size W0 w2:=g1.trans (hb2.mono g1.size);have k2:Below w.heap.size w w2:=hb0.trans (g2.mono hb0.size);have z0:=zC q0 g2;have z1:=zC q1 g2;have z2:=zC q2 g2;have z3:=zC q3 g2;have z4:=zC q4 g2;have z5:=zC q5 g2);go_wp2_with fail
       refine hK.out _ _ ?hS41 (fun hHeld=>?hR41)
       case hS41=>(try dsimp only);go_keep
       clear hK K;(try simp only [nz]);refine sqA [(5,28),(6,29),(7,30),(8,31),(9,32),(10,33),(11,34),(12,35),(13,36),(14,37)] ?_;(iterate 10 (refine sqN rfl (by kernel_rfl) (fun _ _ _ h=>h) rfl ‹_› (by intro w h;go_simp <;>with_reducible rfl) ?_;simp only [nz]));refine sqZ ?_;refine rsq 15 38 (by kernel_rfl) rfl (fun K hK=>?_);go_simp;(go_at_call 174;refine(ag HT _ k2).mono ?_;rintro e w3 ⟨rfl,hb3⟩;have g3:Below W0.heap.size W0 w3:=g2.trans (hb3.mono g2.size);have k3:Below w.heap.size w w3:=hb0.trans (g3.mono hb0.size);have v0:=zC q0 g3;have v1:=zC q1 g3;have v2:=zC q2 g3;have v3:=zC q3 g3;have v4:=zC q4 g3;have v5:=zC q5 g3);go_wp2_with fail
       refine hK.out _ _ ?hS52 (fun hHeld=>?hR52)
       case hS52=>(try dsimp only);go_keep
       clear hK K;(try simp only [nz]);refine sqA [(16,39),(17,40),(18,22)] ?_;(iterate 3 (refine sqN rfl (by kernel_rfl) (fun _ _ _ h=>h) rfl ‹_› (by intro w h;go_simp <;>with_reducible rfl) ?_;simp only [nz]));refine sqZ ?_;refine wpAnyH_done (by kernel_rfl) ?_ _;clear HI HT;go_wp2_with fail
       go_ret;exact⟨ah (by rw [HR.out];simp_all),k3⟩
    ·refine wp_region_held_drew (S:=(fun w'=>w'.cell? ⟨w.heap.size,0,none⟩=some (.slice s1 S.length s2)∧w'.cell? ⟨w.heap.size,1,none⟩=some (.slice p1 P.length p2)∧w'.cell? ⟨w.heap.size,2,none⟩=some (.slice a1 A.length a2)∧w'.cell? ⟨w.heap.size+1,0,none⟩=some (.int .i64 xi)∧w'.cell? ⟨w.heap.size+1,1,none⟩=some (.int .i64 xt)∧w'.cell? ⟨w.heap.size+1,2,none⟩=some (.int .i64 xg))) (by kernel_rfl) ?hS56 (fun hHeld=>?hR56)
     case hS56=>(try dsimp only);go_keep
     refine sqA [(0,23),(1,24),(2,25)] ?_;(iterate 3 (refine sqN rfl (by kernel_rfl) (fun _ _ _ h=>h) rfl ‹_› (by intro w h;go_simp <;>with_reducible rfl) ?_;simp only [nz]));refine sqZ ?_;refine rsq 3 26 (by kernel_rfl) rfl (fun K hK=>?_);go_simp;(go_at_call 173;refine(ee _ _).mono ?_;rintro e w1 ⟨bi,rfl,hbi,hb1⟩;have g1:Below W0.heap.size W0 w1:=((Below.refl _ W0).drew).trans hb1;have k1:Below w.heap.size w w1:=hb0.trans (g1.mono hb0.size);have y0:=zC q0 g1;have y1:=zC q1 g1;have y2:=zC q2 g1;have y3:=zC q3 g1;have y4:=zC q4 g1;have y5:=zC q5 g1);go_wp2_with fail
     refine hK.out _ _ ?hS60 (fun hHeld=>?hR60)
     case hS60=>(try dsimp only);go_keep
     clear hK K;(try simp only [nz]);refine rsq 4 27 (by kernel_rfl) rfl (fun K hK=>?_);go_simp;(go_at_call 172;refine(ag HI _ _ k1 hbi).mono ?_;rintro e w2 ⟨rfl,hb2⟩;have g2:Below W0.heap.size W0 w2:=g1.trans (hb2.mono g1.size);have k2:Below w.heap.size w w2:=hb0.trans (g2.mono hb0.size);have z0:=zC q0 g2;have z1:=zC q1 g2;have z2:=zC q2 g2;have z3:=zC q3 g2;have z4:=zC q4 g2;have z5:=zC q5 g2);go_wp2_with fail
     refine hK.out _ _ ?hS61 (fun hHeld=>?hR61)
     case hS61=>(try dsimp only);go_keep
     clear hK K;(try simp only [nz]);refine tq 5 28 rfl (by kernel_rfl) (fun _ _ _ h=>h) rfl ‹_› (by intro w h;go_simp <;>with_reducible rfl) ?_;simp only [nz];refine wpAnyH_take (i:=6) (oi:=⟨some 29,_,_,_,_,_⟩) (v:=undef) rfl (by kernel_rfl) (by kernel_rfl) (by kernel_rfl) (fun _ _ _ h=>h) (Or.inr ⟨by rfl,rfl⟩) (by assumption) ?_;(try simp only [nz]);refine wpAnyH_take (i:=7) (oi:=⟨some 30,_,_,_,_,_⟩) (v:=undef) rfl (by kernel_rfl) (by kernel_rfl) (by kernel_rfl) (fun _ _ _ h=>h) (Or.inr ⟨by rfl,rfl⟩) (by assumption) ?_;(try simp only [nz]);refine wpAnyH_take (i:=8) (oi:=⟨some 31,_,_,_,_,_⟩) (v:=undef) rfl (by kernel_rfl) (by kernel_rfl) (by kernel_rfl) (fun _ _ _ h=>h) (Or.inr ⟨by rfl,rfl⟩) (by assumption) ?_;(try simp only [nz]);refine wpAnyH_take (i:=9) (oi:=⟨some 32,_,_,_,_,_⟩) (v:=undef) rfl (by kernel_rfl) (by kernel_rfl) (by kernel_rfl) (fun _ _ _ h=>h) (Or.inr ⟨by rfl,rfl⟩) (by assumption) ?_;(try simp only [nz]);refine wpAnyH_take (i:=10) (oi:=⟨some 33,_,_,_,_,_⟩) (v:=undef) rfl (by kernel_rfl) (by kernel_rfl) (by kernel_rfl) (fun _ _ _ h=>h) (Or.inr ⟨by rfl,rfl⟩) (by assumption) ?_;(try simp only [nz]);refine wpAnyH_take (i:=11) (oi:=⟨some 34,_,_,_,_,_⟩) (v:=undef) rfl (by kernel_rfl) (by kernel_rfl) (by kernel_rfl) (fun _ _ _ h=>h) (Or.inr ⟨by rfl,rfl⟩) (by assumption) ?_;(try simp only [nz]);refine wpAnyH_take (i:=12) (oi:=⟨some 35,_,_,_,_,_⟩) (v:=undef) rfl (by kernel_rfl) (by kernel_rfl) (by kernel_rfl) (fun _ _ _ h=>h) (Or.inr ⟨by rfl,rfl⟩) (by assumption) ?_;(try simp only [nz]);refine wpAnyH_take (i:=13) (oi:=⟨some 36,_,_,_,_,_⟩) (v:=undef) rfl (by kernel_rfl) (by kernel_rfl) (by kernel_rfl) (fun _ _ _ h=>h) (Or.inr ⟨by rfl,rfl⟩) (by assumption) ?_;(try simp only [nz]);refine wpAnyH_take (i:=14) (oi:=⟨some 37,_,_,_,_,_⟩) (v:=undef) rfl (by kernel_rfl) (by kernel_rfl) (by kernel_rfl) (fun _ _ _ h=>h) (Or.inr ⟨by rfl,rfl⟩) (by assumption) ?_;(try simp only [nz]);refine rsq 15 38 (by kernel_rfl) rfl (fun K hK=>?_);rw [if_neg (by rw [Bool.not_eq_true];rfl)];refine hK.out _ _ ?hS63 (fun hHeld=>?hR63)
     case hS63=>(try dsimp only);go_keep
     clear hK K;(try simp only [nz]);refine wpAnyH_take (i:=16) (oi:=⟨some 39,_,_,_,_,_⟩) (v:=undef) rfl (by kernel_rfl) (by kernel_rfl) (by kernel_rfl) (fun _ _ _ h=>h) (Or.inr ⟨by rfl,rfl⟩) (by assumption) ?_;(try simp only [nz]);refine sqA [(17,40),(18,22)] ?_;(iterate 2 (refine sqN rfl (by kernel_rfl) (fun _ _ _ h=>h) rfl ‹_› (by intro w h;go_simp <;>with_reducible rfl) ?_;simp only [nz]));refine sqZ ?_;refine wpAnyH_done (by kernel_rfl) ?_ _;clear HI HT;go_wp2_with fail
     go_ret;exact⟨ah (by rw [HR.out];simp_all),k2⟩
   ·have hr3':inB xg 0 65535=false:=(by simpa using hr3);clear hr3 HI HT;go_enter Tryz.func115,Tryz.ntmps115;go_wp2_with (first |(go_at_call 170;refine(de _ _ _ _).mono ?_;rintro e w' ⟨rfl,rfl⟩) |(go_at_call 171;refine(ez _ _).mono ?_;rintro e w' ⟨rfl,rfl⟩))
    go_ret;exact⟨ah (by rw [HR.out];simp_all),((Below.refl _ _).alloc zr _).alloc (by simp) _⟩
  ·have hr2':inB xt 1 9=false:=(by simpa using hr2);clear hr2 HI HT;go_enter Tryz.func115,Tryz.ntmps115;go_wp2_with (first |(go_at_call 170;refine(de _ _ _ _).mono ?_;rintro e w' ⟨rfl,rfl⟩) |(go_at_call 171;refine(ez _ _).mono ?_;rintro e w' ⟨rfl,rfl⟩))
   go_ret;exact⟨ah (by rw [HR.out];simp_all),((Below.refl _ _).alloc zr _).alloc (by simp) _⟩
 ·have hr1':inB xi 1 500=false:=(by simpa using hr1);clear hr1 HI HT;go_enter Tryz.func115,Tryz.ntmps115;go_wp2_with (first |(go_at_call 170;refine(de _ _ _ _).mono ?_;rintro e w' ⟨rfl,rfl⟩) |(go_at_call 171;refine(ez _ _).mono ?_;rintro e w' ⟨rfl,rfl⟩))
  go_ret;exact⟨ah (by rw [HR.out];simp_all),((Below.refl _ _).alloc zr _).alloc (by simp) _⟩
def aN (S:List Sw) (P:List Pr) (x:Pr):Int:=
 if eN x=false then 2 else if idx (fun s=>s.i==x.s) S<0 then 6 else if P.any (fun y=>y.i==x.i|| y.s==x.s&&y.m==x.m)=true then 7 else
 if bq S P (S.getD (idx (fun s=>s.i==x.s) S).toNat sw0).t x.p=true then 7 else if 40≤P.length then 1 else 0
theorem nT (sv pv av:Value) (S:List Sw) (P:List Pr) (A:List Ac) (x:Pr) (w:World) (hC:CfAt w sv pv av S P A) (h1:S.length*24≤140737488355328) (h2:P.length*40≤140737488355328):
  Calls Tryz.prog 116 #[.agg #[sv,pv,av],.agg #[.int .i64 x.i,.int .i64 x.s,.int .i64 x.m,.int .i64 x.p,.int .i64 x.c]] w fun e w'=>e= .returned (.int .i64 (aN S P x))∧Below w.heap.size w w':=by
 obtain⟨xi,xs,xm,xp,xc⟩:=x;have HC:=aa hC;have HB:=aa (fun W=>kJ xi xs xm xp xc W);have HI:Hid (∀(W:World) (b:Nat),Below w.heap.size w W→W.cell? ⟨b,0,none⟩=some (.int .i64 xs)→Calls Tryz.prog 176 #[sv,.func (.func 200) #[] #[.pointer (some ⟨b,0,none⟩)]] W fun e w'=>e= .returned (.int .i64 (idx (fun s=>s.i==xs) S))∧Below W.heap.size W w'):=
  fun W b hW a=>oL S _ sv _ W (RowAt.below hC.1 hW zr) (sV a) h1
 have HP:Hid (∀(W:World),Below w.heap.size w W→W.cell? ⟨w.heap.size+1,0,none⟩=some (.int .i64 xi)→W.cell? ⟨w.heap.size+1,1,none⟩=some (.int .i64 xs)→W.cell? ⟨w.heap.size+1,2,none⟩=some (.int .i64 xm)→Calls Tryz.prog 177 #[.agg #[sv,pv,av],.func (.func 178) #[] #[.pointer (some ⟨w.heap.size+1,0,none⟩)]] W fun e w'=>e= .returned (.bool (P.any (fun y=>y.i==xi|| y.s==xs&&y.m==xm)))∧Below W.heap.size W w'):=
  fun W hW a b c=>lp sv pv av P _ _ W (cO hC.1) (RowAt.below hC.2.1 hW zr) (cO hC.2.2) (xE a b c) h2
 have HT:Hid (∀(W:World) (t:Int),Below w.heap.size w W→Calls Tryz.prog 174 #[.agg #[sv,pv,av],.int .i64 t,.int .i64 xp] W fun e w'=>e= .returned (.bool (bq S P t xp))∧Below W.heap.size W w'):=fun W t hW=>kV sv pv av S P A t xp W (hC.below hW zr) h1 h2;have HR:Hid (aN S P ⟨xi,xs,xm,xp,xc⟩=if eN ⟨xi,xs,xm,xp,xc⟩=false then 2 else if idx (fun s=>s.i==xs) S<0 then 6 else if P.any (fun y=>y.i==xi|| y.s==xs&&y.m==xm)=true then 7 else
  if bq S P (S.getD (idx (fun s=>s.i==xs) S).toNat sw0).t xp=true then 7 else if 40≤P.length then 1 else 0):=rfl
 have hbd:=yJ (fun s:Sw=>s.i==xs) S;generalize aN S P ⟨xi,xs,xm,xp,xc⟩=R at*;generalize idx (fun s:Sw=>s.i==xs) S=I at*;generalize P.any (fun y=>y.i==xi|| y.s==xs&&y.m==xm)=R1 at*;generalize eN ⟨xi,xs,xm,xp,xc⟩=R0 at*;obtain⟨s1,s2,rfl⟩:=hC.1.slice;obtain⟨p1,p2,rfl⟩:=hC.2.1.slice;obtain⟨a1,a2,rfl⟩:=hC.2.2.slice;clear hC;simp only;go_enter Tryz.func116,Tryz.ntmps116;go_wp2_with fail
 obtain⟨W0,hW0⟩:∃W0,W0=(w.alloc (.cells #[.slice s1 S.length s2,.slice p1 P.length p2,.slice a1 A.length a2] 26)).alloc (.cells #[.int .i64 xi,.int .i64 xs,.int .i64 xm,.int .i64 xp,.int .i64 xc] 51):=⟨_,rfl⟩;have hb0:Below w.heap.size w W0:=by rw [hW0];exact((Below.refl _ _).alloc zr _).alloc (by simp) _
 have d0:W0.cell? ⟨w.heap.size,0,none⟩=some (.slice s1 S.length s2):=by rw [hW0];exact au (aj w _ rfl _ _ _ _ rfl) _
 have d1:W0.cell? ⟨w.heap.size,1,none⟩=some (.slice p1 P.length p2):=by rw [hW0];exact au (aj w _ rfl _ _ _ _ rfl) _
 have d2:W0.cell? ⟨w.heap.size,2,none⟩=some (.slice a1 A.length a2):=by rw [hW0];exact au (aj w _ rfl _ _ _ _ rfl) _
 have d3:W0.cell? ⟨w.heap.size+1,0,none⟩=some (.int .i64 xi):=by rw [hW0];exact aj _ _ (by simp) _ _ _ _ rfl
 have d4:W0.cell? ⟨w.heap.size+1,1,none⟩=some (.int .i64 xs):=by rw [hW0];exact aj _ _ (by simp) _ _ _ _ rfl
 have d5:W0.cell? ⟨w.heap.size+1,2,none⟩=some (.int .i64 xm):=by rw [hW0];exact aj _ _ (by simp) _ _ _ _ rfl
 have d6:W0.cell? ⟨w.heap.size+1,3,none⟩=some (.int .i64 xp):=by rw [hW0];exact aj _ _ (by simp) _ _ _ _ rfl
 have d7:W0.cell? ⟨w.heap.size+1,4,none⟩=some (.int .i64 xc):=by rw [hW0];exact aj _ _ (by simp) _ _ _ _ rfl
 rw [←hW0];clear hW0;refine(ag HB _).mono ?_;rintro e W1 ⟨rfl,hB1⟩;have q0:=zC d0 hB1;have q1:=zC d1 hB1;have q2:=zC d2 hB1;have q3:=zC d3 hB1;have q4:=zC d4 hB1;have q5:=zC d5 hB1;have q6:=zC d6 hB1;have q7:=zC d7 hB1;have hb1:=hb0.trans (hB1.mono hb0.size);clear HB hB1 hb0 d0 d1 d2 d3 d4 d5 d6 d7;cases R0
 ·clear HI HP HT;go_wp2_with fail
  go_ret;exact⟨ah (by rw [HR.out];simp),hb1⟩
 ·go_wp2_with fail
  go_region_held3 (fun w'=>w'.cell? ⟨w.heap.size,0,none⟩=some (.slice s1 S.length s2)∧w'.cell? ⟨w.heap.size,1,none⟩=some (.slice p1 P.length p2)∧w'.cell? ⟨w.heap.size,2,none⟩=some (.slice a1 A.length a2)∧w'.cell? ⟨w.heap.size+1,0,none⟩=some (.int .i64 xi)∧w'.cell? ⟨w.heap.size+1,1,none⟩=some (.int .i64 xs)∧w'.cell? ⟨w.heap.size+1,2,none⟩=some (.int .i64 xm)∧w'.cell? ⟨w.heap.size+1,3,none⟩=some (.int .i64 xp)∧w'.cell? ⟨w.heap.size+1,4,none⟩=some (.int .i64 xc)) (go_keep)
   (first |(go_at_call 173;refine(ee _ _).mono ?_;rintro e w1 ⟨bi,rfl,hbi,hc1⟩;have g1:Below W1.heap.size W1 w1:=((Below.refl _ W1).drew).trans hc1;have k1:Below w.heap.size w w1:=hb1.trans (g1.mono hb1.size);have y0:=zC q0 g1;have y1:=zC q1 g1;have y2:=zC q2 g1;have y3:=zC q3 g1;have y4:=zC q4 g1;have y5:=zC q5 g1;have y6:=zC q6 g1;have y7:=zC q7 g1) |(go_at_call 176;refine(ag HI _ _ k1 hbi).mono ?_;rintro e w2 ⟨rfl,hc2⟩;have g2:Below W1.heap.size W1 w2:=g1.trans (hc2.mono g1.size);have k2:Below w.heap.size w w2:=hb1.trans (g2.mono hb1.size);have z0:=zC q0 g2;have z1:=zC q1 g2;have z2:=zC q2 g2;have z3:=zC q3 g2;have z4:=zC q4 g2;have z5:=zC q5 g2;have z6:=zC q6 g2;have z7:=zC q7 g2))
  clear y0 y1 y2 y3 y4 y5 y6 y7 q0 q1 q2 q3 q4 q5 q6 q7 HI hbi hc1 hc2 g1 g2 k1 hb1;by_cases hI:I<0
  ·clear HP HT;go_wp2_with fail
   go_ret;exact⟨ah (by rw [HR.out];simp [hI]),k2⟩
  ·obtain⟨k,rfl⟩:∃k:Nat,I=(k:Int):=⟨I.toNat,by omega⟩;have hk:k<S.length:=(by omega);have hi1:(0:Int)≤(k:Int):=(by omega);have hi2:(k:Int)<(S.length:Int):=(by omega);go_wp2_with fail
   refine(ag HP _ k2 z3 z4 z5).mono ?_;rintro e w3 ⟨rfl,hc3⟩;have k3:=k2.trans (hc3.mono k2.size);have q0:=zC z0 hc3;have q1:=zC z1 hc3;have q2:=zC z2 hc3;have q3:=zC z3 hc3;have q4:=zC z4 hc3;have q5:=zC z5 hc3;have q6:=zC z6 hc3;have q7:=zC z7 hc3;clear HP hc3 k2 z0 z1 z2 z3 z4 z5 z6 z7;cases R1
   ·obtain⟨b,off,cap,e1,hcap,hb,u0,u1,u2⟩:=ig (RowAt.below HC.out.1 k3 zr) hk;simp only [Value.slice.injEq,true_and]at e1;obtain⟨rfl,rfl⟩:=e1;have HTT:=aa (fun W hW=>HT.out W (S.getD k sw0).t hW);have HRR:Hid (R=if bq S P (S.getD k sw0).t xp=true then 7 else if 40≤P.length then 1 else 0):=by
     show R=_;rw [HR.out,if_neg (by simp),if_neg (by omega),if_neg (by simp),Int.toNat_natCast]
    clear HR HT HC;generalize bq S P (S.getD k sw0).t xp=R2 at*;generalize (S.getD k sw0).t=xt at*;generalize (S.getD k sw0).i=xj at*;generalize (S.getD k sw0).g=xg at*;go_wp2_with fail
    go_region_held3 (fun w'=>w'.cell? ⟨w.heap.size,0,none⟩=some (.slice (some ⟨b,off,none⟩) S.length s2)∧w'.cell? ⟨w.heap.size,1,none⟩=some (.slice p1 P.length p2)∧w'.cell? ⟨w.heap.size,2,none⟩=some (.slice a1 A.length a2)∧w'.cell? ⟨w.heap.size+1,3,none⟩=some (.int .i64 xp)∧w'.cell? ⟨b,off+k*3+1,none⟩=some (.int .i64 xt)) (go_keep)
     (first |(go_at_call 174;refine(ag HTT _ k3.drew).mono ?_;rintro e w4 ⟨rfl,hc4⟩;have g4:Below w3.heap.size w3 w4:=((Below.refl _ w3).drew).trans hc4;have k4:Below w.heap.size w w4:=k3.trans (g4.mono k3.size);have v0:=zC q0 g4;have v1:=zC q1 g4;have v2:=zC q2 g4;have v3:=zC q6 g4;have v4:=zC u1 g4))
    clear HTT q0 q1 q2 q3 q4 q5 q6 q7 u0 u1 u2 k3 g4 hc4;cases R2
    ·by_cases h40:40≤P.length
     ·have h40i:(40:Int)≤(P.length:Int):=(by omega);go_wp2_with fail
      go_ret;exact⟨ah (by rw [HRR.out,if_neg (by simp),if_pos h40]),k4⟩
     ·have h40i:(P.length:Int)<40:=(by omega);go_wp2_with fail
      go_ret;exact⟨ah (by rw [HRR.out,if_neg (by simp),if_neg h40]),k4⟩
    ·go_wp2_with fail
     go_ret;exact⟨ah (by rw [HRR.out];simp),k4⟩
   ·clear HT;go_wp2_with fail
    go_ret;exact⟨ah (by rw [HR.out,if_neg (by simp),if_neg (by omega)];simp),k3⟩
def bH (n b:Int):Bool:=n%(65536/2 ^ b.toNat)==0
theorem uM (a b:Nat) (ha:a≤65535) (hb:b≤65535):bits .and .i64 (a:Int) (b:Int)=((a&&& b:Nat):Int):=by
 have e:∀c:Nat,c≤65535→(BitVec.ofInt 64 (c:Int)).toNat=c:=fun c hc=>by simp;omega
 show IntKind.i64.wrap ((BitVec.ofInt 64 (a:Int)&&& BitVec.ofInt 64 (b:Int)).toNat:Int)=_;rw [BitVec.toNat_and,e a ha,e b hb];have:a&&& b≤a:=Nat.and_le_left;generalize a&&& b=n at*;simp [IntKind.wrap,IntKind.bits,IntKind.signed];split <;>omega
theorem je (n b:Int) (w:World) (hn:inB n 0 65535=true) (hb:inB b 0 16=true):
  Calls Tryz.prog 180 #[.int .i64 n,.int .i64 b] w fun e w'=>e= .returned (.bool (bH n b))∧w'=w:=by
 simp [inB]at hn hb;obtain⟨m,rfl⟩:=Int.eq_ofNat_of_zero_le hn.1;obtain⟨c,rfl⟩:=Int.eq_ofNat_of_zero_le hb.1;have hc:c=0∨c=1∨c=2∨c=3∨c=4∨c=5∨c=6∨c=7∨c=8∨c=9∨c=10∨c=11∨c=12∨c=13∨c=14∨c=15∨c=16:=by omega
 go_enter Tryz.func180,Tryz.ntmps180;go_wp2;go_ret;refine⟨aq ?_,rfl⟩;have key:∀n,n≤16→(bits .and .i64 (m:Int) ((2 ^ n-1:Nat):Int)==0)=((m:Int)%((2 ^ n:Nat):Int)==0):=fun n hn16=>by
  have h2:2 ^ n≤2 ^ 16:=Nat.pow_le_pow_right (by omega) hn16;rw [uM m _ (by omega) (by omega),Nat.and_two_pow_sub_one_eq_mod, ←Int.natCast_emod]
 unfold bH;rcases hc with rfl | rfl | rfl | rfl | rfl | rfl | rfl | rfl | rfl | rfl | rfl | rfl | rfl | rfl | rfl | rfl | rfl
 ·exact key 16 (by omega)
 ·exact key 15 (by omega)
 ·exact key 14 (by omega)
 ·exact key 13 (by omega)
 ·exact key 12 (by omega)
 ·exact key 11 (by omega)
 ·exact key 10 (by omega)
 ·exact key 9 (by omega)
 ·exact key 8 (by omega)
 ·exact key 7 (by omega)
 ·exact key 6 (by omega)
 ·exact key 5 (by omega)
 ·exact key 4 (by omega)
 ·exact key 3 (by omega)
 ·exact key 2 (by omega)
 ·exact key 1 (by omega)
 ·exact key 0 (by omega)
def aU (S:List Sw) (A:List Ac) (x:Ac):Int:=
 if eM x=false then 2 else if(bH x.src x.sb&&bH x.dst x.db)=false then 4 else if S.any (fun s=>s.i==x.s)=false then 6 else if 40≤A.length then 1 else 0
theorem pQ (sv pv av:Value) (S:List Sw) (P:List Pr) (A:List Ac) (x:Ac) (w:World) (hC:CfAt w sv pv av S P A) (h1:S.length*24≤140737488355328):
  Calls Tryz.prog 117 #[.agg #[sv,pv,av],.agg #[.int .i64 x.s,.int .i64 x.p,.bool x.n,.int .i64 x.src,.int .i64 x.sb,.int .i64 x.dst,.int .i64 x.db,.int .i64 x.o,.bool x.d]] w fun e w'=>e= .returned (.int .i64 (aU S A x))∧Below w.heap.size w w':=by
 obtain⟨xs,xp,xn,xf,xb,xd,xe,xo,xy⟩:=x;have HB:=aa (fun W=>lw xs xp xn xf xb xd xe xo xy W);have HI:Hid (∀(W:World) (b:Nat),Below w.heap.size w W→W.cell? ⟨b,0,none⟩=some (.int .i64 xs)→Calls Tryz.prog 172 #[.agg #[sv,pv,av],.func (.func 200) #[] #[.pointer (some ⟨b,0,none⟩)]] W fun e w'=>e= .returned (.bool (S.any (fun s=>s.i==xs)))∧Below W.heap.size W w'):=
  fun W b hW a=>gW sv pv av S _ _ W (RowAt.below hC.1 hW zr) (cO hC.2.1) (cO hC.2.2) (sV a) h1
 have HR:Hid (aU S A ⟨xs,xp,xn,xf,xb,xd,xe,xo,xy⟩=if eM ⟨xs,xp,xn,xf,xb,xd,xe,xo,xy⟩=false then 2 else if(bH xf xb&&bH xd xe)=false then 4 else if S.any (fun s=>s.i==xs)=false then 6 else if 40≤A.length then 1 else 0):=rfl;have HQ:Hid (eM ⟨xs,xp,xn,xf,xb,xd,xe,xo,xy⟩=true→inB xf 0 65535=true∧inB xb 0 16=true∧inB xd 0 65535=true∧inB xe 0 16=true):=fun h=>by
  unfold eM at h;simp only [Bool.and_eq_true]at h;exact⟨h.1.1.1.1.2,h.1.1.2,h.1.1.1.2,h.1.2⟩
 generalize aU S A ⟨xs,xp,xn,xf,xb,xd,xe,xo,xy⟩=R at*;generalize S.any (fun s=>s.i==xs)=R1 at*;generalize eM ⟨xs,xp,xn,xf,xb,xd,xe,xo,xy⟩=R0 at*;obtain⟨s1,s2,rfl⟩:=hC.1.slice;obtain⟨p1,p2,rfl⟩:=hC.2.1.slice;obtain⟨a1,a2,rfl⟩:=hC.2.2.slice;clear hC;simp only;go_enter Tryz.func117,Tryz.ntmps117;go_wp2_with fail
 obtain⟨W0,hW0⟩:∃W0,W0=(w.alloc (.cells #[.slice s1 S.length s2,.slice p1 P.length p2,.slice a1 A.length a2] 26)).alloc (.cells #[.int .i64 xs,.int .i64 xp,.bool xn,.int .i64 xf,.int .i64 xb,.int .i64 xd,.int .i64 xe,.int .i64 xo,.bool xy] 62):=⟨_,rfl⟩;have hb0:Below w.heap.size w W0:=by rw [hW0];exact((Below.refl _ _).alloc zr _).alloc (by simp) _
 have d0:W0.cell? ⟨w.heap.size,0,none⟩=some (.slice s1 S.length s2):=by rw [hW0];exact au (aj w _ rfl _ _ _ _ rfl) _
 have d1:W0.cell? ⟨w.heap.size,1,none⟩=some (.slice p1 P.length p2):=by rw [hW0];exact au (aj w _ rfl _ _ _ _ rfl) _
 have d2:W0.cell? ⟨w.heap.size,2,none⟩=some (.slice a1 A.length a2):=by rw [hW0];exact au (aj w _ rfl _ _ _ _ rfl) _
 have d3:W0.cell? ⟨w.heap.size+1,0,none⟩=some (.int .i64 xs):=by rw [hW0];exact aj _ _ (by simp) _ _ _ _ rfl
 have d4:W0.cell? ⟨w.heap.size+1,1,none⟩=some (.int .i64 xp):=by rw [hW0];exact aj _ _ (by simp) _ _ _ _ rfl
 have d5:W0.cell? ⟨w.heap.size+1,2,none⟩=some (.bool xn):=by rw [hW0];exact aj _ _ (by simp) _ _ _ _ rfl
 have d6:W0.cell? ⟨w.heap.size+1,3,none⟩=some (.int .i64 xf):=by rw [hW0];exact aj _ _ (by simp) _ _ _ _ rfl
 have d7:W0.cell? ⟨w.heap.size+1,4,none⟩=some (.int .i64 xb):=by rw [hW0];exact aj _ _ (by simp) _ _ _ _ rfl
 have d8:W0.cell? ⟨w.heap.size+1,5,none⟩=some (.int .i64 xd):=by rw [hW0];exact aj _ _ (by simp) _ _ _ _ rfl
 have d9:W0.cell? ⟨w.heap.size+1,6,none⟩=some (.int .i64 xe):=by rw [hW0];exact aj _ _ (by simp) _ _ _ _ rfl
 have d10:W0.cell? ⟨w.heap.size+1,7,none⟩=some (.int .i64 xo):=by rw [hW0];exact aj _ _ (by simp) _ _ _ _ rfl
 have d11:W0.cell? ⟨w.heap.size+1,8,none⟩=some (.bool xy):=by rw [hW0];exact aj _ _ (by simp) _ _ _ _ rfl
 rw [←hW0];clear hW0;refine(ag HB _).mono ?_;rintro e W1 ⟨rfl,hB1⟩;have q0:=zC d0 hB1;have q1:=zC d1 hB1;have q2:=zC d2 hB1;have q3:=zC d3 hB1;have q4:=zC d4 hB1;have q5:=zC d5 hB1;have q6:=zC d6 hB1;have q7:=zC d7 hB1;have q8:=zC d8 hB1;have q9:=zC d9 hB1;have q10:=zC d10 hB1;have q11:=zC d11 hB1;have hb1:=hb0.trans (hB1.mono hb0.size);clear HB hB1 hb0 d0 d1 d2 d3 d4 d5 d6 d7 d8 d9 d10 d11;cases R0
 ·clear HI HQ;go_wp2_with fail
  go_ret;exact⟨ah (by rw [HR.out];simp),hb1⟩
 ·obtain⟨g1,g2,g3,g4⟩:=HQ.out rfl;have HH:=aa (fun W=>je xf xb W g1 g2);have HJ:=aa (fun W=>je xd xe W g3 g4);clear HQ g1 g2 g3 g4;generalize bH xf xb=B1 at*;generalize bH xd xe=B2 at*;go_wp2_with fail
  refine(ag HH _).mono ?_;rintro e w' ⟨rfl,rfl⟩;cases B1
  ·clear HI HJ HH;go_wp2_with fail
   go_ret;exact⟨ah (by rw [HR.out];simp),hb1⟩
  ·go_wp2_with fail
   refine(ag HJ _).mono ?_;rintro e w' ⟨rfl,rfl⟩;cases B2
   ·clear HI HJ HH;go_wp2_with fail
    go_ret;exact⟨ah (by rw [HR.out];simp),hb1⟩
   ·clear HH HJ q4 q5 q6 q7 q8 q9 q10 q11
    rename World=>W1
    go_wp2_with fail
    go_region_held3 (fun w'=>w'.cell? ⟨w.heap.size,0,none⟩=some (.slice s1 S.length s2)∧w'.cell? ⟨w.heap.size,1,none⟩=some (.slice p1 P.length p2)∧w'.cell? ⟨w.heap.size,2,none⟩=some (.slice a1 A.length a2)∧w'.cell? ⟨w.heap.size+1,0,none⟩=some (.int .i64 xs)) (go_keep)
     (first |(go_at_call 173;refine(ee _ _).mono ?_;rintro e w1 ⟨bi,rfl,hbi,hc1⟩;have g1:Below W1.heap.size W1 w1:=((Below.refl _ W1).drew).trans hc1;have k1:Below w.heap.size w w1:=hb1.trans (g1.mono hb1.size);have y0:=zC q0 g1;have y1:=zC q1 g1;have y2:=zC q2 g1;have y3:=zC q3 g1) |(go_at_call 172;refine(ag HI _ _ k1 hbi).mono ?_;rintro e w2 ⟨rfl,hc2⟩;have g2:Below W1.heap.size W1 w2:=g1.trans (hc2.mono g1.size);have k2:Below w.heap.size w w2:=hb1.trans (g2.mono hb1.size);have z0:=zC q0 g2;have z1:=zC q1 g2;have z2:=zC q2 g2;have z3:=zC q3 g2))
    clear HI q0 q1 q2 q3 y0 y1 y2 y3 hb1 hbi hc1 hc2 g1 g2 k1;cases R1
    ·go_wp2_with fail
     go_ret;exact⟨ah (by rw [HR.out];simp),k2⟩
    ·by_cases h40:40≤A.length
     ·have h40i:(40:Int)≤(A.length:Int):=(by omega);go_wp2_with fail
      go_ret;exact⟨ah (by rw [HR.out];simp [h40]),k2⟩
     ·have h40i:(A.length:Int)<40:=(by omega);go_wp2_with fail
      go_ret;exact⟨ah (by rw [HR.out];simp [h40]),k2⟩
def aW (S:List Sw):Bool:=(List.range S.length).all fun k=>aK (S.take k) [] (S.getD k sw0)==0
def aL (S:List Sw) (P:List Pr):Bool:=(List.range P.length).all fun k=>aN S (P.take k) (P.getD k pr0)==0
def bE (S:List Sw) (A:List Ac):Bool:=(List.range A.length).all fun k=>aU S (A.take k) (A.getD k ac0)==0
theorem fe {n:Nat} {f:Nat→Bool} (h:∀j,j<n→f j=true):(List.range n).all f=true:=by
 rw [List.all_eq_true];intro x hx;exact h x (List.mem_range.1 hx)
theorem gp {n:Nat} {f:Nat→Bool} {k:Nat} (hk:k<n) (h:f k=false):(List.range n).all f=false:=by
 rw [List.all_eq_false];exact⟨k,List.mem_range.2 hk,by simp [h]⟩
theorem iK {α:Type} {l:List α} (k c:Nat) (h:l.length*c≤140737488355328):(l.take k).length*c≤140737488355328:=Nat.le_trans (Nat.mul_le_mul_right _ (by rw [List.length_take];exact Nat.min_le_right _ _)) h
theorem j8 (sv pv av:Value) (S:List Sw) (P:List Pr) (A:List Ac) (w:World) (hC:CfAt w sv pv av S P A) (h1:S.length*24≤140737488355328):
  Calls Tryz.prog 67 #[.agg #[sv,pv,av]] w fun e w'=>e= .returned (.bool (aW S))∧Below w.heap.size w w':=by
 have HC:=aa hC;have HY:Hid ((∀j,j<S.length→(aK (S.take j) [] (S.getD j sw0)==0)=true)→aW S=true):=fun h=>fe h;have HNO:Hid (∀k,k<S.length→(aK (S.take k) [] (S.getD k sw0)==0)=false→aW S=false):=fun k hk h=>gp hk h;generalize aW S=R at*;obtain⟨s1,s2,rfl⟩:=hC.1.slice;obtain⟨p1,p2,rfl⟩:=hC.2.1.slice;obtain⟨a1,a2,rfl⟩:=hC.2.2.slice;clear hC;go_enter Tryz.func67,Tryz.ntmps67;go_wp2_with fail
 obtain⟨W0,hW0⟩:∃W0,W0=w.alloc (.cells #[.slice s1 S.length s2,.slice p1 P.length p2,.slice a1 A.length a2] 26):=⟨_,rfl⟩;have hb0:Below w.heap.size w W0:=by rw [hW0];exact(Below.refl _ _).alloc zr _
 have d0:W0.cell? ⟨w.heap.size,0,none⟩=some (.slice s1 S.length s2):=zN1 hW0 rfl;have d1:W0.cell? ⟨w.heap.size,1,none⟩=some (.slice p1 P.length p2):=zN1 hW0 rfl;have d2:W0.cell? ⟨w.heap.size,2,none⟩=some (.slice a1 A.length a2):=zN1 hW0 rfl;have hz0:w.heap.size<W0.heap.size:=am d0;rw [←hW0];clear hW0;go_loopw [8] (fun i wr=>∃k:Nat,k≤S.length∧i= .int .i64 k∧Hid (∀j,j<k→(aK (S.take j) [] (S.getD j sw0)==0)=true)∧Below W0.heap.size W0 wr) (fun i _=>S.length-(intOf i).toNat)
 case atStart=>exact⟨0,by omega,rfl,aa (fun j h=>absurd h (by omega)),Below.refl _ _⟩
 case round=>
  obtain⟨k,hk,rfl,HALL,hbr⟩:=hrel;have hbw:=hb0.trans (hbr.mono hb0.size);have q0:=zC d0 hbr;have q1:=zC d1 hbr;have q2:=zC d2 hbr;by_cases hlt:k<S.length
  ·obtain⟨b,off,cap',e1,hcap,hb,g0,g1,g2⟩:=ig (RowAt.below HC.out.1 hbw zr) hlt;have HK:Hid (∀W:World,Below w.heap.size w W→Calls Tryz.prog 115 #[.agg #[.slice s1 k s2,.slice none 0 0,.slice none 0 0],.agg #[.int .i64 (S.getD k sw0).i,.int .i64 (S.getD k sw0).t,.int .i64 (S.getD k sw0).g]] W fun e w'=>e= .returned (.int .i64 (aK (S.take k) [] (S.getD k sw0)))∧Below W.heap.size W w'):=fun W hW=>lD _ _ _ (S.take k) [] [] (S.getD k sw0) W ⟨RowAt.take (RowAt.below HC.out.1 hW zr) k hlt,RowAt.nil _ _ _,RowAt.nil _ _ _⟩ (iK k 24 h1) (by simp);simp only [Value.slice.injEq,true_and]at e1;obtain⟨rfl,rfl⟩:=e1;have HN1:=aa (HNO.out k hlt);have HNX:Hid ((aK (S.take k) [] (S.getD k sw0)==0)=true→∀j,j<k+1→(aK (S.take j) [] (S.getD j sw0)==0)=true):=fun h j hj=>by
    by_cases e:j=k
    ·subst e;exact h
    ·exact HALL.out j (by omega)
   have HRS:=aa hlt;clear HALL d0 d1 d2;generalize aK (S.take k) [] (S.getD k sw0)=G at HK HN1 HNX;generalize (S.getD k sw0).i=x0 at*;generalize (S.getD k sw0).t=x1 at*;generalize (S.getD k sw0).g=x2 at*;have q3:(0:Int)≤(k:Int):=(by omega);have q4:(k:Int)<(S.length:Int):=(by omega);have q5:(k:Int)≤(s2:Int):=(by omega);go_wp2_with fail
   obtain⟨W1,hW1⟩:∃W1,W1=wr.alloc (.cells #[.int .i64 x0,.int .i64 x1,.int .i64 x2] 60):=⟨_,rfl⟩;obtain⟨B,hB⟩:∃B,B=wr.heap.size:=⟨_,rfl⟩;have hb1:Below wr.heap.size wr W1:=by rw [hW1];exact(Below.refl _ _).alloc zr _
   have y0:W1.cell? ⟨B,0,none⟩=some (.int .i64 x0):=zN2 hW1 hB rfl;have y1:W1.cell? ⟨B,1,none⟩=some (.int .i64 x1):=zN2 hW1 hB rfl;have y2:W1.cell? ⟨B,2,none⟩=some (.int .i64 x2):=zN2 hW1 hB rfl;have r0:=zC q0 hb1;have r1:=zC q1 hb1;have r2:=zC q2 hb1;have hk1:Below w.heap.size w W1:=hbw.trans (hb1.mono hbw.size);have hr1:Below W0.heap.size W0 W1:=hbr.trans (hb1.mono hbr.size);rw [←hW1, ←hB];clear hW1 hB hb1 q0 q1 q2 hbw hbr g0 g1 g2;go_region_held3 (fun w'=>w'.cell? ⟨w.heap.size,0,none⟩=some (.slice (some ⟨b,off,none⟩) S.length s2)∧w'.cell? ⟨w.heap.size,1,none⟩=some (.slice p1 P.length p2)∧w'.cell? ⟨w.heap.size,2,none⟩=some (.slice a1 A.length a2)∧w'.cell? ⟨B,0,none⟩=some (.int .i64 x0)∧w'.cell? ⟨B,1,none⟩=some (.int .i64 x1)∧w'.cell? ⟨B,2,none⟩=some (.int .i64 x2)) (go_keep)
    (first |(go_at_call 115;refine(ag HK _ hk1.drew).mono ?_;rintro e w2 ⟨rfl,hc2⟩;have g2:Below W1.heap.size W1 w2:=((Below.refl _ W1).drew).trans hc2;have v0:=zC r0 g2;have v1:=zC r1 g2;have v2:=zC r2 g2;have u0:=zC y0 g2;have u1:=zC y1 g2;have u2:=zC y2 g2))
   have HB2:Hid (Below W0.heap.size W0 w2):=hr1.trans (g2.mono hr1.size);clear hr1 hk1 g2 hc2 r0 r1 r2 v0 v1 v2 HK y0 u0 y1 u1 y2 u2;by_cases hG:G=0
   ·subst hG;have HN:=aa (HNX.out rfl);clear HNX HN1;go_wp2_with fail
    go_roundw
    case rel=>exact⟨k+1,by omega,by go_num,HN,HB2.out⟩
    case measure=>simp [intOf];omega
   ·have HN:=aa (HN1.out (by simpa using hG));clear HNX HN1;go_wp2_with fail
    go_ret;exact⟨aq HN.out.symm,hb0.trans (HB2.out.mono hb0.size)⟩
  ·have HN:=aa (HY.out fun j hj=>HALL.out j (by omega));clear HALL q0 q1 q2 d0 d1 d2;go_wp2_with fail
   go_ret;exact⟨aq HN.out.symm,hbw⟩
theorem mT (sv pv av:Value) (S:List Sw) (P:List Pr) (A:List Ac) (w:World) (hC:CfAt w sv pv av S P A) (h1:S.length*24≤140737488355328) (h2:P.length*40≤140737488355328):
  Calls Tryz.prog 68 #[.agg #[sv,pv,av]] w fun e w'=>e= .returned (.bool (aL S P))∧Below w.heap.size w w':=by
 have HC:=aa hC;have HY:Hid ((∀j,j<P.length→(aN S (P.take j) (P.getD j pr0)==0)=true)→aL S P=true):=fun h=>fe h;have HNO:Hid (∀k,k<P.length→(aN S (P.take k) (P.getD k pr0)==0)=false→aL S P=false):=fun k hk h=>gp hk h;generalize aL S P=R at*;obtain⟨s1,s2,rfl⟩:=hC.1.slice;obtain⟨p1,p2,rfl⟩:=hC.2.1.slice;obtain⟨a1,a2,rfl⟩:=hC.2.2.slice;clear hC;go_enter Tryz.func68,Tryz.ntmps68;go_wp2_with fail
 obtain⟨W0,hW0⟩:∃W0,W0=w.alloc (.cells #[.slice s1 S.length s2,.slice p1 P.length p2,.slice a1 A.length a2] 26):=⟨_,rfl⟩;have hb0:Below w.heap.size w W0:=by rw [hW0];exact(Below.refl _ _).alloc zr _
 have d0:W0.cell? ⟨w.heap.size,0,none⟩=some (.slice s1 S.length s2):=zN1 hW0 rfl;have d1:W0.cell? ⟨w.heap.size,1,none⟩=some (.slice p1 P.length p2):=zN1 hW0 rfl;have d2:W0.cell? ⟨w.heap.size,2,none⟩=some (.slice a1 A.length a2):=zN1 hW0 rfl;have hz0:w.heap.size<W0.heap.size:=am d0;rw [←hW0];clear hW0;go_loopw [8] (fun i wr=>∃k:Nat,k≤P.length∧i= .int .i64 k∧Hid (∀j,j<k→(aN S (P.take j) (P.getD j pr0)==0)=true)∧Below W0.heap.size W0 wr) (fun i _=>P.length-(intOf i).toNat)
 case atStart=>exact⟨0,by omega,rfl,aa (fun j h=>absurd h (by omega)),Below.refl _ _⟩
 case round=>
  obtain⟨k,hk,rfl,HALL,hbr⟩:=hrel;have hbw:=hb0.trans (hbr.mono hb0.size);have q0:=zC d0 hbr;have q1:=zC d1 hbr;have q2:=zC d2 hbr;by_cases hlt:k<P.length
  ·obtain⟨b,off,cap',e1,hcap,hb,g0,g1,g2,g3,g4⟩:=eO (RowAt.below HC.out.2.1 hbw zr) hlt;have HK:Hid (∀W:World,Below w.heap.size w W→Calls Tryz.prog 116 #[.agg #[.slice s1 S.length s2,.slice p1 k p2,.slice none 0 0],.agg #[.int .i64 (P.getD k pr0).i,.int .i64 (P.getD k pr0).s,.int .i64 (P.getD k pr0).m,.int .i64 (P.getD k pr0).p,.int .i64 (P.getD k pr0).c]] W fun e w'=>e= .returned (.int .i64 (aN S (P.take k) (P.getD k pr0)))∧Below W.heap.size W w'):=fun W hW=>nT _ _ _ S (P.take k) [] (P.getD k pr0) W ⟨RowAt.below HC.out.1 hW zr,RowAt.take (RowAt.below HC.out.2.1 hW zr) k hlt,RowAt.nil _ _ _⟩ h1 (iK k 40 h2);simp only [Value.slice.injEq,true_and]at e1;obtain⟨rfl,rfl⟩:=e1;have HN1:=aa (HNO.out k hlt);have HNX:Hid ((aN S (P.take k) (P.getD k pr0)==0)=true→∀j,j<k+1→(aN S (P.take j) (P.getD j pr0)==0)=true):=fun h j hj=>by
    by_cases e:j=k
    ·subst e;exact h
    ·exact HALL.out j (by omega)
   have HRS:=aa hlt;clear HALL d0 d1 d2;generalize aN S (P.take k) (P.getD k pr0)=G at HK HN1 HNX;generalize (P.getD k pr0).i=x0 at*;generalize (P.getD k pr0).s=x1 at*;generalize (P.getD k pr0).m=x2 at*;generalize (P.getD k pr0).p=x3 at*;generalize (P.getD k pr0).c=x4 at*;have q3:(0:Int)≤(k:Int):=(by omega);have q4:(k:Int)<(P.length:Int):=(by omega);have q5:(k:Int)≤(p2:Int):=(by omega);go_wp2_with fail
   obtain⟨W1,hW1⟩:∃W1,W1=wr.alloc (.cells #[.int .i64 x0,.int .i64 x1,.int .i64 x2,.int .i64 x3,.int .i64 x4] 51):=⟨_,rfl⟩;obtain⟨B,hB⟩:∃B,B=wr.heap.size:=⟨_,rfl⟩;have hb1:Below wr.heap.size wr W1:=by rw [hW1];exact(Below.refl _ _).alloc zr _
   have y0:W1.cell? ⟨B,0,none⟩=some (.int .i64 x0):=zN2 hW1 hB rfl;have y1:W1.cell? ⟨B,1,none⟩=some (.int .i64 x1):=zN2 hW1 hB rfl;have y2:W1.cell? ⟨B,2,none⟩=some (.int .i64 x2):=zN2 hW1 hB rfl;have y3:W1.cell? ⟨B,3,none⟩=some (.int .i64 x3):=zN2 hW1 hB rfl;have y4:W1.cell? ⟨B,4,none⟩=some (.int .i64 x4):=zN2 hW1 hB rfl;have r0:=zC q0 hb1;have r1:=zC q1 hb1;have r2:=zC q2 hb1;have hk1:Below w.heap.size w W1:=hbw.trans (hb1.mono hbw.size);have hr1:Below W0.heap.size W0 W1:=hbr.trans (hb1.mono hbr.size);rw [←hW1, ←hB];clear hW1 hB hb1 q0 q1 q2 hbw hbr g0 g1 g2 g3 g4;go_region_held3 (fun w'=>w'.cell? ⟨w.heap.size,0,none⟩=some (.slice s1 S.length s2)∧w'.cell? ⟨w.heap.size,1,none⟩=some (.slice (some ⟨b,off,none⟩) P.length p2)∧w'.cell? ⟨w.heap.size,2,none⟩=some (.slice a1 A.length a2)∧w'.cell? ⟨B,0,none⟩=some (.int .i64 x0)∧w'.cell? ⟨B,1,none⟩=some (.int .i64 x1)∧w'.cell? ⟨B,2,none⟩=some (.int .i64 x2)∧w'.cell? ⟨B,3,none⟩=some (.int .i64 x3)∧w'.cell? ⟨B,4,none⟩=some (.int .i64 x4)) (go_keep)
    (first |(go_at_call 116;refine(ag HK _ hk1.drew).mono ?_;rintro e w2 ⟨rfl,hc2⟩;have g2:Below W1.heap.size W1 w2:=((Below.refl _ W1).drew).trans hc2;have v0:=zC r0 g2;have v1:=zC r1 g2;have v2:=zC r2 g2;have u0:=zC y0 g2;have u1:=zC y1 g2;have u2:=zC y2 g2;have u3:=zC y3 g2;have u4:=zC y4 g2))
   have HB2:Hid (Below W0.heap.size W0 w2):=hr1.trans (g2.mono hr1.size);clear hr1 hk1 g2 hc2 r0 r1 r2 v0 v1 v2 HK y0 u0 y1 u1 y2 u2 y3 u3 y4 u4;by_cases hG:G=0
   ·subst hG;have HN:=aa (HNX.out rfl);clear HNX HN1;go_wp2_with fail
    go_roundw
    case rel=>exact⟨k+1,by omega,by go_num,HN,HB2.out⟩
    case measure=>simp [intOf];omega
   ·have HN:=aa (HN1.out (by simpa using hG));clear HNX HN1;go_wp2_with fail
    go_ret;exact⟨aq HN.out.symm,hb0.trans (HB2.out.mono hb0.size)⟩
  ·have HN:=aa (HY.out fun j hj=>HALL.out j (by omega));clear HALL q0 q1 q2 d0 d1 d2;go_wp2_with fail
   go_ret;exact⟨aq HN.out.symm,hbw⟩
theorem nQ (sv pv av:Value) (S:List Sw) (P:List Pr) (A:List Ac) (w:World) (hC:CfAt w sv pv av S P A) (h1:S.length*24≤140737488355328) (h3:A.length*72≤140737488355328):
  Calls Tryz.prog 69 #[.agg #[sv,pv,av]] w fun e w'=>e= .returned (.bool (bE S A))∧Below w.heap.size w w':=by
 have HC:=aa hC;have HY:Hid ((∀j,j<A.length→(aU S (A.take j) (A.getD j ac0)==0)=true)→bE S A=true):=fun h=>fe h;have HNO:Hid (∀k,k<A.length→(aU S (A.take k) (A.getD k ac0)==0)=false→bE S A=false):=fun k hk h=>gp hk h;generalize bE S A=R at*;obtain⟨s1,s2,rfl⟩:=hC.1.slice;obtain⟨p1,p2,rfl⟩:=hC.2.1.slice;obtain⟨a1,a2,rfl⟩:=hC.2.2.slice;clear hC;go_enter Tryz.func69,Tryz.ntmps69;go_wp2_with fail
 obtain⟨W0,hW0⟩:∃W0,W0=w.alloc (.cells #[.slice s1 S.length s2,.slice p1 P.length p2,.slice a1 A.length a2] 26):=⟨_,rfl⟩;have hb0:Below w.heap.size w W0:=by rw [hW0];exact(Below.refl _ _).alloc zr _
 have d0:W0.cell? ⟨w.heap.size,0,none⟩=some (.slice s1 S.length s2):=zN1 hW0 rfl;have d1:W0.cell? ⟨w.heap.size,1,none⟩=some (.slice p1 P.length p2):=zN1 hW0 rfl;have d2:W0.cell? ⟨w.heap.size,2,none⟩=some (.slice a1 A.length a2):=zN1 hW0 rfl;have hz0:w.heap.size<W0.heap.size:=am d0;rw [←hW0];clear hW0;go_loopw [8] (fun i wr=>∃k:Nat,k≤A.length∧i= .int .i64 k∧Hid (∀j,j<k→(aU S (A.take j) (A.getD j ac0)==0)=true)∧Below W0.heap.size W0 wr) (fun i _=>A.length-(intOf i).toNat)
 case atStart=>exact⟨0,by omega,rfl,aa (fun j h=>absurd h (by omega)),Below.refl _ _⟩
 case round=>
  obtain⟨k,hk,rfl,HALL,hbr⟩:=hrel;have hbw:=hb0.trans (hbr.mono hb0.size);have q0:=zC d0 hbr;have q1:=zC d1 hbr;have q2:=zC d2 hbr;by_cases hlt:k<A.length
  ·obtain⟨b,off,cap',e1,hcap,hb,g0,g1,g2,g3,g4,g5,g6,g7,g8⟩:=tW (RowAt.below HC.out.2.2 hbw zr) hlt;have HK:Hid (∀W:World,Below w.heap.size w W→Calls Tryz.prog 117 #[.agg #[.slice s1 S.length s2,.slice p1 P.length p2,.slice a1 k a2],.agg #[.int .i64 (A.getD k ac0).s,.int .i64 (A.getD k ac0).p,.bool (A.getD k ac0).n,.int .i64 (A.getD k ac0).src,.int .i64 (A.getD k ac0).sb,.int .i64 (A.getD k ac0).dst,.int .i64 (A.getD k ac0).db,.int .i64 (A.getD k ac0).o,.bool (A.getD k ac0).d]] W fun e w'=>e= .returned (.int .i64 (aU S (A.take k) (A.getD k ac0)))∧Below W.heap.size W w'):=fun W hW=>pQ _ _ _ S P (A.take k) (A.getD k ac0) W ⟨RowAt.below HC.out.1 hW zr,RowAt.below HC.out.2.1 hW zr,RowAt.take (RowAt.below HC.out.2.2 hW zr) k hlt⟩ h1;simp only [Value.slice.injEq,true_and]at e1;obtain⟨rfl,rfl⟩:=e1;have HN1:=aa (HNO.out k hlt);have HNX:Hid ((aU S (A.take k) (A.getD k ac0)==0)=true→∀j,j<k+1→(aU S (A.take j) (A.getD j ac0)==0)=true):=fun h j hj=>by
    by_cases e:j=k
    ·subst e;exact h
    ·exact HALL.out j (by omega)
   have HRS:=aa hlt;clear HALL d0 d1 d2;generalize aU S (A.take k) (A.getD k ac0)=G at HK HN1 HNX;generalize (A.getD k ac0).s=x0 at*;generalize (A.getD k ac0).p=x1 at*;generalize (A.getD k ac0).n=x2 at*;generalize (A.getD k ac0).src=x3 at*;generalize (A.getD k ac0).sb=x4 at*;generalize (A.getD k ac0).dst=x5 at*;generalize (A.getD k ac0).db=x6 at*;generalize (A.getD k ac0).o=x7 at*;generalize (A.getD k ac0).d=x8 at*;have q3:(0:Int)≤(k:Int):=(by omega);have q4:(k:Int)<(A.length:Int):=(by omega);have q5:(k:Int)≤(a2:Int):=(by omega);go_wp2_with fail
   obtain⟨W1,hW1⟩:∃W1,W1=wr.alloc (.cells #[.int .i64 x0,.int .i64 x1,.bool x2,.int .i64 x3,.int .i64 x4,.int .i64 x5,.int .i64 x6,.int .i64 x7,.bool x8] 62):=⟨_,rfl⟩;obtain⟨B,hB⟩:∃B,B=wr.heap.size:=⟨_,rfl⟩;have hb1:Below wr.heap.size wr W1:=by rw [hW1];exact(Below.refl _ _).alloc zr _
   have y0:W1.cell? ⟨B,0,none⟩=some (.int .i64 x0):=zN2 hW1 hB rfl;have y1:W1.cell? ⟨B,1,none⟩=some (.int .i64 x1):=zN2 hW1 hB rfl;have y2:W1.cell? ⟨B,2,none⟩=some (.bool x2):=zN2 hW1 hB rfl;have y3:W1.cell? ⟨B,3,none⟩=some (.int .i64 x3):=zN2 hW1 hB rfl;have y4:W1.cell? ⟨B,4,none⟩=some (.int .i64 x4):=zN2 hW1 hB rfl;have y5:W1.cell? ⟨B,5,none⟩=some (.int .i64 x5):=zN2 hW1 hB rfl;have y6:W1.cell? ⟨B,6,none⟩=some (.int .i64 x6):=zN2 hW1 hB rfl;have y7:W1.cell? ⟨B,7,none⟩=some (.int .i64 x7):=zN2 hW1 hB rfl;have y8:W1.cell? ⟨B,8,none⟩=some (.bool x8):=zN2 hW1 hB rfl;have r0:=zC q0 hb1;have r1:=zC q1 hb1;have r2:=zC q2 hb1;have hk1:Below w.heap.size w W1:=hbw.trans (hb1.mono hbw.size);have hr1:Below W0.heap.size W0 W1:=hbr.trans (hb1.mono hbr.size);rw [←hW1, ←hB];clear hW1 hB hb1 q0 q1 q2 hbw hbr g0 g1 g2 g3 g4 g5 g6 g7 g8;go_region_held3 (fun w'=>w'.cell? ⟨w.heap.size,0,none⟩=some (.slice s1 S.length s2)∧w'.cell? ⟨w.heap.size,1,none⟩=some (.slice p1 P.length p2)∧w'.cell? ⟨w.heap.size,2,none⟩=some (.slice (some ⟨b,off,none⟩) A.length a2)∧w'.cell? ⟨B,0,none⟩=some (.int .i64 x0)∧w'.cell? ⟨B,1,none⟩=some (.int .i64 x1)∧w'.cell? ⟨B,2,none⟩=some (.bool x2)∧w'.cell? ⟨B,3,none⟩=some (.int .i64 x3)∧w'.cell? ⟨B,4,none⟩=some (.int .i64 x4)∧w'.cell? ⟨B,5,none⟩=some (.int .i64 x5)∧w'.cell? ⟨B,6,none⟩=some (.int .i64 x6)∧w'.cell? ⟨B,7,none⟩=some (.int .i64 x7)∧w'.cell? ⟨B,8,none⟩=some (.bool x8)) (go_keep)
    (first |(go_at_call 117;refine(ag HK _ hk1.drew).mono ?_;rintro e w2 ⟨rfl,hc2⟩;have g2:Below W1.heap.size W1 w2:=((Below.refl _ W1).drew).trans hc2;have v0:=zC r0 g2;have v1:=zC r1 g2;have v2:=zC r2 g2;have u0:=zC y0 g2;have u1:=zC y1 g2;have u2:=zC y2 g2;have u3:=zC y3 g2;have u4:=zC y4 g2;have u5:=zC y5 g2;have u6:=zC y6 g2;have u7:=zC y7 g2;have u8:=zC y8 g2))
   have HB2:Hid (Below W0.heap.size W0 w2):=hr1.trans (g2.mono hr1.size);clear hr1 hk1 g2 hc2 r0 r1 r2 v0 v1 v2 HK y0 u0 y1 u1 y2 u2 y3 u3 y4 u4 y5 u5 y6 u6 y7 u7 y8 u8;by_cases hG:G=0
   ·subst hG;have HN:=aa (HNX.out rfl);clear HNX HN1;go_wp2_with fail
    go_roundw
    case rel=>exact⟨k+1,by omega,by go_num,HN,HB2.out⟩
    case measure=>simp [intOf];omega
   ·have HN:=aa (HN1.out (by simpa using hG));clear HNX HN1;go_wp2_with fail
    go_ret;exact⟨aq HN.out.symm,hb0.trans (HB2.out.mono hb0.size)⟩
  ·have HN:=aa (HY.out fun j hj=>HALL.out j (by omega));clear HALL q0 q1 q2 d0 d1 d2;go_wp2_with fail
   go_ret;exact⟨aq HN.out.symm,hbw⟩
def may (S:List Sw) (P:List Pr) (A:List Ac):Bool:=aW S&&aL S P&&bE S A
theorem nG (sv pv av:Value) (S:List Sw) (P:List Pr) (A:List Ac) (w:World) (hC:CfAt w sv pv av S P A) (h1:S.length*24≤140737488355328) (h2:P.length*40≤140737488355328) (h3:A.length*72≤140737488355328):
  Calls Tryz.prog 38 #[.agg #[sv,pv,av]] w fun e w'=>e= .returned (.int .i64 (if may S P A=true then 0 else 8))∧Below w.heap.size w w':=by
 have H1:Hid (∀W:World,Below w.heap.size w W→Calls Tryz.prog 67 #[.agg #[sv,pv,av]] W fun e w'=>e= .returned (.bool (aW S))∧Below W.heap.size W w'):=fun W hW=>j8 sv pv av S P A W (hC.below hW zr) h1;have H2:Hid (∀W:World,Below w.heap.size w W→Calls Tryz.prog 68 #[.agg #[sv,pv,av]] W fun e w'=>e= .returned (.bool (aL S P))∧Below W.heap.size W w'):=fun W hW=>mT sv pv av S P A W (hC.below hW zr) h1 h2;have H3:Hid (∀W:World,Below w.heap.size w W→Calls Tryz.prog 69 #[.agg #[sv,pv,av]] W fun e w'=>e= .returned (.bool (bE S A))∧Below W.heap.size W w'):=fun W hW=>nQ sv pv av S P A W (hC.below hW zr) h1 h3;have HR:Hid ((if may S P A=true then(0:Int)else 8)=if(aW S&&aL S P&&bE S A)=true then 0 else 8):=rfl;generalize (if may S P A=true then(0:Int)else 8)=R at*;generalize aW S=R1 at*;generalize aL S P=R2 at*;generalize bE S A=R3 at*;obtain⟨s1,s2,rfl⟩:=hC.1.slice;obtain⟨p1,p2,rfl⟩:=hC.2.1.slice;obtain⟨a1,a2,rfl⟩:=hC.2.2.slice;clear hC;go_enter Tryz.func38,Tryz.ntmps38;go_wp2_with fail
 obtain⟨W0,hW0⟩:∃W0,W0=w.alloc (.cells #[.slice s1 S.length s2,.slice p1 P.length p2,.slice a1 A.length a2] 26):=⟨_,rfl⟩;have hb0:Below w.heap.size w W0:=by rw [hW0];exact(Below.refl _ _).alloc zr _
 have d0:W0.cell? ⟨w.heap.size,0,none⟩=some (.slice s1 S.length s2):=zN1 hW0 rfl;have d1:W0.cell? ⟨w.heap.size,1,none⟩=some (.slice p1 P.length p2):=zN1 hW0 rfl;have d2:W0.cell? ⟨w.heap.size,2,none⟩=some (.slice a1 A.length a2):=zN1 hW0 rfl;rw [←hW0];clear hW0;refine(ag H1 _ hb0).mono ?_;rintro e w1 ⟨rfl,hc1⟩;have k1:=hb0.trans (hc1.mono hb0.size);have q0:=zC d0 hc1;have q1:=zC d1 hc1;have q2:=zC d2 hc1;clear d0 d1 d2 hb0 hc1 H1;cases R1
 ·clear H2 H3;go_wp2_with fail
  go_ret;exact⟨ah (by rw [HR.out];simp),k1⟩
 ·go_wp2_with fail
  refine(ag H2 _ k1).mono ?_;rintro e w2 ⟨rfl,hc2⟩;have k2:=k1.trans (hc2.mono k1.size);have d0:=zC q0 hc2;have d1:=zC q1 hc2;have d2:=zC q2 hc2;clear q0 q1 q2 k1 hc2 H2;cases R2
  ·clear H3;go_wp2_with fail
   go_ret;exact⟨ah (by rw [HR.out];simp),k2⟩
  ·go_wp2_with fail
   refine(ag H3 _ k2).mono ?_;rintro e w3 ⟨rfl,hc3⟩;have k3:=k2.trans (hc3.mono k2.size);clear d0 d1 d2 k2 hc3 H3;cases R3
   ·go_wp2_with fail
    go_ret;exact⟨ah (by rw [HR.out];simp),k3⟩
   ·go_wp2_with fail
    go_ret;exact⟨ah (by rw [HR.out];simp),k3⟩
theorem xI {S:List Sw} {P:List Pr} {x:Pr} (h:aN S P x=0):P.length<40:=by
 unfold aN at h;split at h
 ·omega
 ·split at h
  ·omega
  ·split at h
   ·omega
   ·split at h
    ·omega
    ·split at h
     ·omega
     ·omega
theorem yH {S:List Sw} {A:List Ac} {x:Ac} (h:aU S A x=0):A.length<40:=by
 unfold aU at h;split at h
 ·omega
 ·split at h
  ·omega
  ·split at h
   ·omega
   ·split at h
    ·omega
    ·omega
theorem yN {S:List Sw} {P:List Pr} {x:Sw} (h:aK S P x=0):S.length<12:=by
 unfold aK at h;split at h
 ·omega
 ·split at h
  ·omega
  ·split at h
   ·omega
   ·omega
theorem aR {S:List Sw} {P:List Pr} {A:List Ac} (h:may S P A=true):aW S=true∧aL S P=true∧bE S A=true:=by
 unfold may at h;simp only [Bool.and_eq_true]at h;exact⟨h.1.1,h.1.2,h.2⟩
theorem iN {S:List Sw} {P:List Pr} {A:List Ac} (h:may S P A=true):S.length≤12∧P.length≤40∧A.length≤40:=by
 obtain⟨h1,h2,h3⟩:=aR h;refine⟨?_,?_,?_⟩
 ·rcases Nat.lt_or_ge 12 S.length with h' | h'
  ·unfold aW at h1;rw [List.all_eq_true]at h1;have:=h1 12 (List.mem_range.2 h');have:=yN (by simpa using this);rw [List.length_take]at this;omega
  ·exact h'
 ·rcases Nat.lt_or_ge 40 P.length with h' | h'
  ·unfold aL at h2;rw [List.all_eq_true]at h2;have:=h2 40 (List.mem_range.2 h');have:=xI (by simpa using this);rw [List.length_take]at this;omega
  ·exact h'
 ·rcases Nat.lt_or_ge 40 A.length with h' | h'
  ·unfold bE at h3;rw [List.all_eq_true]at h3;have:=h3 40 (List.mem_range.2 h');have:=yH (by simpa using this);rw [List.length_take]at this;omega
  ·exact h'
theorem pI {S:List Sw} {P:List Pr} {x:Pr} (h:aN S P x=0):P.any (fun y=>y.i==x.i|| y.s==x.s&&y.m==x.m)=false:=by
 unfold aN at h;by_cases h1:P.any (fun y=>y.i==x.i|| y.s==x.s&&y.m==x.m)=true
 ·rw [if_pos h1]at h;split at h
  ·omega
  ·split at h <;>omega
 ·exact Bool.not_eq_true _ |>.mp h1
theorem Bb {S:List Sw} {P:List Pr} (h:aL S P=true) {k:Nat} (hk:k<P.length):aN S (P.take k) (P.getD k pr0)=0:=by
 unfold aL at h;rw [List.all_eq_true]at h;simpa using h k (List.mem_range.2 hk)
theorem AX {S:List Sw} {P:List Pr} (h:aL S P=true) {j k:Nat} (hk:k<P.length) (hj:j<k):(P[j]'(by omega)).i≠P[k].i:=by
 have h1:=pI (Bb h hk);rw [List.any_eq_false]at h1;have hm:P[j]'(by omega)∈P.take k:=by
  rw [List.mem_take_iff_getElem];exact⟨j,by omega,rfl⟩
 have:=h1 _ hm;simp only [List.getD,List.getElem?_eq_getElem hk,Option.getD_some,Bool.or_eq_true,not_or]at this;simpa using this.1
theorem mq {S:List Sw} {P:List Pr} (h:aL S P=true):P.Pairwise (fun a b=>a.i≠b.i):=by
 rw [List.pairwise_iff_getElem];exact fun j k _ hk hj=>AX h hk hj
theorem kQ {S:List Sw} {P:List Pr} {x:Sw} (h:aK S P x=0):
  (inB x.i 1 500=true∧inB x.t 1 9=true∧inB x.g 0 65535=true)∧(S.any (fun s=>s.i==x.i)=false∧(x.g != 0&&bq S P x.t x.g)=false)∧S.length<12:=by
 unfold aK at h;by_cases h0:(inB x.i 1 500&&inB x.t 1 9&&inB x.g 0 65535)=false
 ·rw [if_pos h0]at h;omega
 ·rw [if_neg h0]at h;by_cases h1:(S.any (fun s=>s.i==x.i)|| (x.g != 0&&bq S P x.t x.g))=true
  ·rw [if_pos h1]at h;omega
  ·rw [if_neg h1]at h;by_cases h2:12≤S.length
   ·rw [if_pos h2]at h;omega
   ·have h0':=Bool.not_eq_false _ |>.mp h0
    have h1':=Bool.not_eq_true _ |>.mp h1;simp only [Bool.and_eq_true]at h0';rw [Bool.or_eq_false_iff]at h1';exact⟨⟨h0'.1.1,h0'.1.2,h0'.2⟩,h1',by omega⟩
theorem js {α:Type} (f:List α→α→Int) (d:α) (l:List α):(List.range l.length).all (fun k=>f (l.take k) (l.getD k d)==0)=true↔∀L x R,l=L++x::R→f L x=0:=by
 rw [List.all_eq_true];constructor
 ·rintro h L x R rfl;have:=h L.length (List.mem_range.2 (by simp));simpa using this
 ·intro h k hk;rw [List.mem_range]at hk;have e:l=l.take k++l[k]::l.drop (k+1):=by
   conv=>lhs;rw [←List.take_append_drop k l]
   rw [List.drop_eq_getElem_cons hk]
  have h1:=h _ _ _ e;have hg:l.getD k d=l[k]:=(by simp [List.getD,List.getElem?_eq_getElem hk]);rw [hg,h1];rfl
theorem m9 (S:List Sw):aW S=true↔∀L x R,S=L++x::R→aK L [] x=0:=js (fun L x=>aK L [] x) sw0 S
theorem cG (S:List Sw) (P:List Pr):aL S P=true↔∀L x R,P=L++x::R→aN S L x=0:=js (fun L x=>aN S L x) pr0 P
theorem kg (S:List Sw) (A:List Ac):bE S A=true↔∀L x R,A=L++x::R→aU S L x=0:=js (fun L x=>aU S L x) ac0 A
theorem ir {α:Type} {l L R:List α} {y x:α} (h:l++ [y]=L++x::R):(L=l∧x=y)∨∃R',l=L++x::R':=by
 rw [List.append_eq_append_iff]at h;rcases h with⟨a,h1,h2⟩ |⟨a,h1,h2⟩
 ·cases a with
  | nil=>
   simp at h1 h2;exact .inl ⟨h1,h2.1.symm⟩
  | cons b c=>
   simp at h2
 ·cases a with
  | nil=>
   simp at h1 h2;exact .inl ⟨h1.symm,h2.1⟩
  | cons b c=>
   simp at h2;obtain⟨rfl,rfl⟩:=h2;exact .inr ⟨c,h1⟩
def tn (S:List Sw) (id:Int):Int:=(S.getD (idx (fun s=>s.i==id) S).toNat sw0).t
theorem ed (S:List Sw) (P:List Pr) (x:Pr):aN S P x=0↔eN x=true∧0≤idx (fun s=>s.i==x.s) S∧P.any (fun y=>y.i==x.i|| y.s==x.s&&y.m==x.m)=false∧bq S P (tn S x.s) x.p=false∧P.length<40:=by
 unfold aN;show(if eN x=false then(2:Int)else if idx (fun s=>s.i==x.s) S<0 then 6 else if P.any (fun y=>y.i==x.i|| y.s==x.s&&y.m==x.m)=true then 7 else if bq S P (tn S x.s) x.p=true then 7 else if 40≤P.length then 1 else 0)=0↔_;generalize idx (fun s:Sw=>s.i==x.s) S=I;generalize bq S P (tn S x.s) x.p=B;generalize P.any (fun y=>y.i==x.i|| y.s==x.s&&y.m==x.m)=C;generalize eN x=D;cases D <;>cases C <;>cases B <;>simp <;>(repeat' split) <;>omega
theorem uj {S:List Sw} {P:List Pr} (h:aL S P=true) {x:Pr} (hx:x∈P):eN x=true∧0≤idx (fun s=>s.i==x.s) S:=by
 obtain⟨L,R,rfl⟩:=List.append_of_mem hx;have:=(ed _ _ _).1 ((cG S _).1 h L x R rfl);exact⟨this.1,this.2.1⟩
theorem s8 (S:List Sw) (A:List Ac) (x:Ac):aU S A x=0↔eM x=true∧(bH x.src x.sb&&bH x.dst x.db)=true∧S.any (fun s=>s.i==x.s)=true∧A.length<40:=by
 unfold aU;generalize eM x=B;generalize (bH x.src x.sb&&bH x.dst x.db)=C;generalize S.any (fun s=>s.i==x.s)=D;cases B <;>cases C <;>cases D <;>simp <;>omega
theorem kt {α:Type} {l:List α} (h:l≠ []):l=l.dropLast++l.getLast h:: []:=(List.dropLast_concat_getLast h).symm
theorem pH {S:List Sw} {P:List Pr} {x:Sw} (h:aK S P x=0):(1≤x.i∧x.i≤500)∧(1≤x.t∧x.t≤9)∧(0≤x.g∧x.g≤65535)∧S.any (fun y=>y.i==x.i)=false∧S.length<12:=by
 unfold aK at h;split at h
 ·omega
 ·rename_i h1;split at h
  ·omega
  ·rename_i h2;split at h
   ·omega
   ·rename_i h3;simp [inB]at h1 h2;refine⟨by omega,by omega,by omega,?_,by omega⟩;rw [List.any_eq_false];intro y hy;simpa using h2.1 y hy
theorem dE {S:List Sw} (h:aW S=true):S.length≤12∧∀x∈S,(1≤x.i∧x.i≤500)∧(1≤x.t∧x.t≤9)∧(0≤x.g∧x.g≤65535):=by
 have hf:=(m9 S).1 h;refine⟨?_,fun x hx=>?_⟩
 ·by_cases he:S= []
  ·simp [he]
  ·have:=(pH (hf _ _ _ (kt he))).2.2.2.2;rw [List.length_dropLast]at this;omega
 ·obtain⟨L,R,e⟩:=List.append_of_mem hx;have:=pH (hf L x R e);exact⟨this.1,this.2.1,this.2.2.1⟩
theorem bI {S:List Sw} {P:List Pr} (hs:aW S=true) (h:aL S P=true):P.length≤40∧∀p∈P,(1≤p.i∧p.i≤999)∧(1≤p.s∧p.s≤500)∧(1≤p.m∧p.m≤59999)∧(1≤p.p∧p.p≤65535)∧ -1≤p.c∧p.c≤5:=by
 have hf:=(cG S P).1 h;refine⟨?_,fun x hx=>?_⟩
 ·by_cases he:P= []
  ·simp [he]
  ·have:=((ed _ _ _).1 (hf _ _ _ (kt he))).2.2.2.2;rw [List.length_dropLast]at this;omega
 ·obtain⟨L,R,e⟩:=List.append_of_mem hx;have:=(ed _ _ _).1 (hf L x R e);have h1:=this.1;have h2:S.any (fun s=>s.i==x.s)=true:=by rw [←bX];simpa using this.2.1
  rw [List.any_eq_true]at h2;obtain⟨s,hsS,hse⟩:=h2;have h3:=(dE hs).2 s hsS;simp at hse;simp [eN,inB]at h1;refine⟨by omega,by omega,by omega,by omega,by omega⟩
theorem gK {S:List Sw} {A:List Ac} (h:bE S A=true):A.length≤40∧∀r∈A,eM r=true∧(bH r.src r.sb&&bH r.dst r.db)=true∧S.any (fun s=>s.i==r.s)=true:=by
 have hf:=(kg S A).1 h;refine⟨?_,fun x hx=>?_⟩
 ·by_cases he:A= []
  ·simp [he]
  ·have:=((s8 _ _ _).1 (hf _ _ _ (kt he))).2.2.2;rw [List.length_dropLast]at this;omega
 ·obtain⟨L,R,e⟩:=List.append_of_mem hx;have:=(s8 _ _ _).1 (hf L x R e);exact⟨this.1,this.2.1,this.2.2.1⟩
theorem pM {S:List Sw} {A:List Ac} (h:bE S A=true):∀r∈A,(0≤r.sb∧r.sb≤16)∧0≤r.db∧r.db≤16:=fun r hr=>by
 have:=((gK h).2 r hr).1;simp [eM,inB]at this;omega
theorem qu {n:Int} (h0:0≤n) (h1:n≤65535):mk n 65535=n:=by
 obtain⟨a,rfl⟩:=Int.eq_ofNat_of_zero_le h0;unfold mk;have e:((65535:Int).toNat)=2 ^ 16-1:=rfl;rw [e,Int.toNat_natCast,Nat.and_two_pow_sub_one_eq_mod,Nat.mod_eq_of_lt (by omega)]
theorem wE {v k:Nat} (hk:k≤16) (hv:v<2 ^ 16) (hd:v%2 ^ k=0):v&&& (2 ^ 16-2 ^ k)=v:=by
 have hp:0<2 ^ k:=Nat.two_pow_pos k;have e:2 ^ 16-2 ^ k=2 ^ 16-((2 ^ k-1)+1):=by omega
 rw [e];refine Nat.eq_of_testBit_eq fun j=>?_;have hlt:2 ^ k-1<2 ^ 16:=by
  have:=Nat.pow_le_pow_right (show 0<2 by decide) hk;omega
 rw [Nat.testBit_and,Nat.testBit_two_pow_sub_succ hlt,Nat.testBit_two_pow_sub_one];by_cases hj:j<16
 ·by_cases hjk:j<k
  ·have:v.testBit j=false:=by
    obtain⟨q,rfl⟩:=Nat.dvd_of_mod_eq_zero hd;rw [Nat.testBit_two_pow_mul];simp;omega
   simp [this]
  ·simp [hj,hjk]
 ·have:v.testBit j=false:=Nat.testBit_lt_two_pow (Nat.lt_of_lt_of_le hv (Nat.pow_le_pow_right (by decide) (by omega)));simp [this]
theorem br {f v:Int} (h0:0≤f) (h1:f≤9) (h2:0≤v) (h3:v≤65535):aZ (isM f v)=true:=by
 unfold aZ isM ii ap;simp only;rw [qu h2 h3,Bool.and_eq_true,Bool.and_eq_true,Bool.and_eq_true];exact⟨⟨⟨decide_eq_true (by omega),decide_eq_true (by omega)⟩,decide_eq_true (by omega)⟩,by simp⟩
theorem xS {f v b:Int} (h0:0≤f) (h1:f≤9) (h2:0≤v) (h3:v≤65535) (h4:0≤b) (h5:b≤16) (h6:bH v b=true):aZ (hiM f v b)=true:=by
 obtain⟨n,rfl⟩:=Int.eq_ofNat_of_zero_le h4;obtain⟨a,rfl⟩:=Int.eq_ofNat_of_zero_le h2;have hk:((16:Int)-(n:Int)).toNat=16-n:=by omega
 have hn:n≤16:=by omega
 have hpow:2 ^ 16=2 ^ (16-n)*2 ^ n:=by rw [←Nat.pow_add];congr 1;omega
 have hd:a%2 ^ (16-n)=0:=by
  have h:=h6;simp only [bH,Int.toNat_natCast,beq_iff_eq]at h;have e:(65536:Int)/2 ^ n=((2 ^ (16-n):Nat):Int):=by
   have:(65536:Int)=((2 ^ (16-n)*2 ^ n:Nat):Int):=by rw [←hpow];rfl
   rw [this,Int.natCast_mul];rw [show((2 ^ n:Nat):Int)=(2:Int) ^ n by simp];exact Int.mul_ediv_cancel _ (by have:(0:Int)<2 ^ n:=Int.pow_pos (by decide);omega)
  rw [e]at h
  exact_mod_cast h
 have hm:=wE (v:=a) (k:=16-n) (by omega) (by omega) hd;have hle:2 ^ (16-n)≤2 ^ 16:=Nat.pow_le_pow_right (by decide) (by omega);have hpos:0<2 ^ (16-n):=Nat.two_pow_pos _;have hmask:(65536:Int)-2 ^ (16-n)=((2 ^ 16-2 ^ (16-n):Nat):Int):=by
  rw [Int.ofNat_sub hle];simp
 simp only [aZ,hiM,hk,hmask,mk,Int.toNat_natCast,hm];have:((2 ^ 16-2 ^ (16-n):Nat):Int)≤65535:=by omega
 simp [ii,ap];omega
def kX (d:Do):Prop:=∀t last,eF d.k d.a d.n t last=true
theorem eX {a n:Int} (h0:0≤a) (h1:a≤9) (h2:0≤n) (h3:n≤65535):kX ⟨1,a,n⟩:=fun t last=>by simp [eF];omega
theorem copy_any' {a n:Int} (h0:0≤a) (h1:a≤9) (h2:0≤n) (h3:n≤9):kX ⟨2,a,n⟩:=fun t last=>by simp [eF];omega
theorem xz {a:Int} (h0:0≤a) (h1:a≤9):kX ⟨3,a,0⟩:=fun t last=>by simp [eF];omega
theorem zm {n:Int} (h2:0≤n) (h3:n≤65535):kX ⟨5,0,n⟩:=fun t last=>by simp [eF];omega
theorem ut {n:Int} (h2:0≤n) (h3:n≤5):kX ⟨6,0,n⟩:=fun t last=>by simp [eF];omega
theorem dQ {t:Int} {ds:List Do} (h:∀d∈ds,kX d):∀j,j<ds.length→doB t ds j=true:=fun j hj=>by
 unfold doB;refine h _ ?_ _ _;rw [List.getD_eq_getElem?_getD,List.getElem?_eq_getElem hj];exact List.getElem_mem _
theorem fZ {t n:Int} {ds:List Do} (h:∀d∈ds,kX d) (h0:t<n) (h1:n≤7):∀j,j<(ds++ [aT n]).length→doB t (ds++ [aT n]) j=true:=fun j hj=>by
 rw [List.length_append,List.length_singleton]at hj;by_cases hl:j=ds.length
 ·subst hl;unfold doB;rw [show(ds++ [aT n]).getD ds.length do0=aT n by simp [List.getD]];simp [eF,aT];exact decide_eq_true (by omega)
 ·have hj':j<ds.length:=(by omega);unfold doB;rw [show(ds++ [aT n]).getD j do0=ds.getD j do0 by simp [List.getD,List.getElem?_append_left hj']];refine h _ ?_ _ _;rw [List.getD_eq_getElem?_getD,List.getElem?_eq_getElem hj'];exact List.getElem_mem _
theorem fN {t p:Int} {ms:List Mt} {ds:List Do} (ht0:0≤t) (ht1:t≤7) (hp0:0≤p) (hp1:p≤2000) (hm:ms.length≤12) (hd:ds.length≤100) (hms:∀m∈ms,aZ m=true) (hds:∀j,j<ds.length→doB t ds j=true):aI ⟨t,p,ms,ds⟩=0:=by
 refine r9 ?_ ?_ ?_ hds
 ·simp only;omega
 ·simp [fC,iz];omega
 ·simp only [List.all_eq_true];exact hms
theorem yk {v k:Nat} (hk:k≤16) (hv:v<2 ^ 16):v&&& (2 ^ 16-2 ^ k)=v/2 ^ k*2 ^ k:=by
 have hp:0<2 ^ k:=Nat.two_pow_pos k;have e:2 ^ 16-2 ^ k=2 ^ 16-((2 ^ k-1)+1):=by omega
 rw [e];refine Nat.eq_of_testBit_eq fun j=>?_;have hlt:2 ^ k-1<2 ^ 16:=by
  have:=Nat.pow_le_pow_right (show 0<2 by decide) hk;omega
 rw [Nat.testBit_and,Nat.testBit_two_pow_sub_succ hlt,Nat.testBit_two_pow_sub_one,Nat.mul_comm,Nat.testBit_two_pow_mul,Nat.testBit_div_two_pow];by_cases hj:j<16
 ·by_cases hjk:j<k
  ·simp [hj,hjk];omega
  ·have:j-k+k=j:=(by omega);simp [hj,hjk,this];omega
 ·have:v.testBit j=false:=Nat.testBit_lt_two_pow (Nat.lt_of_lt_of_le hv (Nat.pow_le_pow_right (by decide) (by omega)));have hjk:k≤j:=(by omega);have h2:j-k+k=j:=(by omega);simp [this,h2]
theorem pD {x:Int} {k:Nat} (hk:k≤16) (h0:0≤x) (h1:x≤65535):mk x (65536-2 ^ k)=x/2 ^ k*2 ^ k:=by
 obtain⟨n,rfl⟩:=Int.eq_ofNat_of_zero_le h0;have hle:2 ^ k≤2 ^ 16:=Nat.pow_le_pow_right (by decide) hk;have hm:(65536:Int)-2 ^ k=((2 ^ 16-2 ^ k:Nat):Int):=by rw [Int.ofNat_sub hle];simp
 unfold mk;rw [hm,Int.toNat_natCast,Int.toNat_natCast,yk hk (by omega)];simp
def un (b:Int):Int:=2 ^ (16-b).toNat
theorem A9 (b:Int):0<un b:=Int.pow_pos (by decide)
theorem zQ {v b:Int} (h4:0≤b) (h5:b≤16) (h:bH v b=true):v/un b*un b=v:=by
 obtain⟨n,rfl⟩:=Int.eq_ofNat_of_zero_le h4;have hn:n≤16:=by omega
 have hk:((16:Int)-(n:Int)).toNat=16-n:=by omega
 have hpow:2 ^ 16=2 ^ (16-n)*2 ^ n:=by rw [←Nat.pow_add];congr 1;omega
 have e:(65536:Int)/2 ^ n=un n:=by
  unfold un;rw [hk];have:(65536:Int)=((2 ^ (16-n)*2 ^ n:Nat):Int):=by rw [←hpow];rfl
  rw [this,Int.natCast_mul];rw [show((2 ^ n:Nat):Int)=(2:Int) ^ n by simp,show((2 ^ (16-n):Nat):Int)=(2:Int) ^ (16-n) by simp];exact Int.mul_ediv_cancel _ (by have:(0:Int)<2 ^ n:=Int.pow_pos (by decide);omega)
 simp only [bH,Int.toNat_natCast,beq_iff_eq,e]at h;have:=Int.mul_ediv_add_emod v (un n);rw [Int.mul_comm];omega
theorem aV (F:List Int):bn F []=true:=rfl
theorem gi (F:List Int) (a b:List Mt):bn F (a++b)=(bn F a&&bn F b):=by simp [bn]
theorem iE (F:List Int) (m:Mt) (l:List Mt):bn F (m::l)=((mk (F.getD m.f.toNat 0) m.m==m.v)&&bn F l):=by simp [bn]
theorem aB {F:List Int} (hF:WF F) (f v:Int) (l:List Mt):bn F (isM f v::l)=((F.getD f.toNat 0==v)&&bn F l):=by
 rw [iE];simp only [isM];rw [qu (hF.bd _).1 (hF.bd _).2]
theorem ws {F:List Int} (hF:WF F) (l:List Mt):bn F (⟨6,65280,0⟩::l)=(decide (F.getD 6 0≤255)&&bn F l):=by
 rw [iE];have:=hF.bd 6;have e:=pD (x:=F.getD 6 0) (k:=8) (by decide) this.1 this.2;simp only [show(6:Int).toNat=6 from rfl];rw [show(65280:Int)=65536-2 ^ 8 from rfl,e];congr 1;generalize F.getD 6 0=x at*;rw [Bool.eq_iff_iff];simp;omega
theorem nj {F:List Int} (hF:WF F) (l:List Mt):bn F (⟨6,65534,0⟩::l)=(decide (F.getD 6 0≤1)&&bn F l):=by
 rw [iE];have:=hF.bd 6;have e:=pD (x:=F.getD 6 0) (k:=1) (by decide) this.1 this.2;simp only [show(6:Int).toNat=6 from rfl];rw [show(65534:Int)=65536-2 ^ 1 from rfl,e];congr 1;generalize F.getD 6 0=x at*;rw [Bool.eq_iff_iff];simp;omega
theorem lJ {F:List Int} (hF:WF F) (f:Int) {v b:Int} (h4:0≤b) (h5:b≤16) (h:bH v b=true) (l:List Mt):bn F (hiM f v b::l)=((F.getD f.toNat 0/un b==v/un b)&&bn F l):=by
 rw [iE];have hb:=hF.bd f.toNat;simp only [hiM];rw [pD (by omega) hb.1 hb.2];have hv:=zQ h4 h5 h;have hp:=A9 b;congr 1;rw [Bool.eq_iff_iff,beq_iff_eq,beq_iff_eq];show F.getD f.toNat 0/un b*un b=v↔_;constructor
 ·intro e;rw [←hv]at e;exact Int.eq_of_mul_eq_mul_right (by omega) e
 ·intro e;rw [e];exact hv
abbrev pkF (i d s k a b t o n u:Int):List Int:=[i,d,s,k,a,b,t,o,n,u]
def qg (a b o:Int) (r:Ac):Bool:=(a/un r.sb==r.src/un r.sb)&&(b/un r.db==r.dst/un r.db)&&(r.o== -1|| o==r.o)
theorem vu {i d s k a b t o n u:Int} (hF:WF (pkF i d s k a b t o n u)) {r:Ac} (h1:0≤r.sb) (h2:r.sb≤16) (h3:0≤r.db) (h4:r.db≤16) (hs:bH r.src r.sb=true) (hd:bH r.dst r.db=true) (l:List Mt):bn (pkF i d s k a b t o n u) (bl r++l)=(qg a b o r&&bn (pkF i d s k a b t o n u) l):=by
 rw [gi];congr 1;unfold bl qg;by_cases ho:r.o= -1
 ·rw [if_pos ho,List.append_nil,lJ hF 4 h1 h2 hs,lJ hF 5 h3 h4 hd];simp [ho,aV]
 ·rw [if_neg ho,List.cons_append,List.cons_append,List.nil_append,lJ hF 4 h1 h2 hs,lJ hF 5 h3 h4 hd,aB hF];have hb:(r.o== -1)=false:=(by simpa using ho);simp [hb,aV,Bool.and_assoc]
theorem xJ {α:Type} {l:List α} {x y:α} (hx:x∈l) (hy:y∈l):x=y∨(∃L M R,l=L++x::M++y::R)∨(∃L M R,l=L++y::M++x::R):=by
 induction l with
 | nil=>cases hx
 | cons a r ih=>
  rcases List.mem_cons.1 hx with rfl | hx'
  ·rcases List.mem_cons.1 hy with rfl | hy'
   ·exact .inl rfl
   ·obtain⟨M,R,e⟩:=List.append_of_mem hy';exact .inr (.inl ⟨[],M,R,by rw [e];rfl⟩)
  ·rcases List.mem_cons.1 hy with rfl | hy'
   ·obtain⟨M,R,e⟩:=List.append_of_mem hx';exact .inr (.inr ⟨[],M,R,by rw [e];rfl⟩)
   ·rcases ih hx' hy' with h |⟨L,M,R,e⟩ |⟨L,M,R,e⟩
    ·exact .inl h
    ·exact .inr (.inl ⟨a::L,M,R,by rw [e];rfl⟩)
    ·exact .inr (.inr ⟨a::L,M,R,by rw [e];rfl⟩)
theorem zp {α:Type} {l:List α} {f:List α→α→Int} (h:∀L x R,l=L++x::R→f L x=0) {r:α→α→Prop} (hr:∀x y,r x y→r y x) (hf:∀L x y,x∈L→r x y→f L y≠0) {x y:α} (hx:x∈l) (hy:y∈l) (hxy:r x y):x=y:=by
 rcases xJ hx hy with e |⟨L,M,R,e⟩ |⟨L,M,R,e⟩
 ·exact e
 ·exact absurd (h _ _ _ e) (hf _ x y (by simp) hxy)
 ·exact absurd (h _ _ _ e) (hf _ y x (by simp) (hr _ _ hxy))
theorem iO {S:List Sw} (h:aW S=true) {x y:Sw} (hx:x∈S) (hy:y∈S) (e:x.i=y.i):x=y:=by
 refine zp (r:=fun x y=>x.i=y.i) ((m9 S).1 h) (fun _ _ h=>h.symm) (fun L x y hx hxy hz=>?_) hx hy e;have:=(pH hz).2.2.2.1;rw [List.any_eq_false]at this;exact this x hx (by simpa using hxy)
theorem cI {S:List Sw} {P:List Pr} (h:aL S P=true) {x y:Pr} (hx:x∈P) (hy:y∈P) (e:x.i=y.i):x=y:=by
 refine zp (r:=fun x y=>x.i=y.i) ((cG S P).1 h) (fun _ _ h=>h.symm) (fun L x y hx hxy hz=>?_) hx hy e;have:=((ed _ _ _).1 hz).2.2.1;rw [List.any_eq_false]at this;exact this x hx (by simp [hxy])
theorem me {S:List Sw} {P:List Pr} (h:aL S P=true) {x y:Pr} (hx:x∈P) (hy:y∈P) (e:x.s=y.s) (e':x.m=y.m):x=y:=by
 refine zp (r:=fun x y=>x.s=y.s∧x.m=y.m) ((cG S P).1 h) (fun _ _ h=>⟨h.1.symm,h.2.symm⟩) (fun L x y hx hxy hz=>?_) hx hy ⟨e,e'⟩;have:=((ed _ _ _).1 hz).2.2.1;rw [List.any_eq_false]at this;exact this x hx (by simp [hxy])
theorem uq {S:List Sw} (h:aW S=true) {s:Sw} (hs:s∈S):tn S s.i=s.t:=by
 unfold tn;have h1:S.any (fun x=>x.i==s.i)=true:=by rw [List.any_eq_true];exact⟨s,hs,by simp⟩
 have h0:0≤idx (fun x=>x.i==s.i) S:=by
  have:=bX (fun x:Sw=>x.i==s.i) S;rw [h1]at this;simpa using this
 unfold idx at h0⊢;cases hf:S.findIdx? (fun x=>x.i==s.i)with
 | none=>rw [hf]at h0;simp at h0
 | some k=>
  simp only [Int.toNat_natCast];obtain⟨hk,hp,_⟩:=List.findIdx?_eq_some_iff_getElem.1 hf;have e:S.getD k sw0=S[k]:=by rw [List.getD_eq_getElem?_getD,List.getElem?_eq_getElem hk];rfl
  rw [e,iO h (List.getElem_mem hk) hs (by simpa using hp)]
theorem lO {S:List Sw} {P:List Pr} (h:aL S P=true) {p:Pr} (hp:p∈P):∃s∈S,s.i=p.s:=by
 obtain⟨L,R,e⟩:=List.append_of_mem hp;have h2:=((ed _ _ _).1 ((cG S P).1 h L p R e)).2.1;have:S.any (fun s=>s.i==p.s)=true:=by rw [←bX];simpa using h2
 rw [List.any_eq_true]at this;obtain⟨s,hs,e⟩:=this;exact⟨s,hs,by simpa using e⟩
theorem zq {S:List Sw} {P:List Pr} (hS:aW S=true) (h:aL S P=true) {p:Pr} (hp:p∈P):∃s∈S,s.i=p.s∧tn S p.s=s.t:=by
 obtain⟨s,hs,e⟩:=lO h hp;exact⟨s,hs,e,by rw [←e];exact uq hS hs⟩
theorem iQ {S:List Sw} {P:List Pr} (hS:aW S=true) (h:aL S P=true) {x y:Pr} (hx:x∈P) (hy:y∈P) (e:tn S x.s=tn S y.s) (e':x.p=y.p):x=y:=by
 refine zp (r:=fun x y=>(x∈P∧y∈P)∧tn S x.s=tn S y.s∧x.p=y.p) ((cG S P).1 h) (fun _ _ h=>⟨⟨h.1.2,h.1.1⟩,h.2.1.symm,h.2.2.symm⟩) (fun L x y hx hxy hz=>?_) hx hy ⟨⟨hx,hy⟩,e,e'⟩;have h4:=((ed _ _ _).1 hz).2.2.2.1;unfold bq at h4;rw [Bool.or_eq_false_iff]at h4;have h5:=h4.2;rw [List.any_eq_false]at h5;refine h5 x hx ?_;obtain⟨s,hs,e1,e2⟩:=zq hS h hxy.1.1;rw [Bool.and_eq_true];refine⟨by simp [hxy.2.2],?_⟩;rw [List.any_eq_true];exact⟨s,hs,by simp [e1, ←e2,hxy.2.1]⟩
theorem lH {S:List Sw} {P:List Pr} (hS:aW S=true) (h:aL S P=true) {s:Sw} {p:Pr} (hs:s∈S) (hp:p∈P) (e:tn S p.s=s.t):s.g≠p.p:=by
 intro e';obtain⟨L,R,eL⟩:=List.append_of_mem hp;have h4:=((ed _ _ _).1 ((cG S P).1 h L p R eL)).2.2.2.1;unfold bq at h4;rw [Bool.or_eq_false_iff]at h4;have h5:=h4.1;rw [List.any_eq_false]at h5;exact h5 s hs (by simp [e,e'])
def jF (p:Pr):Prop:=(1≤p.i∧p.i≤999)∧(1≤p.s∧p.s≤500)∧(1≤p.m∧p.m≤59999)∧(1≤p.p∧p.p≤65535)∧ -1≤p.c∧p.c≤5
theorem di {l:List Mt} {x:Mt} {P:Mt→Prop} (h:P x) (hl:∀m∈l,P m):∀m∈x::l,P m:=fun m hm=>by
 rcases List.mem_cons.1 hm with rfl | hm
 ·exact h
 ·exact hl m hm
theorem kU {a b:List Mt} {P:Mt→Prop} (ha:∀m∈a,P m) (hb:∀m∈b,P m):∀m∈a++b,P m:=fun m hm=>by
 rcases List.mem_append.1 hm with h | h
 ·exact ha m h
 ·exact hb m h
theorem dO {P:Mt→Prop}:∀m∈([]:List Mt),P m:=fun m hm=>by cases hm
theorem iY {l:List Do} {x:Do} {P:Do→Prop} (h:P x) (hl:∀m∈l,P m):∀m∈x::l,P m:=fun m hm=>by
 rcases List.mem_cons.1 hm with rfl | hm
 ·exact h
 ·exact hl m hm
theorem fY {P:Do→Prop}:∀m∈([]:List Do),P m:=fun m hm=>by cases hm
theorem BA {a b:List Do} {P:Do→Prop} (ha:∀m∈a,P m) (hb:∀m∈b,P m):∀m∈a++b,P m:=fun m hm=>by
 rcases List.mem_append.1 hm with h | h
 ·exact ha m h
 ·exact hb m h
theorem wg {v:Int} (hv:v=65280∨v=65534):aZ ⟨6,v,0⟩=true:=by
 rcases hv with rfl | rfl <;>decide
theorem og:∀m∈cX,aZ m=true:=di (br (by decide) (by decide) (by decide) (by decide)) (di (wg (.inl rfl)) dO)
theorem oS {k:Int} (h0:0≤k) (h1:k≤65535):∀m∈cW k,aZ m=true:=di (br (by decide) (by decide) h0 h1) (di (br (by decide) (by decide) (by decide) (by decide)) (di (br (by decide) (by decide) (by decide) (by decide)) dO))
theorem oq {p:Pr} (h:jF p):∀m∈bU p,aZ m=true:=by
 obtain⟨⟨a0,a1⟩,⟨b0,b1⟩,⟨c0,c1⟩,⟨d0,d1⟩,e0,e1⟩:=h;exact di (br (by decide) (by decide) (by omega) (by omega)) (di (br (by decide) (by decide) (by decide) (by decide)) (di (br (by decide) (by decide) (by decide) (by decide)) (di (br (by decide) (by decide) (by omega) (by omega)) (di (br (by decide) (by decide) (by omega) (by omega)) dO))))
theorem ky {p:Pr} (h:jF p) (hs:aw p=true):∀d∈ax p,kX d:=by
 obtain⟨⟨a0,a1⟩,⟨b0,b1⟩,⟨c0,c1⟩,⟨d0,d1⟩,e0,e1⟩:=h;have hs':p.c≠ -1:=by simpa [aw] using hs
 exact iY (eX (by decide) (by decide) (by omega) (by omega)) (iY (ut (by omega) (by omega)) fY)
theorem rZ:∀f∈tunnelFl,aI f=0:=by
 intro f hf;simp only [tunnelFl,List.mem_cons,List.not_mem_nil,or_false]at hf;rcases hf with rfl | rfl
 ·exact fN (by decide) (by decide) (by decide) (by decide) (by decide) (by decide) (kU og (di (br (by decide) (by decide) (by decide) (by decide)) dO)) (fZ (ds:=[]) fY (by decide) (by decide))
 ·exact fN (by decide) (by decide) (by decide) (by decide) (by decide) (by decide) (kU (oS (by decide) (by decide)) (di (br (by decide) (by decide) (by decide) (by decide)) dO)) (fZ (ds:=[]) fY (by decide) (by decide))
theorem rJ (l:List Pr):(l.flatMap ax).length=2*l.length:=by
 induction l with
 | nil=>rfl
 | cons x r ih=>simp [ax]at ih⊢;omega
theorem xV {P:List Pr} (hP:∀p∈P,jF p) (hl:P.length≤40) {p:Pr} (hp:jF p):∀f∈bT P p,aI f=0:=by
 obtain⟨⟨a0,a1⟩,⟨b0,b1⟩,⟨c0,c1⟩,⟨d0,d1⟩,e0,e1⟩:=hp;have hp:jF p:=⟨⟨a0,a1⟩,⟨b0,b1⟩,⟨c0,c1⟩,⟨d0,d1⟩,e0,e1⟩;intro f hf;simp only [bT,List.mem_cons,List.not_mem_nil,or_false]at hf;rcases hf with rfl | rfl | rfl | rfl | rfl | rfl
 ·exact fN (by decide) (by decide) (by decide) (by decide) (by simp [bU,cX]) (by simp) (kU (oq hp) og) (fZ (ds:=[_]) (iY (eX (by decide) (by decide) (by omega) (by omega)) fY) (by decide) (by decide))
 ·exact fN (by decide) (by decide) (by decide) (by decide) (by simp [bU,cW]) (by simp) (kU (oq hp) (oS (by decide) (by decide))) (fZ (ds:=[_]) (iY (eX (by decide) (by decide) (by omega) (by omega)) fY) (by decide) (by decide))
 ·exact fN (by decide) (by decide) (by decide) (by decide) (by simp) (by simp) (di (br (by decide) (by decide) (by omega) (by omega)) (di (br (by decide) (by decide) (by omega) (by omega)) dO)) (dQ fY)
 ·exact fN (by decide) (by decide) (by decide) (by decide) (by simp) (by simp) (di (br (by decide) (by decide) (by omega) (by omega)) (di (br (by decide) (by decide) (by omega) (by omega)) dO)) (dQ fY)
 ·refine fN (by decide) (by decide) (by decide) (by decide) (by simp) ?_ (di (br (by decide) (by decide) (by omega) (by omega)) (di (br (by decide) (by decide) (by decide) (by decide)) dO)) (dQ fun d hd=>?_)
  ·rw [rJ];have:=List.length_filter_le (cn p) P;omega
  ·obtain⟨q,hq,hd⟩:=List.mem_flatMap.1 hd;obtain⟨hq1,hq2⟩:=List.mem_filter.1 hq;exact ky (hP q hq1) (by simp only [cn,Bool.and_eq_true]at hq2;exact hq2.2) d hd
 ·exact fN (by decide) (by decide) (by decide) (by decide) (by simp) (by simp) (di (br (by decide) (by decide) (by omega) (by omega)) (di (br (by decide) (by decide) (by omega) (by omega)) dO)) (dQ (iY (zm (by omega) (by omega)) fY))
theorem tQ {s ip mac ch:Int} (s0:0≤s) (s1:s≤65535) (i0:0≤ip) (i1:ip≤65535) (m0:0≤mac) (m1:mac≤65535) (c0:0≤ch) (c1:ch≤5):aI (bD s ip mac ch)=0:=
 fN (by decide) (by decide) (by decide) (by decide) (by simp) (by simp [gD]) (di (br (by decide) (by decide) s0 s1) (di (br (by decide) (by decide) i0 i1) dO))
  (dQ (iY (eX (by decide) (by decide) (by decide) (by decide)) (iY (copy_any' (by decide) (by decide) (by decide) (by decide)) (iY (eX (by decide) (by decide) m0 m1) (iY (copy_any' (by decide) (by decide) (by decide) (by decide)) (iY (eX (by decide) (by decide) i0 i1) (iY (copy_any' (by decide) (by decide) (by decide) (by decide)) (iY (ut c0 c1) fY))))))))
theorem vF {r:Ac} (h1:eM r=true) (h2:(bH r.src r.sb&&bH r.dst r.db)=true):∀m∈bl r,aZ m=true:=by
 simp only [eM,inB,Bool.and_eq_true,decide_eq_true_eq]at h1 h2;obtain⟨⟨⟨⟨⟨a,b⟩,c⟩,d⟩,e⟩,f⟩:=h1;unfold bl;refine kU (di (xS (by decide) (by decide) b.1 b.2 d.1 d.2 h2.1) (di (xS (by decide) (by decide) c.1 c.2 e.1 e.2 h2.2) dO)) ?_;split
 ·exact dO
 ·exact di (br (by decide) (by decide) (by omega) (by omega)) dO
theorem od {R:List Ac} (hR:∀r∈R,eM r=true∧(bH r.src r.sb&&bH r.dst r.db)=true) (hl:R.length≤40) {s t n:Int} (s0:0≤s) (s1:s≤65535) (t0:0≤t) (t1:t<n) (n1:n≤7):∀f∈bs R s t n,aI f=0:=by
 intro f hf;unfold bs at hf;have hg:=fZ (ds:=[]) fY t1 n1;rcases List.mem_cons.1 hf with rfl | hf
 ·exact fN t0 (by omega) (by decide) (by decide) (by simp) (by simp) (di (br (by decide) (by decide) s0 s1) dO) hg
 ·obtain⟨i,hi,rfl⟩:=List.mem_map.1 hf;rw [List.mem_range]at hi;have hr:=hR (R.getD i ac0) (by rw [List.getD_eq_getElem?_getD,List.getElem?_eq_getElem hi];exact List.getElem_mem _);unfold cV;refine fN t0 (by omega) (by omega) (by omega) ?_ ?_ (kU (vF hr.1 hr.2) (di (br (by decide) (by decide) s0 s1) dO)) ?_
  ·rw [List.length_append];unfold bl;split <;>simp
  ·split <;>simp
  ·split
   ·exact dQ fY
   ·exact hg
theorem tm {P:List Pr} (hP:∀p∈P,jF p) {s:Sw} (s0:0≤s.i) (s1:s.i≤500):∀f∈bL P s,aI f=0:=by
 intro f hf;obtain⟨p,hp,rfl⟩:=List.mem_map.1 hf;obtain⟨hp1,hp2⟩:=List.mem_filter.1 hp;have h:=hP p hp1;obtain⟨⟨a0,a1⟩,⟨b0,b1⟩,⟨c0,c1⟩,⟨d0,d1⟩,e0,e1⟩:=h;simp only [Bool.and_eq_true]at hp2;exact fN (by decide) (by decide) (by decide) (by decide) (by simp) (by simp [ax]) (di (br (by decide) (by decide) s0 (by omega)) (di (br (by decide) (by decide) (by omega) (by omega)) dO)) (dQ (ky (hP p hp1) hp2.2))
theorem vj {S:List Sw} {P:List Pr} (hP:∀p∈P,jF p) {s:Sw} (s0:0≤s.i) (s1:s.i≤500):∀f∈bG S P s,aI f=0:=by
 intro f hf;unfold bG at hf;have hm:∀m∈aX s,aZ m=true:=di (br (by decide) (by decide) s0 (by omega)) (di (br (by decide) (by decide) (by omega) (by omega)) dO);split at hf
 ·cases hf
 ·rcases List.mem_cons.1 hf with rfl | hf
  ·exact fN (by decide) (by decide) (by decide) (by decide) (by simp [aX]) (by simp) (kU hm (di (wg (.inr rfl)) dO)) (dQ fY)
  ·obtain⟨p,hp,rfl⟩:=List.mem_map.1 hf;obtain⟨hp1,hp2⟩:=List.mem_filter.1 hp;have h:=hP p hp1;obtain⟨⟨a0,a1⟩,⟨b0,b1⟩,⟨c0,c1⟩,⟨d0,d1⟩,e0,e1⟩:=h;simp only [Bool.and_eq_true]at hp2;exact fN (by decide) (by decide) (by decide) (by decide) (by simp [aX]) (by simp [cK,ax]) (kU hm (di (br (by decide) (by decide) (by omega) (by omega)) dO)) (dQ (BA (iY (eX (by decide) (by decide) (by omega) (by omega)) (iY (eX (by decide) (by decide) (by omega) (by omega)) (iY (xz (by decide) (by decide)) (iY (eX (by decide) (by decide) (by omega) (by omega)) fY)))) (ky (hP p hp1) hp2.2)))
theorem mR {S:List Sw} {P:List Pr} {A:List Ac} {ch:Int} (h:may S P A=true) (c0:0≤ch) (c1:ch≤5):∀f∈cY S P A ch,aI f=0:=by
 obtain⟨hs,hp,ha⟩:=aR h;have hP:∀p∈P,jF p:=(bI hs hp).2;have hl:=(bI hs hp).1;have hR:∀b s,∀r∈aH (aP A s b),eM r=true∧(bH r.src r.sb&&bH r.dst r.db)=true:=fun b s r hr=>by
  have:r∈aP A s b:=by
   unfold aH at hr;rw [lK,fj,fj, ←List.mem_append,List.take_append_drop]at hr;exact hr
  have:=(gK ha).2 r (List.mem_filter.1 this).1;exact⟨this.1,this.2.1⟩
 have hRl:∀b s,(aH (aP A s b)).length≤40:=fun b s=>by
  have h1:(aP A s b).length≤A.length:=List.length_filter_le _ _;have h2:=(gK ha).1;unfold aH;rw [lN,aO,aO,List.length_take,List.length_drop];omega
 intro f hf;unfold cY at hf;rcases List.mem_append.1 hf with hf | hf
 ·rcases List.mem_append.1 hf with hf | hf
  ·exact rZ f hf
  ·obtain⟨p,hp1,hf⟩:=List.mem_flatMap.1 hf;exact xV hP hl (hP p (List.mem_filter.1 hp1).1) f hf
 ·obtain⟨s,hs1,hf⟩:=List.mem_flatMap.1 hf;have hsi:=(dE hs).2 s (List.mem_filter.1 hs1).1;obtain⟨⟨i0,i1⟩,_,g0,g1⟩:=hsi;unfold bk at hf;rcases List.mem_append.1 hf with hf | hf
  ·rcases List.mem_append.1 hf with hf | hf
   ·rcases List.mem_append.1 hf with hf | hf
    ·rcases List.mem_append.1 hf with hf | hf
     ·unfold eP at hf;rcases List.mem_append.1 hf with hf | hf
      ·split at hf
       ·cases hf
       ·rw [List.mem_singleton.1 hf];exact tQ (by omega) (by omega) g0 g1 (by omega) (by omega) c0 c1
      ·obtain⟨p,hp1,rfl⟩:=List.mem_map.1 hf;obtain⟨⟨a0,a1⟩,⟨b0,b1⟩,⟨x0,x1⟩,⟨d0,d1⟩,e0,e1⟩:=hP p (List.mem_filter.1 hp1).1;exact tQ (by omega) (by omega) (by omega) (by omega) (by omega) (by omega) c0 c1
     ·exact od (hR _ _) (hRl _ _) (by omega) (by omega) (by decide) (by decide) (by decide) f hf
    ·exact tm hP (by omega) i1 f hf
   ·exact vj hP (by omega) i1 f hf
  ·exact od (hR _ _) (hRl _ _) (by omega) (by omega) (by decide) (by decide) (by decide) f hf
end Go.Proofs.YtjiajblbpokfgaaGreat
