/- Texts joined: Ba, Bb, Cn, Tj, Ce0, Wa, Mk, Fl, Fd, Pm, Pk, Rn, Na, Zm, Pd, Nb, Ci, Cc, Ct, Ck, Cp, Ca, Cm, Mf, Mb, Qm, Nc, Nd, Qn. -/
import Derived.Test.YtjaclcbckngnlaaGreatRows
import Derived.WalkKit
import Derived.WalkSpells
import Derived.WalkLawsBesides
import Derived.Below
import Derived.Deep.Light
import Derived.OwnWalk
import Derived.Laws.IdiomCopy
import Derived.Deep.AppendLies
import Derived.Deep.RegionHeld3
import Derived.Deep.QuietTactic
import Derived.BigQuiet
import Derived.Laws.StructEq
import Derived.Lib.SlBytesConst
import GoSem.Claim
import Derived.Laws.BytesArg
import Derived.Laws.BitsLemmas
namespace Go.Proofs.YtjaclcbckngnlaaGreat
open Go.RowKit
set_option linter.unusedVariables false
set_option maxRecDepth 100000
set_option maxHeartbeats 16000000
theorem aa {p:Prop} (h:p):Hid p:=h
theorem ag {p:Prop} (h:Hid p):p:=h
def aB (n:Int):Bool:=decide (0≤n∧n≤65535)
theorem aA {a b:Bool} (h:a=b):Ending.returned (.bool a)= .returned (.bool b):=by rw [h]
theorem am {k:IntKind} {a b:Int} (h:a=b):Ending.returned (.int k a)= .returned (.int k b):=by rw [h]
theorem BT {W w1:World} (hb:Below W.heap.size W w1):(∀b o,b<W.heap.size→w1.cell? ⟨b,o,none⟩=W.cell? ⟨b,o,none⟩)∧(∀b o,b<W.heap.size→w1.frozen? ⟨b,o,none⟩=W.frozen? ⟨b,o,none⟩):=
 ⟨fun b o h=>hb.cell (p:=⟨b,o,none⟩) h,fun b o h=>hb.frozen (p:=⟨b,o,none⟩) h⟩
theorem ay {w:World} {B:Nat} {e:TypeId} {size:Nat} {v:Value} {n:Nat} {xs:List Value} (h:w.ownsRow B e size v n xs):∀k,v.ownBlock=some k→B≤k:=by
 intro k hk;obtain⟨_,⟨rfl,_⟩ |⟨g,cap,cur,rfl,hg,_⟩⟩:=h
 ·simp [Value.ownBlock]at hk
 ·simp [Value.ownBlock]at hk;omega
theorem eV {B:Nat} {W w1:World} (hb:Below B W w1):(∀b o,b<B→w1.cell? ⟨b,o,none⟩=W.cell? ⟨b,o,none⟩)∧(∀b o,b<B→w1.frozen? ⟨b,o,none⟩=W.frozen? ⟨b,o,none⟩):=
 ⟨fun b o h=>hb.cell (p:=⟨b,o,none⟩) h,fun b o h=>hb.frozen (p:=⟨b,o,none⟩) h⟩
theorem aH {w:World} {B B':Nat} {e:TypeId} {size:Nat} {v:Value} {n:Nat} {xs:List Value} (h:w.ownsRow B e size v n xs) (hB:B'≤B):w.ownsRow B' e size v n xs:=by
 obtain⟨h1,h2 |⟨g,cap,cur,hv,hg,h3⟩⟩:=h
 ·exact⟨h1,.inl h2⟩
 ·exact⟨h1,.inr ⟨g,cap,cur,hv,by omega,h3⟩⟩
theorem Below.grown0 {w w':World} (h:Below w.heap.size w w'):w.grownBy w' none:=⟨h.os,h.tape,h.output,h.size,fun k hk _=>h.block k hk⟩
theorem ar {w w':World} {B e size n:Nat} {v:Value} {xs:List Value} (h:w.ownsRow B e size v n xs) (hb:Below w.heap.size w w'):w'.ownsRow B e size v n xs:=by
 refine h.kept (Below.grown0 hb) ?_;cases v.ownBlock
 ·exact .inl rfl
 ·exact .inr (by simp)
theorem aq {w:World} {b o:Nat} {v:Value} (h:w.cell? ⟨b,o,none⟩=some v):b<w.heap.size:=by
 rcases Nat.lt_or_ge b w.heap.size with h' | h'
 ·exact h'
 ·simp [World.cell?,Array.getElem?_eq_none h']at h
theorem aW {w w':World} {B b o:Nat} {v:Value} (h:w.cell? ⟨b,o,none⟩=some v) (hb:Below B w w') (hB:w.heap.size≤B):w'.cell? ⟨b,o,none⟩=some v:=
 (hb.cell (p:=⟨b,o,none⟩) (Nat.lt_of_lt_of_le (aq h) hB)).trans h
theorem ah (W:World) (n:Nat) (h:W.heap.size=n) (cs:Array Value) (t:TypeId) (j:Nat) (v:Value) (hv:cs[j]? =some v):(W.alloc (.cells cs t)).cell? ⟨n,j,none⟩=some v:=by
 subst h;simp [hv]
theorem aG {W:World} {b o:Nat} {v:Value} (h:W.cell? ⟨b,o,none⟩=some v) (x:Obj):(W.alloc x).cell? ⟨b,o,none⟩=some v:=aW h ((Below.refl _ _).alloc (Nat.le_refl _) _) (Nat.le_refl _)
theorem bF (W:World) (n:Nat) (h:W.heap.size=n) (cs:Array Value) (t:TypeId) (j:Nat):(W.alloc (.cells cs t)).frozen? ⟨n,j,none⟩=false:=by
 subst h;simp
theorem tL {W:World} {b o:Nat} (hb:b<W.heap.size) (h:W.frozen? ⟨b,o,none⟩=false) (x:Obj):(W.alloc x).frozen? ⟨b,o,none⟩=false:=(((Below.refl W.heap.size W).alloc (Nat.le_refl _) x).frozen (p:=⟨b,o,none⟩) hb).trans h
theorem cR {w:World} {b:Nat} {vs:List Value} (h:∀j,j<vs.length→(w.cell? ⟨b,j,none⟩).isSome=true) {j:Nat} {v:Value} (hv:vs[j]? =some v):(w.setCells b 0 vs).cell? ⟨b,j,none⟩=some v:=by
 have hj:j<vs.length:=by
  rcases Nat.lt_or_ge j vs.length with h' | h'
  ·exact h'
  ·simp [List.getElem?_eq_none h']at hv
 have:=World.cell?_setCells_in b vs 0 w (fun k hk=>by rw [Nat.zero_add];exact h k hk) j hj;rw [Nat.zero_add]at this;rw [this];rw [List.getElem?_eq_getElem hj]at hv;exact hv
theorem bS {B b:Nat} {a:World} (hb:B≤b):∀(vs:List Value) (o:Nat) (w:World),Below B a w→Below B a (w.setCells b o vs)
 | [],_,_,h=>h
 | v::vs,o,w,h=>bS hb vs (o+1) _ (h.setCell hb v)
theorem mJ (W:World) (n:Nat) (h:W.heap.size=n) (cs:Array Value) (t:TypeId) (j:Nat) (hj:j<cs.size):((W.alloc (.cells cs t)).cell? ⟨n,j,none⟩).isSome=true:=by
 rw [ah W n h cs t j cs[j] (by simp [hj])];rfl
structure Sw where
 i:Int
 t:Int
 g:Int
structure Pr where
 i:Int
 s:Int
 m:Int
 p:Int
 c:Int
structure Ac where
 s:Int
 p:Int
 n:Bool
 src:Int
 sb:Int
 dst:Int
 db:Int
 o:Int
 d:Bool
def sw0:Sw:=⟨0,0,0⟩
def pr0:Pr:=⟨0,0,0,0,0⟩
def ac0:Ac:=⟨0,0,false,0,0,0,0,0,false⟩
def swC (x:Sw):List Value:=[.int .i64 x.i,.int .i64 x.t,.int .i64 x.g]
def prC (x:Pr):List Value:=[.int .i64 x.i,.int .i64 x.s,.int .i64 x.m,.int .i64 x.p,.int .i64 x.c]
def acC (x:Ac):List Value:=[.int .i64 x.s,.int .i64 x.p,.bool x.n,.int .i64 x.src,.int .i64 x.sb,.int .i64 x.dst,.int .i64 x.db,.int .i64 x.o,.bool x.d]
def RowAt {α:Type} (C:α→List Value) (sz:Nat) (w:World) (v:Value) (l:List α):Prop:=
 ∃a cap,v= .slice a l.length cap∧(a=none→cap=0)∧(l.length=0∨∃b off,a=some ⟨b,off,none⟩∧l.length≤cap∧∀i x,l[i]? =some x→∀j u,(C x)[j]? =some u→w.cell? ⟨b,off+i*sz+j,none⟩=some u)
def es:=RowAt swC 3
def eS:=RowAt prC 5
def ur:=RowAt acC 9
theorem RowAt.below {α:Type} {C:α→List Value} {sz:Nat} {w w':World} {B:Nat} {v:Value} {l:List α} (h:RowAt C sz w v l) (hb:Below B w w') (hB:w.heap.size≤B):RowAt C sz w' v l:=by
 obtain⟨a,cap,hv,hn,h0 |⟨b,off,ha,hc,hL⟩⟩:=h
 ·exact⟨a,cap,hv,hn,.inl h0⟩
 ·exact⟨a,cap,hv,hn,.inr ⟨b,off,ha,hc,fun i x hx j u hu=>aW (hL i x hx j u hu) hb hB⟩⟩
theorem RowAt.slice {α:Type} {C:α→List Value} {sz:Nat} {w:World} {v:Value} {l:List α} (h:RowAt C sz w v l):∃a cap,v= .slice a l.length cap:=by
 obtain⟨a,cap,hv,_⟩:=h;exact⟨a,cap,hv⟩
theorem RowAt.nil {α:Type} (C:α→List Value) (sz:Nat) (w:World):RowAt C sz w (.slice none 0 0) []:=⟨none,0,rfl,fun _=>rfl,.inl rfl⟩
theorem RowAt.take {α:Type} {C:α→List Value} {sz:Nat} {w:World} {a:Option Addr} {n cap:Nat} {l:List α} (h:RowAt C sz w (.slice a n cap) l) (k:Nat) (hk:k<l.length):RowAt C sz w (.slice a k cap) (l.take k):=by
 obtain⟨a',cap',hv,hn,h0 |⟨b,off,ha,hc,hL⟩⟩:=h
 ·omega
 ·simp only [Value.slice.injEq]at hv;obtain⟨rfl,_,rfl⟩:=hv;refine⟨a,cap,by rw [List.length_take,Nat.min_eq_left (by omega)],hn,.inr ⟨b,off,ha,by rw [List.length_take];omega,fun i x hx=>hL i x ?_⟩⟩;rw [List.getElem?_take]at hx;split at hx
  ·exact hx
  ·simp at hx
theorem cr {α:Type} {l:List α} {k:Nat} (d:α) (hk:k<l.length):l[k]? =some (l.getD k d):=by
 simp [List.getD,List.getElem?_eq_getElem hk]
theorem je {w:World} {v:Value} {l:List Sw} {k:Nat} (h:es w v l) (hk:k<l.length):∃b off cap,v= .slice (some ⟨b,off,none⟩) l.length cap∧l.length≤cap∧b<w.heap.size∧
  w.cell? ⟨b,off+k*3,none⟩=some (.int .i64 (l.getD k sw0).i)∧w.cell? ⟨b,off+k*3+1,none⟩=some (.int .i64 (l.getD k sw0).t)∧w.cell? ⟨b,off+k*3+2,none⟩=some (.int .i64 (l.getD k sw0).g):=by
 obtain⟨a,cap,hv,hn,h0 |⟨b,off,rfl,hc,hL⟩⟩:=h
 ·omega
 ·have h0:=hL k _ (cr sw0 hk) 0 _ rfl;exact⟨b,off,cap,hv,hc,aq h0,h0,hL k _ (cr sw0 hk) 1 _ rfl,hL k _ (cr sw0 hk) 2 _ rfl⟩
theorem eO {w:World} {v:Value} {l:List Pr} {k:Nat} (h:eS w v l) (hk:k<l.length):∃b off cap,v= .slice (some ⟨b,off,none⟩) l.length cap∧l.length≤cap∧b<w.heap.size∧
  w.cell? ⟨b,off+k*5,none⟩=some (.int .i64 (l.getD k pr0).i)∧w.cell? ⟨b,off+k*5+1,none⟩=some (.int .i64 (l.getD k pr0).s)∧w.cell? ⟨b,off+k*5+2,none⟩=some (.int .i64 (l.getD k pr0).m)∧w.cell? ⟨b,off+k*5+3,none⟩=some (.int .i64 (l.getD k pr0).p)∧
  w.cell? ⟨b,off+k*5+4,none⟩=some (.int .i64 (l.getD k pr0).c):=by
 obtain⟨a,cap,hv,hn,h0 |⟨b,off,rfl,hc,hL⟩⟩:=h
 ·omega
 ·have h0:=hL k _ (cr pr0 hk) 0 _ rfl;exact⟨b,off,cap,hv,hc,aq h0,h0,hL k _ (cr pr0 hk) 1 _ rfl,hL k _ (cr pr0 hk) 2 _ rfl,hL k _ (cr pr0 hk) 3 _ rfl,hL k _ (cr pr0 hk) 4 _ rfl⟩
theorem qD {w:World} {v:Value} {l:List Ac} {k:Nat} (h:ur w v l) (hk:k<l.length):∃b off cap,v= .slice (some ⟨b,off,none⟩) l.length cap∧l.length≤cap∧b<w.heap.size∧
  w.cell? ⟨b,off+k*9,none⟩=some (.int .i64 (l.getD k ac0).s)∧w.cell? ⟨b,off+k*9+1,none⟩=some (.int .i64 (l.getD k ac0).p)∧w.cell? ⟨b,off+k*9+2,none⟩=some (.bool (l.getD k ac0).n)∧w.cell? ⟨b,off+k*9+3,none⟩=some (.int .i64 (l.getD k ac0).src)∧
  w.cell? ⟨b,off+k*9+4,none⟩=some (.int .i64 (l.getD k ac0).sb)∧w.cell? ⟨b,off+k*9+5,none⟩=some (.int .i64 (l.getD k ac0).dst)∧w.cell? ⟨b,off+k*9+6,none⟩=some (.int .i64 (l.getD k ac0).db)∧w.cell? ⟨b,off+k*9+7,none⟩=some (.int .i64 (l.getD k ac0).o)∧
  w.cell? ⟨b,off+k*9+8,none⟩=some (.bool (l.getD k ac0).d):=by
 obtain⟨a,cap,hv,hn,h0 |⟨b,off,rfl,hc,hL⟩⟩:=h
 ·omega
 ·have h0:=hL k _ (cr ac0 hk) 0 _ rfl;exact⟨b,off,cap,hv,hc,aq h0,h0,hL k _ (cr ac0 hk) 1 _ rfl,hL k _ (cr ac0 hk) 2 _ rfl,hL k _ (cr ac0 hk) 3 _ rfl,hL k _ (cr ac0 hk) 4 _ rfl,hL k _ (cr ac0 hk) 5 _ rfl,hL k _ (cr ac0 hk) 6 _ rfl,hL k _ (cr ac0 hk) 7 _ rfl,hL k _ (cr ac0 hk) 8 _ rfl⟩
theorem cL {α:Type} {C:α→List Value} {sz:Nat} (hC:∀x,(C x).length=sz):∀l:List α,(l.flatMap C).length=l.length*sz
 | []=>by simp
 | x::r=>by
  have:=cL hC r;simp [List.flatMap_cons,hC,this,Nat.add_mul];omega
theorem pA {α:Type} {C:α→List Value} {sz:Nat} (hC:∀x,(C x).length=sz):∀(l:List α) (i:Nat) (x:α),l[i]? =some x→∀j u,(C x)[j]? =some u→(l.flatMap C)[i*sz+j]? =some u
 | [],i,x,h=>by simp at h
 | y::r,0,x,h=>fun j u hu=>by
  simp at h;subst h;have hj:j<(C y).length:=by
   rcases Nat.lt_or_ge j (C y).length with h | h
   ·exact h
   ·simp [List.getElem?_eq_none h]at hu
  rw [List.flatMap_cons,Nat.zero_mul,Nat.zero_add,List.getElem?_append_left hj];exact hu
 | y::r,i+1,x,h=>fun j u hu=>by
  have ih:=pA hC r i x (by simpa using h) j u hu;rw [List.flatMap_cons,List.getElem?_append_right (by rw [hC,Nat.add_mul];omega)];rw [hC,show(i+1)*sz+j-sz=i*sz+j by rw [Nat.add_mul];omega];exact ih
theorem rh {α:Type} {C:α→List Value} {sz:Nat} (hC:∀x,(C x).length=sz):∀(l:List α) (k:Nat) (u:Value),(l.flatMap C)[k]? =some u→∃i x j,l[i]? =some x∧(C x)[j]? =some u∧k=i*sz+j
 | [],k,u,h=>by simp at h
 | y::r,k,u,h=>by
  rw [List.flatMap_cons]at h;by_cases hk:k<(C y).length
  ·rw [List.getElem?_append_left hk]at h;exact⟨0,y,k,rfl,h,by omega⟩
  ·rw [List.getElem?_append_right (by omega)]at h;obtain⟨i,x,j,h1,h2,h3⟩:=rh hC r _ u h;rw [hC]at hk h3;exact⟨i+1,x,j,by simpa using h1,h2,by rw [Nat.add_mul];omega⟩
theorem eE (x:Sw):(swC x).length=3:=rfl
theorem bI (x:Pr):(prC x).length=5:=rfl
theorem cQ (x:Ac):(acC x).length=9:=rfl
theorem Ah (l:List Sw):∀u∈l.flatMap swC,u.oneCell'=true:=by
 intro u hu;simp only [List.mem_flatMap]at hu;obtain⟨x,_,hu⟩:=hu;simp only [swC,List.mem_cons,List.not_mem_nil,or_false]at hu;rcases hu with rfl | rfl | rfl <;>rfl
theorem uD (l:List Pr):∀u∈l.flatMap prC,u.oneCell'=true:=by
 intro u hu;simp only [List.mem_flatMap]at hu;obtain⟨x,_,hu⟩:=hu;simp only [prC,List.mem_cons,List.not_mem_nil,or_false]at hu;rcases hu with rfl | rfl | rfl | rfl | rfl <;>rfl
theorem uv (l:List Ac):∀u∈l.flatMap acC,u.oneCell'=true:=by
 intro u hu;simp only [List.mem_flatMap]at hu;obtain⟨x,_,hu⟩:=hu;simp only [acC,List.mem_cons,List.not_mem_nil,or_false]at hu;rcases hu with rfl | rfl | rfl | rfl | rfl | rfl | rfl | rfl | rfl <;>rfl
theorem gC (b o j:Nat):(⟨b,o,none⟩:Addr).add j=⟨b,o+j,none⟩:=by by_cases h:j=0 <;>simp [Addr.add,h]
theorem RowAt.news {α:Type} {C:α→List Value} {sz:Nat} (hC:∀x,(C x).length=sz) {w:World} {ad:Addr} {n cap:Nat} {l:List α} (h:RowAt C sz w (.slice (some ad) n cap) l):∀j u,(l.flatMap C)[j]? =some u→w.cell? (ad.add j)=some u:=by
 obtain⟨a,c,hv,hn,h0 |⟨b,off,ha,hc,hL⟩⟩:=h
 ·intro j u hj;rw [List.eq_nil_of_length_eq_zero h0]at hj;simp at hj
 ·simp only [Value.slice.injEq]at hv;obtain⟨h1,_,rfl⟩:=hv;rw [ha]at h1;simp at h1;subst h1;intro j u hj;obtain⟨i,x,k,hx,hu,rfl⟩:=rh hC l j u hj;rw [gC, ←Nat.add_assoc];exact hL i x hx k u hu
theorem RowAt.of_own {α:Type} {C:α→List Value} {sz:Nat} (hC:∀x,(C x).length=sz) (hs:0<sz) {w:World} {B e:Nat} {v:Value} {l:List α} (h:w.ownsRow B e sz v l.length (l.flatMap C)):RowAt C sz w v l:=by
 by_cases h0:l.length=0
 ·obtain⟨_,⟨rfl,hn⟩ |⟨g,cap,cur,rfl,_⟩⟩:=h
  ·exact⟨none,0,by rw [h0],fun _=>rfl,.inl h0⟩
  ·exact⟨_,cap,rfl,by simp,.inl h0⟩
 ·obtain⟨g,cap,rfl,_,_⟩:=h.form (by omega);have hc:l.length≤cap:=by
   obtain⟨_,⟨h,_⟩ |⟨g',cap',cur,h,_,_,hc,_⟩⟩:=h
   ·simp at h
   ·simp only [Value.slice.injEq]at h;omega
  refine⟨_,cap,rfl,by simp,.inr ⟨g,0,rfl,hc,fun i x hx j u hu=>?_⟩⟩;have hj:j<sz:=by
   rcases Nat.lt_or_ge j (C x).length with h | h
   ·rw [hC]at h;exact h
   ·simp [List.getElem?_eq_none h]at hu
  have hi:i<l.length:=by
   rcases Nat.lt_or_ge i l.length with h | h
   ·exact h
   ·simp [List.getElem?_eq_none h]at hx
  have hlt:i*sz+j<l.length*sz:=Nat.lt_of_lt_of_le (by rw [Nat.add_mul];omega:i*sz+j<(i+1)*sz) (Nat.mul_le_mul_right _ hi);rw [Nat.zero_add];exact(h.cellAt _ hlt).trans (pA hC l i x hx j u hu)
theorem yL {w:World} {b:Nat} {x y z:Value} (t0:w.cell? ⟨b,0,none⟩=some x) (t1:w.cell? ⟨b,1,none⟩=some y) (t2:w.cell? ⟨b,2,none⟩=some z) (p q r:Value):
  (((w.setCell ⟨b,0,none⟩ p).setCell ⟨b,1,none⟩ q).setCell ⟨b,2,none⟩ r).cell? ⟨b,0,none⟩=some p∧(((w.setCell ⟨b,0,none⟩ p).setCell ⟨b,1,none⟩ q).setCell ⟨b,2,none⟩ r).cell? ⟨b,1,none⟩=some q∧(((w.setCell ⟨b,0,none⟩ p).setCell ⟨b,1,none⟩ q).setCell ⟨b,2,none⟩ r).cell? ⟨b,2,none⟩=some r:=by
 refine⟨?_,?_,?_⟩
 ·rw [World.cell?_setCell_other _ _ _ _ (by simp),World.cell?_setCell_other _ _ _ _ (by simp),World.cell?_setCell_same _ _ _ t0]
 ·rw [World.cell?_setCell_other _ _ _ _ (by simp)];exact World.cell?_setCell_same _ _ _ ((World.cell?_setCell_other _ _ _ _ (by simp)).trans t1)
 ·exact World.cell?_setCell_same _ _ _ ((World.cell?_setCell_other _ _ _ _ (by simp)).trans ((World.cell?_setCell_other _ _ _ _ (by simp)).trans t2))
def CfAt (w:World) (sv pv av:Value) (S:List Sw) (P:List Pr) (A:List Ac):Prop:=es w sv S∧eS w pv P∧ur w av A
theorem CfAt.below {w w':World} {B:Nat} {sv pv av:Value} {S:List Sw} {P:List Pr} {A:List Ac} (h:CfAt w sv pv av S P A) (hb:Below B w w') (hB:w.heap.size≤B):CfAt w' sv pv av S P A:=
 ⟨RowAt.below h.1 hb hB,RowAt.below h.2.1 hb hB,RowAt.below h.2.2 hb hB⟩
theorem t7:(Tryz.prog.info? 36).map (fun i=>(i.zero,i.size,i.bytes))=some (some (.agg #[.int .i64 0,.int .i64 0,.int .i64 0]),3,24):=by kernel_rfl
theorem oZ:(Tryz.prog.info? 38).map (fun i=>(i.zero,i.size,i.bytes))=some (some (.agg #[.int .i64 0,.int .i64 0,.int .i64 0,.int .i64 0,.int .i64 0]),5,40):=by kernel_rfl
theorem pV:(Tryz.prog.info? 40).map (fun i=>(i.zero,i.size,i.bytes))=some (some (.agg #[.int .i64 0,.int .i64 0,.bool false,.int .i64 0,.int .i64 0,.int .i64 0,.int .i64 0,.int .i64 0,.bool false]),9,72):=by kernel_rfl
theorem aw {w:World} {B e size n:Nat} {v:Value} {xs:List Value} (h:w.ownsRow B e size v n xs):∃o c,v= .slice o n c:=by
 obtain⟨_,⟨rfl,h0⟩ |⟨g',cap',cur,rfl,_⟩⟩:=h
 ·exact⟨_,_,by rw [h0]⟩
 ·exact⟨_,_,rfl⟩
theorem cG {w:World} {B e size n:Nat} {v:Value} {xs:List Value} (h:w.ownsRow B e size v n xs) {g:Nat} (hg:v.ownBlock=some g):g<w.heap.size:=by
 obtain⟨_,⟨rfl,_⟩ |⟨g',cap',cur,rfl,hB,hb,_⟩⟩:=h
 ·simp [Value.ownBlock]at hg
 ·simp [Value.ownBlock]at hg;subst hg;rcases Nat.lt_or_ge g' w.heap.size with h' | h'
  ·exact h'
  ·simp [Array.getElem?_eq_none h']at hb
theorem kK {w w':World} {B B' e e' size size' n n':Nat} {u v:Value} {xs ys:List Value} (h:w.ownsRow B e size u n xs) (h':w'.ownsRow B' e' size' v n' ys) (hB:w.heap.size≤B'):u.ownBlock=none∨u.ownBlock≠v.ownBlock:=by
 cases hu:u.ownBlock with
 | none=>exact .inl rfl
 | some g=>
  refine .inr fun e=>?_;have h1:=cG h hu;have h2:=ay h' g e.symm;omega
theorem dB {l:List Value} (h:l.all (fun u=>u.oneCell')=true):∀u∈l,u.oneCell'=true:=fun u hu=>List.all_eq_true.1 h u hu
section
variable {P:Program} {ops:Array Oper} {Q:Exit→Act→World→Prop} {md:Region.Mode} {S:World→Prop} {fuel:Nat} {listed:Array Bool} {a:Act} {w:World} {v:Value}
theorem tq (i d:Nat) {o:Op} {ty:TypeId} {pos:String} {af:Array Edge} {gd:Option (Nat×Bool)} (hi:ops[i]? =some ⟨some d,o,ty,pos,af,gd⟩) (hk:(Region.noSelect ops&&Region.free md ops listed i&&(Region.ready md ops listed).contains i)=true)
  (hQ:∀c a w,Q (.panic c) (a.put (some d) v) w→Q (.panic c) a w) (hw:Region.wanted ⟨some d,o,ty,pos,af,gd⟩ (yielded ops a.tmps)=true) (hS:S w) (hy:∀w,S w→(execOp a.eval ⟨some d,o,ty,pos,af,gd⟩).run P w= .ok (.value v) w)
  (h:wpAnyH P md ops Q S fuel (listed.setIfInBounds i true) (a.put (some d) v) w):wpAnyH P md ops Q S (fuel+1) listed a w:=by
 simp only [Bool.and_eq_true]at hk;exact wpAnyH_take (oi:=⟨some d,o,ty,pos,af,gd⟩) hi hk.1.1 hk.1.2 hk.2 hQ (Or.inl ⟨hw,hy⟩) hS h
theorem rd {i:Nat} {o:Oper} (hr:Region.ready md ops listed= [i]) (ho:ops[i]? =some o) (h:∀K':Act→World→Prop,Shut (∀a w,S w→(S w→wpAnyH P md ops Q S fuel (listed.setIfInBounds i true) a w)→K' a w)→if Region.wanted o (yielded ops a.tmps)=true then Oper.wp P o a w K' Q else K' (a.put o.dst undef) w):wpAnyH P md ops Q S (fuel+1) listed a w:=
 wpAnyH_ready hr (by simp) (AllReadyH.cons ho h AllReadyH.nil)
theorem rsq (i d:Nat) {o:Op} {ty:TypeId} {pos:String} {af:Array Edge} {gd:Option (Nat×Bool)} (hr:Region.ready md ops listed= [i]) (ho:ops[i]? =some ⟨some d,o,ty,pos,af,gd⟩) (h:∀K':Act→World→Prop,Shut (∀a w,S w→(S w→wpAnyH P md ops Q S fuel (listed.setIfInBounds i true) a w)→K' a w)→if Region.wanted ⟨some d,o,ty,pos,af,gd⟩ (yielded ops a.tmps)=true then Oper.wp P ⟨some d,o,ty,pos,af,gd⟩ a w K' Q else K' (a.put (some d) undef) w):wpAnyH P md ops Q S (fuel+1) listed a w:=rd hr ho h
theorem rnq (i:Nat) {o:Op} {ty:TypeId} {pos:String} {af:Array Edge} {gd:Option (Nat×Bool)} (hr:Region.ready md ops listed= [i]) (ho:ops[i]? =some ⟨none,o,ty,pos,af,gd⟩) (h:∀K':Act→World→Prop,Shut (∀a w,S w→(S w→wpAnyH P md ops Q S fuel (listed.setIfInBounds i true) a w)→K' a w)→if Region.wanted ⟨none,o,ty,pos,af,gd⟩ (yielded ops a.tmps)=true then Oper.wp P ⟨none,o,ty,pos,af,gd⟩ a w K' Q else K' (a.put none undef) w):wpAnyH P md ops Q S (fuel+1) listed a w:=rd hr ho h
def SqL (l:List (Nat×Nat)) (p:Prop):Prop:=p
theorem sqA (l:List (Nat×Nat)) {p:Prop} (h:SqL l p):p:=h
theorem sqZ {p:Prop} (h:p):SqL [] p:=h
theorem sqN {i d:Nat} {l:List (Nat×Nat)} {o:Op} {ty:TypeId} {pos:String} {af:Array Edge} {gd:Option (Nat×Bool)} (hi:ops[i]? =some ⟨some d,o,ty,pos,af,gd⟩) (hk:(Region.noSelect ops&&Region.free md ops listed i&&(Region.ready md ops listed).contains i)=true)
  (hQ:∀c a w,Q (.panic c) (a.put (some d) v) w→Q (.panic c) a w) (hw:Region.wanted ⟨some d,o,ty,pos,af,gd⟩ (yielded ops a.tmps)=true) (hS:S w) (hy:∀w,S w→(execOp a.eval ⟨some d,o,ty,pos,af,gd⟩).run P w= .ok (.value v) w)
  (h:SqL l (wpAnyH P md ops Q S fuel (listed.setIfInBounds i true) (a.put (some d) v) w)):SqL ((i,d)::l) (wpAnyH P md ops Q S (fuel+1) listed a w):=tq i d hi hk hQ hw hS hy h
end
theorem nz:(∀(a:Act) (d:Nat) (v:Value),a.put (some d) v={a with tmps:=a.tmps.setIfInBounds d v})∧(∀(a:Act) (v:Value),a.put none v=a)∧(∀(α:Type) (l:List α) (i:Nat) (x:α),l.toArray.setIfInBounds i x=(l.set i x).toArray)∧(∀(α:Type) (x y:α) (l:List α),(x::l).set 0 y=y::l)∧(∀(α:Type) (x y:α) (l:List α) (n:Nat),(x::l).set (n+1) y=x::l.set n y):=
 ⟨fun _ _ _=>rfl,fun _ _=>rfl,fun _ _ _ _=>by simp,fun _ _ _ _=>rfl,fun _ _ _ _ _=>rfl⟩
theorem zC {w w':World} {b o:Nat} {v:Value} (h:w.cell? ⟨b,o,none⟩=some v) (hb:Below w.heap.size w w'):w'.cell? ⟨b,o,none⟩=some v:=aW h hb (Nat.le_refl _)
theorem zO {w w':World} {B e sz n:Nat} {u:Value} {xs:List Value} (h:Hid (w.ownsRow B e sz u n xs)) (hb:Below w.heap.size w w'):Hid (w'.ownsRow B e sz u n xs):=aa (ar h.out hb)
theorem zT {a b c:World} (h:Below a.heap.size a b) (h2:Below b.heap.size b c):Below a.heap.size a c:=h.trans (h2.mono h.size)
theorem zB {V W:World} {o:Obj} (h:W=V.alloc o):Below V.heap.size V W:=by rw [h];exact(Below.refl _ _).alloc (Nat.le_refl _) _
theorem zL {V W:World} {o:Obj} {g:Nat} (h:W=V.alloc o) (hg:g=V.heap.size):g<W.heap.size:=by rw [h,hg];simp
theorem zr {n:Nat}:n≤n:=Nat.le_refl n
theorem zN1 {V W:World} {cs:Array Value} {t:TypeId} {k:Nat} {v:Value} (h:W=V.alloc (.cells cs t)) (hk:cs[k]? =some v):W.cell? ⟨V.heap.size,k,none⟩=some v:=by rw [h];exact ah V _ rfl _ _ _ _ hk
theorem zN2 {V W:World} {cs:Array Value} {t:TypeId} {k g:Nat} {v:Value} (h:W=V.alloc (.cells cs t)) (hg:g=V.heap.size) (hk:cs[k]? =some v):W.cell? ⟨g,k,none⟩=some v:=by rw [hg];exact zN1 h hk
theorem zF2 {V W:World} {cs:Array Value} {t:TypeId} {k g:Nat} (h:W=V.alloc (.cells cs t)) (hg:g=V.heap.size):W.frozen? ⟨g,k,none⟩=false:=by rw [h,hg];exact bF V _ rfl _ _ _
theorem zW {V W:World} {cs:Array Value} {e B sz n g:Nat} (h:W=V.alloc (.cells cs e)) (hg:g=V.heap.size) (hb:B≤V.heap.size) (hn:n≤maxLen) (hs:cs.size=n*sz):Hid (W.ownsRow B e sz (.slice (some ⟨g,0,none⟩) n n) n cs.toList):=by rw [h,hg];exact aa (World.ownsRow_lit V _ n hb hn hs)
theorem zK {w w':World} {b j:Nat} {v:Value} (hb:Below w.heap.size w w') (hc:w.cell? ⟨b,j,none⟩=some v) (h:w.frozen? ⟨b,j,none⟩=false):w'.frozen? ⟨b,j,none⟩=false:=(hb.frozen (p:=⟨b,j,none⟩) (aq hc)).trans h
theorem eC {w w':World}{b0 b1 b2 o0 o1 o2:Nat}{v0 v1 v2:Value}(h0:w.cell? ⟨b0,o0,none⟩=some v0)(h1:w.cell? ⟨b1,o1,none⟩=some v1)(h2:w.cell? ⟨b2,o2,none⟩=some v2)(h:Below w.heap.size w w'):w'.cell? ⟨b0,o0,none⟩=some v0∧w'.cell? ⟨b1,o1,none⟩=some v1∧w'.cell? ⟨b2,o2,none⟩=some v2:=⟨zC h0 h,zC h1 h,zC h2 h⟩
theorem te {w w':World}{b0 b1 b2 b3 o0 o1 o2 o3:Nat}{v0 v1 v2 v3:Value}(h0:w.cell? ⟨b0,o0,none⟩=some v0)(h1:w.cell? ⟨b1,o1,none⟩=some v1)(h2:w.cell? ⟨b2,o2,none⟩=some v2)(h3:w.cell? ⟨b3,o3,none⟩=some v3)(h:Below w.heap.size w w'):w'.cell? ⟨b0,o0,none⟩=some v0∧w'.cell? ⟨b1,o1,none⟩=some v1∧w'.cell? ⟨b2,o2,none⟩=some v2∧w'.cell? ⟨b3,o3,none⟩=some v3:=⟨zC h0 h,zC h1 h,zC h2 h,zC h3 h⟩
theorem dP {w w':World}{b0 b1 b2 b3 b4 o0 o1 o2 o3 o4:Nat}{v0 v1 v2 v3 v4:Value}(h0:w.cell? ⟨b0,o0,none⟩=some v0)(h1:w.cell? ⟨b1,o1,none⟩=some v1)(h2:w.cell? ⟨b2,o2,none⟩=some v2)(h3:w.cell? ⟨b3,o3,none⟩=some v3)(h4:w.cell? ⟨b4,o4,none⟩=some v4)(h:Below w.heap.size w w'):w'.cell? ⟨b0,o0,none⟩=some v0∧w'.cell? ⟨b1,o1,none⟩=some v1∧w'.cell? ⟨b2,o2,none⟩=some v2∧w'.cell? ⟨b3,o3,none⟩=some v3∧w'.cell? ⟨b4,o4,none⟩=some v4:=⟨zC h0 h,zC h1 h,zC h2 h,zC h3 h,zC h4 h⟩
theorem eB {w w':World}{b0 b1 b2 b3 b4 b5 o0 o1 o2 o3 o4 o5:Nat}{v0 v1 v2 v3 v4 v5:Value}(h0:w.cell? ⟨b0,o0,none⟩=some v0)(h1:w.cell? ⟨b1,o1,none⟩=some v1)(h2:w.cell? ⟨b2,o2,none⟩=some v2)(h3:w.cell? ⟨b3,o3,none⟩=some v3)(h4:w.cell? ⟨b4,o4,none⟩=some v4)(h5:w.cell? ⟨b5,o5,none⟩=some v5)(h:Below w.heap.size w w'):w'.cell? ⟨b0,o0,none⟩=some v0∧w'.cell? ⟨b1,o1,none⟩=some v1∧w'.cell? ⟨b2,o2,none⟩=some v2∧w'.cell? ⟨b3,o3,none⟩=some v3∧w'.cell? ⟨b4,o4,none⟩=some v4∧w'.cell? ⟨b5,o5,none⟩=some v5:=⟨zC h0 h,zC h1 h,zC h2 h,zC h3 h,zC h4 h,zC h5 h⟩
theorem df {w w':World}{b0 b1 b2 b3 b4 b5 b6 b7 o0 o1 o2 o3 o4 o5 o6 o7:Nat}{v0 v1 v2 v3 v4 v5 v6 v7:Value}(h0:w.cell? ⟨b0,o0,none⟩=some v0)(h1:w.cell? ⟨b1,o1,none⟩=some v1)(h2:w.cell? ⟨b2,o2,none⟩=some v2)(h3:w.cell? ⟨b3,o3,none⟩=some v3)(h4:w.cell? ⟨b4,o4,none⟩=some v4)(h5:w.cell? ⟨b5,o5,none⟩=some v5)(h6:w.cell? ⟨b6,o6,none⟩=some v6)(h7:w.cell? ⟨b7,o7,none⟩=some v7)(h:Below w.heap.size w w'):w'.cell? ⟨b0,o0,none⟩=some v0∧w'.cell? ⟨b1,o1,none⟩=some v1∧w'.cell? ⟨b2,o2,none⟩=some v2∧w'.cell? ⟨b3,o3,none⟩=some v3∧w'.cell? ⟨b4,o4,none⟩=some v4∧w'.cell? ⟨b5,o5,none⟩=some v5∧w'.cell? ⟨b6,o6,none⟩=some v6∧w'.cell? ⟨b7,o7,none⟩=some v7:=⟨zC h0 h,zC h1 h,zC h2 h,zC h3 h,zC h4 h,zC h5 h,zC h6 h,zC h7 h⟩
theorem uW {w w':World}{b0 b1 b2 b3 b4 b5 b6 b7 b8 b9 b10 b11 b12 b13 o0 o1 o2 o3 o4 o5 o6 o7 o8 o9 o10 o11 o12 o13:Nat}{v0 v1 v2 v3 v4 v5 v6 v7 v8 v9 v10 v11 v12 v13:Value}(h0:w.cell? ⟨b0,o0,none⟩=some v0)(h1:w.cell? ⟨b1,o1,none⟩=some v1)(h2:w.cell? ⟨b2,o2,none⟩=some v2)(h3:w.cell? ⟨b3,o3,none⟩=some v3)(h4:w.cell? ⟨b4,o4,none⟩=some v4)(h5:w.cell? ⟨b5,o5,none⟩=some v5)(h6:w.cell? ⟨b6,o6,none⟩=some v6)(h7:w.cell? ⟨b7,o7,none⟩=some v7)(h8:w.cell? ⟨b8,o8,none⟩=some v8)(h9:w.cell? ⟨b9,o9,none⟩=some v9)(h10:w.cell? ⟨b10,o10,none⟩=some v10)(h11:w.cell? ⟨b11,o11,none⟩=some v11)(h12:w.cell? ⟨b12,o12,none⟩=some v12)(h13:w.cell? ⟨b13,o13,none⟩=some v13)(h:Below w.heap.size w w'):w'.cell? ⟨b0,o0,none⟩=some v0∧w'.cell? ⟨b1,o1,none⟩=some v1∧w'.cell? ⟨b2,o2,none⟩=some v2∧w'.cell? ⟨b3,o3,none⟩=some v3∧w'.cell? ⟨b4,o4,none⟩=some v4∧w'.cell? ⟨b5,o5,none⟩=some v5∧w'.cell? ⟨b6,o6,none⟩=some v6∧w'.cell? ⟨b7,o7,none⟩=some v7∧w'.cell? ⟨b8,o8,none⟩=some v8∧w'.cell? ⟨b9,o9,none⟩=some v9∧w'.cell? ⟨b10,o10,none⟩=some v10∧w'.cell? ⟨b11,o11,none⟩=some v11∧w'.cell? ⟨b12,o12,none⟩=some v12∧w'.cell? ⟨b13,o13,none⟩=some v13:=⟨zC h0 h,zC h1 h,zC h2 h,zC h3 h,zC h4 h,zC h5 h,zC h6 h,zC h7 h,zC h8 h,zC h9 h,zC h10 h,zC h11 h,zC h12 h,zC h13 h⟩
theorem B3 {w w':World}{B0 B1 B2 e0 e1 e2 s0 s1 s2 n0 n1 n2:Nat}{u0 u1 u2:Value}{x0 x1 x2:List Value}(h0:Hid (w.ownsRow B0 e0 s0 u0 n0 x0))(h1:Hid (w.ownsRow B1 e1 s1 u1 n1 x1))(h2:Hid (w.ownsRow B2 e2 s2 u2 n2 x2))(h:Below w.heap.size w w'):Hid (w'.ownsRow B0 e0 s0 u0 n0 x0)∧Hid (w'.ownsRow B1 e1 s1 u1 n1 x1)∧Hid (w'.ownsRow B2 e2 s2 u2 n2 x2):=⟨zO h0 h,zO h1 h,zO h2 h⟩
theorem Cb (x0:Int) (x1:Int) (x2:Int) (w:World):(Op.equalIn 10000 36 (.agg #[.int .i64 x0,.int .i64 x1,.int .i64 x2]) (.agg #[.int .i64 x0,.int .i64 x1,.int .i64 x2])).run Tryz.prog w= .ok true w:=by
 have hS:Tryz.prog.underlying 36=some (.struct (Tryz.prog.fieldsOf 36)):=by kernel_rfl
 have hp:Tryz.prog.stoodInHeld 36=false:=by kernel_rfl
 rw [show(10000:Nat)=9999+1 from rfl,run_equalIn_agg w 9999 36 _ _ hS hp];simp only [Program.fieldsOf,Tryz.underlying36];go_simp
theorem Ci:Tryz.prog.eqGuardType Tryz.prog.depth 36=false:=by kernel_rfl
theorem qV (u v:Value) (l:List Sw) (w:World) (hu:RowAt swC 3 w u l) (hv:RowAt swC 3 w v l) (hl:l.length≤2000000):
  Calls Tryz.prog 26 #[u,v] w fun e w'=>e= .returned (.bool true)∧Below w.heap.size w w':=by
 have HU:=aa hu;have HV:=aa hv;obtain⟨ua,uc,rfl⟩:=hu.slice;obtain⟨va,vc,rfl⟩:=hv.slice;clear hu hv;go_enter Tryz.func26,Tryz.ntmps26;go_wp2_with fail
 go_loopw [13] (fun i wr=>∃k:Nat,k≤l.length∧i= .int .i64 k∧Below w.heap.size w wr) (fun i _=>l.length-(intOf i).toNat)
 case atStart=>exact⟨0,by omega,rfl,Below.refl _ _⟩
 case round=>
  obtain⟨k,hk,rfl,k0⟩:=hrel;by_cases hlt:k<l.length
  ·obtain⟨b,off,c1,e1,hcap,_,g0,g1,g2⟩:=je (RowAt.below HU.out k0 zr) hlt;obtain⟨b2,off2,c2,e2,hcap2,_,h0,h1,h2⟩:=je (RowAt.below HV.out k0 zr) hlt;simp only [Value.slice.injEq,true_and]at e1 e2;obtain⟨rfl,rfl⟩:=e1;obtain⟨rfl,rfl⟩:=e2;clear HU HV;generalize (l.getD k sw0).i=x0 at*;generalize (l.getD k sw0).t=x1 at*;generalize (l.getD k sw0).g=x2 at*;have heq:=Cb x0 x1 x2;have hgd:=Ci;have q3:(0:Int)≤(k:Int):=(by omega);have q4:(k:Int)<(l.length:Int):=(by omega);go_wp2_with fail
   go_quiet (fail);go_wp2;go_roundw
   case rel=>exact⟨k+1,by omega,by go_num,⟨k0.os,k0.tape,k0.output,k0.size,k0.block⟩⟩
   case measure=>simp [intOf];omega
  ·clear HU HV;go_wp2_with fail
   go_ret;exact⟨rfl,k0⟩
theorem Cl (x0:Int) (x1:Int) (x2:Int) (x3:Int) (x4:Int) (w:World):(Op.equalIn 10000 38 (.agg #[.int .i64 x0,.int .i64 x1,.int .i64 x2,.int .i64 x3,.int .i64 x4]) (.agg #[.int .i64 x0,.int .i64 x1,.int .i64 x2,.int .i64 x3,.int .i64 x4])).run Tryz.prog w= .ok true w:=by
 have hS:Tryz.prog.underlying 38=some (.struct (Tryz.prog.fieldsOf 38)):=by kernel_rfl
 have hp:Tryz.prog.stoodInHeld 38=false:=by kernel_rfl
 rw [show(10000:Nat)=9999+1 from rfl,run_equalIn_agg w 9999 38 _ _ hS hp];simp only [Program.fieldsOf,Tryz.underlying38];go_simp
theorem Cd:Tryz.prog.eqGuardType Tryz.prog.depth 38=false:=by kernel_rfl
theorem qz (u v:Value) (l:List Pr) (w:World) (hu:RowAt prC 5 w u l) (hv:RowAt prC 5 w v l) (hl:l.length≤2000000):
  Calls Tryz.prog 27 #[u,v] w fun e w'=>e= .returned (.bool true)∧Below w.heap.size w w':=by
 have HU:=aa hu;have HV:=aa hv;obtain⟨ua,uc,rfl⟩:=hu.slice;obtain⟨va,vc,rfl⟩:=hv.slice;clear hu hv;go_enter Tryz.func27,Tryz.ntmps27;go_wp2_with fail
 go_loopw [13] (fun i wr=>∃k:Nat,k≤l.length∧i= .int .i64 k∧Below w.heap.size w wr) (fun i _=>l.length-(intOf i).toNat)
 case atStart=>exact⟨0,by omega,rfl,Below.refl _ _⟩
 case round=>
  obtain⟨k,hk,rfl,k0⟩:=hrel;by_cases hlt:k<l.length
  ·obtain⟨b,off,c1,e1,hcap,_,g0,g1,g2,g3,g4⟩:=eO (RowAt.below HU.out k0 zr) hlt;obtain⟨b2,off2,c2,e2,hcap2,_,h0,h1,h2,h3,h4⟩:=eO (RowAt.below HV.out k0 zr) hlt;simp only [Value.slice.injEq,true_and]at e1 e2;obtain⟨rfl,rfl⟩:=e1;obtain⟨rfl,rfl⟩:=e2;clear HU HV;generalize (l.getD k pr0).i=x0 at*;generalize (l.getD k pr0).s=x1 at*;generalize (l.getD k pr0).m=x2 at*;generalize (l.getD k pr0).p=x3 at*;generalize (l.getD k pr0).c=x4 at*;have heq:=Cl x0 x1 x2 x3 x4;have hgd:=Cd;have q3:(0:Int)≤(k:Int):=(by omega);have q4:(k:Int)<(l.length:Int):=(by omega);go_wp2_with fail
   go_quiet (fail);go_wp2;go_roundw
   case rel=>exact⟨k+1,by omega,by go_num,⟨k0.os,k0.tape,k0.output,k0.size,k0.block⟩⟩
   case measure=>simp [intOf];omega
  ·clear HU HV;go_wp2_with fail
   go_ret;exact⟨rfl,k0⟩
theorem Cf (x0:Int) (x1:Int) (x2:Bool) (x3:Int) (x4:Int) (x5:Int) (x6:Int) (x7:Int) (x8:Bool) (w:World):(Op.equalIn 10000 40 (.agg #[.int .i64 x0,.int .i64 x1,.bool x2,.int .i64 x3,.int .i64 x4,.int .i64 x5,.int .i64 x6,.int .i64 x7,.bool x8]) (.agg #[.int .i64 x0,.int .i64 x1,.bool x2,.int .i64 x3,.int .i64 x4,.int .i64 x5,.int .i64 x6,.int .i64 x7,.bool x8])).run Tryz.prog w= .ok true w:=by
 have hS:Tryz.prog.underlying 40=some (.struct (Tryz.prog.fieldsOf 40)):=by kernel_rfl
 have hp:Tryz.prog.stoodInHeld 40=false:=by kernel_rfl
 rw [show(10000:Nat)=9999+1 from rfl,run_equalIn_agg w 9999 40 _ _ hS hp];simp only [Program.fieldsOf,Tryz.underlying40];go_simp
theorem B8:Tryz.prog.eqGuardType Tryz.prog.depth 40=false:=by kernel_rfl
theorem qC (u v:Value) (l:List Ac) (w:World) (hu:RowAt acC 9 w u l) (hv:RowAt acC 9 w v l) (hl:l.length≤2000000):
  Calls Tryz.prog 28 #[u,v] w fun e w'=>e= .returned (.bool true)∧Below w.heap.size w w':=by
 have HU:=aa hu;have HV:=aa hv;obtain⟨ua,uc,rfl⟩:=hu.slice;obtain⟨va,vc,rfl⟩:=hv.slice;clear hu hv;go_enter Tryz.func28,Tryz.ntmps28;go_wp2_with fail
 go_loopw [13] (fun i wr=>∃k:Nat,k≤l.length∧i= .int .i64 k∧Below w.heap.size w wr) (fun i _=>l.length-(intOf i).toNat)
 case atStart=>exact⟨0,by omega,rfl,Below.refl _ _⟩
 case round=>
  obtain⟨k,hk,rfl,k0⟩:=hrel;by_cases hlt:k<l.length
  ·obtain⟨b,off,c1,e1,hcap,_,g0,g1,g2,g3,g4,g5,g6,g7,g8⟩:=qD (RowAt.below HU.out k0 zr) hlt;obtain⟨b2,off2,c2,e2,hcap2,_,h0,h1,h2,h3,h4,h5,h6,h7,h8⟩:=qD (RowAt.below HV.out k0 zr) hlt;simp only [Value.slice.injEq,true_and]at e1 e2;obtain⟨rfl,rfl⟩:=e1;obtain⟨rfl,rfl⟩:=e2;clear HU HV;generalize (l.getD k ac0).s=x0 at*;generalize (l.getD k ac0).p=x1 at*;generalize (l.getD k ac0).n=x2 at*;generalize (l.getD k ac0).src=x3 at*;generalize (l.getD k ac0).sb=x4 at*;generalize (l.getD k ac0).dst=x5 at*;generalize (l.getD k ac0).db=x6 at*;generalize (l.getD k ac0).o=x7 at*;generalize (l.getD k ac0).d=x8 at*;have heq:=Cf x0 x1 x2 x3 x4 x5 x6 x7 x8;have hgd:=B8;have q3:(0:Int)≤(k:Int):=(by omega);have q4:(k:Int)<(l.length:Int):=(by omega);go_wp2_with fail
   go_quiet (fail);go_wp2;go_roundw
   case rel=>exact⟨k+1,by omega,by go_num,⟨k0.os,k0.tape,k0.output,k0.size,k0.block⟩⟩
   case measure=>simp [intOf];omega
  ·clear HU HV;go_wp2_with fail
   go_ret;exact⟨rfl,k0⟩
def jm (n:Int):Bool:=decide (1≤n∧n≤3)
def mB (n:Int):Bool:=decide (0≤n∧n≤255)
theorem tl (n:Int) (w:World):
  Calls Tryz.prog 75 #[.int .i64 n] w fun e w'=>e= .returned (.bool (jm n))∧w'=w:=by
 go_enter Tryz.func75,Tryz.ntmps75;go_wp2
 all_goals go_ret
 all_goals refine⟨aA ?_,rfl⟩
 all_goals (unfold jm;rw [Bool.eq_iff_iff];simp_all;try omega)
theorem mL (n:Int) (w:World):
  Calls Tryz.prog 113 #[.int .i64 n] w fun e w'=>e= .returned (.bool (aB n))∧w'=w:=by
 go_enter Tryz.func113,Tryz.ntmps113;go_wp2
 all_goals go_ret
 all_goals refine⟨aA ?_,rfl⟩
 all_goals (unfold aB;rw [Bool.eq_iff_iff];simp_all;try omega)
theorem rm (b:ByteArray):b.toList= []↔b=ByteArray.empty:=by
 rw [ByteArray.toList_eq, ←ByteArray.size_eq_zero_iff];show b.data.toList= []↔b.data.size=0;rw [←Array.length_toList,List.length_eq_zero_iff]
abbrev fr (dst src kind ips ipd ttl port:Int) (body:ByteArray):Value:=
 .agg #[.int .i64 dst,.int .i64 src,.int .i64 kind,.int .i64 ips,.int .i64 ipd,.int .i64 ttl,.int .i64 port,.string body]
def kg (ttl port:Int) (n:Nat):Bool:=decide (ttl≠0∨port≠0∨n≠0)
def eI (dst src ips ipd ttl port:Int):Bool:=aB dst&&aB src&&aB ips&&aB ipd&&aB port&&mB ttl
theorem pZ (dst src kind ips ipd ttl port:Int) (body:ByteArray) (w:World):
  Calls Tryz.prog 76 #[fr dst src kind ips ipd ttl port body] w fun e w'=>e= .returned (.bool (eI dst src ips ipd ttl port))∧Below w.heap.size w w':=by
 go_enter Tryz.func76,Tryz.ntmps76;go_wp2_with (go_at_call 113;refine(mL _ _).mono ?_;rintro e w' ⟨rfl,rfl⟩)
 all_goals go_ret
 all_goals refine⟨aA ?_,(Below.refl _ _).alloc zr _⟩
 all_goals (unfold eI mB;rw [Bool.eq_iff_iff];simp_all;try omega)
theorem qt (dst src kind ips ipd ttl port:Int) (body:ByteArray) (w:World):
  Calls Tryz.prog 77 #[fr dst src kind ips ipd ttl port body] w fun e w'=>e= .returned (.bool (kg ttl port body.size))∧Below w.heap.size w w':=by
 go_enter Tryz.func77,Tryz.ntmps77;go_wp2
 all_goals go_ret
 all_goals refine⟨aA ?_,(Below.refl _ _).alloc zr _⟩
 all_goals (unfold kg;rw [Bool.eq_iff_iff];simp_all [rm])
def bn (dst src kind ips ipd ttl port:Int) (n:Nat):Int:=
 if jm kind then(if eI dst src ips ipd ttl port then(if 40<n then 1 else if kind≠3∧kg ttl port n=true then 4 else 0)else 2)else 3
theorem iX (dst src kind ips ipd ttl port:Int) (body:ByteArray) (w:World) (hb:body.size≤maxLen):
  Calls Tryz.prog 41 #[fr dst src kind ips ipd ttl port body] w fun e w'=>e= .returned (.int .i64 (bn dst src kind ips ipd ttl port body.size))∧Below w.heap.size w w':=by
 unfold maxLen at hb;go_enter Tryz.func41,Tryz.ntmps41;go_wp2_with (first |(go_at_call 75;refine(tl _ _).mono ?_;rintro e w' ⟨rfl,rfl⟩) |(go_at_call 76;refine(pZ _ _ _ _ _ _ _ _ _).mono ?_;rintro e w1 ⟨rfl,hb1⟩;obtain⟨hc1,hf1⟩:=BT hb1) |(go_at_call 77;refine(qt _ _ _ _ _ _ _ _ _).mono ?_;rintro e w2 ⟨rfl,hb2⟩))
 all_goals go_ret
 all_goals refine⟨am ?_,?_⟩
 all_goals first | exact(Below.refl _ _).alloc zr _ | exact((Below.refl _ _).alloc zr _).trans (hb1.mono (by simp)) | exact(((Below.refl _ _).alloc zr _).trans (hb1.mono (by simp))).trans (hb2.mono (by have:=hb1.size;simp at this;omega)) |(unfold bn;simp_all;try omega)
def mk (n m:Int):Int:=((n.toNat&&& m.toNat:Nat):Int)
theorem bj (n:Int) (h0:0≤n) (h1:n≤1000000):IntKind.i64.wrap n=n:=by
 simp [IntKind.wrap,IntKind.bits,IntKind.signed];split <;>omega
structure Mt where
 f:Int
 m:Int
 v:Int
structure Do where
 k:Int
 a:Int
 n:Int
structure Fl where
 t:Int
 p:Int
 ms:List Mt
 ds:List Do
def mt0:Mt:=⟨0,0,0⟩
def do0:Do:=⟨0,0,0⟩
def fl0:Fl:=⟨0,0,[],[]⟩
def MsAt (w:World) (v:Value) (ms:List Mt):Prop:=
 ∃a cap,v= .slice a ms.length cap∧(a=none→cap=0)∧(ms.length=0∨∃b off,a=some ⟨b,off,none⟩∧ms.length≤cap∧∀i,i<ms.length→
  w.cell? ⟨b,off+i*3,none⟩=some (.int .i64 (ms.getD i mt0).f)∧w.cell? ⟨b,off+i*3+1,none⟩=some (.int .i64 (ms.getD i mt0).m)∧w.cell? ⟨b,off+i*3+2,none⟩=some (.int .i64 (ms.getD i mt0).v))
def DsAt (w:World) (v:Value) (ds:List Do):Prop:=
 ∃a cap,v= .slice a ds.length cap∧(a=none→cap=0)∧(ds.length=0∨∃b off,a=some ⟨b,off,none⟩∧ds.length≤cap∧∀i,i<ds.length→
  w.cell? ⟨b,off+i*3,none⟩=some (.int .i64 (ds.getD i do0).k)∧w.cell? ⟨b,off+i*3+1,none⟩=some (.int .i64 (ds.getD i do0).a)∧w.cell? ⟨b,off+i*3+2,none⟩=some (.int .i64 (ds.getD i do0).n))
def FlAt (w:World) (b off:Nat) (f:Fl):Prop:=
 w.cell? ⟨b,off,none⟩=some (.int .i64 f.t)∧w.cell? ⟨b,off+1,none⟩=some (.int .i64 f.p)∧
 ∃mv dv,w.cell? ⟨b,off+2,none⟩=some mv∧w.cell? ⟨b,off+3,none⟩=some dv∧MsAt w mv f.ms∧DsAt w dv f.ds
def FsAt (w:World) (v:Value) (fs:List Fl):Prop:=
 ∃a cap,v= .slice a fs.length cap∧(a=none→cap=0)∧(fs.length=0∨∃b off,a=some ⟨b,off,none⟩∧fs.length≤cap∧∀i,i<fs.length→FlAt w b (off+i*4) (fs.getD i fl0))
theorem bG {w:World} {b o:Nat} {v:Value} (h:w.cell? ⟨b,o,none⟩=some v):b<w.heap.size:=by
 rcases Nat.lt_or_ge b w.heap.size with h' | h'
 ·exact h'
 ·simp [World.cell?,Array.getElem?_eq_none h']at h
theorem ae {w w':World} {B b o:Nat} {v:Value} (h:w.cell? ⟨b,o,none⟩=some v) (hb:Below B w w') (hB:w.heap.size≤B):w'.cell? ⟨b,o,none⟩=some v:=
 (hb.cell (p:=⟨b,o,none⟩) (Nat.lt_of_lt_of_le (bG h) hB)).trans h
theorem MsAt.below {w w':World} {B:Nat} {v:Value} {ms:List Mt} (h:MsAt w v ms) (hb:Below B w w') (hB:w.heap.size≤B):MsAt w' v ms:=by
 obtain⟨a,cap,hv,hn,h0 |⟨b,off,ha,hc,hL⟩⟩:=h
 ·exact⟨a,cap,hv,hn,.inl h0⟩
 ·exact⟨a,cap,hv,hn,.inr ⟨b,off,ha,hc,fun i hi=>⟨ae (hL i hi).1 hb hB,ae (hL i hi).2.1 hb hB,ae (hL i hi).2.2 hb hB⟩⟩⟩
theorem DsAt.below {w w':World} {B:Nat} {v:Value} {ds:List Do} (h:DsAt w v ds) (hb:Below B w w') (hB:w.heap.size≤B):DsAt w' v ds:=by
 obtain⟨a,cap,hv,hn,h0 |⟨b,off,ha,hc,hL⟩⟩:=h
 ·exact⟨a,cap,hv,hn,.inl h0⟩
 ·exact⟨a,cap,hv,hn,.inr ⟨b,off,ha,hc,fun i hi=>⟨ae (hL i hi).1 hb hB,ae (hL i hi).2.1 hb hB,ae (hL i hi).2.2 hb hB⟩⟩⟩
theorem FlAt.below {w w':World} {B b off:Nat} {f:Fl} (h:FlAt w b off f) (hb:Below B w w') (hB:w.heap.size≤B):FlAt w' b off f:=by
 obtain⟨h0,h1,mv,dv,h2,h3,hm,hd⟩:=h;exact⟨ae h0 hb hB,ae h1 hb hB,mv,dv,ae h2 hb hB,ae h3 hb hB,hm.below hb hB,hd.below hb hB⟩
theorem FsAt.below {w w':World} {B:Nat} {v:Value} {fs:List Fl} (h:FsAt w v fs) (hb:Below B w w') (hB:w.heap.size≤B):FsAt w' v fs:=by
 obtain⟨a,cap,hv,hn,h0 |⟨b,off,ha,hc,hL⟩⟩:=h
 ·exact⟨a,cap,hv,hn,.inl h0⟩
 ·exact⟨a,cap,hv,hn,.inr ⟨b,off,ha,hc,fun i hi=>(hL i hi).below hb hB⟩⟩
def eR (kind a n dU:Int) (last:Bool):Bool:=
 if kind=1 then decide (0≤a∧a≤9)&&decide (0≤n∧n≤65535)
 else if kind=2 then decide (0≤a∧a≤9)&&decide (0≤n∧n≤9)
 else if kind=3 then decide (0≤a∧a≤9)&&(n==0)
 else if kind=4 then(a==0)&&decide (dU+1≤n∧n≤7)&&last
 else if kind=5 then(a==0)&&decide (0≤n∧n≤65535)
 else if kind=6 then(a==0)&&decide (0≤n∧n≤5)
 else false
def iI (n:Int):Bool:=decide (0≤n∧n≤9)
def fJ (n:Int):Bool:=decide (0≤n∧n≤7)
def im (n:Int):Bool:=decide (0≤n∧n≤2000)
def bk (m:Mt):Bool:=iI m.f&&aB m.m&&aB m.v&&(mk m.v m.m==m.v)
def doB (t:Int) (ds:List Do) (j:Nat):Bool:=eR (ds.getD j do0).k (ds.getD j do0).a (ds.getD j do0).n t ((j:Int)+1==(ds.length:Int))
def aS (f:Fl):Int:=
 if 12<f.ms.length∨100<f.ds.length then 1 else if(fJ f.t&&im f.p)=false then 2 else if f.ms.all bk=false then 4 else
  if(List.range f.ds.length).all (doB f.t f.ds)=false then 4 else 0
def ek:List Fl→Int
 | []=>0
 | f::r=>if aS f=0 then ek r else aS f
def bp (fs:List Fl):Int:=if 5000<fs.length then 1 else ek fs
theorem AT:∀(fs:List Fl) (k:Nat),k<fs.length→(∀j,j<k→aS (fs.getD j fl0)=0)→aS (fs.getD k fl0)≠0→ek fs=aS (fs.getD k fl0)
 | [],k,h,_,_=>by simp at h
 | f::r,0,_,_,hn=>by
  simp only [ek];rw [if_neg (by simpa using hn)];rfl
 | f::r,k+1,h,ha,hn=>by
  have h0:=ha 0 (by omega);simp only [ek];rw [if_pos (by simpa using h0)];have:=AT r k (by simpa using h) (fun j hj=>by simpa using ha (j+1) (by omega)) (by simpa using hn);simpa using this
theorem tj:∀(fs:List Fl),(∀j,j<fs.length→aS (fs.getD j fl0)=0)→ek fs=0
 | [],_=>rfl
 | f::r,h=>by
  simp only [ek];rw [if_pos (by simpa using h 0 (by simp))];exact tj r (fun j hj=>by simpa using h (j+1) (by simpa using hj))
theorem gI {f:Fl} (h:12<f.ms.length∨100<f.ds.length):aS f=1:=by unfold aS;rw [if_pos h]
theorem od {f:Fl} (h:¬(12<f.ms.length∨100<f.ds.length)) (h2:(fJ f.t&&im f.p)=false):aS f=2:=by unfold aS;rw [if_neg h,if_pos h2]
theorem tG {f:Fl} (h:¬(12<f.ms.length∨100<f.ds.length)) (h2:(fJ f.t&&im f.p)=true) (h3:f.ms.all bk=true) (h4:∀j,j<f.ds.length→doB f.t f.ds j=true):aS f=0:=by
 have:(List.range f.ds.length).all (doB f.t f.ds)=true:=by
  rw [List.all_eq_true];intro j hj;exact h4 j (List.mem_range.1 hj)
 unfold aS;rw [if_neg h,if_neg (by simp [h2]),if_neg (by simp [h3]),if_neg (by simp [this])]
def j8 (T:Int):Int:=if T=0 then 0 else(T-1)%65535+1
theorem tP (T:Int) (h0:0≤T) (h:T≤65535):j8 T=T:=by unfold j8;split <;>omega
theorem Av (T:Int) (h0:0≤T):0≤j8 T∧j8 T≤65535:=by unfold j8;split <;>omega
theorem sR (T:Int) (h:65535<T):j8 (T%65536+T/65536)=j8 T:=by
 unfold j8;rw [if_neg (by omega),if_neg (by omega)];omega
def wt (i:Nat) (c:Int):Int:=if i%2=0 then 256*c else c
def tot (l:List Int):Nat→Int
 | 0=>0
 | k+1=>tot l k+wt k (l.getD k 0)
def Bs (l:List Int):Prop:=∀n∈l,0≤n∧n≤255
theorem Bs.at {l:List Int} (h:Bs l) (k:Nat):0≤l.getD k 0∧l.getD k 0≤255:=by
 by_cases hk:k<l.length
 ·have:=h l[k] (List.getElem_mem hk);simpa [List.getD,List.getElem?_eq_getElem hk] using this
 ·simp [List.getD,List.getElem?_eq_none (by omega:l.length≤k)]
theorem Bs.nil:Bs []:=fun n h=>by cases h
theorem Bs.append {a b:List Int} (ha:Bs a) (hb:Bs b):Bs (a++b):=fun n h=>by
 rcases List.mem_append.1 h with h | h
 ·exact ha n h
 ·exact hb n h
theorem Bs.take {a:List Int} (ha:Bs a) (k:Nat):Bs (a.take k):=fun n h=>ha n (List.mem_of_mem_take h)
theorem Bs.drop {a:List Int} (ha:Bs a) (k:Nat):Bs (a.drop k):=fun n h=>ha n (List.mem_of_mem_drop h)
theorem BO (i:Nat) (c:Int) (h0:0≤c) (h:c≤255):0≤wt i c∧wt i c≤65280:=by unfold wt;split <;>omega
theorem tm {l:List Int} (h:Bs l):∀k:Nat,0≤tot l k∧tot l k≤65280*k
 | 0=>by simp [tot]
 | k+1=>by
  have h1:=tm h k;have h2:=h.at k;have h3:=BO k _ h2.1 h2.2;simp only [tot];omega
def sm (l:List Int):Int:=65535-j8 (tot l l.length)
theorem x9 {l:List Int} (h:Bs l):0≤sm l∧sm l≤65535:=by
 have h1:=tm h l.length;have h2:=Av (tot l l.length) h1.1;unfold sm;omega
def bY (n:Int):List Int:=[n/256,n%256]
theorem fp (n:Int) (h0:0≤n) (h:n≤65535):Bs (bY n):=fun x hx=>by
 simp [bY]at hx;rcases hx with rfl | rfl <;>omega
def ol (s:ByteArray):List Int:=s.data.toList.map fun b=>(b.toNat:Int)
theorem fP (s:ByteArray):(ol s).length=s.size:=by simp [ol]
theorem Ag (s:ByteArray):Bs (ol s):=fun x hx=>by
 simp only [ol,List.mem_map]at hx;obtain⟨b,_,rfl⟩:=hx;have:=b.toNat_lt;omega
def U (l:List Int):List Value:=l.map (Value.int .u8)
theorem wN (l:List Int):(U l).length=l.length:=by simp [U]
theorem rg (a b:List Int):U (a++b)=U a++U b:=by simp [U]
theorem uN (l:List Int):∀u∈U l,u.oneCell'=true:=fun u hu=>by
 simp only [U,List.mem_map]at hu;obtain⟨n,_,rfl⟩:=hu;rfl
def gB (dst src kind ips ipd ttl port:Int) (body:ByteArray):List Int:=
 bY dst++bY src++ [kind,ttl]++bY ips++bY ipd++bY port++bY body.size++ol body
def enc (dst src kind ips ipd ttl port:Int) (body:ByteArray):List Int:=
 gB dst src kind ips ipd ttl port body++bY (sm (gB dst src kind ips ipd ttl port body))
theorem eM (dst src kind ips ipd ttl port:Int) (body:ByteArray):(gB dst src kind ips ipd ttl port body).length=14+body.size:=by
 simp [gB,bY,fP];omega
abbrev pkt (f0 f1 f2 f3 f4 f5 f6 f7 f8 f9:Int) (body:ByteArray):Value:=
 .agg #[.int .i64 f0,.int .i64 f1,.int .i64 f2,.int .i64 f3,.int .i64 f4,.int .i64 f5,.int .i64 f6,.int .i64 f7,.int .i64 f8,.int .i64 f9,.string body]
def PkAt (w:World) (b:Nat) (F:List Int) (body:ByteArray):Prop:=
 F.length=10∧(∀i,i<10→w.cell? ⟨b,i,none⟩=some (.int .i64 (F.getD i 0)))∧w.cell? ⟨b,10,none⟩=some (.string body)
theorem PkAt.below {w w':World} {b B:Nat} {F:List Int} {body:ByteArray} (h:PkAt w b F body) (hb:Below B w w') (hB:b<B):PkAt w' b F body:=
 ⟨h.1,fun i hi=>(hb.cell (p:=⟨b,i,none⟩) hB).trans (h.2.1 i hi),(hb.cell (p:=⟨b,10,none⟩) hB).trans h.2.2⟩
def cn (F:List Int) (n:Nat):Int:=if F.all aB then(if 40<n then 1 else 0)else 2
structure Sn where
 k:Int
 n:Int
 F:List Int
def WF (F:List Int):Prop:=F.length=10∧∀i,aB (F.getD i 0)=true
theorem WF.bd {F:List Int} (h:WF F) (i:Nat):0≤F.getD i 0∧F.getD i 0≤65535:=by simpa [aB] using h.2 i
theorem iO {F:List Int} (h:F.length=10) (ha:F.all aB=true):WF F:=by
 refine⟨h,fun i=>?_⟩;by_cases hi:i<F.length
 ·rw [List.all_eq_true]at ha;have:=ha F[i] (List.getElem_mem hi);simpa [List.getD,List.getElem?_eq_getElem hi] using this
 ·simp [List.getD,List.getElem?_eq_none (by omega:F.length≤i),aB]
theorem WF.set {F:List Int} (h:WF F) (i:Nat) (x:Int) (hx:aB x=true):WF (F.set i x):=by
 refine⟨by simp [h.1],fun j=>?_⟩;by_cases hj:j<F.length
 ·have:=h.2 j;simp only [List.getD,List.getElem?_set]at this⊢;split
  ·split
   ·simpa using hx
   ·simp [aB]
  ·exact this
 ·simp [List.getD,List.getElem?_eq_none (show(F.set i x).length≤j by simp;omega),aB]
def bv (F:List Int) (ms:List Mt):Bool:=ms.all fun m=>mk (F.getD m.f.toNat 0) m.m==m.v
def bO (F:List Int) (t:Int) (f:Fl):Bool:=(f.t==t)&&bv F f.ms
def bh (fs:List Fl) (F:List Int) (t:Int):Nat→Int
 | 0=> -1
 | k+1=>if bO F t (fs.getD k fl0)=true∧(bh fs F t k<0∨(fs.getD (bh fs F t k).toNat fl0).p<(fs.getD k fl0).p)then(k:Int)else bh fs F t k
theorem kV (fs:List Fl) (F:List Int) (t:Int):∀k, -1≤bh fs F t k∧bh fs F t k<k
 | 0=>by simp [bh]
 | k+1=>by
  have:=kV fs F t k;unfold bh;split <;>omega
def Cg (fs:List Fl) (F:List Int) (t:Int) (lo hi:Nat) (b:Int):Prop:=
 (b= -1∧∀i,lo≤i→i<hi→bO F t (fs.getD i fl0)=false)∨
 (∃j:Nat,b=j∧lo≤j∧j<hi∧bO F t (fs.getD j fl0)=true∧∀i,lo≤i→i<hi→bO F t (fs.getD i fl0)=true→(fs.getD i fl0).p≤(fs.getD j fl0).p∧(i<j→(fs.getD i fl0).p<(fs.getD j fl0).p))
theorem dT (fs:List Fl) (F:List Int) (t:Int):∀k,Cg fs F t 0 k (bh fs F t k)
 | 0=>.inl ⟨rfl,fun i _ h=>absurd h (by omega)⟩
 | k+1=>by
  have ih:=dT fs F t k;unfold bh;by_cases h:bO F t (fs.getD k fl0)=true∧(bh fs F t k<0∨(fs.getD (bh fs F t k).toNat fl0).p<(fs.getD k fl0).p)
  ·rw [if_pos h];refine .inr ⟨k,rfl,by omega,by omega,h.1,fun i _ hi hf=>?_⟩;rcases ih with⟨hb,ha⟩ |⟨j,hb,_,hj,hfj,ha⟩
   ·by_cases e:i=k
    ·subst e;exact⟨Int.le_refl _,fun h=>absurd h (by omega)⟩
    ·rw [ha i (by omega) (by omega)]at hf;simp at hf
   ·rw [hb]at h;simp only [Int.toNat_natCast]at h;have hp:(fs.getD j fl0).p<(fs.getD k fl0).p:=by rcases h.2 with h' | h' <;>omega
    by_cases e:i=k
    ·subst e;exact⟨Int.le_refl _,fun h=>absurd h (by omega)⟩
    ·have:=ha i (by omega) (by omega) hf;exact⟨by omega,fun _=>by omega⟩
  ·rw [if_neg h];rcases ih with⟨hb,ha⟩ |⟨j,hb,h0,hj,hfj,ha⟩
   ·refine .inl ⟨hb,fun i _ hi=>?_⟩;by_cases e:i=k
    ·subst e;rw [hb]at h;by_cases hf:bO F t (fs.getD i fl0)=true
     ·exact absurd ⟨hf,.inl (by omega)⟩ h
     ·simpa using hf
    ·exact ha i (by omega) (by omega)
   ·refine .inr ⟨j,hb,h0,by omega,hfj,fun i _ hi hf=>?_⟩;by_cases e:i=k
    ·subst e;rw [hb]at h;simp only [Int.toNat_natCast]at h;have:¬(fs.getD j fl0).p<(fs.getD i fl0).p:=fun hp=>h ⟨hf,.inr hp⟩;exact⟨by omega,fun h'=>absurd h' (by omega)⟩
    ·exact ha i (by omega) (by omega) hf
def jc (fs:List Fl) (b:Int):List Do:=if b<0 then []else(fs.getD b.toNat fl0).ds
def doF (F:List Int) (d:Do):List Int:=
 if d.k=1 then F.set d.a.toNat d.n else if d.k=2 then F.set d.a.toNat (F.getD d.n.toNat 0)else if d.k=3 then F.set d.a.toNat (if 0<F.getD d.a.toNat 0 then F.getD d.a.toNat 0-1 else 0)else F
structure St where
 F:List Int
 t:Int
 out:List Sn
def step (s:St) (d:Do):St:=
 if d.k=5∨d.k=6 then⟨s.F,s.t,s.out++ [⟨d.k,d.n,s.F⟩]⟩else if d.k=4 then⟨s.F,d.n,s.out⟩else⟨doF s.F d,s.t,s.out⟩
def stepTo (s:St) (ds:List Do):Nat→St
 | 0=>s
 | k+1=>step (stepTo s ds k) (ds.getD k do0)
def dU (fs:List Fl) (s:St):St:=stepTo ⟨s.F,8,s.out⟩ (jc fs (bh fs s.F s.t fs.length)) (jc fs (bh fs s.F s.t fs.length)).length
def fh (fs:List Fl):Nat→St→St
 | 0,s=>s
 | n+1,s=>if 7<s.t then s else fh fs n (dU fs s)
theorem dg (fs:List Fl) (s:St) (h:7<s.t):∀n,fh fs n s=s
 | 0=>rfl
 | n+1=>by unfold fh;rw [if_pos h]
def ran (fs:List Fl) (F:List Int):List Sn:=(fh fs 8 ⟨F,0,[]⟩).out
theorem kD {t:Int} {ds:List Do} {k:Nat} (h:doB t ds k=true):
  let d:=ds.getD k do0
  (d.k=1∧0≤d.a∧d.a≤9∧aB d.n=true)∨(d.k=2∧0≤d.a∧d.a≤9∧0≤d.n∧d.n≤9)∨(d.k=3∧0≤d.a∧d.a≤9)∨(d.k=4∧t<d.n∧d.n≤7)∨(d.k=5∧aB d.n=true)∨(d.k=6∧0≤d.n∧d.n≤5):=by
 intro d;have h':eR d.k d.a d.n t ((k:Int)+1==(ds.length:Int))=true:=h
 clear_value d
 unfold eR at h';split at h'
 ·rename_i e;simp at h';exact .inl ⟨e,h'.1.1,h'.1.2,by simpa [aB] using h'.2⟩
 ·split at h'
  ·rename_i e;simp at h';exact .inr (.inl ⟨e,h'.1.1,h'.1.2,h'.2.1,h'.2.2⟩)
  ·split at h'
   ·rename_i e;simp at h';exact .inr (.inr (.inl ⟨e,h'.1.1,h'.1.2⟩))
   ·split at h'
    ·rename_i e;simp at h';exact .inr (.inr (.inr (.inl ⟨e,by omega,h'.1.2.2⟩)))
    ·split at h'
     ·rename_i e;simp at h';exact .inr (.inr (.inr (.inr (.inl ⟨e,by simpa [aB] using h'.2⟩))))
     ·split at h'
      ·rename_i e;simp at h';exact .inr (.inr (.inr (.inr (.inr ⟨e,h'.2.1,h'.2.2⟩))))
      ·simp at h'
def Ok (t:Int) (c:Nat) (s:St):Prop:=WF s.F∧t<s.t∧s.t≤8∧s.out.length≤c
theorem Ok.step {t:Int} {c:Nat} {s:St} {ds:List Do} {k:Nat} (h:Ok t c s) (hd:doB t ds k=true):Ok t (c+1) (step s (ds.getD k do0)):=by
 obtain⟨hF,h1,h2,h3⟩:=h;have hp:=kD hd;generalize ds.getD k do0=d at hp;have hw:∀i,aB (s.F.getD i 0)=true:=hF.2;simp only at hp;rcases hp with⟨e,a0,a1,hn⟩ |⟨e,a0,a1,n0,n1⟩ |⟨e,a0,a1⟩ |⟨e,n0,n1⟩ |⟨e,hn⟩ |⟨e,n0,n1⟩
 ·have:Go.Proofs.YtjaclcbckngnlaaGreat.step s d=⟨s.F.set d.a.toNat d.n,s.t,s.out⟩:=by unfold Go.Proofs.YtjaclcbckngnlaaGreat.step doF;simp [e]
  rw [this];exact⟨hF.set _ _ hn,h1,h2,by simp;omega⟩
 ·have:Go.Proofs.YtjaclcbckngnlaaGreat.step s d=⟨s.F.set d.a.toNat (s.F.getD d.n.toNat 0),s.t,s.out⟩:=by unfold Go.Proofs.YtjaclcbckngnlaaGreat.step doF;simp [e]
  rw [this];exact⟨hF.set _ _ (hw _),h1,h2,by simp;omega⟩
 ·have:Go.Proofs.YtjaclcbckngnlaaGreat.step s d=⟨s.F.set d.a.toNat (if 0<s.F.getD d.a.toNat 0 then s.F.getD d.a.toNat 0-1 else 0),s.t,s.out⟩:=by unfold Go.Proofs.YtjaclcbckngnlaaGreat.step doF;simp [e]
  rw [this];refine⟨hF.set _ _ ?_,h1,h2,by simp;omega⟩;have:=hF.bd d.a.toNat;generalize s.F.getD d.a.toNat 0=x at this;split
  ·simp [aB];omega
  ·simp [aB]
 ·have:Go.Proofs.YtjaclcbckngnlaaGreat.step s d=⟨s.F,d.n,s.out⟩:=by unfold Go.Proofs.YtjaclcbckngnlaaGreat.step;simp [e]
  rw [this];exact⟨hF,n0,by simp;omega,by simp;omega⟩
 ·have:Go.Proofs.YtjaclcbckngnlaaGreat.step s d=⟨s.F,s.t,s.out++ [⟨d.k,d.n,s.F⟩]⟩:=by unfold Go.Proofs.YtjaclcbckngnlaaGreat.step;simp [e]
  rw [this];exact⟨hF,h1,h2,by simp;omega⟩
 ·have:Go.Proofs.YtjaclcbckngnlaaGreat.step s d=⟨s.F,s.t,s.out++ [⟨d.k,d.n,s.F⟩]⟩:=by unfold Go.Proofs.YtjaclcbckngnlaaGreat.step;simp [e]
  rw [this];exact⟨hF,h1,h2,by simp;omega⟩
theorem Ok.stepTo {t:Int} {c:Nat} {s:St} {ds:List Do} (h:Ok t c s) (hd:∀k,k<ds.length→doB t ds k=true):∀k,k≤ds.length→Ok t (c+k) (stepTo s ds k)
 | 0,_=>h
 | k+1,hk=>(Ok.stepTo h hd k (by omega)).step (hd k (by omega))
theorem mq {fs:List Fl} (h:bp fs=0) {i:Nat} (hi:i<fs.length):fs.length≤5000∧(fs.getD i fl0).ms.length≤12∧(fs.getD i fl0).ds.length≤100∧0≤(fs.getD i fl0).t∧(fs.getD i fl0).t≤7∧0≤(fs.getD i fl0).p∧(fs.getD i fl0).p≤2000
  ∧(∀j,j<(fs.getD i fl0).ms.length→bk ((fs.getD i fl0).ms.getD j mt0)=true)∧(∀j,j<(fs.getD i fl0).ds.length→doB (fs.getD i fl0).t (fs.getD i fl0).ds j=true):=by
 have h5:¬5000<fs.length:=fun h'=>by unfold bp at h;rw [if_pos h']at h;omega
 unfold bp at h;rw [if_neg h5]at h;have hz:aS (fs.getD i fl0)=0:=by
  clear h5
  induction fs generalizing i with
  | nil=>simp at hi
  | cons f r ih=>
   simp only [ek]at h;by_cases e:aS f=0
   ·rw [if_pos e]at h;cases i with
    | zero=>simpa using e
    | succ i=>rw [List.getD_cons_succ];exact ih h (by simpa using hi)
   ·rw [if_neg e]at h;exact absurd h e
 generalize fs.getD i fl0=f at hz;unfold aS at hz;split at hz
 ·omega
 ·rename_i s1;split at hz
  ·omega
  ·rename_i s2;split at hz
   ·omega
   ·rename_i s3;split at hz
    ·omega
    ·rename_i s4;have s2':fJ f.t=true∧im f.p=true:=(by simpa using s2);have s3':f.ms.all bk=true:=(by simpa using s3);have s4':(List.range f.ds.length).all (doB f.t f.ds)=true:=(by simpa using s4);simp only [fJ,im,decide_eq_true_eq]at s2';rw [List.all_eq_true]at s3' s4';refine⟨by omega,by omega,by omega,s2'.1.1,s2'.1.2,s2'.2.1,s2'.2.2,fun j hj=>?_,fun j hj=>s4' j (List.mem_range.2 hj)⟩;have:=s3' f.ms[j] (List.getElem_mem hj);simpa [List.getD,List.getElem?_eq_getElem hj] using this
def S (body:ByteArray) (l:List Sn):List Value:=l.flatMap fun x=>[.int .i64 x.k,.int .i64 x.n,.int .i64 (x.F.getD 0 0),.int .i64 (x.F.getD 1 0),.int .i64 (x.F.getD 2 0),.int .i64 (x.F.getD 3 0),.int .i64 (x.F.getD 4 0),.int .i64 (x.F.getD 5 0),.int .i64 (x.F.getD 6 0),.int .i64 (x.F.getD 7 0),.int .i64 (x.F.getD 8 0),.int .i64 (x.F.getD 9 0),.string body]
theorem qM (body:ByteArray) (a b:List Sn):S body (a++b)=S body a++S body b:=by simp [S]
theorem lV {α:Type} {l:List α} {d:α} {i:Nat} (h:i<l.length):l.getD i d∈l:=by
 rw [List.getD_eq_getElem?_getD,List.getElem?_eq_getElem h];exact List.getElem_mem h
theorem wP {α:Type} {l:List α} (d:α) {x:α} (h:x∈l):∃i,i<l.length∧l.getD i d=x:=by
 obtain⟨i,hi,e⟩:=List.getElem_of_mem h;exact⟨i,hi,by rw [List.getD_eq_getElem?_getD,List.getElem?_eq_getElem hi];exact e⟩
theorem Ap {fs:List Fl} {F:List Int} {t:Int} (h:∀g∈fs,bO F t g=false):bh fs F t fs.length= -1:=by
 rcases dT fs F t fs.length with⟨e,_⟩ |⟨j,e,_,hj,hf,_⟩
 ·exact e
 ·rw [h _ (lV hj)]at hf;exact absurd hf (by decide)
theorem zw {fs:List Fl} {F:List Int} {t:Int} {f:Fl} (hf:f∈fs) (h1:bO F t f=true) (h2:∀g∈fs,bO F t g=true→g.p<f.p∨g.ds=f.ds):jc fs (bh fs F t fs.length)=f.ds:=by
 obtain⟨i,hi,e⟩:=wP fl0 hf;rcases dT fs F t fs.length with⟨_,hn⟩ |⟨j,hb,_,hj,hfj,ha⟩
 ·have:=hn i (Nat.zero_le _) hi;rw [e,h1]at this;exact absurd this (by decide)
 ·have h3:=(ha i (Nat.zero_le _) hi (by rw [e];exact h1)).1;rw [e]at h3;rw [hb];unfold jc;rw [if_neg (by omega),Int.toNat_natCast];rcases h2 _ (lV hj) hfj with h | h
  ·omega
  ·exact h
theorem lg (s:St) (ds:List Do):∀k,k≤ds.length→stepTo s ds k=(ds.take k).foldl step s
 | 0,_=>rfl
 | k+1,hk=>by
  rw [List.take_succ_eq_append_getElem (by omega),List.foldl_append, ←lg s ds k (by omega)];simp only [stepTo,List.foldl_cons,List.foldl_nil];rw [List.getD_eq_getElem?_getD,List.getElem?_eq_getElem (by omega)];rfl
theorem mS (fs:List Fl) (s:St):dU fs s=(jc fs (bh fs s.F s.t fs.length)).foldl step ⟨s.F,8,s.out⟩:=by
 unfold dU;rw [lg _ _ _ zr,List.take_length]
theorem zp {fs:List Fl} {s:St} (h:∀g∈fs,bO s.F s.t g=false):dU fs s=⟨s.F,8,s.out⟩:=by
 rw [mS,Ap h];rfl
theorem yM {fs:List Fl} {s:St} {f:Fl} (hf:f∈fs) (h1:bO s.F s.t f=true) (h2:∀g∈fs,bO s.F s.t g=true→g.p<f.p∨g.ds=f.ds):dU fs s=f.ds.foldl step ⟨s.F,8,s.out⟩:=by
 rw [mS,zw hf h1 h2]
theorem oU (fs:List Fl) (n:Nat) (s:St) (h:s.t≤7):fh fs (n+1) s=fh fs n (dU fs s):=by
 rw [fh,if_neg (by omega)]
theorem gS {fs:List Fl} {n:Nat} {s:St} (hn:0<n) (ht:s.t≤7) (h:∀g∈fs,bO s.F s.t g=false):(fh fs n s).out=s.out:=by
 obtain⟨m,rfl⟩:∃m,n=m+1:=⟨n-1,by omega⟩;rw [oU _ _ _ ht,zp h,dg _ _ (by simp)]
theorem cY {fs:List Fl} {n:Nat} {s:St} (ht:s.t≤7) {f:Fl} (hf:f∈fs) (h1:bO s.F s.t f=true) (h2:∀g∈fs,bO s.F s.t g=true→g.p<f.p∨g.ds=f.ds):fh fs (n+1) s=fh fs n (f.ds.foldl step ⟨s.F,8,s.out⟩):=by
 rw [oU _ _ _ ht,yM hf h1 h2]
section
variable {α:Type}
def mrg (le:α→α→Bool) (A B:List α):List α:=List.merge A B le
theorem eH (le:α→α→Bool) (B:List α):mrg le [] B=B:=by unfold mrg;simp
theorem ed (le:α→α→Bool) (A:List α):mrg le A []=A:=by unfold mrg;simp
theorem iG (le:α→α→Bool) (x y:α) (A B:List α):mrg le (x::A) (y::B)=if le x y=true then x::mrg le A (y::B)else y::mrg le (x::A) B:=by
 unfold mrg;rw [List.cons_merge_cons]
theorem gp (le:α→α→Bool):∀(n:Nat) (A1 A2 B1 B2:List α),A1.length+B1.length=n→(∀x∈A1,∀y∈B2,le x y=true)→(∀y∈B1,∀x∈A2,le x y=false)→mrg le (A1++A2) (B1++B2)=mrg le A1 B1++mrg le A2 B2:=by
 intro n
 induction n with
 | zero=>
  intro A1 A2 B1 B2 hn _ _;obtain rfl:A1= []:=List.eq_nil_of_length_eq_zero (by omega);obtain rfl:B1= []:=List.eq_nil_of_length_eq_zero (by omega);simp [eH]
 | succ n ih=>
  intro A1 A2 B1 B2 hn h1 h2;cases A1 with
  | nil=>
   cases B1 with
   | nil=>simp at hn
   | cons y ys=>
    rw [eH];cases A2 with
    | nil=>simp [eH]
    | cons x xs=>
     have hq:=ih [] (x::xs) ys B2 (by simpa using hn) (by simp) (fun z hz=>h2 z (List.mem_cons_of_mem _ hz));rw [eH]at hq;simp only [List.nil_append,List.cons_append]at hq⊢;rw [iG,if_neg (by rw [h2 y (by simp) x (by simp)];simp),hq]
  | cons x xs=>
   cases B1 with
   | nil=>
    rw [ed];cases B2 with
    | nil=>simp [ed]
    | cons y ys=>
     have hq:=ih xs A2 [] (y::ys) (by simpa using hn) (fun z hz=>h1 z (List.mem_cons_of_mem _ hz)) (by simp);rw [ed]at hq;simp only [List.nil_append,List.cons_append]at hq⊢;rw [iG,if_pos (h1 x (by simp) y (by simp)),hq]
   | cons y ys=>
    simp only [List.cons_append];rw [iG,iG];by_cases hle:le x y=true
    ·rw [if_pos hle,if_pos hle];have hq:=ih xs A2 (y::ys) B2 (by simp at hn⊢;omega) (fun z hz=>h1 z (List.mem_cons_of_mem _ hz)) h2;simp only [List.cons_append]at hq;rw [hq];rfl
    ·rw [if_neg hle,if_neg hle];have hq:=ih (x::xs) A2 ys B2 (by simp at hn⊢;omega) h1 (fun z hz=>h2 z (List.mem_cons_of_mem _ hz));simp only [List.cons_append]at hq;rw [hq];rfl
theorem AC (le:α→α→Bool) (A B:List α) (h:∀x∈A,∀y∈B,le x y=true):mrg le A B=A++B:=by
 have:=gp le _ A [] [] B rfl h (by simp);simpa [eH,ed] using this
theorem xP (le:α→α→Bool) (A B:List α) (h:∀y∈B,∀x∈A,le x y=false):mrg le A B=B++A:=by
 have:=gp le _ [] A B [] rfl (by simp) h;simpa [eH,ed] using this
theorem AE (le:α→α→Bool) (x:α) (B1 B2:List α) (h1:∀y∈B1,le x y=false) (h2:∀y∈B2,le x y=true):mrg le [x] (B1++B2)=B1++x::B2:=by
 have:=gp le _ [] [x] B1 B2 rfl (by simp) (by simpa using h1);simp only [List.nil_append,eH]at this;rw [this,AC le [x] B2 (by simpa using h2)];rfl
theorem yz (le:α→α→Bool) (y:α) (A1 A2:List α) (h1:∀x∈A1,le x y=true) (h2:∀x∈A2,le x y=false):mrg le (A1++A2) [y]=A1++y::A2:=by
 have:=gp le _ A1 A2 [] [y] rfl (by simpa using h1) (by simp);simp only [List.nil_append,ed]at this;rw [this,xP le A2 [y] (by simpa using h2)];rfl
theorem lW (le:α→α→Bool) (A B:List α) (z:α):z∈mrg le A B↔z∈A∨z∈B:=by
 unfold mrg;exact List.mem_merge
theorem l6 (le:α→α→Bool) (A B:List α):(mrg le A B).length=A.length+B.length:=by
 unfold mrg;exact List.length_merge ..
def Asc (le:α→α→Bool) (A:List α):Prop:=A.Pairwise (fun x y=>le x y=true)
theorem AA {le:α→α→Bool} (tr:∀x y z,le x y=true→le y z=true→le x z=true) (tot:∀x y,le x y=true∨le y x=true) {A B:List α} (hA:Asc le A) (hB:Asc le B):Asc le (mrg le A B):=by
 unfold mrg Asc at*;exact List.pairwise_merge tr (fun x y=>by rcases tot x y with h | h <;>simp [h]) _ _ hA hB
theorem fU {p:List α→Prop} (h0:p []) (h1:∀A x,p A→p (A++ [x])) (A:List α):p A:=by
 have:∀n,∀B:List α,B.length=n→p B:=by
  intro n
  induction n with
  | zero=>intro B hB;rw [List.eq_nil_of_length_eq_zero hB];exact h0
  | succ n ih=>
   intro B hB;have hne:B≠ []:=fun e=>by rw [e]at hB;simp at hB
   rw [←List.dropLast_concat_getLast hne];exact h1 _ _ (ih _ (by simp;omega))
 exact this _ A rfl
def aU (le:α→α→Bool) (A:List α):List α:=A.foldl (fun acc x=>mrg le acc [x]) []
theorem fI (le:α→α→Bool) (A:List α) (x:α):aU le (A++ [x])=mrg le (aU le A) [x]:=by
 unfold aU;rw [List.foldl_append];rfl
theorem dS {le:α→α→Bool} (tr:∀x y z,le x y=true→le y z=true→le x z=true) (tot:∀x y,le x y=true∨le y x=true) (A:List α):Asc le (aU le A):=by
 induction A using fU with
 | h0=>unfold aU Asc;simp
 | h1 A x ih=>
  rw [fI];exact AA tr tot ih (by unfold Asc;simp)
theorem aV (le:α→α→Bool) (A:List α):(aU le A).length=A.length:=by
 induction A using fU with
 | h0=>rfl
 | h1 A x ih=>rw [fI,l6,ih];simp
theorem fB (le:α→α→Bool) (A:List α) (z:α):z∈aU le A↔z∈A:=by
 induction A using fU with
 | h0=>unfold aU;simp
 | h1 A x ih=>rw [fI,lW,ih];simp
theorem mF (P1 P2 P3:List α) (x y:α):((P1++x::P2++y::P3).set P1.length y).set (P1.length+1+P2.length) x=P1++y::P2++x::P3:=by
 have e1:(P1++x::P2++y::P3).set P1.length y=P1++y::P2++y::P3:=by
  rw [List.append_assoc,List.set_append_right _ _ (by omega)];simp
 rw [e1,List.set_append_right _ _ (by simp;omega)];have e2:P1.length+1+P2.length-(P1++y::P2).length=0:=by simp;omega
 rw [e2];rfl
end
def isM (f v:Int):Mt:=⟨f,65535,v⟩
def hiM (f v b:Int):Mt:=⟨f,65536-2 ^ (16-b).toNat,v⟩
def dr:List Mt:=[isM 3 3,⟨6,65280,0⟩]
def dp (k:Int):List Mt:=[isM 3 k,isM 6 0,isM 7 0]
def co (p:Pr):List Mt:=[isM 0 p.i,isM 8 0,isM 9 0,isM 2 p.m,isM 4 p.p]
def aZ (n:Int):Do:=⟨4,0,n⟩
def az (q:Pr):List Do:=[⟨1,9,q.i⟩,⟨6,0,q.c⟩]
def gG (ip mac ch:Int):List Do:=[⟨1,3,2⟩,⟨2,1,2⟩,⟨1,2,mac⟩,⟨2,5,4⟩,⟨1,4,ip⟩,⟨2,9,0⟩,⟨6,0,ch⟩]
def cX (p:Pr):List Do:=[⟨1,1,p.m⟩,⟨1,2,60000+p.s⟩,⟨3,6,0⟩,⟨1,8,p.s⟩]
def br (r:Ac):List Mt:=[hiM 4 r.src r.sb,hiM 5 r.dst r.db]++(if r.o= -1 then []else [isM 7 r.o])
def cB (s:Int) (p:Pr):Bool:=p.s==s
def aK (p:Pr):Bool:= !(p.c== -1)
def cO (p q:Pr):Bool:=(q.s==p.s&& !(q.i==p.i))&&aK q
def dt (S:List Sw) (t:Int) (p:Pr):Bool:=S.any fun s=>s.i==p.s&&s.t==t&& !(s.g==0)
def tunnelFl:List Fl:=[⟨0,0,dr++ [isM 0 0],[aZ 4]⟩,⟨0,0,dp 2++ [isM 0 0],[aZ 5]⟩]
def cm (P:List Pr) (p:Pr):List Fl:=
 [⟨0,0,co p++dr,[⟨1,8,p.s⟩,aZ 2]⟩,⟨0,0,co p++dp 1,[⟨1,8,p.s⟩,aZ 1]⟩,⟨1,1,[isM 0 p.i,isM 5 p.p],[]⟩,⟨3,1,[isM 0 p.i,isM 1 p.m],[]⟩,
  ⟨3,0,[isM 0 p.i,isM 1 65535],(P.filter (cO p)).flatMap az⟩,⟨5,0,[isM 8 p.s,isM 9 p.i],[⟨5,0,p.i⟩]⟩]
def bK (s ip mac ch:Int):Fl:=⟨1,0,[isM 8 s,isM 5 ip],gG ip mac ch⟩
def eZ (P:List Pr) (s:Sw) (ch:Int):List Fl:=(if s.g=0 then []else [bK s.i s.g (60000+s.i) ch])++(P.filter (cB s.i)).map fun p=>bK s.i p.p p.m ch
def dm (R:List Ac) (s t n:Int) (i:Nat):Fl:=⟨t,(R.length:Int)-i,br (R.getD i ac0)++ [isM 8 s],if(R.getD i ac0).d then []else [aZ n]⟩
def bD (R:List Ac) (s t n:Int):List Fl:=⟨t,0,[isM 8 s],[aZ n]⟩::(List.range R.length).map (dm R s t n)
def bW (P:List Pr) (s:Sw):List Fl:=(P.filter fun p=>cB s.i p&&aK p).map fun p=>⟨3,0,[isM 8 s.i,isM 1 p.m],az p⟩
def bg (s:Sw):List Mt:=[isM 8 s.i,isM 1 (60000+s.i)]
def bQ (S:List Sw) (P:List Pr) (s:Sw):List Fl:=if s.g=0 then []else
 ⟨3,1,bg s++ [⟨6,65534,0⟩],[]⟩::(P.filter fun p=>dt S s.t p&&aK p).map fun p=>⟨3,0,bg s++ [isM 5 p.p],cX p++az p⟩
def aM (x y:Ac):Bool:=decide (y.p≤x.p)
def aQ (R:List Ac):List Ac:=mrg aM (aU aM (R.take 20)) (aU aM (R.drop 20))
def aY (A:List Ac) (s:Int) (inn:Bool):List Ac:=A.filter fun r=>r.s==s&&r.n==inn
def bq (S:List Sw) (P:List Pr) (A:List Ac) (s:Sw) (ch:Int):List Fl:=
 eZ P s ch++bD (aQ (aY A s.i true)) s.i 2 3++bW P s++bQ S P s++bD (aQ (aY A s.i false)) s.i 4 5
def cK (ch:Int) (p:Pr):Bool:=p.c==ch
def dw (S:List Sw) (P:List Pr) (A:List Ac) (ch:Int):List Fl:=
 tunnelFl++(P.filter (cK ch)).flatMap (cm P)++(S.filter fun s=>(P.filter (cK ch)).any (cB s.i)).flatMap fun s=>bq S P A s ch
def dq (x y:Option Ac):Option Ac:=
 match x with
 | none=>y
 | some a=>match y with
  | none=>some a
  | some b=>if a.p<b.p then some b else some a
theorem sn (y:Option Ac):dq none y=y:=rfl
theorem fk (y:Option Ac):dq y none=y:=by cases y <;>rfl
theorem pt (x y z:Option Ac):dq (dq x y) z=dq x (dq y z):=by
 cases x with
 | none=>rfl
 | some a=>
  cases y with
  | none=>rfl
  | some b=>
   cases z with
   | none=>rw [fk,fk]
   | some c=>
    simp only [dq];by_cases h1:a.p<b.p
    ·by_cases h2:b.p<c.p
     ·simp only [h1,h2,if_true];rw [if_pos (by omega)]
     ·simp only [h1,h2,if_true,if_false]
    ·by_cases h2:b.p<c.p
     ·simp only [h1,h2,if_true,if_false]
     ·simp only [h1,h2,if_false];rw [if_neg (by omega)]
def iz (l:List Ac):Option Ac:=l.foldl (fun acc r=>dq acc (some r)) none
theorem tS (l:List Ac):∀x,l.foldl (fun acc r=>dq acc (some r)) x=dq x (iz l):=by
 induction l with
 | nil=>intro x;simp [iz,fk]
 | cons a r ih=>
  intro x;simp only [iz,List.foldl_cons];rw [ih,ih (dq none (some a)),sn,pt]
theorem oS (a b:List Ac):iz (a++b)=dq (iz a) (iz b):=by
 unfold iz;rw [List.foldl_append,tS b];rfl
theorem fZ (x y z:Ac) (h1:aM x y=true) (h2:aM y z=true):aM x z=true:=by
 simp [aM]at*;omega
theorem gb (x y:Ac):aM x y=true∨aM y x=true:=by
 simp [aM];omega
theorem uZ {q:Ac→Bool} {x z:Ac} {l:List Ac} (h:∀y∈l,y.p≤x.p) (hz:l.find? q=some z):z.p≤x.p:=h z (List.mem_of_find?_eq_some hz)
theorem rW {x:Ac} {o:Option Ac} (h:∀z,o=some z→z.p≤x.p):dq (some x) o=some x:=by
 cases o with
 | none=>rfl
 | some z=>have:=h z rfl;simp only [dq];rw [if_neg (by omega)]
theorem pF {y:Ac} {o:Option Ac} (h:∀z,o=some z→z.p<y.p):dq o (some y)=some y:=by
 cases o with
 | none=>rfl
 | some z=>have:=h z rfl;simp only [dq];rw [if_pos this]
theorem rO (q:Ac→Bool):∀(n:Nat) (A B:List Ac),A.length+B.length=n→Asc aM A→Asc aM B→(mrg aM A B).find? q=dq (A.find? q) (B.find? q):=by
 intro n
 induction n with
 | zero=>
  intro A B hn _ _;obtain rfl:A= []:=List.eq_nil_of_length_eq_zero (by omega);obtain rfl:B= []:=List.eq_nil_of_length_eq_zero (by omega);rw [eH];rfl
 | succ n ih=>
  intro A B hn hA hB;cases A with
  | nil=>rw [eH];rfl
  | cons x xs=>
   cases B with
   | nil=>rw [ed,List.find?_nil,fk]
   | cons y ys=>
    have hA':=List.pairwise_cons.1 hA;have hB':=List.pairwise_cons.1 hB;rw [iG];by_cases hle:aM x y=true
    ·rw [if_pos hle];have hxy:y.p≤x.p:=(by simpa [aM] using hle);cases hq:q x with
     | true=>
      rw [List.find?_cons_of_pos (by simpa using hq),List.find?_cons_of_pos (by simpa using hq),rW];intro z hz;refine uZ (fun u hu=>?_) hz;rcases List.mem_cons.1 hu with rfl | hu
      ·exact hxy
      ·have:=hB'.1 u hu;simp [aM]at this;omega
     | false=>
      rw [List.find?_cons_of_neg (by simp [hq]),List.find?_cons_of_neg (by simp [hq])];exact ih xs (y::ys) (by simp at hn⊢;omega) hA'.2 hB
    ·rw [if_neg hle];have hxy:x.p<y.p:=by simp [aM]at hle;exact hle
     cases hq:q y with
     | true=>
      rw [List.find?_cons_of_pos (by simpa using hq),List.find?_cons_of_pos (a:=y) (by simpa using hq),pF];intro z hz;refine Int.lt_of_le_of_lt (uZ (x:=x) (fun u hu=>?_) hz) hxy;rcases List.mem_cons.1 hu with rfl | hu
      ·exact Int.le_refl _
      ·have:=hA'.1 u hu;simpa [aM] using this
     | false=>
      rw [List.find?_cons_of_neg (by simp [hq]),List.find?_cons_of_neg (a:=y) (by simp [hq])];exact ih (x::xs) ys (by simp at hn⊢;omega) hA hB'.2
theorem nb (q:Ac→Bool) (l:List Ac):(aU aM l).find? q=iz (l.filter q):=by
 induction l using fU with
 | h0=>rfl
 | h1 A x ih=>
  rw [fI,rO q _ _ _ rfl (dS fZ gb A) (by unfold Asc;simp),ih,List.filter_append,oS];congr 1;cases hq:q x <;>simp [hq,iz,dq]
theorem rL (q:Ac→Bool) (R:List Ac):(aQ R).find? q=iz (R.filter q):=by
 unfold aQ;rw [rO q _ _ _ rfl (dS fZ gb _) (dS fZ gb _),nb,nb, ←oS, ←List.filter_append,List.take_append_drop]
theorem qG (R:List Ac) (x:Ac):x∈aQ R↔x∈R:=by
 unfold aQ;rw [lW,fB,fB, ←List.mem_append,List.take_append_drop]
def idx {α:Type} (p:α→Bool) (l:List α):Int:=match l.findIdx? p with
 | some k=>(k:Int)
 | none=> -1
theorem gW {α:Type} {p:α→Bool} (d:α) {l:List α} {k:Nat} (hk:k<l.length) (h1:∀j,j<k→p (l.getD j d)=false) (h2:p (l.getD k d)=true):idx p l=k:=by
 have e:l.findIdx? p=some k:=by
  rw [List.findIdx?_eq_some_iff_getElem];refine⟨hk,by simpa [List.getD,List.getElem?_eq_getElem hk] using h2,fun j hj=>?_⟩;have:=h1 j hj;simpa [List.getD,List.getElem?_eq_getElem (show j<l.length by omega)] using this
 unfold idx;rw [e]
theorem gP {α:Type} {p:α→Bool} (d:α) {l:List α} (h1:∀j,j<l.length→p (l.getD j d)=false):idx p l= -1:=by
 have e:l.findIdx? p=none:=by
  rw [List.findIdx?_eq_none_iff];intro x hx;obtain⟨j,hj,rfl⟩:=List.getElem_of_mem hx;have:=h1 j hj;simpa [List.getD,List.getElem?_eq_getElem hj] using this
 unfold idx;rw [e]
theorem dN {α:Type} (p:α→Bool) (l:List α):decide (0≤idx p l)=l.any p:=by
 unfold idx;cases h:l.findIdx? p with
 | none=>
  rw [List.findIdx?_eq_none_iff]at h;simp only [Int.reduceNeg,Int.reduceLE,decide_false];symm;rw [List.any_eq_false];intro x hx;simp [h x hx]
 | some k=>
  rw [List.findIdx?_eq_some_iff_getElem]at h;obtain⟨hk,h1,_⟩:=h;have h2:l.any p=true:=by
   rw [List.any_eq_true];exact⟨_,List.getElem_mem hk,h1⟩
  rw [h2];simp
theorem pU {α:Type} (p:α→Bool) (l:List α): -1≤idx p l∧idx p l<l.length:=by
 unfold idx;cases h:l.findIdx? p with
 | none=>exact⟨by simp,by simp <;>omega⟩
 | some k=>
  rw [List.findIdx?_eq_some_iff_getElem]at h;obtain⟨hk,_⟩:=h;exact⟨by simp <;>omega,by simpa using hk⟩
def oY (w:World) (b0:Nat) (p:Sw→Bool):Prop:=∀(W:World) (x:Sw),Below w.heap.size w W→Calls Tryz.prog 109 #[.agg #[.int .i64 x.i,.int .i64 x.t,.int .i64 x.g],.pointer (some ⟨b0,0,none⟩)] W fun e w'=>e= .returned (.bool (p x))∧Below W.heap.size W w'
theorem oW (l:List Sw) (p:Sw→Bool) (v:Value) (b0:Nat) (w:World) (hF:es w v l) (hT:oY w b0 p) (hl:l.length*24≤140737488355328):
  Calls Tryz.prog 70 #[v,.func (.func 109) #[] #[.pointer (some ⟨b0,0,none⟩)]] w fun e w'=>e= .returned (.int .i64 (idx p l))∧Below w.heap.size w w':=by
 have HF:=aa hF;have HT:=aa hT;obtain⟨a,cap,rfl⟩:=hF.slice;clear hF hT;go_enter Tryz.func70,Tryz.ntmps70;go_wp2_with fail
 go_loopw [8] (fun i wr=>∃k:Nat,k≤l.length∧i= .int .i64 k∧Hid (∀j,j<k→p (l.getD j sw0)=false)∧Below w.heap.size w wr) (fun i _=>l.length-(intOf i).toNat)
 case atStart=>exact⟨0,by omega,rfl,aa (fun j h=>absurd h (by omega)),Below.refl _ _⟩
 case round=>
  obtain⟨k,hk,rfl,HALL,hbr⟩:=hrel;by_cases hlt:k<l.length
  ·obtain⟨b,off,cap',e1,hcap, -,g0,g1,g2⟩:=je (RowAt.below HF.out hbr zr) hlt;simp only [Value.slice.injEq,true_and]at e1;obtain⟨rfl,rfl⟩:=e1;have HST:Hid (∀W:World,Below w.heap.size w W→Calls Tryz.prog 109 #[.agg #[.int .i64 (l.getD k sw0).i,.int .i64 (l.getD k sw0).t,.int .i64 (l.getD k sw0).g],.pointer (some ⟨b0,0,none⟩)] W fun e w'=>e= .returned (.bool (p (l.getD k sw0)))∧Below W.heap.size W w'):=fun W hW=>HT.out W _ hW;have HNX:Hid (p (l.getD k sw0)=false→∀j,j<k+1→p (l.getD j sw0)=false):=fun h j hj=>by
    by_cases e:j=k
    ·subst e;exact h
    ·exact HALL.out j (by omega)
   have HFD:Hid (p (l.getD k sw0)=true→idx p l=k):=fun h=>gW sw0 hlt HALL.out h;generalize p (l.getD k sw0)=R at*;generalize (l.getD k sw0).i=y0 at*;generalize (l.getD k sw0).t=y1 at*;generalize (l.getD k sw0).g=y2 at*;have q1:(0:Int)≤(k:Int):=(by omega);have q2:(k:Int)<(l.length:Int):=(by omega);clear HALL;go_wp2_with fail
   refine(ag HST _ ?_).mono ?_
   ·first | exact hbr | exact hbr.drew | exact⟨hbr.os,hbr.tape,hbr.output,hbr.size,hbr.block⟩
   rintro e w1 ⟨rfl,hb1⟩;have HB1:Hid (Below w.heap.size w w1):=hbr.trans (hb1.mono hbr.size);clear hb1 hbr HST g0 g1 g2;cases R
   ·have HN:=aa (HNX.out rfl);clear HNX HFD;go_wp2_with fail
    go_roundw
    case rel=>exact⟨k+1,by omega,by go_num,HN,HB1.out⟩
    case measure=>simp [intOf];omega
   ·have HN:=aa (HFD.out rfl);clear HNX HFD;go_wp2_with fail
    go_ret;exact⟨am HN.out.symm,HB1.out⟩
  ·have HN:Hid (idx p l= -1):=gP sw0 fun i hi=>HALL.out i (by omega);have HB1:=aa hbr;clear HALL hbr;go_wp2_with fail
   go_ret;exact⟨am HN.out.symm,HB1.out⟩
theorem vJ (l:List Sw) (p:Sw→Bool) (v:Value) (b0:Nat) (w:World) (hF:es w v l) (hT:oY w b0 p) (hl:l.length*24≤140737488355328):
  Calls Tryz.prog 108 #[v,.func (.func 109) #[] #[.pointer (some ⟨b0,0,none⟩)]] w fun e w'=>e= .returned (.bool (l.any p))∧Below w.heap.size w w':=by
 have HI:=aa (oW l p v b0 w hF hT hl);have HA:=aa (dN p l);obtain⟨a,cap,rfl⟩:=hF.slice;clear hF hT;generalize idx p l=I at*;go_enter Tryz.func108,Tryz.ntmps108;go_wp2_with fail
 refine(ag HI).mono ?_;rintro e w1 ⟨rfl,hb1⟩;go_wp2_with fail
 go_ret;exact⟨aA HA.out,hb1⟩
def jP (w:World) (b0 b1:Nat) (p:Sw→Bool):Prop:=∀(W:World) (x:Sw),Below w.heap.size w W→Calls Tryz.prog 110 #[.agg #[.int .i64 x.i,.int .i64 x.t,.int .i64 x.g],.pointer (some ⟨b0,0,none⟩),.pointer (some ⟨b1,0,none⟩)] W fun e w'=>e= .returned (.bool (p x))∧Below W.heap.size W w'
theorem sj (l:List Sw) (p:Sw→Bool) (v:Value) (b0 b1:Nat) (w:World) (hF:es w v l) (hT:jP w b0 b1 p) (hl:l.length*24≤140737488355328):
  Calls Tryz.prog 70 #[v,.func (.func 110) #[] #[.pointer (some ⟨b0,0,none⟩),.pointer (some ⟨b1,0,none⟩)]] w fun e w'=>e= .returned (.int .i64 (idx p l))∧Below w.heap.size w w':=by
 have HF:=aa hF;have HT:=aa hT;obtain⟨a,cap,rfl⟩:=hF.slice;clear hF hT;go_enter Tryz.func70,Tryz.ntmps70;go_wp2_with fail
 go_loopw [8] (fun i wr=>∃k:Nat,k≤l.length∧i= .int .i64 k∧Hid (∀j,j<k→p (l.getD j sw0)=false)∧Below w.heap.size w wr) (fun i _=>l.length-(intOf i).toNat)
 case atStart=>exact⟨0,by omega,rfl,aa (fun j h=>absurd h (by omega)),Below.refl _ _⟩
 case round=>
  obtain⟨k,hk,rfl,HALL,hbr⟩:=hrel;by_cases hlt:k<l.length
  ·obtain⟨b,off,cap',e1,hcap, -,g0,g1,g2⟩:=je (RowAt.below HF.out hbr zr) hlt;simp only [Value.slice.injEq,true_and]at e1;obtain⟨rfl,rfl⟩:=e1;have HST:Hid (∀W:World,Below w.heap.size w W→Calls Tryz.prog 110 #[.agg #[.int .i64 (l.getD k sw0).i,.int .i64 (l.getD k sw0).t,.int .i64 (l.getD k sw0).g],.pointer (some ⟨b0,0,none⟩),.pointer (some ⟨b1,0,none⟩)] W fun e w'=>e= .returned (.bool (p (l.getD k sw0)))∧Below W.heap.size W w'):=fun W hW=>HT.out W _ hW;have HNX:Hid (p (l.getD k sw0)=false→∀j,j<k+1→p (l.getD j sw0)=false):=fun h j hj=>by
    by_cases e:j=k
    ·subst e;exact h
    ·exact HALL.out j (by omega)
   have HFD:Hid (p (l.getD k sw0)=true→idx p l=k):=fun h=>gW sw0 hlt HALL.out h;generalize p (l.getD k sw0)=R at*;generalize (l.getD k sw0).i=y0 at*;generalize (l.getD k sw0).t=y1 at*;generalize (l.getD k sw0).g=y2 at*;have q1:(0:Int)≤(k:Int):=(by omega);have q2:(k:Int)<(l.length:Int):=(by omega);clear HALL;go_wp2_with fail
   refine(ag HST _ ?_).mono ?_
   ·first | exact hbr | exact hbr.drew | exact⟨hbr.os,hbr.tape,hbr.output,hbr.size,hbr.block⟩
   rintro e w1 ⟨rfl,hb1⟩;have HB1:Hid (Below w.heap.size w w1):=hbr.trans (hb1.mono hbr.size);clear hb1 hbr HST g0 g1 g2;cases R
   ·have HN:=aa (HNX.out rfl);clear HNX HFD;go_wp2_with fail
    go_roundw
    case rel=>exact⟨k+1,by omega,by go_num,HN,HB1.out⟩
    case measure=>simp [intOf];omega
   ·have HN:=aa (HFD.out rfl);clear HNX HFD;go_wp2_with fail
    go_ret;exact⟨am HN.out.symm,HB1.out⟩
  ·have HN:Hid (idx p l= -1):=gP sw0 fun i hi=>HALL.out i (by omega);have HB1:=aa hbr;clear HALL hbr;go_wp2_with fail
   go_ret;exact⟨am HN.out.symm,HB1.out⟩
theorem rD (l:List Sw) (p:Sw→Bool) (v:Value) (b0 b1:Nat) (w:World) (hF:es w v l) (hT:jP w b0 b1 p) (hl:l.length*24≤140737488355328):
  Calls Tryz.prog 108 #[v,.func (.func 110) #[] #[.pointer (some ⟨b0,0,none⟩),.pointer (some ⟨b1,0,none⟩)]] w fun e w'=>e= .returned (.bool (l.any p))∧Below w.heap.size w w':=by
 have HI:=aa (sj l p v b0 b1 w hF hT hl);have HA:=aa (dN p l);obtain⟨a,cap,rfl⟩:=hF.slice;clear hF hT;generalize idx p l=I at*;go_enter Tryz.func108,Tryz.ntmps108;go_wp2_with fail
 refine(ag HI).mono ?_;rintro e w1 ⟨rfl,hb1⟩;go_wp2_with fail
 go_ret;exact⟨aA HA.out,hb1⟩
def qg (w:World) (b0 b1:Nat) (p:Sw→Bool):Prop:=∀(W:World) (x:Sw),Below w.heap.size w W→Calls Tryz.prog 112 #[.agg #[.int .i64 x.i,.int .i64 x.t,.int .i64 x.g],.pointer (some ⟨b0,0,none⟩),.pointer (some ⟨b1,0,none⟩)] W fun e w'=>e= .returned (.bool (p x))∧Below W.heap.size W w'
theorem vG (l:List Sw) (p:Sw→Bool) (v:Value) (b0 b1:Nat) (w:World) (hF:es w v l) (hT:qg w b0 b1 p) (hl:l.length*24≤140737488355328):
  Calls Tryz.prog 70 #[v,.func (.func 112) #[] #[.pointer (some ⟨b0,0,none⟩),.pointer (some ⟨b1,0,none⟩)]] w fun e w'=>e= .returned (.int .i64 (idx p l))∧Below w.heap.size w w':=by
 have HF:=aa hF;have HT:=aa hT;obtain⟨a,cap,rfl⟩:=hF.slice;clear hF hT;go_enter Tryz.func70,Tryz.ntmps70;go_wp2_with fail
 go_loopw [8] (fun i wr=>∃k:Nat,k≤l.length∧i= .int .i64 k∧Hid (∀j,j<k→p (l.getD j sw0)=false)∧Below w.heap.size w wr) (fun i _=>l.length-(intOf i).toNat)
 case atStart=>exact⟨0,by omega,rfl,aa (fun j h=>absurd h (by omega)),Below.refl _ _⟩
 case round=>
  obtain⟨k,hk,rfl,HALL,hbr⟩:=hrel;by_cases hlt:k<l.length
  ·obtain⟨b,off,cap',e1,hcap, -,g0,g1,g2⟩:=je (RowAt.below HF.out hbr zr) hlt;simp only [Value.slice.injEq,true_and]at e1;obtain⟨rfl,rfl⟩:=e1;have HST:Hid (∀W:World,Below w.heap.size w W→Calls Tryz.prog 112 #[.agg #[.int .i64 (l.getD k sw0).i,.int .i64 (l.getD k sw0).t,.int .i64 (l.getD k sw0).g],.pointer (some ⟨b0,0,none⟩),.pointer (some ⟨b1,0,none⟩)] W fun e w'=>e= .returned (.bool (p (l.getD k sw0)))∧Below W.heap.size W w'):=fun W hW=>HT.out W _ hW;have HNX:Hid (p (l.getD k sw0)=false→∀j,j<k+1→p (l.getD j sw0)=false):=fun h j hj=>by
    by_cases e:j=k
    ·subst e;exact h
    ·exact HALL.out j (by omega)
   have HFD:Hid (p (l.getD k sw0)=true→idx p l=k):=fun h=>gW sw0 hlt HALL.out h;generalize p (l.getD k sw0)=R at*;generalize (l.getD k sw0).i=y0 at*;generalize (l.getD k sw0).t=y1 at*;generalize (l.getD k sw0).g=y2 at*;have q1:(0:Int)≤(k:Int):=(by omega);have q2:(k:Int)<(l.length:Int):=(by omega);clear HALL;go_wp2_with fail
   refine(ag HST _ ?_).mono ?_
   ·first | exact hbr | exact hbr.drew | exact⟨hbr.os,hbr.tape,hbr.output,hbr.size,hbr.block⟩
   rintro e w1 ⟨rfl,hb1⟩;have HB1:Hid (Below w.heap.size w w1):=hbr.trans (hb1.mono hbr.size);clear hb1 hbr HST g0 g1 g2;cases R
   ·have HN:=aa (HNX.out rfl);clear HNX HFD;go_wp2_with fail
    go_roundw
    case rel=>exact⟨k+1,by omega,by go_num,HN,HB1.out⟩
    case measure=>simp [intOf];omega
   ·have HN:=aa (HFD.out rfl);clear HNX HFD;go_wp2_with fail
    go_ret;exact⟨am HN.out.symm,HB1.out⟩
  ·have HN:Hid (idx p l= -1):=gP sw0 fun i hi=>HALL.out i (by omega);have HB1:=aa hbr;clear HALL hbr;go_wp2_with fail
   go_ret;exact⟨am HN.out.symm,HB1.out⟩
theorem vE (l:List Sw) (p:Sw→Bool) (v:Value) (b0 b1:Nat) (w:World) (hF:es w v l) (hT:qg w b0 b1 p) (hl:l.length*24≤140737488355328):
  Calls Tryz.prog 108 #[v,.func (.func 112) #[] #[.pointer (some ⟨b0,0,none⟩),.pointer (some ⟨b1,0,none⟩)]] w fun e w'=>e= .returned (.bool (l.any p))∧Below w.heap.size w w':=by
 have HI:=aa (vG l p v b0 b1 w hF hT hl);have HA:=aa (dN p l);obtain⟨a,cap,rfl⟩:=hF.slice;clear hF hT;generalize idx p l=I at*;go_enter Tryz.func108,Tryz.ntmps108;go_wp2_with fail
 refine(ag HI).mono ?_;rintro e w1 ⟨rfl,hb1⟩;go_wp2_with fail
 go_ret;exact⟨aA HA.out,hb1⟩
def j7 (w:World) (b0:Nat) (p:Pr→Bool):Prop:=∀(W:World) (x:Pr),Below w.heap.size w W→Calls Tryz.prog 72 #[.agg #[.int .i64 x.i,.int .i64 x.s,.int .i64 x.m,.int .i64 x.p,.int .i64 x.c],.pointer (some ⟨b0,0,none⟩)] W fun e w'=>e= .returned (.bool (p x))∧Below W.heap.size W w'
theorem sA (l:List Pr) (p:Pr→Bool) (v:Value) (b0:Nat) (w:World) (hF:eS w v l) (hT:j7 w b0 p) (hl:l.length*40≤140737488355328):
  Calls Tryz.prog 48 #[v,.func (.func 72) #[] #[.pointer (some ⟨b0,0,none⟩)]] w fun e w'=>e= .returned (.int .i64 (idx p l))∧Below w.heap.size w w':=by
 have HF:=aa hF;have HT:=aa hT;obtain⟨a,cap,rfl⟩:=hF.slice;clear hF hT;go_enter Tryz.func48,Tryz.ntmps48;go_wp2_with fail
 go_loopw [8] (fun i wr=>∃k:Nat,k≤l.length∧i= .int .i64 k∧Hid (∀j,j<k→p (l.getD j pr0)=false)∧Below w.heap.size w wr) (fun i _=>l.length-(intOf i).toNat)
 case atStart=>exact⟨0,by omega,rfl,aa (fun j h=>absurd h (by omega)),Below.refl _ _⟩
 case round=>
  obtain⟨k,hk,rfl,HALL,hbr⟩:=hrel;by_cases hlt:k<l.length
  ·obtain⟨b,off,cap',e1,hcap, -,g0,g1,g2,g3,g4⟩:=eO (RowAt.below HF.out hbr zr) hlt;simp only [Value.slice.injEq,true_and]at e1;obtain⟨rfl,rfl⟩:=e1;have HST:Hid (∀W:World,Below w.heap.size w W→Calls Tryz.prog 72 #[.agg #[.int .i64 (l.getD k pr0).i,.int .i64 (l.getD k pr0).s,.int .i64 (l.getD k pr0).m,.int .i64 (l.getD k pr0).p,.int .i64 (l.getD k pr0).c],.pointer (some ⟨b0,0,none⟩)] W fun e w'=>e= .returned (.bool (p (l.getD k pr0)))∧Below W.heap.size W w'):=fun W hW=>HT.out W _ hW;have HNX:Hid (p (l.getD k pr0)=false→∀j,j<k+1→p (l.getD j pr0)=false):=fun h j hj=>by
    by_cases e:j=k
    ·subst e;exact h
    ·exact HALL.out j (by omega)
   have HFD:Hid (p (l.getD k pr0)=true→idx p l=k):=fun h=>gW pr0 hlt HALL.out h;generalize p (l.getD k pr0)=R at*;generalize (l.getD k pr0).i=y0 at*;generalize (l.getD k pr0).s=y1 at*;generalize (l.getD k pr0).m=y2 at*;generalize (l.getD k pr0).p=y3 at*;generalize (l.getD k pr0).c=y4 at*;have q1:(0:Int)≤(k:Int):=(by omega);have q2:(k:Int)<(l.length:Int):=(by omega);clear HALL;go_wp2_with fail
   refine(ag HST _ ?_).mono ?_
   ·first | exact hbr | exact hbr.drew | exact⟨hbr.os,hbr.tape,hbr.output,hbr.size,hbr.block⟩
   rintro e w1 ⟨rfl,hb1⟩;have HB1:Hid (Below w.heap.size w w1):=hbr.trans (hb1.mono hbr.size);clear hb1 hbr HST g0 g1 g2 g3 g4;cases R
   ·have HN:=aa (HNX.out rfl);clear HNX HFD;go_wp2_with fail
    go_roundw
    case rel=>exact⟨k+1,by omega,by go_num,HN,HB1.out⟩
    case measure=>simp [intOf];omega
   ·have HN:=aa (HFD.out rfl);clear HNX HFD;go_wp2_with fail
    go_ret;exact⟨am HN.out.symm,HB1.out⟩
  ·have HN:Hid (idx p l= -1):=gP pr0 fun i hi=>HALL.out i (by omega);have HB1:=aa hbr;clear HALL hbr;go_wp2_with fail
   go_ret;exact⟨am HN.out.symm,HB1.out⟩
theorem qv (l:List Pr) (p:Pr→Bool) (v:Value) (b0:Nat) (w:World) (hF:eS w v l) (hT:j7 w b0 p) (hl:l.length*40≤140737488355328):
  Calls Tryz.prog 94 #[v,.func (.func 72) #[] #[.pointer (some ⟨b0,0,none⟩)]] w fun e w'=>e= .returned (.bool (l.any p))∧Below w.heap.size w w':=by
 have HI:=aa (sA l p v b0 w hF hT hl);have HA:=aa (dN p l);obtain⟨a,cap,rfl⟩:=hF.slice;clear hF hT;generalize idx p l=I at*;go_enter Tryz.func94,Tryz.ntmps94;go_wp2_with fail
 refine(ag HI).mono ?_;rintro e w1 ⟨rfl,hb1⟩;go_wp2_with fail
 go_ret;exact⟨aA HA.out,hb1⟩
def tN (w:World) (b0 b1 b2:Nat) (p:Pr→Bool):Prop:=∀(W:World) (x:Pr),Below w.heap.size w W→Calls Tryz.prog 111 #[.agg #[.int .i64 x.i,.int .i64 x.s,.int .i64 x.m,.int .i64 x.p,.int .i64 x.c],.pointer (some ⟨b0,0,none⟩),.pointer (some ⟨b1,0,none⟩),.pointer (some ⟨b2,0,none⟩)] W fun e w'=>e= .returned (.bool (p x))∧Below W.heap.size W w'
theorem wb (l:List Pr) (p:Pr→Bool) (v:Value) (b0 b1 b2:Nat) (w:World) (hF:eS w v l) (hT:tN w b0 b1 b2 p) (hl:l.length*40≤140737488355328):
  Calls Tryz.prog 48 #[v,.func (.func 111) #[] #[.pointer (some ⟨b0,0,none⟩),.pointer (some ⟨b1,0,none⟩),.pointer (some ⟨b2,0,none⟩)]] w fun e w'=>e= .returned (.int .i64 (idx p l))∧Below w.heap.size w w':=by
 have HF:=aa hF;have HT:=aa hT;obtain⟨a,cap,rfl⟩:=hF.slice;clear hF hT;go_enter Tryz.func48,Tryz.ntmps48;go_wp2_with fail
 go_loopw [8] (fun i wr=>∃k:Nat,k≤l.length∧i= .int .i64 k∧Hid (∀j,j<k→p (l.getD j pr0)=false)∧Below w.heap.size w wr) (fun i _=>l.length-(intOf i).toNat)
 case atStart=>exact⟨0,by omega,rfl,aa (fun j h=>absurd h (by omega)),Below.refl _ _⟩
 case round=>
  obtain⟨k,hk,rfl,HALL,hbr⟩:=hrel;by_cases hlt:k<l.length
  ·obtain⟨b,off,cap',e1,hcap, -,g0,g1,g2,g3,g4⟩:=eO (RowAt.below HF.out hbr zr) hlt;simp only [Value.slice.injEq,true_and]at e1;obtain⟨rfl,rfl⟩:=e1;have HST:Hid (∀W:World,Below w.heap.size w W→Calls Tryz.prog 111 #[.agg #[.int .i64 (l.getD k pr0).i,.int .i64 (l.getD k pr0).s,.int .i64 (l.getD k pr0).m,.int .i64 (l.getD k pr0).p,.int .i64 (l.getD k pr0).c],.pointer (some ⟨b0,0,none⟩),.pointer (some ⟨b1,0,none⟩),.pointer (some ⟨b2,0,none⟩)] W fun e w'=>e= .returned (.bool (p (l.getD k pr0)))∧Below W.heap.size W w'):=fun W hW=>HT.out W _ hW;have HNX:Hid (p (l.getD k pr0)=false→∀j,j<k+1→p (l.getD j pr0)=false):=fun h j hj=>by
    by_cases e:j=k
    ·subst e;exact h
    ·exact HALL.out j (by omega)
   have HFD:Hid (p (l.getD k pr0)=true→idx p l=k):=fun h=>gW pr0 hlt HALL.out h;generalize p (l.getD k pr0)=R at*;generalize (l.getD k pr0).i=y0 at*;generalize (l.getD k pr0).s=y1 at*;generalize (l.getD k pr0).m=y2 at*;generalize (l.getD k pr0).p=y3 at*;generalize (l.getD k pr0).c=y4 at*;have q1:(0:Int)≤(k:Int):=(by omega);have q2:(k:Int)<(l.length:Int):=(by omega);clear HALL;go_wp2_with fail
   refine(ag HST _ ?_).mono ?_
   ·first | exact hbr | exact hbr.drew | exact⟨hbr.os,hbr.tape,hbr.output,hbr.size,hbr.block⟩
   rintro e w1 ⟨rfl,hb1⟩;have HB1:Hid (Below w.heap.size w w1):=hbr.trans (hb1.mono hbr.size);clear hb1 hbr HST g0 g1 g2 g3 g4;cases R
   ·have HN:=aa (HNX.out rfl);clear HNX HFD;go_wp2_with fail
    go_roundw
    case rel=>exact⟨k+1,by omega,by go_num,HN,HB1.out⟩
    case measure=>simp [intOf];omega
   ·have HN:=aa (HFD.out rfl);clear HNX HFD;go_wp2_with fail
    go_ret;exact⟨am HN.out.symm,HB1.out⟩
  ·have HN:Hid (idx p l= -1):=gP pr0 fun i hi=>HALL.out i (by omega);have HB1:=aa hbr;clear HALL hbr;go_wp2_with fail
   go_ret;exact⟨am HN.out.symm,HB1.out⟩
theorem vH (l:List Pr) (p:Pr→Bool) (v:Value) (b0 b1 b2:Nat) (w:World) (hF:eS w v l) (hT:tN w b0 b1 b2 p) (hl:l.length*40≤140737488355328):
  Calls Tryz.prog 94 #[v,.func (.func 111) #[] #[.pointer (some ⟨b0,0,none⟩),.pointer (some ⟨b1,0,none⟩),.pointer (some ⟨b2,0,none⟩)]] w fun e w'=>e= .returned (.bool (l.any p))∧Below w.heap.size w w':=by
 have HI:=aa (wb l p v b0 b1 b2 w hF hT hl);have HA:=aa (dN p l);obtain⟨a,cap,rfl⟩:=hF.slice;clear hF hT;generalize idx p l=I at*;go_enter Tryz.func94,Tryz.ntmps94;go_wp2_with fail
 refine(ag HI).mono ?_;rintro e w1 ⟨rfl,hb1⟩;go_wp2_with fail
 go_ret;exact⟨aA HA.out,hb1⟩
def inB (n a b:Int):Bool:=decide (a≤n∧n≤b)
theorem dd (n a b:Int) (w:World):
  Calls Tryz.prog 64 #[.int .i64 n,.int .i64 a,.int .i64 b] w fun e w'=>e= .returned (.bool (inB n a b))∧w'=w:=by
 go_enter Tryz.func64,Tryz.ntmps64;go_wp2
 all_goals go_ret
 all_goals refine⟨aA ?_,rfl⟩
 all_goals (unfold inB;rw [Bool.eq_iff_iff];simp_all;try omega)
theorem eT (n:Int) (w:World):
  Calls Tryz.prog 65 #[.int .i64 n] w fun e w'=>e= .returned (.bool (inB n 0 65535))∧w'=w:=by
 go_enter Tryz.func65,Tryz.ntmps65;go_wp2_with (go_at_call 64;refine(dd _ _ _ _).mono ?_;rintro e w' ⟨rfl,rfl⟩)
 go_ret;exact⟨rfl,rfl⟩
theorem jk (n:Int) (w:World):
  Calls Tryz.prog 107 #[.int .i64 n] w fun e w'=>e= .returned (.bool (inB n (-1) 5))∧w'=w:=by
 go_enter Tryz.func107,Tryz.ntmps107;go_wp2_with (go_at_call 64;refine(dd _ _ _ _).mono ?_;rintro e w' ⟨rfl,rfl⟩)
 go_ret;exact⟨rfl,rfl⟩
def fT (x:Pr):Bool:=inB x.i 1 999&&inB x.m 1 59999&&inB x.p 1 65535&&inB x.c (-1) 5
theorem kI (i s m p c:Int) (w:World):
  Calls Tryz.prog 69 #[.agg #[.int .i64 i,.int .i64 s,.int .i64 m,.int .i64 p,.int .i64 c]] w fun e w'=>e= .returned (.bool (fT ⟨i,s,m,p,c⟩))∧Below w.heap.size w w':=by
 go_enter Tryz.func69,Tryz.ntmps69;go_wp2_with (first |(go_at_call 64;refine(dd _ _ _ _).mono ?_;rintro e w' ⟨rfl,rfl⟩) |(go_at_call 107;refine(jk _ _).mono ?_;rintro e w' ⟨rfl,rfl⟩))
 all_goals go_ret
 all_goals refine⟨aA ?_,(Below.refl _ _).alloc zr _⟩
 all_goals (unfold fT;simp_all)
def fG (x:Ac):Bool:=inB x.p 0 1000&&inB x.src 0 65535&&inB x.dst 0 65535&&inB x.sb 0 16&&inB x.db 0 16&&inB x.o (-1) 65535
theorem lJ (s p:Int) (n:Bool) (src sb dst db o:Int) (d:Bool) (w:World):
  Calls Tryz.prog 73 #[.agg #[.int .i64 s,.int .i64 p,.bool n,.int .i64 src,.int .i64 sb,.int .i64 dst,.int .i64 db,.int .i64 o,.bool d]] w fun e w'=>e= .returned (.bool (fG ⟨s,p,n,src,sb,dst,db,o,d⟩))∧Below w.heap.size w w':=by
 go_enter Tryz.func73,Tryz.ntmps73;go_wp2_with (first |(go_at_call 64;refine(dd _ _ _ _).mono ?_;rintro e w' ⟨rfl,rfl⟩) |(go_at_call 65;refine(eT _ _).mono ?_;rintro e w' ⟨rfl,rfl⟩))
 all_goals go_ret
 all_goals refine⟨aA ?_,(Below.refl _ _).alloc zr _⟩
 all_goals (unfold fG;simp_all)
theorem qU (x:Sw) (id:Int) (b:Nat) (w:World) (h:w.cell? ⟨b,0,none⟩=some (.int .i64 id)):
  Calls Tryz.prog 109 #[.agg #[.int .i64 x.i,.int .i64 x.t,.int .i64 x.g],.pointer (some ⟨b,0,none⟩)] w fun e w'=>e= .returned (.bool (x.i==id))∧Below w.heap.size w w':=by
 have hlt:=aq h;have hne:b≠w.heap.size:=by omega
 go_enter Tryz.func109,Tryz.ntmps109;go_wp2
 all_goals go_ret
 all_goals exact⟨aA (by rw [Bool.eq_iff_iff] <;>simp),(Below.refl _ _).alloc zr _⟩
theorem sU {w:World} {b:Nat} {id:Int} (h:w.cell? ⟨b,0,none⟩=some (.int .i64 id)):oY w b (fun x=>x.i==id):=fun W x hW=>qU x id b W (zC h hW)
theorem tA (x:Sw) (tenant ip:Int) (b c:Nat) (w:World) (h:w.cell? ⟨b,0,none⟩=some (.int .i64 tenant)) (h2:w.cell? ⟨c,0,none⟩=some (.int .i64 ip)):
  Calls Tryz.prog 110 #[.agg #[.int .i64 x.i,.int .i64 x.t,.int .i64 x.g],.pointer (some ⟨b,0,none⟩),.pointer (some ⟨c,0,none⟩)] w fun e w'=>e= .returned (.bool (x.t==tenant&&x.g==ip))∧Below w.heap.size w w':=by
 have hlt:=aq h;have hne:b≠w.heap.size:=by omega
 have hlt2:=aq h2;have hne2:c≠w.heap.size:=by omega
 go_enter Tryz.func110,Tryz.ntmps110;go_wp2
 all_goals go_ret
 all_goals exact⟨aA (by rw [Bool.eq_iff_iff];simp_all),(Below.refl _ _).alloc zr _⟩
theorem yu {w:World} {b c:Nat} {tenant ip:Int} (h:w.cell? ⟨b,0,none⟩=some (.int .i64 tenant)) (h2:w.cell? ⟨c,0,none⟩=some (.int .i64 ip)):jP w b c (fun x=>x.t==tenant&&x.g==ip):=fun W x hW=>tA x tenant ip b c W (zC h hW) (zC h2 hW)
theorem ze (x:Sw) (s tenant:Int) (b c:Nat) (w:World) (h:w.cell? ⟨b,1,none⟩=some (.int .i64 s)) (h2:w.cell? ⟨c,0,none⟩=some (.int .i64 tenant)):
  Calls Tryz.prog 112 #[.agg #[.int .i64 x.i,.int .i64 x.t,.int .i64 x.g],.pointer (some ⟨b,0,none⟩),.pointer (some ⟨c,0,none⟩)] w fun e w'=>e= .returned (.bool (x.i==s&&x.t==tenant))∧Below w.heap.size w w':=by
 have hlt:=aq h;have hne:b≠w.heap.size:=by omega
 have hlt2:=aq h2;have hne2:c≠w.heap.size:=by omega
 go_enter Tryz.func112,Tryz.ntmps112;go_wp2
 all_goals go_ret
 all_goals exact⟨aA (by rw [Bool.eq_iff_iff];simp_all),(Below.refl _ _).alloc zr _⟩
theorem Bb {w:World} {b c:Nat} {s tenant:Int} (h:w.cell? ⟨b,1,none⟩=some (.int .i64 s)) (h2:w.cell? ⟨c,0,none⟩=some (.int .i64 tenant)):qg w b c (fun x=>x.i==s&&x.t==tenant):=fun W x hW=>ze x s tenant b c W (zC h hW) (zC h2 hW)
theorem sE (x:Pr) (i s m:Int) (b:Nat) (w:World) (h:w.cell? ⟨b,0,none⟩=some (.int .i64 i)) (h1:w.cell? ⟨b,1,none⟩=some (.int .i64 s)) (h2:w.cell? ⟨b,2,none⟩=some (.int .i64 m)):
  Calls Tryz.prog 72 #[.agg #[.int .i64 x.i,.int .i64 x.s,.int .i64 x.m,.int .i64 x.p,.int .i64 x.c],.pointer (some ⟨b,0,none⟩)] w fun e w'=>e= .returned (.bool (x.i==i|| x.s==s&&x.m==m))∧Below w.heap.size w w':=by
 have hlt:=aq h;have hne:b≠w.heap.size:=by omega
 go_enter Tryz.func72,Tryz.ntmps72;go_wp2
 all_goals go_ret
 all_goals exact⟨aA (by rw [Bool.eq_iff_iff];simp_all),(Below.refl _ _).alloc zr _⟩
theorem zm {w:World} {b:Nat} {i s m:Int} (h:w.cell? ⟨b,0,none⟩=some (.int .i64 i)) (h1:w.cell? ⟨b,1,none⟩=some (.int .i64 s)) (h2:w.cell? ⟨b,2,none⟩=some (.int .i64 m)):j7 w b (fun x=>x.i==i|| x.s==s&&x.m==m):=
 fun W x hW=>sE x i s m b W (zC h hW) (zC h1 hW) (zC h2 hW)
theorem hJ (sv pv av:Value) (S:List Sw) (p:Sw→Bool) (b0:Nat) (w:World) (hF:es w sv S) (hpv:∃o n c,pv= .slice o n c) (hav:∃o n c,av= .slice o n c) (hT:oY w b0 p) (hl:S.length*24≤140737488355328):
  Calls Tryz.prog 66 #[.agg #[sv,pv,av],.func (.func 109) #[] #[.pointer (some ⟨b0,0,none⟩)]] w fun e w'=>e= .returned (.bool (S.any p))∧Below w.heap.size w w':=by
 have HI:=aa (fun W (hW:Below w.heap.size w W)=>vJ S p sv b0 W (RowAt.below hF hW zr) (fun W' x hW'=>hT W' x (hW.trans (hW'.mono hW.size))) hl);obtain⟨o1,c1,rfl⟩:=hF.slice;obtain⟨o2,n2,c2,rfl⟩:=hpv;obtain⟨o3,n3,c3,rfl⟩:=hav;clear hF hT;generalize S.any p=R at*;go_enter Tryz.func66,Tryz.ntmps66;go_wp2_with fail
 have hb0:Below w.heap.size w (w.alloc (.cells #[.slice o1 S.length c1,.slice o2 n2 c2,.slice o3 n3 c3] 30)):=(Below.refl _ _).alloc zr _;refine(ag HI _ hb0).mono ?_;rintro e w1 ⟨rfl,hb1⟩;have hb:=hb0.trans (hb1.mono hb0.size);clear hb1 hb0 HI;go_wp2_with fail
 go_ret;exact⟨rfl,hb⟩
theorem ko (sv pv av:Value) (S:List Sw) (p:Sw→Bool) (b0 b1:Nat) (w:World) (hF:es w sv S) (hpv:∃o n c,pv= .slice o n c) (hav:∃o n c,av= .slice o n c) (hT:jP w b0 b1 p) (hl:S.length*24≤140737488355328):
  Calls Tryz.prog 66 #[.agg #[sv,pv,av],.func (.func 110) #[] #[.pointer (some ⟨b0,0,none⟩),.pointer (some ⟨b1,0,none⟩)]] w fun e w'=>e= .returned (.bool (S.any p))∧Below w.heap.size w w':=by
 have HI:=aa (fun W (hW:Below w.heap.size w W)=>rD S p sv b0 b1 W (RowAt.below hF hW zr) (fun W' x hW'=>hT W' x (hW.trans (hW'.mono hW.size))) hl);obtain⟨o1,c1,rfl⟩:=hF.slice;obtain⟨o2,n2,c2,rfl⟩:=hpv;obtain⟨o3,n3,c3,rfl⟩:=hav;clear hF hT;generalize S.any p=R at*;go_enter Tryz.func66,Tryz.ntmps66;go_wp2_with fail
 have hb0:Below w.heap.size w (w.alloc (.cells #[.slice o1 S.length c1,.slice o2 n2 c2,.slice o3 n3 c3] 30)):=(Below.refl _ _).alloc zr _;refine(ag HI _ hb0).mono ?_;rintro e w1 ⟨rfl,hb1⟩;have hb:=hb0.trans (hb1.mono hb0.size);clear hb1 hb0 HI;go_wp2_with fail
 go_ret;exact⟨rfl,hb⟩
theorem lQ (sv pv av:Value) (S:List Sw) (p:Sw→Bool) (b0 b1:Nat) (w:World) (hF:es w sv S) (hpv:∃o n c,pv= .slice o n c) (hav:∃o n c,av= .slice o n c) (hT:qg w b0 b1 p) (hl:S.length*24≤140737488355328):
  Calls Tryz.prog 66 #[.agg #[sv,pv,av],.func (.func 112) #[] #[.pointer (some ⟨b0,0,none⟩),.pointer (some ⟨b1,0,none⟩)]] w fun e w'=>e= .returned (.bool (S.any p))∧Below w.heap.size w w':=by
 have HI:=aa (fun W (hW:Below w.heap.size w W)=>vE S p sv b0 b1 W (RowAt.below hF hW zr) (fun W' x hW'=>hT W' x (hW.trans (hW'.mono hW.size))) hl);obtain⟨o1,c1,rfl⟩:=hF.slice;obtain⟨o2,n2,c2,rfl⟩:=hpv;obtain⟨o3,n3,c3,rfl⟩:=hav;clear hF hT;generalize S.any p=R at*;go_enter Tryz.func66,Tryz.ntmps66;go_wp2_with fail
 have hb0:Below w.heap.size w (w.alloc (.cells #[.slice o1 S.length c1,.slice o2 n2 c2,.slice o3 n3 c3] 30)):=(Below.refl _ _).alloc zr _;refine(ag HI _ hb0).mono ?_;rintro e w1 ⟨rfl,hb1⟩;have hb:=hb0.trans (hb1.mono hb0.size);clear hb1 hb0 HI;go_wp2_with fail
 go_ret;exact⟨rfl,hb⟩
theorem lS (sv pv av:Value) (P:List Pr) (p:Pr→Bool) (b0:Nat) (w:World) (hsv:∃o n c,sv= .slice o n c) (hF:eS w pv P) (hav:∃o n c,av= .slice o n c) (hT:j7 w b0 p) (hl:P.length*40≤140737488355328):
  Calls Tryz.prog 71 #[.agg #[sv,pv,av],.func (.func 72) #[] #[.pointer (some ⟨b0,0,none⟩)]] w fun e w'=>e= .returned (.bool (P.any p))∧Below w.heap.size w w':=by
 have HI:=aa (fun W (hW:Below w.heap.size w W)=>qv P p pv b0 W (RowAt.below hF hW zr) (fun W' x hW'=>hT W' x (hW.trans (hW'.mono hW.size))) hl);obtain⟨o1,c1,rfl⟩:=hF.slice;obtain⟨o2,n2,c2,rfl⟩:=hsv;obtain⟨o3,n3,c3,rfl⟩:=hav;clear hF hT;generalize P.any p=R at*;go_enter Tryz.func71,Tryz.ntmps71;go_wp2_with fail
 have hb0:Below w.heap.size w (w.alloc (.cells #[.slice o2 n2 c2,.slice o1 P.length c1,.slice o3 n3 c3] 30)):=(Below.refl _ _).alloc zr _;refine(ag HI _ hb0).mono ?_;rintro e w1 ⟨rfl,hb1⟩;have hb:=hb0.trans (hb1.mono hb0.size);clear hb1 hb0 HI;go_wp2_with fail
 go_ret;exact⟨rfl,hb⟩
theorem nJ (sv pv av:Value) (P:List Pr) (p:Pr→Bool) (b0 b1 b2:Nat) (w:World) (hsv:∃o n c,sv= .slice o n c) (hF:eS w pv P) (hav:∃o n c,av= .slice o n c) (hT:tN w b0 b1 b2 p) (hl:P.length*40≤140737488355328):
  Calls Tryz.prog 71 #[.agg #[sv,pv,av],.func (.func 111) #[] #[.pointer (some ⟨b0,0,none⟩),.pointer (some ⟨b1,0,none⟩),.pointer (some ⟨b2,0,none⟩)]] w fun e w'=>e= .returned (.bool (P.any p))∧Below w.heap.size w w':=by
 have HI:=aa (fun W (hW:Below w.heap.size w W)=>vH P p pv b0 b1 b2 W (RowAt.below hF hW zr) (fun W' x hW'=>hT W' x (hW.trans (hW'.mono hW.size))) hl);obtain⟨o1,c1,rfl⟩:=hF.slice;obtain⟨o2,n2,c2,rfl⟩:=hsv;obtain⟨o3,n3,c3,rfl⟩:=hav;clear hF hT;generalize P.any p=R at*;go_enter Tryz.func71,Tryz.ntmps71;go_wp2_with fail
 have hb0:Below w.heap.size w (w.alloc (.cells #[.slice o2 n2 c2,.slice o1 P.length c1,.slice o3 n3 c3] 30)):=(Below.refl _ _).alloc zr _;refine(ag HI _ hb0).mono ?_;rintro e w1 ⟨rfl,hb1⟩;have hb:=hb0.trans (hb1.mono hb0.size);clear hb1 hb0 HI;go_wp2_with fail
 go_ret;exact⟨rfl,hb⟩
def bZ (S:List Sw) (P:List Pr) (t ip:Int):Bool:=S.any (fun x=>x.t==t&&x.g==ip)|| P.any (fun x=>x.p==ip&&S.any (fun s=>s.i==x.s&&s.t==t))
theorem dh {α:Type} {C:α→List Value} {sz:Nat} {w:World} {v:Value} {l:List α} (h:RowAt C sz w v l):∃o n c,v= .slice o n c:=by
 obtain⟨o,c,h⟩:=h.slice;exact⟨o,_,c,h⟩
theorem xG (x:Pr) (S:List Sw) (sv pv av:Value) (ip t:Int) (bi bc bt:Nat) (w:World) (hS:es w sv S) (hpv:∃o n c,pv= .slice o n c) (hav:∃o n c,av= .slice o n c) (h1:w.cell? ⟨bi,0,none⟩=some (.int .i64 ip)) (h2:w.cell? ⟨bc,0,none⟩=some sv) (h3:w.cell? ⟨bc,1,none⟩=some pv) (h4:w.cell? ⟨bc,2,none⟩=some av)
  (h5:w.cell? ⟨bt,0,none⟩=some (.int .i64 t)) (hl:S.length*24≤140737488355328):
  Calls Tryz.prog 111 #[.agg #[.int .i64 x.i,.int .i64 x.s,.int .i64 x.m,.int .i64 x.p,.int .i64 x.c],.pointer (some ⟨bi,0,none⟩),.pointer (some ⟨bc,0,none⟩),.pointer (some ⟨bt,0,none⟩)] w fun e w'=>e= .returned (.bool (x.p==ip&&S.any (fun s=>s.i==x.s&&s.t==t)))∧Below w.heap.size w w':=by
 have q1:=aq h1;have q2:=aq h2;have q5:=aq h5;have n1:bi≠w.heap.size:=by omega
 have n2:bc≠w.heap.size:=by omega
 have n5:bt≠w.heap.size:=by omega
 obtain⟨xi,xs,xm,xp,xc⟩:=x;have HS:=aa hS;have HH:Hid (∀W:World,Below w.heap.size w W→W.cell? ⟨w.heap.size,1,none⟩=some (.int .i64 xs)→Calls Tryz.prog 66 #[.agg #[sv,pv,av],.func (.func 112) #[] #[.pointer (some ⟨w.heap.size,0,none⟩),.pointer (some ⟨bt,0,none⟩)]] W fun e w'=>e= .returned (.bool (S.any (fun s=>s.i==xs&&s.t==t)))∧Below W.heap.size W w'):=
  fun W hW hx=>lQ sv pv av S _ w.heap.size bt W (RowAt.below hS hW zr) hpv hav (Bb hx (zC h5 hW)) hl
 obtain⟨s1,s2,rfl⟩:=hS.slice;obtain⟨p1,pn,p2,rfl⟩:=hpv;obtain⟨a1,an,a2,rfl⟩:=hav;clear hS;generalize S.any (fun s=>s.i==xs&&s.t==t)=R at*;have hb0:Below w.heap.size w (w.alloc (.cells #[.int .i64 xi,.int .i64 xs,.int .i64 xm,.int .i64 xp,.int .i64 xc] 38)):=(Below.refl _ _).alloc zr _;go_enter Tryz.func111,Tryz.ntmps111;by_cases hx:xp=ip
 ·subst hx;go_wp2_with fail
  refine(ag HH _ hb0 (by simp)).mono ?_;rintro e w1 ⟨rfl,hb1⟩;have hb:=hb0.trans (hb1.mono hb0.size);clear hb1 hb0 HH;go_wp2_with fail
  go_ret;exact⟨aA (by simp),hb⟩
 ·clear HH;go_wp2;go_ret;exact⟨aA (by simp [hx]),hb0⟩
theorem lm (sv pv av:Value) (S:List Sw) (P:List Pr) (A:List Ac) (t ip:Int) (w:World) (hC:CfAt w sv pv av S P A) (h1:S.length*24≤140737488355328) (h2:P.length*40≤140737488355328):
  Calls Tryz.prog 68 #[.agg #[sv,pv,av],.int .i64 t,.int .i64 ip] w fun e w'=>e= .returned (.bool (bZ S P t ip))∧Below w.heap.size w w':=by
 have HC:=aa hC;have HG:Hid (∀W:World,Below w.heap.size w W→W.cell? ⟨w.heap.size+1,0,none⟩=some (.int .i64 t)→W.cell? ⟨w.heap.size+1+1,0,none⟩=some (.int .i64 ip)→Calls Tryz.prog 66 #[.agg #[sv,pv,av],.func (.func 110) #[] #[.pointer (some ⟨w.heap.size+1,0,none⟩),.pointer (some ⟨w.heap.size+1+1,0,none⟩)]] W fun e w'=>e= .returned (.bool (S.any (fun x=>x.t==t&&x.g==ip)))∧Below W.heap.size W w'):=
  fun W hW a b=>ko sv pv av S _ _ _ W (RowAt.below hC.1 hW zr) (dh hC.2.1) (dh hC.2.2) (yu a b) h1
 have HP:Hid (∀W:World,Below w.heap.size w W→W.cell? ⟨w.heap.size,0,none⟩=some sv→W.cell? ⟨w.heap.size,1,none⟩=some pv→W.cell? ⟨w.heap.size,2,none⟩=some av→W.cell? ⟨w.heap.size+1,0,none⟩=some (.int .i64 t)→W.cell? ⟨w.heap.size+1+1,0,none⟩=some (.int .i64 ip)→
   Calls Tryz.prog 71 #[.agg #[sv,pv,av],.func (.func 111) #[] #[.pointer (some ⟨w.heap.size+1+1,0,none⟩),.pointer (some ⟨w.heap.size,0,none⟩),.pointer (some ⟨w.heap.size+1,0,none⟩)]] W fun e w'=>e= .returned (.bool (P.any (fun x=>x.p==ip&&S.any (fun s=>s.i==x.s&&s.t==t))))∧Below W.heap.size W w'):=
  fun W hW c0 c1 c2 a b=>nJ sv pv av P _ _ _ _ W (dh hC.1) (RowAt.below hC.2.1 hW zr) (dh hC.2.2)
   (fun W' x hW'=>xG x S sv pv av ip t _ _ _ W' (RowAt.below hC.1 (hW.trans (hW'.mono hW.size)) zr) (dh hC.2.1) (dh hC.2.2) (aW b hW' zr) (aW c0 hW' zr) (aW c1 hW' zr) (aW c2 hW' zr) (aW a hW' zr) h1) h2
 have HR:Hid (bZ S P t ip=(S.any (fun x=>x.t==t&&x.g==ip)|| P.any (fun x=>x.p==ip&&S.any (fun s=>s.i==x.s&&s.t==t)))):=rfl;generalize bZ S P t ip=R at*;generalize S.any (fun x=>x.t==t&&x.g==ip)=R1 at*;generalize P.any (fun x=>x.p==ip&&S.any (fun s=>s.i==x.s&&s.t==t))=R2 at*;obtain⟨s1,s2,rfl⟩:=hC.1.slice;obtain⟨p1,p2,rfl⟩:=hC.2.1.slice;obtain⟨a1,a2,rfl⟩:=hC.2.2.slice;clear hC HC;go_enter Tryz.func68,Tryz.ntmps68;go_wp2_with fail
 obtain⟨W0,hW0⟩:∃W0,W0=((w.alloc (.cells #[.slice s1 S.length s2,.slice p1 P.length p2,.slice a1 A.length a2] 30)).alloc (.cells #[.int .i64 t] 3)).alloc (.cells #[.int .i64 ip] 3):=⟨_,rfl⟩;have hb0:Below w.heap.size w W0:=by rw [hW0];exact(((Below.refl _ _).alloc zr _).alloc (by simp) _).alloc (by simp;omega) _
 have c0:W0.cell? ⟨w.heap.size,0,none⟩=some (.slice s1 S.length s2):=by rw [hW0];exact aG (aG (ah w _ rfl _ _ _ _ rfl) _) _
 have c1:W0.cell? ⟨w.heap.size,1,none⟩=some (.slice p1 P.length p2):=by rw [hW0];exact aG (aG (ah w _ rfl _ _ _ _ rfl) _) _
 have c2:W0.cell? ⟨w.heap.size,2,none⟩=some (.slice a1 A.length a2):=by rw [hW0];exact aG (aG (ah w _ rfl _ _ _ _ rfl) _) _
 have ct:W0.cell? ⟨w.heap.size+1,0,none⟩=some (.int .i64 t):=by rw [hW0];exact aG (ah _ _ (by simp) _ _ _ _ rfl) _
 have ci:W0.cell? ⟨w.heap.size+1+1,0,none⟩=some (.int .i64 ip):=by rw [hW0];exact ah _ _ (by simp) _ _ _ _ rfl
 rw [←hW0];clear hW0;refine(ag HG _ hb0 ct ci).mono ?_;rintro e w1 ⟨rfl,hb1⟩;have z0:=zC c0 hb1;have z1:=zC c1 hb1;have z2:=zC c2 hb1;have zt:=zC ct hb1;have zi:=zC ci hb1;have hb01:=hb0.trans (hb1.mono hb0.size);clear c0 c1 c2 ct ci hb0 hb1 HG;cases R1
 ·go_wp2_with fail
  refine(ag HP _ hb01 z0 z1 z2 zt zi).mono ?_;rintro e w2 ⟨rfl,hb2⟩;have hb:=hb01.trans (hb2.mono hb01.size);clear z0 z1 z2 zt zi hb01 hb2 HP;go_wp2_with fail
  go_ret;exact⟨aA (by rw [HR.out];simp),hb⟩
 ·clear z0 z1 z2 zt zi HP;go_wp2;go_ret;exact⟨aA (by rw [HR.out];simp),hb01⟩
def bl (S:List Sw) (P:List Pr) (x:Sw):Int:=
 if(inB x.i 1 500&&inB x.t 1 9&&inB x.g 0 65535)=false then 2 else if(S.any (fun s=>s.i==x.i)|| (x.g != 0&&bZ S P x.t x.g))=true then 7 else if 12≤S.length then 1 else 0
theorem eA (id:Int) (w:World):Calls Tryz.prog 67 #[.int .i64 id] w fun e w'=>∃b,e= .returned (.func (.func 109) #[] #[.pointer (some ⟨b,0,none⟩)])∧w'.cell? ⟨b,0,none⟩=some (.int .i64 id)∧Below w.heap.size w w':=by
 go_enter Tryz.func67,Tryz.ntmps67;go_wp2;go_ret;exact⟨_,rfl,ah _ _ rfl _ _ _ _ rfl,(Below.refl _ _).alloc zr _⟩
theorem ig (sv pv av:Value) (S:List Sw) (P:List Pr) (A:List Ac) (x:Sw) (w:World) (hC:CfAt w sv pv av S P A) (h1:S.length*24≤140737488355328) (h2:P.length*40≤140737488355328):
  Calls Tryz.prog 38 #[.agg #[sv,pv,av],.agg #[.int .i64 x.i,.int .i64 x.t,.int .i64 x.g]] w fun e w'=>e= .returned (.int .i64 (bl S P x))∧Below w.heap.size w w':=by
 obtain⟨xi,xt,xg⟩:=x;have HI:Hid (∀(W:World) (b:Nat),Below w.heap.size w W→W.cell? ⟨b,0,none⟩=some (.int .i64 xi)→Calls Tryz.prog 66 #[.agg #[sv,pv,av],.func (.func 109) #[] #[.pointer (some ⟨b,0,none⟩)]] W fun e w'=>e= .returned (.bool (S.any (fun s=>s.i==xi)))∧Below W.heap.size W w'):=
  fun W b hW a=>hJ sv pv av S _ _ W (RowAt.below hC.1 hW zr) (dh hC.2.1) (dh hC.2.2) (sU a) h1
 have HT:Hid (∀W:World,Below w.heap.size w W→Calls Tryz.prog 68 #[.agg #[sv,pv,av],.int .i64 xt,.int .i64 xg] W fun e w'=>e= .returned (.bool (bZ S P xt xg))∧Below W.heap.size W w'):=fun W hW=>lm sv pv av S P A xt xg W (hC.below hW zr) h1 h2;have HR:Hid (bl S P ⟨xi,xt,xg⟩=if(inB xi 1 500&&inB xt 1 9&&inB xg 0 65535)=false then 2 else if(S.any (fun s=>s.i==xi)|| (xg != 0&&bZ S P xt xg))=true then 7 else if 12≤S.length then 1 else 0):=rfl;generalize bl S P ⟨xi,xt,xg⟩=R at*;generalize S.any (fun s=>s.i==xi)=R1 at*;generalize bZ S P xt xg=R2 at*;obtain⟨s1,s2,rfl⟩:=hC.1.slice;obtain⟨p1,p2,rfl⟩:=hC.2.1.slice;obtain⟨a1,a2,rfl⟩:=hC.2.2.slice;clear hC;simp only;by_cases hr1:inB xi 1 500=true
 ·by_cases hr2:inB xt 1 9=true
  ·by_cases hr3:inB xg 0 65535=true
   ·go_enter Tryz.func38,Tryz.ntmps38;go_wp2_with (first |(go_at_call 64;refine(dd _ _ _ _).mono ?_;rintro e w' ⟨rfl,rfl⟩) |(go_at_call 65;refine(eT _ _).mono ?_;rintro e w' ⟨rfl,rfl⟩))
    obtain⟨W0,hW0⟩:∃W0,W0=(w.alloc (.cells #[.slice s1 S.length s2,.slice p1 P.length p2,.slice a1 A.length a2] 30)).alloc (.cells #[.int .i64 xi,.int .i64 xt,.int .i64 xg] 36):=⟨_,rfl⟩;have hb0:Below w.heap.size w W0:=by rw [hW0];exact((Below.refl _ _).alloc zr _).alloc (by simp) _
    have q0:W0.cell? ⟨w.heap.size,0,none⟩=some (.slice s1 S.length s2):=by rw [hW0];exact aG (ah w _ rfl _ _ _ _ rfl) _
    have q1:W0.cell? ⟨w.heap.size,1,none⟩=some (.slice p1 P.length p2):=by rw [hW0];exact aG (ah w _ rfl _ _ _ _ rfl) _
    have q2:W0.cell? ⟨w.heap.size,2,none⟩=some (.slice a1 A.length a2):=by rw [hW0];exact aG (ah w _ rfl _ _ _ _ rfl) _
    have q3:W0.cell? ⟨w.heap.size+1,0,none⟩=some (.int .i64 xi):=by rw [hW0];exact ah _ _ (by simp) _ _ _ _ rfl
    have q4:W0.cell? ⟨w.heap.size+1,1,none⟩=some (.int .i64 xt):=by rw [hW0];exact ah _ _ (by simp) _ _ _ _ rfl
    have q5:W0.cell? ⟨w.heap.size+1,2,none⟩=some (.int .i64 xg):=by rw [hW0];exact ah _ _ (by simp) _ _ _ _ rfl
    rw [←hW0];clear hW0;cases R1
    ·by_cases hg:xg=0
     ·subst hg;refine wp_region_held_drew (S:=(fun w'=>w'.cell? ⟨w.heap.size,0,none⟩=some (.slice s1 S.length s2)∧w'.cell? ⟨w.heap.size,1,none⟩=some (.slice p1 P.length p2)∧w'.cell? ⟨w.heap.size,2,none⟩=some (.slice a1 A.length a2)∧w'.cell? ⟨w.heap.size+1,0,none⟩=some (.int .i64 xi)∧w'.cell? ⟨w.heap.size+1,1,none⟩=some (.int .i64 xt)∧w'.cell? ⟨w.heap.size+1,2,none⟩=some (.int .i64 0))) (by kernel_rfl) ?hS1 (fun hHeld=>?hR1)
      case hS1=>(try dsimp only);go_keep
      refine sqA [(0,23),(1,24),(2,25)] ?_;(iterate 3 (refine sqN rfl (by kernel_rfl) (fun _ _ _ h=>h) rfl ‹_› (by intro w h;go_simp <;>with_reducible rfl) ?_;simp only [nz]));refine sqZ ?_;refine rsq 3 26 (by kernel_rfl) rfl (fun K hK=>?_);go_simp;(go_at_call 67;refine(eA _ _).mono ?_;rintro e w1 ⟨bi,rfl,hbi,hb1⟩;have g1:Below W0.heap.size W0 w1:=((Below.refl _ W0).drew).trans hb1;have k1:Below w.heap.size w w1:=hb0.trans (g1.mono hb0.size);have y0:=zC q0 g1;have y1:=zC q1 g1;have y2:=zC q2 g1;have y3:=zC q3 g1;have y4:=zC q4 g1;have y5:=zC q5 g1);go_wp2_with fail
      refine hK.out _ _ ?hS5 (fun hHeld=>?hR5)
      case hS5=>(try dsimp only);go_keep
      clear hK K;(try simp only [nz]);refine rsq 4 27 (by kernel_rfl) rfl (fun K hK=>?_);go_simp;(go_at_call 66;refine(ag HI _ _ k1 hbi).mono ?_;rintro e w2 ⟨rfl,hb2⟩;have g2:Below W0.heap.size W0 w2:=g1.trans (hb2.mono g1.size);have k2:Below w.heap.size w w2:=hb0.trans (g2.mono hb0.size);have z0:=zC q0 g2;have z1:=zC q1 g2;have z2:=zC q2 g2;have z3:=zC q3 g2;have z4:=zC q4 g2;have z5:=zC q5 g2);go_wp2_with fail
      refine hK.out _ _ ?hS6 (fun hHeld=>?hR6)
      case hS6=>(try dsimp only);go_keep
      clear hK K;(try simp only [nz]);refine sqA [(5,28),(6,29),(7,30),(8,31),(9,32)] ?_;(iterate 5 (refine sqN rfl (by kernel_rfl) (fun _ _ _ h=>h) rfl ‹_› (by intro w h;go_simp <;>with_reducible rfl) ?_;simp only [nz]));refine sqZ ?_;refine wpAnyH_take (i:=10) (oi:=⟨some 33,_,_,_,_,_⟩) (v:=undef) rfl (by kernel_rfl) (by kernel_rfl) (by kernel_rfl) (fun _ _ _ h=>h) (Or.inr ⟨by rfl,rfl⟩) (by assumption) ?_;(try simp only [nz]);refine wpAnyH_take (i:=11) (oi:=⟨some 34,_,_,_,_,_⟩) (v:=undef) rfl (by kernel_rfl) (by kernel_rfl) (by kernel_rfl) (fun _ _ _ h=>h) (Or.inr ⟨by rfl,rfl⟩) (by assumption) ?_;(try simp only [nz]);refine wpAnyH_take (i:=12) (oi:=⟨some 35,_,_,_,_,_⟩) (v:=undef) rfl (by kernel_rfl) (by kernel_rfl) (by kernel_rfl) (fun _ _ _ h=>h) (Or.inr ⟨by rfl,rfl⟩) (by assumption) ?_;(try simp only [nz]);refine wpAnyH_take (i:=13) (oi:=⟨some 36,_,_,_,_,_⟩) (v:=undef) rfl (by kernel_rfl) (by kernel_rfl) (by kernel_rfl) (fun _ _ _ h=>h) (Or.inr ⟨by rfl,rfl⟩) (by assumption) ?_;(try simp only [nz]);refine wpAnyH_take (i:=14) (oi:=⟨some 37,_,_,_,_,_⟩) (v:=undef) rfl (by kernel_rfl) (by kernel_rfl) (by kernel_rfl) (fun _ _ _ h=>h) (Or.inr ⟨by rfl,rfl⟩) (by assumption) ?_;(try simp only [nz]);refine rsq 15 38 (by kernel_rfl) rfl (fun K hK=>?_);rw [if_neg (by rw [Bool.not_eq_true];rfl)];refine hK.out _ _ ?hS12 (fun hHeld=>?hR12)
      case hS12=>(try dsimp only);go_keep
      clear hK K;(try simp only [nz]);refine sqA [(16,39),(17,40),(18,22)] ?_;(iterate 3 (refine sqN rfl (by kernel_rfl) (fun _ _ _ h=>h) rfl ‹_› (by intro w h;go_simp <;>with_reducible rfl) ?_;simp only [nz]));refine sqZ ?_;refine wpAnyH_done (by kernel_rfl) ?_ _;clear HI HT;by_cases h12:12≤S.length
      ·have h12i:(12:Int)≤(S.length:Int):=(by omega);go_wp2_with fail
       go_ret;exact⟨am (by rw [HR.out];simp_all),k2⟩
      ·have h12i:¬(12:Int)≤(S.length:Int):=(by omega);have h12j:(S.length:Int)<12:=(by omega);go_wp2_with fail
       go_ret;exact⟨am (by rw [HR.out];simp_all),k2⟩
     ·have hgb:(xg != 0)=true:=(by simpa using hg);cases R2
      ·refine wp_region_held_drew (S:=(fun w'=>w'.cell? ⟨w.heap.size,0,none⟩=some (.slice s1 S.length s2)∧w'.cell? ⟨w.heap.size,1,none⟩=some (.slice p1 P.length p2)∧w'.cell? ⟨w.heap.size,2,none⟩=some (.slice a1 A.length a2)∧w'.cell? ⟨w.heap.size+1,0,none⟩=some (.int .i64 xi)∧w'.cell? ⟨w.heap.size+1,1,none⟩=some (.int .i64 xt)∧w'.cell? ⟨w.heap.size+1,2,none⟩=some (.int .i64 xg))) (by kernel_rfl) ?hS16 (fun hHeld=>?hR16)
       case hS16=>(try dsimp only);go_keep
       refine sqA [(0,23),(1,24),(2,25)] ?_;(iterate 3 (refine sqN rfl (by kernel_rfl) (fun _ _ _ h=>h) rfl ‹_› (by intro w h;go_simp <;>with_reducible rfl) ?_;simp only [nz]));refine sqZ ?_;refine rsq 3 26 (by kernel_rfl) rfl (fun K hK=>?_);go_simp;(go_at_call 67;refine(eA _ _).mono ?_;rintro e w1 ⟨bi,rfl,hbi,hb1⟩;have g1:Below W0.heap.size W0 w1:=((Below.refl _ W0).drew).trans hb1;have k1:Below w.heap.size w w1:=hb0.trans (g1.mono hb0.size);have y0:=zC q0 g1;have y1:=zC q1 g1;have y2:=zC q2 g1;have y3:=zC q3 g1;have y4:=zC q4 g1;have y5:=zC q5 g1);go_wp2_with fail
       refine hK.out _ _ ?hS20 (fun hHeld=>?hR20)
       case hS20=>(try dsimp only);go_keep
       clear hK K;(try simp only [nz]);refine rsq 4 27 (by kernel_rfl) rfl (fun K hK=>?_);go_simp;(go_at_call 66;refine(ag HI _ _ k1 hbi).mono ?_;rintro e w2 ⟨rfl,hb2⟩;have g2:Below W0.heap.size W0 w2:=g1.trans (hb2.mono g1.size);have k2:Below w.heap.size w w2:=hb0.trans (g2.mono hb0.size);have z0:=zC q0 g2;have z1:=zC q1 g2;have z2:=zC q2 g2;have z3:=zC q3 g2;have z4:=zC q4 g2;have z5:=zC q5 g2);go_wp2_with fail
       refine hK.out _ _ ?hS21 (fun hHeld=>?hR21)
       case hS21=>(try dsimp only);go_keep
       clear hK K;(try simp only [nz]);refine sqA [(5,28),(6,29),(7,30),(8,31),(9,32),(10,33),(11,34),(12,35),(13,36),(14,37)] ?_;(iterate 10 (refine sqN rfl (by kernel_rfl) (fun _ _ _ h=>h) rfl ‹_› (by intro w h;go_simp <;>with_reducible rfl) ?_;simp only [nz]));refine sqZ ?_;refine rsq 15 38 (by kernel_rfl) rfl (fun K hK=>?_);go_simp;(go_at_call 68;refine(ag HT _ k2).mono ?_;rintro e w3 ⟨rfl,hb3⟩;have g3:Below W0.heap.size W0 w3:=g2.trans (hb3.mono g2.size);have k3:Below w.heap.size w w3:=hb0.trans (g3.mono hb0.size);have v0:=zC q0 g3;have v1:=zC q1 g3;have v2:=zC q2 g3;have v3:=zC q3 g3;have v4:=zC q4 g3;have v5:=zC q5 g3);go_wp2_with fail
       refine hK.out _ _ ?hS32 (fun hHeld=>?hR32)
       case hS32=>(try dsimp only);go_keep
       clear hK K;(try simp only [nz]);refine sqA [(16,39),(17,40),(18,22)] ?_;(iterate 3 (refine sqN rfl (by kernel_rfl) (fun _ _ _ h=>h) rfl ‹_› (by intro w h;go_simp <;>with_reducible rfl) ?_;simp only [nz]));refine sqZ ?_;refine wpAnyH_done (by kernel_rfl) ?_ _;clear HI HT;by_cases h12:12≤S.length
       ·have h12i:(12:Int)≤(S.length:Int):=(by omega);go_wp2_with fail
        go_ret;exact⟨am (by rw [HR.out];simp_all),k3⟩
       ·have h12i:¬(12:Int)≤(S.length:Int):=(by omega);have h12j:(S.length:Int)<12:=(by omega);go_wp2_with fail
        go_ret;exact⟨am (by rw [HR.out];simp_all),k3⟩
      ·refine wp_region_held_drew (S:=(fun w'=>w'.cell? ⟨w.heap.size,0,none⟩=some (.slice s1 S.length s2)∧w'.cell? ⟨w.heap.size,1,none⟩=some (.slice p1 P.length p2)∧w'.cell? ⟨w.heap.size,2,none⟩=some (.slice a1 A.length a2)∧w'.cell? ⟨w.heap.size+1,0,none⟩=some (.int .i64 xi)∧w'.cell? ⟨w.heap.size+1,1,none⟩=some (.int .i64 xt)∧w'.cell? ⟨w.heap.size+1,2,none⟩=some (.int .i64 xg))) (by kernel_rfl) ?hS36 (fun hHeld=>?hR36)
       case hS36=>(try dsimp only);go_keep
       refine sqA [(0,23),(1,24),(2,25)] ?_;(iterate 3 (refine sqN rfl (by kernel_rfl) (fun _ _ _ h=>h) rfl ‹_› (by intro w h;go_simp <;>with_reducible rfl) ?_;simp only [nz]));refine sqZ ?_;refine rsq 3 26 (by kernel_rfl) rfl (fun K hK=>?_);go_simp;(go_at_call 67;refine(eA _ _).mono ?_;rintro e w1 ⟨bi,rfl,hbi,hb1⟩;have g1:Below W0.heap.size W0 w1:=((Below.refl _ W0).drew).trans hb1;have k1:Below w.heap.size w w1:=hb0.trans (g1.mono hb0.size);have y0:=zC q0 g1;have y1:=zC q1 g1;have y2:=zC q2 g1;have y3:=zC q3 g1;have y4:=zC q4 g1;have y5:=zC q5 g1);go_wp2_with fail
       refine hK.out _ _ ?hS40 (fun hHeld=>?hR40)
       case hS40=>(try dsimp only);go_keep
       clear hK K;(try simp only [nz]);refine rsq 4 27 (by kernel_rfl) rfl (fun K hK=>?_);go_simp;(go_at_call 66;refine(ag HI _ _ k1 hbi).mono ?_;rintro e w2 ⟨rfl,hb2⟩;have g2:Below W0.heap.size W0 w2:=g1.trans (hb2.mono g1.size);have k2:Below w.heap.size w w2:=hb0.trans (g2.mono hb0.size);have z0:=zC q0 g2;have z1:=zC q1 g2;have z2:=zC q2 g2;have z3:=zC q3 g2;have z4:=zC q4 g2;have z5:=zC q5 g2);go_wp2_with fail
       refine hK.out _ _ ?hS41 (fun hHeld=>?hR41)
       case hS41=>(try dsimp only);go_keep
       clear hK K;(try simp only [nz]);refine sqA [(5,28),(6,29),(7,30),(8,31),(9,32),(10,33),(11,34),(12,35),(13,36),(14,37)] ?_;(iterate 10 (refine sqN rfl (by kernel_rfl) (fun _ _ _ h=>h) rfl ‹_› (by intro w h;go_simp <;>with_reducible rfl) ?_;simp only [nz]));refine sqZ ?_;refine rsq 15 38 (by kernel_rfl) rfl (fun K hK=>?_);go_simp;(go_at_call 68;refine(ag HT _ k2).mono ?_;rintro e w3 ⟨rfl,hb3⟩;have g3:Below W0.heap.size W0 w3:=g2.trans (hb3.mono g2.size);have k3:Below w.heap.size w w3:=hb0.trans (g3.mono hb0.size);have v0:=zC q0 g3;have v1:=zC q1 g3;have v2:=zC q2 g3;have v3:=zC q3 g3;have v4:=zC q4 g3;have v5:=zC q5 g3);go_wp2_with fail
       refine hK.out _ _ ?hS52 (fun hHeld=>?hR52)
       case hS52=>(try dsimp only);go_keep
       clear hK K;(try simp only [nz]);refine sqA [(16,39),(17,40),(18,22)] ?_;(iterate 3 (refine sqN rfl (by kernel_rfl) (fun _ _ _ h=>h) rfl ‹_› (by intro w h;go_simp <;>with_reducible rfl) ?_;simp only [nz]));refine sqZ ?_;refine wpAnyH_done (by kernel_rfl) ?_ _;clear HI HT;go_wp2_with fail
       go_ret;exact⟨am (by rw [HR.out];simp_all),k3⟩
    ·refine wp_region_held_drew (S:=(fun w'=>w'.cell? ⟨w.heap.size,0,none⟩=some (.slice s1 S.length s2)∧w'.cell? ⟨w.heap.size,1,none⟩=some (.slice p1 P.length p2)∧w'.cell? ⟨w.heap.size,2,none⟩=some (.slice a1 A.length a2)∧w'.cell? ⟨w.heap.size+1,0,none⟩=some (.int .i64 xi)∧w'.cell? ⟨w.heap.size+1,1,none⟩=some (.int .i64 xt)∧w'.cell? ⟨w.heap.size+1,2,none⟩=some (.int .i64 xg))) (by kernel_rfl) ?hS56 (fun hHeld=>?hR56)
     case hS56=>(try dsimp only);go_keep
     refine sqA [(0,23),(1,24),(2,25)] ?_;(iterate 3 (refine sqN rfl (by kernel_rfl) (fun _ _ _ h=>h) rfl ‹_› (by intro w h;go_simp <;>with_reducible rfl) ?_;simp only [nz]));refine sqZ ?_;refine rsq 3 26 (by kernel_rfl) rfl (fun K hK=>?_);go_simp;(go_at_call 67;refine(eA _ _).mono ?_;rintro e w1 ⟨bi,rfl,hbi,hb1⟩;have g1:Below W0.heap.size W0 w1:=((Below.refl _ W0).drew).trans hb1;have k1:Below w.heap.size w w1:=hb0.trans (g1.mono hb0.size);have y0:=zC q0 g1;have y1:=zC q1 g1;have y2:=zC q2 g1;have y3:=zC q3 g1;have y4:=zC q4 g1;have y5:=zC q5 g1);go_wp2_with fail
     refine hK.out _ _ ?hS60 (fun hHeld=>?hR60)
     case hS60=>(try dsimp only);go_keep
     clear hK K;(try simp only [nz]);refine rsq 4 27 (by kernel_rfl) rfl (fun K hK=>?_);go_simp;(go_at_call 66;refine(ag HI _ _ k1 hbi).mono ?_;rintro e w2 ⟨rfl,hb2⟩;have g2:Below W0.heap.size W0 w2:=g1.trans (hb2.mono g1.size);have k2:Below w.heap.size w w2:=hb0.trans (g2.mono hb0.size);have z0:=zC q0 g2;have z1:=zC q1 g2;have z2:=zC q2 g2;have z3:=zC q3 g2;have z4:=zC q4 g2;have z5:=zC q5 g2);go_wp2_with fail
     refine hK.out _ _ ?hS61 (fun hHeld=>?hR61)
     case hS61=>(try dsimp only);go_keep
     clear hK K;(try simp only [nz]);refine tq 5 28 rfl (by kernel_rfl) (fun _ _ _ h=>h) rfl ‹_› (by intro w h;go_simp <;>with_reducible rfl) ?_;simp only [nz];refine wpAnyH_take (i:=6) (oi:=⟨some 29,_,_,_,_,_⟩) (v:=undef) rfl (by kernel_rfl) (by kernel_rfl) (by kernel_rfl) (fun _ _ _ h=>h) (Or.inr ⟨by rfl,rfl⟩) (by assumption) ?_;(try simp only [nz]);refine wpAnyH_take (i:=7) (oi:=⟨some 30,_,_,_,_,_⟩) (v:=undef) rfl (by kernel_rfl) (by kernel_rfl) (by kernel_rfl) (fun _ _ _ h=>h) (Or.inr ⟨by rfl,rfl⟩) (by assumption) ?_;(try simp only [nz]);refine wpAnyH_take (i:=8) (oi:=⟨some 31,_,_,_,_,_⟩) (v:=undef) rfl (by kernel_rfl) (by kernel_rfl) (by kernel_rfl) (fun _ _ _ h=>h) (Or.inr ⟨by rfl,rfl⟩) (by assumption) ?_;(try simp only [nz]);refine wpAnyH_take (i:=9) (oi:=⟨some 32,_,_,_,_,_⟩) (v:=undef) rfl (by kernel_rfl) (by kernel_rfl) (by kernel_rfl) (fun _ _ _ h=>h) (Or.inr ⟨by rfl,rfl⟩) (by assumption) ?_;(try simp only [nz]);refine wpAnyH_take (i:=10) (oi:=⟨some 33,_,_,_,_,_⟩) (v:=undef) rfl (by kernel_rfl) (by kernel_rfl) (by kernel_rfl) (fun _ _ _ h=>h) (Or.inr ⟨by rfl,rfl⟩) (by assumption) ?_;(try simp only [nz]);refine wpAnyH_take (i:=11) (oi:=⟨some 34,_,_,_,_,_⟩) (v:=undef) rfl (by kernel_rfl) (by kernel_rfl) (by kernel_rfl) (fun _ _ _ h=>h) (Or.inr ⟨by rfl,rfl⟩) (by assumption) ?_;(try simp only [nz]);refine wpAnyH_take (i:=12) (oi:=⟨some 35,_,_,_,_,_⟩) (v:=undef) rfl (by kernel_rfl) (by kernel_rfl) (by kernel_rfl) (fun _ _ _ h=>h) (Or.inr ⟨by rfl,rfl⟩) (by assumption) ?_;(try simp only [nz]);refine wpAnyH_take (i:=13) (oi:=⟨some 36,_,_,_,_,_⟩) (v:=undef) rfl (by kernel_rfl) (by kernel_rfl) (by kernel_rfl) (fun _ _ _ h=>h) (Or.inr ⟨by rfl,rfl⟩) (by assumption) ?_;(try simp only [nz]);refine wpAnyH_take (i:=14) (oi:=⟨some 37,_,_,_,_,_⟩) (v:=undef) rfl (by kernel_rfl) (by kernel_rfl) (by kernel_rfl) (fun _ _ _ h=>h) (Or.inr ⟨by rfl,rfl⟩) (by assumption) ?_;(try simp only [nz]);refine rsq 15 38 (by kernel_rfl) rfl (fun K hK=>?_);rw [if_neg (by rw [Bool.not_eq_true];rfl)];refine hK.out _ _ ?hS63 (fun hHeld=>?hR63)
     case hS63=>(try dsimp only);go_keep
     clear hK K;(try simp only [nz]);refine wpAnyH_take (i:=16) (oi:=⟨some 39,_,_,_,_,_⟩) (v:=undef) rfl (by kernel_rfl) (by kernel_rfl) (by kernel_rfl) (fun _ _ _ h=>h) (Or.inr ⟨by rfl,rfl⟩) (by assumption) ?_;(try simp only [nz]);refine sqA [(17,40),(18,22)] ?_;(iterate 2 (refine sqN rfl (by kernel_rfl) (fun _ _ _ h=>h) rfl ‹_› (by intro w h;go_simp <;>with_reducible rfl) ?_;simp only [nz]));refine sqZ ?_;refine wpAnyH_done (by kernel_rfl) ?_ _;clear HI HT;go_wp2_with fail
     go_ret;exact⟨am (by rw [HR.out];simp_all),k2⟩
   ·have hr3':inB xg 0 65535=false:=(by simpa using hr3);clear hr3 HI HT;go_enter Tryz.func38,Tryz.ntmps38;go_wp2_with (first |(go_at_call 64;refine(dd _ _ _ _).mono ?_;rintro e w' ⟨rfl,rfl⟩) |(go_at_call 65;refine(eT _ _).mono ?_;rintro e w' ⟨rfl,rfl⟩))
    go_ret;exact⟨am (by rw [HR.out];simp_all),((Below.refl _ _).alloc zr _).alloc (by simp) _⟩
  ·have hr2':inB xt 1 9=false:=(by simpa using hr2);clear hr2 HI HT;go_enter Tryz.func38,Tryz.ntmps38;go_wp2_with (first |(go_at_call 64;refine(dd _ _ _ _).mono ?_;rintro e w' ⟨rfl,rfl⟩) |(go_at_call 65;refine(eT _ _).mono ?_;rintro e w' ⟨rfl,rfl⟩))
   go_ret;exact⟨am (by rw [HR.out];simp_all),((Below.refl _ _).alloc zr _).alloc (by simp) _⟩
 ·have hr1':inB xi 1 500=false:=(by simpa using hr1);clear hr1 HI HT;go_enter Tryz.func38,Tryz.ntmps38;go_wp2_with (first |(go_at_call 64;refine(dd _ _ _ _).mono ?_;rintro e w' ⟨rfl,rfl⟩) |(go_at_call 65;refine(eT _ _).mono ?_;rintro e w' ⟨rfl,rfl⟩))
  go_ret;exact⟨am (by rw [HR.out];simp_all),((Below.refl _ _).alloc zr _).alloc (by simp) _⟩
def bm (S:List Sw) (P:List Pr) (x:Pr):Int:=
 if fT x=false then 2 else if idx (fun s=>s.i==x.s) S<0 then 6 else if P.any (fun y=>y.i==x.i|| y.s==x.s&&y.m==x.m)=true then 7 else
 if bZ S P (S.getD (idx (fun s=>s.i==x.s) S).toNat sw0).t x.p=true then 7 else if 40≤P.length then 1 else 0
theorem jh (sv pv av:Value) (S:List Sw) (P:List Pr) (A:List Ac) (x:Pr) (w:World) (hC:CfAt w sv pv av S P A) (h1:S.length*24≤140737488355328) (h2:P.length*40≤140737488355328):
  Calls Tryz.prog 39 #[.agg #[sv,pv,av],.agg #[.int .i64 x.i,.int .i64 x.s,.int .i64 x.m,.int .i64 x.p,.int .i64 x.c]] w fun e w'=>e= .returned (.int .i64 (bm S P x))∧Below w.heap.size w w':=by
 obtain⟨xi,xs,xm,xp,xc⟩:=x;have HC:=aa hC;have HB:=aa (fun W=>kI xi xs xm xp xc W);have HI:Hid (∀(W:World) (b:Nat),Below w.heap.size w W→W.cell? ⟨b,0,none⟩=some (.int .i64 xs)→Calls Tryz.prog 70 #[sv,.func (.func 109) #[] #[.pointer (some ⟨b,0,none⟩)]] W fun e w'=>e= .returned (.int .i64 (idx (fun s=>s.i==xs) S))∧Below W.heap.size W w'):=
  fun W b hW a=>oW S _ sv _ W (RowAt.below hC.1 hW zr) (sU a) h1
 have HP:Hid (∀(W:World),Below w.heap.size w W→W.cell? ⟨w.heap.size+1,0,none⟩=some (.int .i64 xi)→W.cell? ⟨w.heap.size+1,1,none⟩=some (.int .i64 xs)→W.cell? ⟨w.heap.size+1,2,none⟩=some (.int .i64 xm)→Calls Tryz.prog 71 #[.agg #[sv,pv,av],.func (.func 72) #[] #[.pointer (some ⟨w.heap.size+1,0,none⟩)]] W fun e w'=>e= .returned (.bool (P.any (fun y=>y.i==xi|| y.s==xs&&y.m==xm)))∧Below W.heap.size W w'):=
  fun W hW a b c=>lS sv pv av P _ _ W (dh hC.1) (RowAt.below hC.2.1 hW zr) (dh hC.2.2) (zm a b c) h2
 have HT:Hid (∀(W:World) (t:Int),Below w.heap.size w W→Calls Tryz.prog 68 #[.agg #[sv,pv,av],.int .i64 t,.int .i64 xp] W fun e w'=>e= .returned (.bool (bZ S P t xp))∧Below W.heap.size W w'):=fun W t hW=>lm sv pv av S P A t xp W (hC.below hW zr) h1 h2;have HR:Hid (bm S P ⟨xi,xs,xm,xp,xc⟩=if fT ⟨xi,xs,xm,xp,xc⟩=false then 2 else if idx (fun s=>s.i==xs) S<0 then 6 else if P.any (fun y=>y.i==xi|| y.s==xs&&y.m==xm)=true then 7 else
  if bZ S P (S.getD (idx (fun s=>s.i==xs) S).toNat sw0).t xp=true then 7 else if 40≤P.length then 1 else 0):=rfl
 have hbd:=pU (fun s:Sw=>s.i==xs) S;generalize bm S P ⟨xi,xs,xm,xp,xc⟩=R at*;generalize idx (fun s:Sw=>s.i==xs) S=I at*;generalize P.any (fun y=>y.i==xi|| y.s==xs&&y.m==xm)=R1 at*;generalize fT ⟨xi,xs,xm,xp,xc⟩=R0 at*;obtain⟨s1,s2,rfl⟩:=hC.1.slice;obtain⟨p1,p2,rfl⟩:=hC.2.1.slice;obtain⟨a1,a2,rfl⟩:=hC.2.2.slice;clear hC;simp only;go_enter Tryz.func39,Tryz.ntmps39;go_wp2_with fail
 obtain⟨W0,hW0⟩:∃W0,W0=(w.alloc (.cells #[.slice s1 S.length s2,.slice p1 P.length p2,.slice a1 A.length a2] 30)).alloc (.cells #[.int .i64 xi,.int .i64 xs,.int .i64 xm,.int .i64 xp,.int .i64 xc] 38):=⟨_,rfl⟩;have hb0:Below w.heap.size w W0:=by rw [hW0];exact((Below.refl _ _).alloc zr _).alloc (by simp) _
 have d0:W0.cell? ⟨w.heap.size,0,none⟩=some (.slice s1 S.length s2):=by rw [hW0];exact aG (ah w _ rfl _ _ _ _ rfl) _
 have d1:W0.cell? ⟨w.heap.size,1,none⟩=some (.slice p1 P.length p2):=by rw [hW0];exact aG (ah w _ rfl _ _ _ _ rfl) _
 have d2:W0.cell? ⟨w.heap.size,2,none⟩=some (.slice a1 A.length a2):=by rw [hW0];exact aG (ah w _ rfl _ _ _ _ rfl) _
 have d3:W0.cell? ⟨w.heap.size+1,0,none⟩=some (.int .i64 xi):=by rw [hW0];exact ah _ _ (by simp) _ _ _ _ rfl
 have d4:W0.cell? ⟨w.heap.size+1,1,none⟩=some (.int .i64 xs):=by rw [hW0];exact ah _ _ (by simp) _ _ _ _ rfl
 have d5:W0.cell? ⟨w.heap.size+1,2,none⟩=some (.int .i64 xm):=by rw [hW0];exact ah _ _ (by simp) _ _ _ _ rfl
 have d6:W0.cell? ⟨w.heap.size+1,3,none⟩=some (.int .i64 xp):=by rw [hW0];exact ah _ _ (by simp) _ _ _ _ rfl
 have d7:W0.cell? ⟨w.heap.size+1,4,none⟩=some (.int .i64 xc):=by rw [hW0];exact ah _ _ (by simp) _ _ _ _ rfl
 rw [←hW0];clear hW0;refine(ag HB _).mono ?_;rintro e W1 ⟨rfl,hB1⟩;have q0:=zC d0 hB1;have q1:=zC d1 hB1;have q2:=zC d2 hB1;have q3:=zC d3 hB1;have q4:=zC d4 hB1;have q5:=zC d5 hB1;have q6:=zC d6 hB1;have q7:=zC d7 hB1;have hb1:=hb0.trans (hB1.mono hb0.size);clear HB hB1 hb0 d0 d1 d2 d3 d4 d5 d6 d7;cases R0
 ·clear HI HP HT;go_wp2_with fail
  go_ret;exact⟨am (by rw [HR.out];simp),hb1⟩
 ·go_wp2_with fail
  go_region_held3 (fun w'=>w'.cell? ⟨w.heap.size,0,none⟩=some (.slice s1 S.length s2)∧w'.cell? ⟨w.heap.size,1,none⟩=some (.slice p1 P.length p2)∧w'.cell? ⟨w.heap.size,2,none⟩=some (.slice a1 A.length a2)∧w'.cell? ⟨w.heap.size+1,0,none⟩=some (.int .i64 xi)∧w'.cell? ⟨w.heap.size+1,1,none⟩=some (.int .i64 xs)∧w'.cell? ⟨w.heap.size+1,2,none⟩=some (.int .i64 xm)∧w'.cell? ⟨w.heap.size+1,3,none⟩=some (.int .i64 xp)∧w'.cell? ⟨w.heap.size+1,4,none⟩=some (.int .i64 xc)) (go_keep)
   (first |(go_at_call 67;refine(eA _ _).mono ?_;rintro e w1 ⟨bi,rfl,hbi,hc1⟩;have g1:Below W1.heap.size W1 w1:=((Below.refl _ W1).drew).trans hc1;have k1:Below w.heap.size w w1:=hb1.trans (g1.mono hb1.size);have y0:=zC q0 g1;have y1:=zC q1 g1;have y2:=zC q2 g1;have y3:=zC q3 g1;have y4:=zC q4 g1;have y5:=zC q5 g1;have y6:=zC q6 g1;have y7:=zC q7 g1) |(go_at_call 70;refine(ag HI _ _ k1 hbi).mono ?_;rintro e w2 ⟨rfl,hc2⟩;have g2:Below W1.heap.size W1 w2:=g1.trans (hc2.mono g1.size);have k2:Below w.heap.size w w2:=hb1.trans (g2.mono hb1.size);have z0:=zC q0 g2;have z1:=zC q1 g2;have z2:=zC q2 g2;have z3:=zC q3 g2;have z4:=zC q4 g2;have z5:=zC q5 g2;have z6:=zC q6 g2;have z7:=zC q7 g2))
  clear y0 y1 y2 y3 y4 y5 y6 y7 q0 q1 q2 q3 q4 q5 q6 q7 HI hbi hc1 hc2 g1 g2 k1 hb1;by_cases hI:I<0
  ·clear HP HT;go_wp2_with fail
   go_ret;exact⟨am (by rw [HR.out];simp [hI]),k2⟩
  ·obtain⟨k,rfl⟩:∃k:Nat,I=(k:Int):=⟨I.toNat,by omega⟩;have hk:k<S.length:=(by omega);have hi1:(0:Int)≤(k:Int):=(by omega);have hi2:(k:Int)<(S.length:Int):=(by omega);go_wp2_with fail
   refine(ag HP _ k2 z3 z4 z5).mono ?_;rintro e w3 ⟨rfl,hc3⟩;have k3:=k2.trans (hc3.mono k2.size);have q0:=zC z0 hc3;have q1:=zC z1 hc3;have q2:=zC z2 hc3;have q3:=zC z3 hc3;have q4:=zC z4 hc3;have q5:=zC z5 hc3;have q6:=zC z6 hc3;have q7:=zC z7 hc3;clear HP hc3 k2 z0 z1 z2 z3 z4 z5 z6 z7;cases R1
   ·obtain⟨b,off,cap,e1,hcap,hb,u0,u1,u2⟩:=je (RowAt.below HC.out.1 k3 zr) hk;simp only [Value.slice.injEq,true_and]at e1;obtain⟨rfl,rfl⟩:=e1;have HTT:=aa (fun W hW=>HT.out W (S.getD k sw0).t hW);have HRR:Hid (R=if bZ S P (S.getD k sw0).t xp=true then 7 else if 40≤P.length then 1 else 0):=by
     show R=_;rw [HR.out,if_neg (by simp),if_neg (by omega),if_neg (by simp),Int.toNat_natCast]
    clear HR HT HC;generalize bZ S P (S.getD k sw0).t xp=R2 at*;generalize (S.getD k sw0).t=xt at*;generalize (S.getD k sw0).i=xj at*;generalize (S.getD k sw0).g=xg at*;go_wp2_with fail
    go_region_held3 (fun w'=>w'.cell? ⟨w.heap.size,0,none⟩=some (.slice (some ⟨b,off,none⟩) S.length s2)∧w'.cell? ⟨w.heap.size,1,none⟩=some (.slice p1 P.length p2)∧w'.cell? ⟨w.heap.size,2,none⟩=some (.slice a1 A.length a2)∧w'.cell? ⟨w.heap.size+1,3,none⟩=some (.int .i64 xp)∧w'.cell? ⟨b,off+k*3+1,none⟩=some (.int .i64 xt)) (go_keep)
     (first |(go_at_call 68;refine(ag HTT _ k3.drew).mono ?_;rintro e w4 ⟨rfl,hc4⟩;have g4:Below w3.heap.size w3 w4:=((Below.refl _ w3).drew).trans hc4;have k4:Below w.heap.size w w4:=k3.trans (g4.mono k3.size);have v0:=zC q0 g4;have v1:=zC q1 g4;have v2:=zC q2 g4;have v3:=zC q6 g4;have v4:=zC u1 g4))
    clear HTT q0 q1 q2 q3 q4 q5 q6 q7 u0 u1 u2 k3 g4 hc4;cases R2
    ·by_cases h40:40≤P.length
     ·have h40i:(40:Int)≤(P.length:Int):=(by omega);go_wp2_with fail
      go_ret;exact⟨am (by rw [HRR.out,if_neg (by simp),if_pos h40]),k4⟩
     ·have h40i:(P.length:Int)<40:=(by omega);go_wp2_with fail
      go_ret;exact⟨am (by rw [HRR.out,if_neg (by simp),if_neg h40]),k4⟩
    ·go_wp2_with fail
     go_ret;exact⟨am (by rw [HRR.out];simp),k4⟩
   ·clear HT;go_wp2_with fail
    go_ret;exact⟨am (by rw [HR.out,if_neg (by simp),if_neg (by omega)];simp),k3⟩
def cJ (n b:Int):Bool:=n%(65536/2 ^ b.toNat)==0
theorem vV (a b:Nat) (ha:a≤65535) (hb:b≤65535):bits .and .i64 (a:Int) (b:Int)=((a&&& b:Nat):Int):=by
 have e:∀c:Nat,c≤65535→(BitVec.ofInt 64 (c:Int)).toNat=c:=fun c hc=>by simp;omega
 show IntKind.i64.wrap ((BitVec.ofInt 64 (a:Int)&&& BitVec.ofInt 64 (b:Int)).toNat:Int)=_;rw [BitVec.toNat_and,e a ha,e b hb];have:a&&& b≤a:=Nat.and_le_left;generalize a&&& b=n at*;simp [IntKind.wrap,IntKind.bits,IntKind.signed];split <;>omega
theorem jg (n b:Int) (w:World) (hn:inB n 0 65535=true) (hb:inB b 0 16=true):
  Calls Tryz.prog 74 #[.int .i64 n,.int .i64 b] w fun e w'=>e= .returned (.bool (cJ n b))∧w'=w:=by
 simp [inB]at hn hb;obtain⟨m,rfl⟩:=Int.eq_ofNat_of_zero_le hn.1;obtain⟨c,rfl⟩:=Int.eq_ofNat_of_zero_le hb.1;have hc:c=0∨c=1∨c=2∨c=3∨c=4∨c=5∨c=6∨c=7∨c=8∨c=9∨c=10∨c=11∨c=12∨c=13∨c=14∨c=15∨c=16:=by omega
 go_enter Tryz.func74,Tryz.ntmps74;go_wp2;go_ret;refine⟨aA ?_,rfl⟩;have key:∀n,n≤16→(bits .and .i64 (m:Int) ((2 ^ n-1:Nat):Int)==0)=((m:Int)%((2 ^ n:Nat):Int)==0):=fun n hn16=>by
  have h2:2 ^ n≤2 ^ 16:=Nat.pow_le_pow_right (by omega) hn16;rw [vV m _ (by omega) (by omega),Nat.and_two_pow_sub_one_eq_mod, ←Int.natCast_emod]
 unfold cJ;rcases hc with rfl | rfl | rfl | rfl | rfl | rfl | rfl | rfl | rfl | rfl | rfl | rfl | rfl | rfl | rfl | rfl | rfl
 ·exact key 16 (by omega)
 ·exact key 15 (by omega)
 ·exact key 14 (by omega)
 ·exact key 13 (by omega)
 ·exact key 12 (by omega)
 ·exact key 11 (by omega)
 ·exact key 10 (by omega)
 ·exact key 9 (by omega)
 ·exact key 8 (by omega)
 ·exact key 7 (by omega)
 ·exact key 6 (by omega)
 ·exact key 5 (by omega)
 ·exact key 4 (by omega)
 ·exact key 3 (by omega)
 ·exact key 2 (by omega)
 ·exact key 1 (by omega)
 ·exact key 0 (by omega)
def bw (S:List Sw) (A:List Ac) (x:Ac):Int:=
 if fG x=false then 2 else if(cJ x.src x.sb&&cJ x.dst x.db)=false then 4 else if S.any (fun s=>s.i==x.s)=false then 6 else if 40≤A.length then 1 else 0
theorem ku (sv pv av:Value) (S:List Sw) (P:List Pr) (A:List Ac) (x:Ac) (w:World) (hC:CfAt w sv pv av S P A) (h1:S.length*24≤140737488355328):
  Calls Tryz.prog 40 #[.agg #[sv,pv,av],.agg #[.int .i64 x.s,.int .i64 x.p,.bool x.n,.int .i64 x.src,.int .i64 x.sb,.int .i64 x.dst,.int .i64 x.db,.int .i64 x.o,.bool x.d]] w fun e w'=>e= .returned (.int .i64 (bw S A x))∧Below w.heap.size w w':=by
 obtain⟨xs,xp,xn,xf,xb,xd,xe,xo,xy⟩:=x;have HB:=aa (fun W=>lJ xs xp xn xf xb xd xe xo xy W);have HI:Hid (∀(W:World) (b:Nat),Below w.heap.size w W→W.cell? ⟨b,0,none⟩=some (.int .i64 xs)→Calls Tryz.prog 66 #[.agg #[sv,pv,av],.func (.func 109) #[] #[.pointer (some ⟨b,0,none⟩)]] W fun e w'=>e= .returned (.bool (S.any (fun s=>s.i==xs)))∧Below W.heap.size W w'):=
  fun W b hW a=>hJ sv pv av S _ _ W (RowAt.below hC.1 hW zr) (dh hC.2.1) (dh hC.2.2) (sU a) h1
 have HR:Hid (bw S A ⟨xs,xp,xn,xf,xb,xd,xe,xo,xy⟩=if fG ⟨xs,xp,xn,xf,xb,xd,xe,xo,xy⟩=false then 2 else if(cJ xf xb&&cJ xd xe)=false then 4 else if S.any (fun s=>s.i==xs)=false then 6 else if 40≤A.length then 1 else 0):=rfl;have HQ:Hid (fG ⟨xs,xp,xn,xf,xb,xd,xe,xo,xy⟩=true→inB xf 0 65535=true∧inB xb 0 16=true∧inB xd 0 65535=true∧inB xe 0 16=true):=fun h=>by
  unfold fG at h;simp only [Bool.and_eq_true]at h;exact⟨h.1.1.1.1.2,h.1.1.2,h.1.1.1.2,h.1.2⟩
 generalize bw S A ⟨xs,xp,xn,xf,xb,xd,xe,xo,xy⟩=R at*;generalize S.any (fun s=>s.i==xs)=R1 at*;generalize fG ⟨xs,xp,xn,xf,xb,xd,xe,xo,xy⟩=R0 at*;obtain⟨s1,s2,rfl⟩:=hC.1.slice;obtain⟨p1,p2,rfl⟩:=hC.2.1.slice;obtain⟨a1,a2,rfl⟩:=hC.2.2.slice;clear hC;simp only;go_enter Tryz.func40,Tryz.ntmps40;go_wp2_with fail
 obtain⟨W0,hW0⟩:∃W0,W0=(w.alloc (.cells #[.slice s1 S.length s2,.slice p1 P.length p2,.slice a1 A.length a2] 30)).alloc (.cells #[.int .i64 xs,.int .i64 xp,.bool xn,.int .i64 xf,.int .i64 xb,.int .i64 xd,.int .i64 xe,.int .i64 xo,.bool xy] 40):=⟨_,rfl⟩;have hb0:Below w.heap.size w W0:=by rw [hW0];exact((Below.refl _ _).alloc zr _).alloc (by simp) _
 have d0:W0.cell? ⟨w.heap.size,0,none⟩=some (.slice s1 S.length s2):=by rw [hW0];exact aG (ah w _ rfl _ _ _ _ rfl) _
 have d1:W0.cell? ⟨w.heap.size,1,none⟩=some (.slice p1 P.length p2):=by rw [hW0];exact aG (ah w _ rfl _ _ _ _ rfl) _
 have d2:W0.cell? ⟨w.heap.size,2,none⟩=some (.slice a1 A.length a2):=by rw [hW0];exact aG (ah w _ rfl _ _ _ _ rfl) _
 have d3:W0.cell? ⟨w.heap.size+1,0,none⟩=some (.int .i64 xs):=by rw [hW0];exact ah _ _ (by simp) _ _ _ _ rfl
 have d4:W0.cell? ⟨w.heap.size+1,1,none⟩=some (.int .i64 xp):=by rw [hW0];exact ah _ _ (by simp) _ _ _ _ rfl
 have d5:W0.cell? ⟨w.heap.size+1,2,none⟩=some (.bool xn):=by rw [hW0];exact ah _ _ (by simp) _ _ _ _ rfl
 have d6:W0.cell? ⟨w.heap.size+1,3,none⟩=some (.int .i64 xf):=by rw [hW0];exact ah _ _ (by simp) _ _ _ _ rfl
 have d7:W0.cell? ⟨w.heap.size+1,4,none⟩=some (.int .i64 xb):=by rw [hW0];exact ah _ _ (by simp) _ _ _ _ rfl
 have d8:W0.cell? ⟨w.heap.size+1,5,none⟩=some (.int .i64 xd):=by rw [hW0];exact ah _ _ (by simp) _ _ _ _ rfl
 have d9:W0.cell? ⟨w.heap.size+1,6,none⟩=some (.int .i64 xe):=by rw [hW0];exact ah _ _ (by simp) _ _ _ _ rfl
 have d10:W0.cell? ⟨w.heap.size+1,7,none⟩=some (.int .i64 xo):=by rw [hW0];exact ah _ _ (by simp) _ _ _ _ rfl
 have d11:W0.cell? ⟨w.heap.size+1,8,none⟩=some (.bool xy):=by rw [hW0];exact ah _ _ (by simp) _ _ _ _ rfl
 rw [←hW0];clear hW0;refine(ag HB _).mono ?_;rintro e W1 ⟨rfl,hB1⟩;have q0:=zC d0 hB1;have q1:=zC d1 hB1;have q2:=zC d2 hB1;have q3:=zC d3 hB1;have q4:=zC d4 hB1;have q5:=zC d5 hB1;have q6:=zC d6 hB1;have q7:=zC d7 hB1;have q8:=zC d8 hB1;have q9:=zC d9 hB1;have q10:=zC d10 hB1;have q11:=zC d11 hB1;have hb1:=hb0.trans (hB1.mono hb0.size);clear HB hB1 hb0 d0 d1 d2 d3 d4 d5 d6 d7 d8 d9 d10 d11;cases R0
 ·clear HI HQ;go_wp2_with fail
  go_ret;exact⟨am (by rw [HR.out];simp),hb1⟩
 ·obtain⟨g1,g2,g3,g4⟩:=HQ.out rfl;have HH:=aa (fun W=>jg xf xb W g1 g2);have HJ:=aa (fun W=>jg xd xe W g3 g4);clear HQ g1 g2 g3 g4;generalize cJ xf xb=B1 at*;generalize cJ xd xe=B2 at*;go_wp2_with fail
  refine(ag HH _).mono ?_;rintro e w' ⟨rfl,rfl⟩;cases B1
  ·clear HI HJ HH;go_wp2_with fail
   go_ret;exact⟨am (by rw [HR.out];simp),hb1⟩
  ·go_wp2_with fail
   refine(ag HJ _).mono ?_;rintro e w' ⟨rfl,rfl⟩;cases B2
   ·clear HI HJ HH;go_wp2_with fail
    go_ret;exact⟨am (by rw [HR.out];simp),hb1⟩
   ·clear HH HJ q4 q5 q6 q7 q8 q9 q10 q11
    rename World=>W1
    go_wp2_with fail
    go_region_held3 (fun w'=>w'.cell? ⟨w.heap.size,0,none⟩=some (.slice s1 S.length s2)∧w'.cell? ⟨w.heap.size,1,none⟩=some (.slice p1 P.length p2)∧w'.cell? ⟨w.heap.size,2,none⟩=some (.slice a1 A.length a2)∧w'.cell? ⟨w.heap.size+1,0,none⟩=some (.int .i64 xs)) (go_keep)
     (first |(go_at_call 67;refine(eA _ _).mono ?_;rintro e w1 ⟨bi,rfl,hbi,hc1⟩;have g1:Below W1.heap.size W1 w1:=((Below.refl _ W1).drew).trans hc1;have k1:Below w.heap.size w w1:=hb1.trans (g1.mono hb1.size);have y0:=zC q0 g1;have y1:=zC q1 g1;have y2:=zC q2 g1;have y3:=zC q3 g1) |(go_at_call 66;refine(ag HI _ _ k1 hbi).mono ?_;rintro e w2 ⟨rfl,hc2⟩;have g2:Below W1.heap.size W1 w2:=g1.trans (hc2.mono g1.size);have k2:Below w.heap.size w w2:=hb1.trans (g2.mono hb1.size);have z0:=zC q0 g2;have z1:=zC q1 g2;have z2:=zC q2 g2;have z3:=zC q3 g2))
    clear HI q0 q1 q2 q3 y0 y1 y2 y3 hb1 hbi hc1 hc2 g1 g2 k1;cases R1
    ·go_wp2_with fail
     go_ret;exact⟨am (by rw [HR.out];simp),k2⟩
    ·by_cases h40:40≤A.length
     ·have h40i:(40:Int)≤(A.length:Int):=(by omega);go_wp2_with fail
      go_ret;exact⟨am (by rw [HR.out];simp [h40]),k2⟩
     ·have h40i:(A.length:Int)<40:=(by omega);go_wp2_with fail
      go_ret;exact⟨am (by rw [HR.out];simp [h40]),k2⟩
def bM (S:List Sw):Bool:=(List.range S.length).all fun k=>bl (S.take k) [] (S.getD k sw0)==0
def ba (S:List Sw) (P:List Pr):Bool:=(List.range P.length).all fun k=>bm S (P.take k) (P.getD k pr0)==0
def cE (S:List Sw) (A:List Ac):Bool:=(List.range A.length).all fun k=>bw S (A.take k) (A.getD k ac0)==0
theorem kO {n:Nat} {f:Nat→Bool} (h:∀j,j<n→f j=true):(List.range n).all f=true:=by
 rw [List.all_eq_true];intro x hx;exact h x (List.mem_range.1 hx)
theorem nE {n:Nat} {f:Nat→Bool} {k:Nat} (hk:k<n) (h:f k=false):(List.range n).all f=false:=by
 rw [List.all_eq_false];exact⟨k,List.mem_range.2 hk,by simp [h]⟩
theorem oJ {α:Type} {l:List α} (k c:Nat) (h:l.length*c≤140737488355328):(l.take k).length*c≤140737488355328:=Nat.le_trans (Nat.mul_le_mul_right _ (by rw [List.length_take];exact Nat.min_le_right _ _)) h
theorem jU (sv pv av:Value) (S:List Sw) (P:List Pr) (A:List Ac) (w:World) (hC:CfAt w sv pv av S P A) (h1:S.length*24≤140737488355328):
  Calls Tryz.prog 22 #[.agg #[sv,pv,av]] w fun e w'=>e= .returned (.bool (bM S))∧Below w.heap.size w w':=by
 have HC:=aa hC;have HY:Hid ((∀j,j<S.length→(bl (S.take j) [] (S.getD j sw0)==0)=true)→bM S=true):=fun h=>kO h;have HNO:Hid (∀k,k<S.length→(bl (S.take k) [] (S.getD k sw0)==0)=false→bM S=false):=fun k hk h=>nE hk h;generalize bM S=R at*;obtain⟨s1,s2,rfl⟩:=hC.1.slice;obtain⟨p1,p2,rfl⟩:=hC.2.1.slice;obtain⟨a1,a2,rfl⟩:=hC.2.2.slice;clear hC;go_enter Tryz.func22,Tryz.ntmps22;go_wp2_with fail
 obtain⟨W0,hW0⟩:∃W0,W0=w.alloc (.cells #[.slice s1 S.length s2,.slice p1 P.length p2,.slice a1 A.length a2] 30):=⟨_,rfl⟩;have hb0:Below w.heap.size w W0:=by rw [hW0];exact(Below.refl _ _).alloc zr _
 have d0:W0.cell? ⟨w.heap.size,0,none⟩=some (.slice s1 S.length s2):=zN1 hW0 rfl;have d1:W0.cell? ⟨w.heap.size,1,none⟩=some (.slice p1 P.length p2):=zN1 hW0 rfl;have d2:W0.cell? ⟨w.heap.size,2,none⟩=some (.slice a1 A.length a2):=zN1 hW0 rfl;have hz0:w.heap.size<W0.heap.size:=aq d0;rw [←hW0];clear hW0;go_loopw [8] (fun i wr=>∃k:Nat,k≤S.length∧i= .int .i64 k∧Hid (∀j,j<k→(bl (S.take j) [] (S.getD j sw0)==0)=true)∧Below W0.heap.size W0 wr) (fun i _=>S.length-(intOf i).toNat)
 case atStart=>exact⟨0,by omega,rfl,aa (fun j h=>absurd h (by omega)),Below.refl _ _⟩
 case round=>
  obtain⟨k,hk,rfl,HALL,hbr⟩:=hrel;have hbw:=hb0.trans (hbr.mono hb0.size);have q0:=zC d0 hbr;have q1:=zC d1 hbr;have q2:=zC d2 hbr;by_cases hlt:k<S.length
  ·obtain⟨b,off,cap',e1,hcap,hb,g0,g1,g2⟩:=je (RowAt.below HC.out.1 hbw zr) hlt;have HK:Hid (∀W:World,Below w.heap.size w W→Calls Tryz.prog 38 #[.agg #[.slice s1 k s2,.slice none 0 0,.slice none 0 0],.agg #[.int .i64 (S.getD k sw0).i,.int .i64 (S.getD k sw0).t,.int .i64 (S.getD k sw0).g]] W fun e w'=>e= .returned (.int .i64 (bl (S.take k) [] (S.getD k sw0)))∧Below W.heap.size W w'):=fun W hW=>ig _ _ _ (S.take k) [] [] (S.getD k sw0) W ⟨RowAt.take (RowAt.below HC.out.1 hW zr) k hlt,RowAt.nil _ _ _,RowAt.nil _ _ _⟩ (oJ k 24 h1) (by simp);simp only [Value.slice.injEq,true_and]at e1;obtain⟨rfl,rfl⟩:=e1;have HN1:=aa (HNO.out k hlt);have HNX:Hid ((bl (S.take k) [] (S.getD k sw0)==0)=true→∀j,j<k+1→(bl (S.take j) [] (S.getD j sw0)==0)=true):=fun h j hj=>by
    by_cases e:j=k
    ·subst e;exact h
    ·exact HALL.out j (by omega)
   have HRS:=aa hlt;clear HALL d0 d1 d2;generalize bl (S.take k) [] (S.getD k sw0)=G at HK HN1 HNX;generalize (S.getD k sw0).i=x0 at*;generalize (S.getD k sw0).t=x1 at*;generalize (S.getD k sw0).g=x2 at*;have q3:(0:Int)≤(k:Int):=(by omega);have q4:(k:Int)<(S.length:Int):=(by omega);have q5:(k:Int)≤(s2:Int):=(by omega);go_wp2_with fail
   obtain⟨W1,hW1⟩:∃W1,W1=wr.alloc (.cells #[.int .i64 x0,.int .i64 x1,.int .i64 x2] 36):=⟨_,rfl⟩;obtain⟨B,hB⟩:∃B,B=wr.heap.size:=⟨_,rfl⟩;have hb1:Below wr.heap.size wr W1:=by rw [hW1];exact(Below.refl _ _).alloc zr _
   have y0:W1.cell? ⟨B,0,none⟩=some (.int .i64 x0):=zN2 hW1 hB rfl;have y1:W1.cell? ⟨B,1,none⟩=some (.int .i64 x1):=zN2 hW1 hB rfl;have y2:W1.cell? ⟨B,2,none⟩=some (.int .i64 x2):=zN2 hW1 hB rfl;have r0:=zC q0 hb1;have r1:=zC q1 hb1;have r2:=zC q2 hb1;have hk1:Below w.heap.size w W1:=hbw.trans (hb1.mono hbw.size);have hr1:Below W0.heap.size W0 W1:=hbr.trans (hb1.mono hbr.size);rw [←hW1, ←hB];clear hW1 hB hb1 q0 q1 q2 hbw hbr g0 g1 g2;go_region_held3 (fun w'=>w'.cell? ⟨w.heap.size,0,none⟩=some (.slice (some ⟨b,off,none⟩) S.length s2)∧w'.cell? ⟨w.heap.size,1,none⟩=some (.slice p1 P.length p2)∧w'.cell? ⟨w.heap.size,2,none⟩=some (.slice a1 A.length a2)∧w'.cell? ⟨B,0,none⟩=some (.int .i64 x0)∧w'.cell? ⟨B,1,none⟩=some (.int .i64 x1)∧w'.cell? ⟨B,2,none⟩=some (.int .i64 x2)) (go_keep)
    (first |(go_at_call 38;refine(ag HK _ hk1.drew).mono ?_;rintro e w2 ⟨rfl,hc2⟩;have g2:Below W1.heap.size W1 w2:=((Below.refl _ W1).drew).trans hc2;have v0:=zC r0 g2;have v1:=zC r1 g2;have v2:=zC r2 g2;have u0:=zC y0 g2;have u1:=zC y1 g2;have u2:=zC y2 g2))
   have HB2:Hid (Below W0.heap.size W0 w2):=hr1.trans (g2.mono hr1.size);clear hr1 hk1 g2 hc2 r0 r1 r2 v0 v1 v2 HK y0 u0 y1 u1 y2 u2;by_cases hG:G=0
   ·subst hG;have HN:=aa (HNX.out rfl);clear HNX HN1;go_wp2_with fail
    go_roundw
    case rel=>exact⟨k+1,by omega,by go_num,HN,HB2.out⟩
    case measure=>simp [intOf];omega
   ·have HN:=aa (HN1.out (by simpa using hG));clear HNX HN1;go_wp2_with fail
    go_ret;exact⟨aA HN.out.symm,hb0.trans (HB2.out.mono hb0.size)⟩
  ·have HN:=aa (HY.out fun j hj=>HALL.out j (by omega));clear HALL q0 q1 q2 d0 d1 d2;go_wp2_with fail
   go_ret;exact⟨aA HN.out.symm,hbw⟩
theorem my (sv pv av:Value) (S:List Sw) (P:List Pr) (A:List Ac) (w:World) (hC:CfAt w sv pv av S P A) (h1:S.length*24≤140737488355328) (h2:P.length*40≤140737488355328):
  Calls Tryz.prog 23 #[.agg #[sv,pv,av]] w fun e w'=>e= .returned (.bool (ba S P))∧Below w.heap.size w w':=by
 have HC:=aa hC;have HY:Hid ((∀j,j<P.length→(bm S (P.take j) (P.getD j pr0)==0)=true)→ba S P=true):=fun h=>kO h;have HNO:Hid (∀k,k<P.length→(bm S (P.take k) (P.getD k pr0)==0)=false→ba S P=false):=fun k hk h=>nE hk h;generalize ba S P=R at*;obtain⟨s1,s2,rfl⟩:=hC.1.slice;obtain⟨p1,p2,rfl⟩:=hC.2.1.slice;obtain⟨a1,a2,rfl⟩:=hC.2.2.slice;clear hC;go_enter Tryz.func23,Tryz.ntmps23;go_wp2_with fail
 obtain⟨W0,hW0⟩:∃W0,W0=w.alloc (.cells #[.slice s1 S.length s2,.slice p1 P.length p2,.slice a1 A.length a2] 30):=⟨_,rfl⟩;have hb0:Below w.heap.size w W0:=by rw [hW0];exact(Below.refl _ _).alloc zr _
 have d0:W0.cell? ⟨w.heap.size,0,none⟩=some (.slice s1 S.length s2):=zN1 hW0 rfl;have d1:W0.cell? ⟨w.heap.size,1,none⟩=some (.slice p1 P.length p2):=zN1 hW0 rfl;have d2:W0.cell? ⟨w.heap.size,2,none⟩=some (.slice a1 A.length a2):=zN1 hW0 rfl;have hz0:w.heap.size<W0.heap.size:=aq d0;rw [←hW0];clear hW0;go_loopw [8] (fun i wr=>∃k:Nat,k≤P.length∧i= .int .i64 k∧Hid (∀j,j<k→(bm S (P.take j) (P.getD j pr0)==0)=true)∧Below W0.heap.size W0 wr) (fun i _=>P.length-(intOf i).toNat)
 case atStart=>exact⟨0,by omega,rfl,aa (fun j h=>absurd h (by omega)),Below.refl _ _⟩
 case round=>
  obtain⟨k,hk,rfl,HALL,hbr⟩:=hrel;have hbw:=hb0.trans (hbr.mono hb0.size);have q0:=zC d0 hbr;have q1:=zC d1 hbr;have q2:=zC d2 hbr;by_cases hlt:k<P.length
  ·obtain⟨b,off,cap',e1,hcap,hb,g0,g1,g2,g3,g4⟩:=eO (RowAt.below HC.out.2.1 hbw zr) hlt;have HK:Hid (∀W:World,Below w.heap.size w W→Calls Tryz.prog 39 #[.agg #[.slice s1 S.length s2,.slice p1 k p2,.slice none 0 0],.agg #[.int .i64 (P.getD k pr0).i,.int .i64 (P.getD k pr0).s,.int .i64 (P.getD k pr0).m,.int .i64 (P.getD k pr0).p,.int .i64 (P.getD k pr0).c]] W fun e w'=>e= .returned (.int .i64 (bm S (P.take k) (P.getD k pr0)))∧Below W.heap.size W w'):=fun W hW=>jh _ _ _ S (P.take k) [] (P.getD k pr0) W ⟨RowAt.below HC.out.1 hW zr,RowAt.take (RowAt.below HC.out.2.1 hW zr) k hlt,RowAt.nil _ _ _⟩ h1 (oJ k 40 h2);simp only [Value.slice.injEq,true_and]at e1;obtain⟨rfl,rfl⟩:=e1;have HN1:=aa (HNO.out k hlt);have HNX:Hid ((bm S (P.take k) (P.getD k pr0)==0)=true→∀j,j<k+1→(bm S (P.take j) (P.getD j pr0)==0)=true):=fun h j hj=>by
    by_cases e:j=k
    ·subst e;exact h
    ·exact HALL.out j (by omega)
   have HRS:=aa hlt;clear HALL d0 d1 d2;generalize bm S (P.take k) (P.getD k pr0)=G at HK HN1 HNX;generalize (P.getD k pr0).i=x0 at*;generalize (P.getD k pr0).s=x1 at*;generalize (P.getD k pr0).m=x2 at*;generalize (P.getD k pr0).p=x3 at*;generalize (P.getD k pr0).c=x4 at*;have q3:(0:Int)≤(k:Int):=(by omega);have q4:(k:Int)<(P.length:Int):=(by omega);have q5:(k:Int)≤(p2:Int):=(by omega);go_wp2_with fail
   obtain⟨W1,hW1⟩:∃W1,W1=wr.alloc (.cells #[.int .i64 x0,.int .i64 x1,.int .i64 x2,.int .i64 x3,.int .i64 x4] 38):=⟨_,rfl⟩;obtain⟨B,hB⟩:∃B,B=wr.heap.size:=⟨_,rfl⟩;have hb1:Below wr.heap.size wr W1:=by rw [hW1];exact(Below.refl _ _).alloc zr _
   have y0:W1.cell? ⟨B,0,none⟩=some (.int .i64 x0):=zN2 hW1 hB rfl;have y1:W1.cell? ⟨B,1,none⟩=some (.int .i64 x1):=zN2 hW1 hB rfl;have y2:W1.cell? ⟨B,2,none⟩=some (.int .i64 x2):=zN2 hW1 hB rfl;have y3:W1.cell? ⟨B,3,none⟩=some (.int .i64 x3):=zN2 hW1 hB rfl;have y4:W1.cell? ⟨B,4,none⟩=some (.int .i64 x4):=zN2 hW1 hB rfl;have r0:=zC q0 hb1;have r1:=zC q1 hb1;have r2:=zC q2 hb1;have hk1:Below w.heap.size w W1:=hbw.trans (hb1.mono hbw.size);have hr1:Below W0.heap.size W0 W1:=hbr.trans (hb1.mono hbr.size);rw [←hW1, ←hB];clear hW1 hB hb1 q0 q1 q2 hbw hbr g0 g1 g2 g3 g4;go_region_held3 (fun w'=>w'.cell? ⟨w.heap.size,0,none⟩=some (.slice s1 S.length s2)∧w'.cell? ⟨w.heap.size,1,none⟩=some (.slice (some ⟨b,off,none⟩) P.length p2)∧w'.cell? ⟨w.heap.size,2,none⟩=some (.slice a1 A.length a2)∧w'.cell? ⟨B,0,none⟩=some (.int .i64 x0)∧w'.cell? ⟨B,1,none⟩=some (.int .i64 x1)∧w'.cell? ⟨B,2,none⟩=some (.int .i64 x2)∧w'.cell? ⟨B,3,none⟩=some (.int .i64 x3)∧w'.cell? ⟨B,4,none⟩=some (.int .i64 x4)) (go_keep)
    (first |(go_at_call 39;refine(ag HK _ hk1.drew).mono ?_;rintro e w2 ⟨rfl,hc2⟩;have g2:Below W1.heap.size W1 w2:=((Below.refl _ W1).drew).trans hc2;have v0:=zC r0 g2;have v1:=zC r1 g2;have v2:=zC r2 g2;have u0:=zC y0 g2;have u1:=zC y1 g2;have u2:=zC y2 g2;have u3:=zC y3 g2;have u4:=zC y4 g2))
   have HB2:Hid (Below W0.heap.size W0 w2):=hr1.trans (g2.mono hr1.size);clear hr1 hk1 g2 hc2 r0 r1 r2 v0 v1 v2 HK y0 u0 y1 u1 y2 u2 y3 u3 y4 u4;by_cases hG:G=0
   ·subst hG;have HN:=aa (HNX.out rfl);clear HNX HN1;go_wp2_with fail
    go_roundw
    case rel=>exact⟨k+1,by omega,by go_num,HN,HB2.out⟩
    case measure=>simp [intOf];omega
   ·have HN:=aa (HN1.out (by simpa using hG));clear HNX HN1;go_wp2_with fail
    go_ret;exact⟨aA HN.out.symm,hb0.trans (HB2.out.mono hb0.size)⟩
  ·have HN:=aa (HY.out fun j hj=>HALL.out j (by omega));clear HALL q0 q1 q2 d0 d1 d2;go_wp2_with fail
   go_ret;exact⟨aA HN.out.symm,hbw⟩
theorem nQ (sv pv av:Value) (S:List Sw) (P:List Pr) (A:List Ac) (w:World) (hC:CfAt w sv pv av S P A) (h1:S.length*24≤140737488355328) (h3:A.length*72≤140737488355328):
  Calls Tryz.prog 24 #[.agg #[sv,pv,av]] w fun e w'=>e= .returned (.bool (cE S A))∧Below w.heap.size w w':=by
 have HC:=aa hC;have HY:Hid ((∀j,j<A.length→(bw S (A.take j) (A.getD j ac0)==0)=true)→cE S A=true):=fun h=>kO h;have HNO:Hid (∀k,k<A.length→(bw S (A.take k) (A.getD k ac0)==0)=false→cE S A=false):=fun k hk h=>nE hk h;generalize cE S A=R at*;obtain⟨s1,s2,rfl⟩:=hC.1.slice;obtain⟨p1,p2,rfl⟩:=hC.2.1.slice;obtain⟨a1,a2,rfl⟩:=hC.2.2.slice;clear hC;go_enter Tryz.func24,Tryz.ntmps24;go_wp2_with fail
 obtain⟨W0,hW0⟩:∃W0,W0=w.alloc (.cells #[.slice s1 S.length s2,.slice p1 P.length p2,.slice a1 A.length a2] 30):=⟨_,rfl⟩;have hb0:Below w.heap.size w W0:=by rw [hW0];exact(Below.refl _ _).alloc zr _
 have d0:W0.cell? ⟨w.heap.size,0,none⟩=some (.slice s1 S.length s2):=zN1 hW0 rfl;have d1:W0.cell? ⟨w.heap.size,1,none⟩=some (.slice p1 P.length p2):=zN1 hW0 rfl;have d2:W0.cell? ⟨w.heap.size,2,none⟩=some (.slice a1 A.length a2):=zN1 hW0 rfl;have hz0:w.heap.size<W0.heap.size:=aq d0;rw [←hW0];clear hW0;go_loopw [8] (fun i wr=>∃k:Nat,k≤A.length∧i= .int .i64 k∧Hid (∀j,j<k→(bw S (A.take j) (A.getD j ac0)==0)=true)∧Below W0.heap.size W0 wr) (fun i _=>A.length-(intOf i).toNat)
 case atStart=>exact⟨0,by omega,rfl,aa (fun j h=>absurd h (by omega)),Below.refl _ _⟩
 case round=>
  obtain⟨k,hk,rfl,HALL,hbr⟩:=hrel;have hbw:=hb0.trans (hbr.mono hb0.size);have q0:=zC d0 hbr;have q1:=zC d1 hbr;have q2:=zC d2 hbr;by_cases hlt:k<A.length
  ·obtain⟨b,off,cap',e1,hcap,hb,g0,g1,g2,g3,g4,g5,g6,g7,g8⟩:=qD (RowAt.below HC.out.2.2 hbw zr) hlt;have HK:Hid (∀W:World,Below w.heap.size w W→Calls Tryz.prog 40 #[.agg #[.slice s1 S.length s2,.slice p1 P.length p2,.slice a1 k a2],.agg #[.int .i64 (A.getD k ac0).s,.int .i64 (A.getD k ac0).p,.bool (A.getD k ac0).n,.int .i64 (A.getD k ac0).src,.int .i64 (A.getD k ac0).sb,.int .i64 (A.getD k ac0).dst,.int .i64 (A.getD k ac0).db,.int .i64 (A.getD k ac0).o,.bool (A.getD k ac0).d]] W fun e w'=>e= .returned (.int .i64 (bw S (A.take k) (A.getD k ac0)))∧Below W.heap.size W w'):=fun W hW=>ku _ _ _ S P (A.take k) (A.getD k ac0) W ⟨RowAt.below HC.out.1 hW zr,RowAt.below HC.out.2.1 hW zr,RowAt.take (RowAt.below HC.out.2.2 hW zr) k hlt⟩ h1;simp only [Value.slice.injEq,true_and]at e1;obtain⟨rfl,rfl⟩:=e1;have HN1:=aa (HNO.out k hlt);have HNX:Hid ((bw S (A.take k) (A.getD k ac0)==0)=true→∀j,j<k+1→(bw S (A.take j) (A.getD j ac0)==0)=true):=fun h j hj=>by
    by_cases e:j=k
    ·subst e;exact h
    ·exact HALL.out j (by omega)
   have HRS:=aa hlt;clear HALL d0 d1 d2;generalize bw S (A.take k) (A.getD k ac0)=G at HK HN1 HNX;generalize (A.getD k ac0).s=x0 at*;generalize (A.getD k ac0).p=x1 at*;generalize (A.getD k ac0).n=x2 at*;generalize (A.getD k ac0).src=x3 at*;generalize (A.getD k ac0).sb=x4 at*;generalize (A.getD k ac0).dst=x5 at*;generalize (A.getD k ac0).db=x6 at*;generalize (A.getD k ac0).o=x7 at*;generalize (A.getD k ac0).d=x8 at*;have q3:(0:Int)≤(k:Int):=(by omega);have q4:(k:Int)<(A.length:Int):=(by omega);have q5:(k:Int)≤(a2:Int):=(by omega);go_wp2_with fail
   obtain⟨W1,hW1⟩:∃W1,W1=wr.alloc (.cells #[.int .i64 x0,.int .i64 x1,.bool x2,.int .i64 x3,.int .i64 x4,.int .i64 x5,.int .i64 x6,.int .i64 x7,.bool x8] 40):=⟨_,rfl⟩;obtain⟨B,hB⟩:∃B,B=wr.heap.size:=⟨_,rfl⟩;have hb1:Below wr.heap.size wr W1:=by rw [hW1];exact(Below.refl _ _).alloc zr _
   have y0:W1.cell? ⟨B,0,none⟩=some (.int .i64 x0):=zN2 hW1 hB rfl;have y1:W1.cell? ⟨B,1,none⟩=some (.int .i64 x1):=zN2 hW1 hB rfl;have y2:W1.cell? ⟨B,2,none⟩=some (.bool x2):=zN2 hW1 hB rfl;have y3:W1.cell? ⟨B,3,none⟩=some (.int .i64 x3):=zN2 hW1 hB rfl;have y4:W1.cell? ⟨B,4,none⟩=some (.int .i64 x4):=zN2 hW1 hB rfl;have y5:W1.cell? ⟨B,5,none⟩=some (.int .i64 x5):=zN2 hW1 hB rfl;have y6:W1.cell? ⟨B,6,none⟩=some (.int .i64 x6):=zN2 hW1 hB rfl;have y7:W1.cell? ⟨B,7,none⟩=some (.int .i64 x7):=zN2 hW1 hB rfl;have y8:W1.cell? ⟨B,8,none⟩=some (.bool x8):=zN2 hW1 hB rfl;have r0:=zC q0 hb1;have r1:=zC q1 hb1;have r2:=zC q2 hb1;have hk1:Below w.heap.size w W1:=hbw.trans (hb1.mono hbw.size);have hr1:Below W0.heap.size W0 W1:=hbr.trans (hb1.mono hbr.size);rw [←hW1, ←hB];clear hW1 hB hb1 q0 q1 q2 hbw hbr g0 g1 g2 g3 g4 g5 g6 g7 g8;go_region_held3 (fun w'=>w'.cell? ⟨w.heap.size,0,none⟩=some (.slice s1 S.length s2)∧w'.cell? ⟨w.heap.size,1,none⟩=some (.slice p1 P.length p2)∧w'.cell? ⟨w.heap.size,2,none⟩=some (.slice (some ⟨b,off,none⟩) A.length a2)∧w'.cell? ⟨B,0,none⟩=some (.int .i64 x0)∧w'.cell? ⟨B,1,none⟩=some (.int .i64 x1)∧w'.cell? ⟨B,2,none⟩=some (.bool x2)∧w'.cell? ⟨B,3,none⟩=some (.int .i64 x3)∧w'.cell? ⟨B,4,none⟩=some (.int .i64 x4)∧w'.cell? ⟨B,5,none⟩=some (.int .i64 x5)∧w'.cell? ⟨B,6,none⟩=some (.int .i64 x6)∧w'.cell? ⟨B,7,none⟩=some (.int .i64 x7)∧w'.cell? ⟨B,8,none⟩=some (.bool x8)) (go_keep)
    (first |(go_at_call 40;refine(ag HK _ hk1.drew).mono ?_;rintro e w2 ⟨rfl,hc2⟩;have g2:Below W1.heap.size W1 w2:=((Below.refl _ W1).drew).trans hc2;have v0:=zC r0 g2;have v1:=zC r1 g2;have v2:=zC r2 g2;have u0:=zC y0 g2;have u1:=zC y1 g2;have u2:=zC y2 g2;have u3:=zC y3 g2;have u4:=zC y4 g2;have u5:=zC y5 g2;have u6:=zC y6 g2;have u7:=zC y7 g2;have u8:=zC y8 g2))
   have HB2:Hid (Below W0.heap.size W0 w2):=hr1.trans (g2.mono hr1.size);clear hr1 hk1 g2 hc2 r0 r1 r2 v0 v1 v2 HK y0 u0 y1 u1 y2 u2 y3 u3 y4 u4 y5 u5 y6 u6 y7 u7 y8 u8;by_cases hG:G=0
   ·subst hG;have HN:=aa (HNX.out rfl);clear HNX HN1;go_wp2_with fail
    go_roundw
    case rel=>exact⟨k+1,by omega,by go_num,HN,HB2.out⟩
    case measure=>simp [intOf];omega
   ·have HN:=aa (HN1.out (by simpa using hG));clear HNX HN1;go_wp2_with fail
    go_ret;exact⟨aA HN.out.symm,hb0.trans (HB2.out.mono hb0.size)⟩
  ·have HN:=aa (HY.out fun j hj=>HALL.out j (by omega));clear HALL q0 q1 q2 d0 d1 d2;go_wp2_with fail
   go_ret;exact⟨aA HN.out.symm,hbw⟩
def may (S:List Sw) (P:List Pr) (A:List Ac):Bool:=bM S&&ba S P&&cE S A
theorem gj (sv pv av:Value) (S:List Sw) (P:List Pr) (A:List Ac) (w:World) (hC:CfAt w sv pv av S P A) (h1:S.length*24≤140737488355328) (h2:P.length*40≤140737488355328) (h3:A.length*72≤140737488355328):
  Calls Tryz.prog 8 #[.agg #[sv,pv,av]] w fun e w'=>e= .returned (.int .i64 (if may S P A=true then 0 else 8))∧Below w.heap.size w w':=by
 have H1:Hid (∀W:World,Below w.heap.size w W→Calls Tryz.prog 22 #[.agg #[sv,pv,av]] W fun e w'=>e= .returned (.bool (bM S))∧Below W.heap.size W w'):=fun W hW=>jU sv pv av S P A W (hC.below hW zr) h1;have H2:Hid (∀W:World,Below w.heap.size w W→Calls Tryz.prog 23 #[.agg #[sv,pv,av]] W fun e w'=>e= .returned (.bool (ba S P))∧Below W.heap.size W w'):=fun W hW=>my sv pv av S P A W (hC.below hW zr) h1 h2;have H3:Hid (∀W:World,Below w.heap.size w W→Calls Tryz.prog 24 #[.agg #[sv,pv,av]] W fun e w'=>e= .returned (.bool (cE S A))∧Below W.heap.size W w'):=fun W hW=>nQ sv pv av S P A W (hC.below hW zr) h1 h3;have HR:Hid ((if may S P A=true then(0:Int)else 8)=if(bM S&&ba S P&&cE S A)=true then 0 else 8):=rfl;generalize (if may S P A=true then(0:Int)else 8)=R at*;generalize bM S=R1 at*;generalize ba S P=R2 at*;generalize cE S A=R3 at*;obtain⟨s1,s2,rfl⟩:=hC.1.slice;obtain⟨p1,p2,rfl⟩:=hC.2.1.slice;obtain⟨a1,a2,rfl⟩:=hC.2.2.slice;clear hC;go_enter Tryz.func8,Tryz.ntmps8;go_wp2_with fail
 obtain⟨W0,hW0⟩:∃W0,W0=w.alloc (.cells #[.slice s1 S.length s2,.slice p1 P.length p2,.slice a1 A.length a2] 30):=⟨_,rfl⟩;have hb0:Below w.heap.size w W0:=by rw [hW0];exact(Below.refl _ _).alloc zr _
 have d0:W0.cell? ⟨w.heap.size,0,none⟩=some (.slice s1 S.length s2):=zN1 hW0 rfl;have d1:W0.cell? ⟨w.heap.size,1,none⟩=some (.slice p1 P.length p2):=zN1 hW0 rfl;have d2:W0.cell? ⟨w.heap.size,2,none⟩=some (.slice a1 A.length a2):=zN1 hW0 rfl;rw [←hW0];clear hW0;refine(ag H1 _ hb0).mono ?_;rintro e w1 ⟨rfl,hc1⟩;have k1:=hb0.trans (hc1.mono hb0.size);have q0:=zC d0 hc1;have q1:=zC d1 hc1;have q2:=zC d2 hc1;clear d0 d1 d2 hb0 hc1 H1;cases R1
 ·clear H2 H3;go_wp2_with fail
  go_ret;exact⟨am (by rw [HR.out];simp),k1⟩
 ·go_wp2_with fail
  refine(ag H2 _ k1).mono ?_;rintro e w2 ⟨rfl,hc2⟩;have k2:=k1.trans (hc2.mono k1.size);have d0:=zC q0 hc2;have d1:=zC q1 hc2;have d2:=zC q2 hc2;clear q0 q1 q2 k1 hc2 H2;cases R2
  ·clear H3;go_wp2_with fail
   go_ret;exact⟨am (by rw [HR.out];simp),k2⟩
  ·go_wp2_with fail
   refine(ag H3 _ k2).mono ?_;rintro e w3 ⟨rfl,hc3⟩;have k3:=k2.trans (hc3.mono k2.size);clear d0 d1 d2 k2 hc3 H3;cases R3
   ·go_wp2_with fail
    go_ret;exact⟨am (by rw [HR.out];simp),k3⟩
   ·go_wp2_with fail
    go_ret;exact⟨am (by rw [HR.out];simp),k3⟩
theorem yk {S:List Sw} {P:List Pr} {x:Pr} (h:bm S P x=0):P.length<40:=by
 unfold bm at h;split at h
 ·omega
 ·split at h
  ·omega
  ·split at h
   ·omega
   ·split at h
    ·omega
    ·split at h
     ·omega
     ·omega
theorem xF {S:List Sw} {A:List Ac} {x:Ac} (h:bw S A x=0):A.length<40:=by
 unfold bw at h;split at h
 ·omega
 ·split at h
  ·omega
  ·split at h
   ·omega
   ·split at h
    ·omega
    ·omega
theorem yj {S:List Sw} {P:List Pr} {x:Sw} (h:bl S P x=0):S.length<12:=by
 unfold bl at h;split at h
 ·omega
 ·split at h
  ·omega
  ·split at h
   ·omega
   ·omega
theorem bR {S:List Sw} {P:List Pr} {A:List Ac} (h:may S P A=true):bM S=true∧ba S P=true∧cE S A=true:=by
 unfold may at h;simp only [Bool.and_eq_true]at h;exact⟨h.1.1,h.1.2,h.2⟩
theorem eF {S:List Sw} {P:List Pr} {A:List Ac} (h:may S P A=true):S.length≤12∧P.length≤40∧A.length≤40:=by
 obtain⟨h1,h2,h3⟩:=bR h;refine⟨?_,?_,?_⟩
 ·rcases Nat.lt_or_ge 12 S.length with h' | h'
  ·unfold bM at h1;rw [List.all_eq_true]at h1;have:=h1 12 (List.mem_range.2 h');have:=yj (by simpa using this);rw [List.length_take]at this;omega
  ·exact h'
 ·rcases Nat.lt_or_ge 40 P.length with h' | h'
  ·unfold ba at h2;rw [List.all_eq_true]at h2;have:=h2 40 (List.mem_range.2 h');have:=yk (by simpa using this);rw [List.length_take]at this;omega
  ·exact h'
 ·rcases Nat.lt_or_ge 40 A.length with h' | h'
  ·unfold cE at h3;rw [List.all_eq_true]at h3;have:=h3 40 (List.mem_range.2 h');have:=xF (by simpa using this);rw [List.length_take]at this;omega
  ·exact h'
theorem pf {S:List Sw} {P:List Pr} {x:Pr} (h:bm S P x=0):P.any (fun y=>y.i==x.i|| y.s==x.s&&y.m==x.m)=false:=by
 unfold bm at h;by_cases h1:P.any (fun y=>y.i==x.i|| y.s==x.s&&y.m==x.m)=true
 ·rw [if_pos h1]at h;split at h
  ·omega
  ·split at h <;>omega
 ·exact Bool.not_eq_true _ |>.mp h1
theorem Bz {S:List Sw} {P:List Pr} (h:ba S P=true) {k:Nat} (hk:k<P.length):bm S (P.take k) (P.getD k pr0)=0:=by
 unfold ba at h;rw [List.all_eq_true]at h;simpa using h k (List.mem_range.2 hk)
theorem Bm {S:List Sw} {P:List Pr} (h:ba S P=true) {j k:Nat} (hk:k<P.length) (hj:j<k):(P[j]'(by omega)).i≠P[k].i:=by
 have h1:=pf (Bz h hk);rw [List.any_eq_false]at h1;have hm:P[j]'(by omega)∈P.take k:=by
  rw [List.mem_take_iff_getElem];exact⟨j,by omega,rfl⟩
 have:=h1 _ hm;simp only [List.getD,List.getElem?_eq_getElem hk,Option.getD_some,Bool.or_eq_true,not_or]at this;simpa using this.1
theorem m9 {S:List Sw} {P:List Pr} (h:ba S P=true):P.Pairwise (fun a b=>a.i≠b.i):=by
 rw [List.pairwise_iff_getElem];exact fun j k _ hk hj=>Bm h hk hj
theorem ll {S:List Sw} {P:List Pr} {x:Sw} (h:bl S P x=0):
  (inB x.i 1 500=true∧inB x.t 1 9=true∧inB x.g 0 65535=true)∧(S.any (fun s=>s.i==x.i)=false∧(x.g != 0&&bZ S P x.t x.g)=false)∧S.length<12:=by
 unfold bl at h;by_cases h0:(inB x.i 1 500&&inB x.t 1 9&&inB x.g 0 65535)=false
 ·rw [if_pos h0]at h;omega
 ·rw [if_neg h0]at h;by_cases h1:(S.any (fun s=>s.i==x.i)|| (x.g != 0&&bZ S P x.t x.g))=true
  ·rw [if_pos h1]at h;omega
  ·rw [if_neg h1]at h;by_cases h2:12≤S.length
   ·rw [if_pos h2]at h;omega
   ·have h0':=Bool.not_eq_false _ |>.mp h0
    have h1':=Bool.not_eq_true _ |>.mp h1;simp only [Bool.and_eq_true]at h0';rw [Bool.or_eq_false_iff]at h1';exact⟨⟨h0'.1.1,h0'.1.2,h0'.2⟩,h1',by omega⟩
theorem jE {α:Type} (f:List α→α→Int) (d:α) (l:List α):(List.range l.length).all (fun k=>f (l.take k) (l.getD k d)==0)=true↔∀L x R,l=L++x::R→f L x=0:=by
 rw [List.all_eq_true];constructor
 ·rintro h L x R rfl;have:=h L.length (List.mem_range.2 (by simp));simpa using this
 ·intro h k hk;rw [List.mem_range]at hk;have e:l=l.take k++l[k]::l.drop (k+1):=by
   conv=>lhs;rw [←List.take_append_drop k l]
   rw [List.drop_eq_getElem_cons hk]
  have h1:=h _ _ _ e;have hg:l.getD k d=l[k]:=(by simp [List.getD,List.getElem?_eq_getElem hk]);rw [hg,h1];rfl
theorem nv (S:List Sw):bM S=true↔∀L x R,S=L++x::R→bl L [] x=0:=jE (fun L x=>bl L [] x) sw0 S
theorem cT (S:List Sw) (P:List Pr):ba S P=true↔∀L x R,P=L++x::R→bm S L x=0:=jE (fun L x=>bm S L x) pr0 P
theorem jV (S:List Sw) (A:List Ac):cE S A=true↔∀L x R,A=L++x::R→bw S L x=0:=jE (fun L x=>bw S L x) ac0 A
theorem iK {α:Type} {l L R:List α} {y x:α} (h:l++ [y]=L++x::R):(L=l∧x=y)∨∃R',l=L++x::R':=by
 rw [List.append_eq_append_iff]at h;rcases h with⟨a,h1,h2⟩ |⟨a,h1,h2⟩
 ·cases a with
  | nil=>
   simp at h1 h2;exact .inl ⟨h1,h2.1.symm⟩
  | cons b c=>
   simp at h2
 ·cases a with
  | nil=>
   simp at h1 h2;exact .inl ⟨h1.symm,h2.1⟩
  | cons b c=>
   simp at h2;obtain⟨rfl,rfl⟩:=h2;exact .inr ⟨c,h1⟩
def tn (S:List Sw) (id:Int):Int:=(S.getD (idx (fun s=>s.i==id) S).toNat sw0).t
theorem ew (S:List Sw) (P:List Pr) (x:Pr):bm S P x=0↔fT x=true∧0≤idx (fun s=>s.i==x.s) S∧P.any (fun y=>y.i==x.i|| y.s==x.s&&y.m==x.m)=false∧bZ S P (tn S x.s) x.p=false∧P.length<40:=by
 unfold bm;show(if fT x=false then(2:Int)else if idx (fun s=>s.i==x.s) S<0 then 6 else if P.any (fun y=>y.i==x.i|| y.s==x.s&&y.m==x.m)=true then 7 else if bZ S P (tn S x.s) x.p=true then 7 else if 40≤P.length then 1 else 0)=0↔_;generalize idx (fun s:Sw=>s.i==x.s) S=I;generalize bZ S P (tn S x.s) x.p=B;generalize P.any (fun y=>y.i==x.i|| y.s==x.s&&y.m==x.m)=C;generalize fT x=D;cases D <;>cases C <;>cases B <;>simp <;>(repeat' split) <;>omega
theorem uM {S:List Sw} {P:List Pr} (h:ba S P=true) {x:Pr} (hx:x∈P):fT x=true∧0≤idx (fun s=>s.i==x.s) S:=by
 obtain⟨L,R,rfl⟩:=List.append_of_mem hx;have:=(ew _ _ _).1 ((cT S _).1 h L x R rfl);exact⟨this.1,this.2.1⟩
theorem tW (S:List Sw) (A:List Ac) (x:Ac):bw S A x=0↔fG x=true∧(cJ x.src x.sb&&cJ x.dst x.db)=true∧S.any (fun s=>s.i==x.s)=true∧A.length<40:=by
 unfold bw;generalize fG x=B;generalize (cJ x.src x.sb&&cJ x.dst x.db)=C;generalize S.any (fun s=>s.i==x.s)=D;cases B <;>cases C <;>cases D <;>simp <;>omega
theorem kS {α:Type} {l:List α} (h:l≠ []):l=l.dropLast++l.getLast h:: []:=(List.dropLast_concat_getLast h).symm
theorem pB {S:List Sw} {P:List Pr} {x:Sw} (h:bl S P x=0):(1≤x.i∧x.i≤500)∧(1≤x.t∧x.t≤9)∧(0≤x.g∧x.g≤65535)∧S.any (fun y=>y.i==x.i)=false∧S.length<12:=by
 unfold bl at h;split at h
 ·omega
 ·rename_i h1;split at h
  ·omega
  ·rename_i h2;split at h
   ·omega
   ·rename_i h3;simp [inB]at h1 h2;refine⟨by omega,by omega,by omega,?_,by omega⟩;rw [List.any_eq_false];intro y hy;simpa using h2.1 y hy
theorem gc {S:List Sw} (h:bM S=true):S.length≤12∧∀x∈S,(1≤x.i∧x.i≤500)∧(1≤x.t∧x.t≤9)∧(0≤x.g∧x.g≤65535):=by
 have hf:=(nv S).1 h;refine⟨?_,fun x hx=>?_⟩
 ·by_cases he:S= []
  ·simp [he]
  ·have:=(pB (hf _ _ _ (kS he))).2.2.2.2;rw [List.length_dropLast]at this;omega
 ·obtain⟨L,R,e⟩:=List.append_of_mem hx;have:=pB (hf L x R e);exact⟨this.1,this.2.1,this.2.2.1⟩
theorem dy {S:List Sw} {P:List Pr} (hs:bM S=true) (h:ba S P=true):P.length≤40∧∀p∈P,(1≤p.i∧p.i≤999)∧(1≤p.s∧p.s≤500)∧(1≤p.m∧p.m≤59999)∧(1≤p.p∧p.p≤65535)∧ -1≤p.c∧p.c≤5:=by
 have hf:=(cT S P).1 h;refine⟨?_,fun x hx=>?_⟩
 ·by_cases he:P= []
  ·simp [he]
  ·have:=((ew _ _ _).1 (hf _ _ _ (kS he))).2.2.2.2;rw [List.length_dropLast]at this;omega
 ·obtain⟨L,R,e⟩:=List.append_of_mem hx;have:=(ew _ _ _).1 (hf L x R e);have h1:=this.1;have h2:S.any (fun s=>s.i==x.s)=true:=by rw [←dN];simpa using this.2.1
  rw [List.any_eq_true]at h2;obtain⟨s,hsS,hse⟩:=h2;have h3:=(gc hs).2 s hsS;simp at hse;simp [fT,inB]at h1;refine⟨by omega,by omega,by omega,by omega,by omega⟩
theorem jF {S:List Sw} {A:List Ac} (h:cE S A=true):A.length≤40∧∀r∈A,fG r=true∧(cJ r.src r.sb&&cJ r.dst r.db)=true∧S.any (fun s=>s.i==r.s)=true:=by
 have hf:=(jV S A).1 h;refine⟨?_,fun x hx=>?_⟩
 ·by_cases he:A= []
  ·simp [he]
  ·have:=((tW _ _ _).1 (hf _ _ _ (kS he))).2.2.2;rw [List.length_dropLast]at this;omega
 ·obtain⟨L,R,e⟩:=List.append_of_mem hx;have:=(tW _ _ _).1 (hf L x R e);exact⟨this.1,this.2.1,this.2.2.1⟩
theorem uG {S:List Sw} {A:List Ac} (h:cE S A=true):∀r∈A,(0≤r.sb∧r.sb≤16)∧0≤r.db∧r.db≤16:=fun r hr=>by
 have:=((jF h).2 r hr).1;simp [fG,inB]at this;omega
theorem qn {n:Int} (h0:0≤n) (h1:n≤65535):mk n 65535=n:=by
 obtain⟨a,rfl⟩:=Int.eq_ofNat_of_zero_le h0;unfold mk;have e:((65535:Int).toNat)=2 ^ 16-1:=rfl;rw [e,Int.toNat_natCast,Nat.and_two_pow_sub_one_eq_mod,Nat.mod_eq_of_lt (by omega)]
theorem xN {v k:Nat} (hk:k≤16) (hv:v<2 ^ 16) (hd:v%2 ^ k=0):v&&& (2 ^ 16-2 ^ k)=v:=by
 have hp:0<2 ^ k:=Nat.two_pow_pos k;have e:2 ^ 16-2 ^ k=2 ^ 16-((2 ^ k-1)+1):=by omega
 rw [e];refine Nat.eq_of_testBit_eq fun j=>?_;have hlt:2 ^ k-1<2 ^ 16:=by
  have:=Nat.pow_le_pow_right (show 0<2 by decide) hk;omega
 rw [Nat.testBit_and,Nat.testBit_two_pow_sub_succ hlt,Nat.testBit_two_pow_sub_one];by_cases hj:j<16
 ·by_cases hjk:j<k
  ·have:v.testBit j=false:=by
    obtain⟨q,rfl⟩:=Nat.dvd_of_mod_eq_zero hd;rw [Nat.testBit_two_pow_mul];simp;omega
   simp [this]
  ·simp [hj,hjk]
 ·have:v.testBit j=false:=Nat.testBit_lt_two_pow (Nat.lt_of_lt_of_le hv (Nat.pow_le_pow_right (by decide) (by omega)));simp [this]
theorem bB {f v:Int} (h0:0≤f) (h1:f≤9) (h2:0≤v) (h3:v≤65535):bk (isM f v)=true:=by
 unfold bk isM iI aB;simp only;rw [qn h2 h3,Bool.and_eq_true,Bool.and_eq_true,Bool.and_eq_true];exact⟨⟨⟨decide_eq_true (by omega),decide_eq_true (by omega)⟩,decide_eq_true (by omega)⟩,by simp⟩
theorem xK {f v b:Int} (h0:0≤f) (h1:f≤9) (h2:0≤v) (h3:v≤65535) (h4:0≤b) (h5:b≤16) (h6:cJ v b=true):bk (hiM f v b)=true:=by
 obtain⟨n,rfl⟩:=Int.eq_ofNat_of_zero_le h4;obtain⟨a,rfl⟩:=Int.eq_ofNat_of_zero_le h2;have hk:((16:Int)-(n:Int)).toNat=16-n:=by omega
 have hn:n≤16:=by omega
 have hpow:2 ^ 16=2 ^ (16-n)*2 ^ n:=by rw [←Nat.pow_add];congr 1;omega
 have hd:a%2 ^ (16-n)=0:=by
  have h:=h6;simp only [cJ,Int.toNat_natCast,beq_iff_eq]at h;have e:(65536:Int)/2 ^ n=((2 ^ (16-n):Nat):Int):=by
   have:(65536:Int)=((2 ^ (16-n)*2 ^ n:Nat):Int):=by rw [←hpow];rfl
   rw [this,Int.natCast_mul];rw [show((2 ^ n:Nat):Int)=(2:Int) ^ n by simp];exact Int.mul_ediv_cancel _ (by have:(0:Int)<2 ^ n:=Int.pow_pos (by decide);omega)
  rw [e]at h
  exact_mod_cast h
 have hm:=xN (v:=a) (k:=16-n) (by omega) (by omega) hd;have hle:2 ^ (16-n)≤2 ^ 16:=Nat.pow_le_pow_right (by decide) (by omega);have hpos:0<2 ^ (16-n):=Nat.two_pow_pos _;have hmask:(65536:Int)-2 ^ (16-n)=((2 ^ 16-2 ^ (16-n):Nat):Int):=by
  rw [Int.ofNat_sub hle];simp
 simp only [bk,hiM,hk,hmask,mk,Int.toNat_natCast,hm];have:((2 ^ 16-2 ^ (16-n):Nat):Int)≤65535:=by omega
 simp [iI,aB];omega
def lD (d:Do):Prop:=∀t last,eR d.k d.a d.n t last=true
theorem fi {a n:Int} (h0:0≤a) (h1:a≤9) (h2:0≤n) (h3:n≤65535):lD ⟨1,a,n⟩:=fun t last=>by simp [eR];omega
theorem copy_any' {a n:Int} (h0:0≤a) (h1:a≤9) (h2:0≤n) (h3:n≤9):lD ⟨2,a,n⟩:=fun t last=>by simp [eR];omega
theorem xh {a:Int} (h0:0≤a) (h1:a≤9):lD ⟨3,a,0⟩:=fun t last=>by simp [eR];omega
theorem zy {n:Int} (h2:0≤n) (h3:n≤65535):lD ⟨5,0,n⟩:=fun t last=>by simp [eR];omega
theorem vi {n:Int} (h2:0≤n) (h3:n≤5):lD ⟨6,0,n⟩:=fun t last=>by simp [eR];omega
theorem dX {t:Int} {ds:List Do} (h:∀d∈ds,lD d):∀j,j<ds.length→doB t ds j=true:=fun j hj=>by
 unfold doB;refine h _ ?_ _ _;rw [List.getD_eq_getElem?_getD,List.getElem?_eq_getElem hj];exact List.getElem_mem _
theorem gn {t n:Int} {ds:List Do} (h:∀d∈ds,lD d) (h0:t<n) (h1:n≤7):∀j,j<(ds++ [aZ n]).length→doB t (ds++ [aZ n]) j=true:=fun j hj=>by
 rw [List.length_append,List.length_singleton]at hj;by_cases hl:j=ds.length
 ·subst hl;unfold doB;rw [show(ds++ [aZ n]).getD ds.length do0=aZ n by simp [List.getD]];simp [eR,aZ];exact decide_eq_true (by omega)
 ·have hj':j<ds.length:=(by omega);unfold doB;rw [show(ds++ [aZ n]).getD j do0=ds.getD j do0 by simp [List.getD,List.getElem?_append_left hj']];refine h _ ?_ _ _;rw [List.getD_eq_getElem?_getD,List.getElem?_eq_getElem hj'];exact List.getElem_mem _
theorem fR {t p:Int} {ms:List Mt} {ds:List Do} (ht0:0≤t) (ht1:t≤7) (hp0:0≤p) (hp1:p≤2000) (hm:ms.length≤12) (hd:ds.length≤100) (hms:∀m∈ms,bk m=true) (hds:∀j,j<ds.length→doB t ds j=true):aS ⟨t,p,ms,ds⟩=0:=by
 refine tG ?_ ?_ ?_ hds
 ·simp only;omega
 ·simp [fJ,im];omega
 ·simp only [List.all_eq_true];exact hms
theorem yQ {v k:Nat} (hk:k≤16) (hv:v<2 ^ 16):v&&& (2 ^ 16-2 ^ k)=v/2 ^ k*2 ^ k:=by
 have hp:0<2 ^ k:=Nat.two_pow_pos k;have e:2 ^ 16-2 ^ k=2 ^ 16-((2 ^ k-1)+1):=by omega
 rw [e];refine Nat.eq_of_testBit_eq fun j=>?_;have hlt:2 ^ k-1<2 ^ 16:=by
  have:=Nat.pow_le_pow_right (show 0<2 by decide) hk;omega
 rw [Nat.testBit_and,Nat.testBit_two_pow_sub_succ hlt,Nat.testBit_two_pow_sub_one,Nat.mul_comm,Nat.testBit_two_pow_mul,Nat.testBit_div_two_pow];by_cases hj:j<16
 ·by_cases hjk:j<k
  ·simp [hj,hjk];omega
  ·have:j-k+k=j:=(by omega);simp [hj,hjk,this];omega
 ·have:v.testBit j=false:=Nat.testBit_lt_two_pow (Nat.lt_of_lt_of_le hv (Nat.pow_le_pow_right (by decide) (by omega)));have hjk:k≤j:=(by omega);have h2:j-k+k=j:=(by omega);simp [this,h2]
theorem pL {x:Int} {k:Nat} (hk:k≤16) (h0:0≤x) (h1:x≤65535):mk x (65536-2 ^ k)=x/2 ^ k*2 ^ k:=by
 obtain⟨n,rfl⟩:=Int.eq_ofNat_of_zero_le h0;have hle:2 ^ k≤2 ^ 16:=Nat.pow_le_pow_right (by decide) hk;have hm:(65536:Int)-2 ^ k=((2 ^ 16-2 ^ k:Nat):Int):=by rw [Int.ofNat_sub hle];simp
 unfold mk;rw [hm,Int.toNat_natCast,Int.toNat_natCast,yQ hk (by omega)];simp
def un (b:Int):Int:=2 ^ (16-b).toNat
theorem BD (b:Int):0<un b:=Int.pow_pos (by decide)
theorem Ab {v b:Int} (h4:0≤b) (h5:b≤16) (h:cJ v b=true):v/un b*un b=v:=by
 obtain⟨n,rfl⟩:=Int.eq_ofNat_of_zero_le h4;have hn:n≤16:=by omega
 have hk:((16:Int)-(n:Int)).toNat=16-n:=by omega
 have hpow:2 ^ 16=2 ^ (16-n)*2 ^ n:=by rw [←Nat.pow_add];congr 1;omega
 have e:(65536:Int)/2 ^ n=un n:=by
  unfold un;rw [hk];have:(65536:Int)=((2 ^ (16-n)*2 ^ n:Nat):Int):=by rw [←hpow];rfl
  rw [this,Int.natCast_mul];rw [show((2 ^ n:Nat):Int)=(2:Int) ^ n by simp,show((2 ^ (16-n):Nat):Int)=(2:Int) ^ (16-n) by simp];exact Int.mul_ediv_cancel _ (by have:(0:Int)<2 ^ n:=Int.pow_pos (by decide);omega)
 simp only [cJ,Int.toNat_natCast,beq_iff_eq,e]at h;have:=Int.mul_ediv_add_emod v (un n);rw [Int.mul_comm];omega
theorem bf (F:List Int):bv F []=true:=rfl
theorem gv (F:List Int) (a b:List Mt):bv F (a++b)=(bv F a&&bv F b):=by simp [bv]
theorem iW (F:List Int) (m:Mt) (l:List Mt):bv F (m::l)=((mk (F.getD m.f.toNat 0) m.m==m.v)&&bv F l):=by simp [bv]
theorem aJ {F:List Int} (hF:WF F) (f v:Int) (l:List Mt):bv F (isM f v::l)=((F.getD f.toNat 0==v)&&bv F l):=by
 rw [iW];simp only [isM];rw [qn (hF.bd _).1 (hF.bd _).2]
theorem xB {F:List Int} (hF:WF F) (l:List Mt):bv F (⟨6,65280,0⟩::l)=(decide (F.getD 6 0≤255)&&bv F l):=by
 rw [iW];have:=hF.bd 6;have e:=pL (x:=F.getD 6 0) (k:=8) (by decide) this.1 this.2;simp only [show(6:Int).toNat=6 from rfl];rw [show(65280:Int)=65536-2 ^ 8 from rfl,e];congr 1;generalize F.getD 6 0=x at*;rw [Bool.eq_iff_iff];simp;omega
theorem mC {F:List Int} (hF:WF F) (l:List Mt):bv F (⟨6,65534,0⟩::l)=(decide (F.getD 6 0≤1)&&bv F l):=by
 rw [iW];have:=hF.bd 6;have e:=pL (x:=F.getD 6 0) (k:=1) (by decide) this.1 this.2;simp only [show(6:Int).toNat=6 from rfl];rw [show(65534:Int)=65536-2 ^ 1 from rfl,e];congr 1;generalize F.getD 6 0=x at*;rw [Bool.eq_iff_iff];simp;omega
theorem me {F:List Int} (hF:WF F) (f:Int) {v b:Int} (h4:0≤b) (h5:b≤16) (h:cJ v b=true) (l:List Mt):bv F (hiM f v b::l)=((F.getD f.toNat 0/un b==v/un b)&&bv F l):=by
 rw [iW];have hb:=hF.bd f.toNat;simp only [hiM];rw [pL (by omega) hb.1 hb.2];have hv:=Ab h4 h5 h;have hp:=BD b;congr 1;rw [Bool.eq_iff_iff,beq_iff_eq,beq_iff_eq];show F.getD f.toNat 0/un b*un b=v↔_;constructor
 ·intro e;rw [←hv]at e;exact Int.eq_of_mul_eq_mul_right (by omega) e
 ·intro e;rw [e];exact hv
abbrev pkF (i d s k a b t o n u:Int):List Int:=[i,d,s,k,a,b,t,o,n,u]
def vY (a b o:Int) (r:Ac):Bool:=(a/un r.sb==r.src/un r.sb)&&(b/un r.db==r.dst/un r.db)&&(r.o== -1|| o==r.o)
theorem vU {i d s k a b t o n u:Int} (hF:WF (pkF i d s k a b t o n u)) {r:Ac} (h1:0≤r.sb) (h2:r.sb≤16) (h3:0≤r.db) (h4:r.db≤16) (hs:cJ r.src r.sb=true) (hd:cJ r.dst r.db=true) (l:List Mt):bv (pkF i d s k a b t o n u) (br r++l)=(vY a b o r&&bv (pkF i d s k a b t o n u) l):=by
 rw [gv];congr 1;unfold br vY;by_cases ho:r.o= -1
 ·rw [if_pos ho,List.append_nil,me hF 4 h1 h2 hs,me hF 5 h3 h4 hd];simp [ho,bf]
 ·rw [if_neg ho,List.cons_append,List.cons_append,List.nil_append,me hF 4 h1 h2 hs,me hF 5 h3 h4 hd,aJ hF];have hb:(r.o== -1)=false:=(by simpa using ho);simp [hb,bf,Bool.and_assoc]
theorem yV {α:Type} {l:List α} {x y:α} (hx:x∈l) (hy:y∈l):x=y∨(∃L M R,l=L++x::M++y::R)∨(∃L M R,l=L++y::M++x::R):=by
 induction l with
 | nil=>cases hx
 | cons a r ih=>
  rcases List.mem_cons.1 hx with rfl | hx'
  ·rcases List.mem_cons.1 hy with rfl | hy'
   ·exact .inl rfl
   ·obtain⟨M,R,e⟩:=List.append_of_mem hy';exact .inr (.inl ⟨[],M,R,by rw [e];rfl⟩)
  ·rcases List.mem_cons.1 hy with rfl | hy'
   ·obtain⟨M,R,e⟩:=List.append_of_mem hx';exact .inr (.inr ⟨[],M,R,by rw [e];rfl⟩)
   ·rcases ih hx' hy' with h |⟨L,M,R,e⟩ |⟨L,M,R,e⟩
    ·exact .inl h
    ·exact .inr (.inl ⟨a::L,M,R,by rw [e];rfl⟩)
    ·exact .inr (.inr ⟨a::L,M,R,by rw [e];rfl⟩)
theorem zU {α:Type} {l:List α} {f:List α→α→Int} (h:∀L x R,l=L++x::R→f L x=0) {r:α→α→Prop} (hr:∀x y,r x y→r y x) (hf:∀L x y,x∈L→r x y→f L y≠0) {x y:α} (hx:x∈l) (hy:y∈l) (hxy:r x y):x=y:=by
 rcases yV hx hy with e |⟨L,M,R,e⟩ |⟨L,M,R,e⟩
 ·exact e
 ·exact absurd (h _ _ _ e) (hf _ x y (by simp) hxy)
 ·exact absurd (h _ _ _ e) (hf _ y x (by simp) (hr _ _ hxy))
theorem lY {S:List Sw} (h:bM S=true) {x y:Sw} (hx:x∈S) (hy:y∈S) (e:x.i=y.i):x=y:=by
 refine zU (r:=fun x y=>x.i=y.i) ((nv S).1 h) (fun _ _ h=>h.symm) (fun L x y hx hxy hz=>?_) hx hy e;have:=(pB hz).2.2.2.1;rw [List.any_eq_false]at this;exact this x hx (by simpa using hxy)
theorem dD {S:List Sw} {P:List Pr} (h:ba S P=true) {x y:Pr} (hx:x∈P) (hy:y∈P) (e:x.i=y.i):x=y:=by
 refine zU (r:=fun x y=>x.i=y.i) ((cT S P).1 h) (fun _ _ h=>h.symm) (fun L x y hx hxy hz=>?_) hx hy e;have:=((ew _ _ _).1 hz).2.2.1;rw [List.any_eq_false]at this;exact this x hx (by simp [hxy])
theorem mO {S:List Sw} {P:List Pr} (h:ba S P=true) {x y:Pr} (hx:x∈P) (hy:y∈P) (e:x.s=y.s) (e':x.m=y.m):x=y:=by
 refine zU (r:=fun x y=>x.s=y.s∧x.m=y.m) ((cT S P).1 h) (fun _ _ h=>⟨h.1.symm,h.2.symm⟩) (fun L x y hx hxy hz=>?_) hx hy ⟨e,e'⟩;have:=((ew _ _ _).1 hz).2.2.1;rw [List.any_eq_false]at this;exact this x hx (by simp [hxy])
theorem uR {S:List Sw} (h:bM S=true) {s:Sw} (hs:s∈S):tn S s.i=s.t:=by
 unfold tn;have h1:S.any (fun x=>x.i==s.i)=true:=by rw [List.any_eq_true];exact⟨s,hs,by simp⟩
 have h0:0≤idx (fun x=>x.i==s.i) S:=by
  have:=dN (fun x:Sw=>x.i==s.i) S;rw [h1]at this;simpa using this
 unfold idx at h0⊢;cases hf:S.findIdx? (fun x=>x.i==s.i)with
 | none=>rw [hf]at h0;simp at h0
 | some k=>
  simp only [Int.toNat_natCast];obtain⟨hk,hp,_⟩:=List.findIdx?_eq_some_iff_getElem.1 hf;have e:S.getD k sw0=S[k]:=by rw [List.getD_eq_getElem?_getD,List.getElem?_eq_getElem hk];rfl
  rw [e,lY h (List.getElem_mem hk) hs (by simpa using hp)]
theorem pg {S:List Sw} {P:List Pr} (h:ba S P=true) {p:Pr} (hp:p∈P):∃s∈S,s.i=p.s:=by
 obtain⟨L,R,e⟩:=List.append_of_mem hp;have h2:=((ew _ _ _).1 ((cT S P).1 h L p R e)).2.1;have:S.any (fun s=>s.i==p.s)=true:=by rw [←dN];simpa using h2
 rw [List.any_eq_true]at this;obtain⟨s,hs,e⟩:=this;exact⟨s,hs,by simpa using e⟩
theorem As {S:List Sw} {P:List Pr} (hS:bM S=true) (h:ba S P=true) {p:Pr} (hp:p∈P):∃s∈S,s.i=p.s∧tn S p.s=s.t:=by
 obtain⟨s,hs,e⟩:=pg h hp;exact⟨s,hs,e,by rw [←e];exact uR hS hs⟩
theorem iZ {S:List Sw} {P:List Pr} (hS:bM S=true) (h:ba S P=true) {x y:Pr} (hx:x∈P) (hy:y∈P) (e:tn S x.s=tn S y.s) (e':x.p=y.p):x=y:=by
 refine zU (r:=fun x y=>(x∈P∧y∈P)∧tn S x.s=tn S y.s∧x.p=y.p) ((cT S P).1 h) (fun _ _ h=>⟨⟨h.1.2,h.1.1⟩,h.2.1.symm,h.2.2.symm⟩) (fun L x y hx hxy hz=>?_) hx hy ⟨⟨hx,hy⟩,e,e'⟩;have h4:=((ew _ _ _).1 hz).2.2.2.1;unfold bZ at h4;rw [Bool.or_eq_false_iff]at h4;have h5:=h4.2;rw [List.any_eq_false]at h5;refine h5 x hx ?_;obtain⟨s,hs,e1,e2⟩:=As hS h hxy.1.1;rw [Bool.and_eq_true];refine⟨by simp [hxy.2.2],?_⟩;rw [List.any_eq_true];exact⟨s,hs,by simp [e1, ←e2,hxy.2.1]⟩
theorem mr {S:List Sw} {P:List Pr} (hS:bM S=true) (h:ba S P=true) {s:Sw} {p:Pr} (hs:s∈S) (hp:p∈P) (e:tn S p.s=s.t):s.g≠p.p:=by
 intro e';obtain⟨L,R,eL⟩:=List.append_of_mem hp;have h4:=((ew _ _ _).1 ((cT S P).1 h L p R eL)).2.2.2.1;unfold bZ at h4;rw [Bool.or_eq_false_iff]at h4;have h5:=h4.1;rw [List.any_eq_false]at h5;exact h5 s hs (by simp [e,e'])
def jH (p:Pr):Prop:=(1≤p.i∧p.i≤999)∧(1≤p.s∧p.s≤500)∧(1≤p.m∧p.m≤59999)∧(1≤p.p∧p.p≤65535)∧ -1≤p.c∧p.c≤5
theorem dI {l:List Mt} {x:Mt} {P:Mt→Prop} (h:P x) (hl:∀m∈l,P m):∀m∈x::l,P m:=fun m hm=>by
 rcases List.mem_cons.1 hm with rfl | hm
 ·exact h
 ·exact hl m hm
theorem lB {a b:List Mt} {P:Mt→Prop} (ha:∀m∈a,P m) (hb:∀m∈b,P m):∀m∈a++b,P m:=fun m hm=>by
 rcases List.mem_append.1 hm with h | h
 ·exact ha m h
 ·exact hb m h
theorem dY {P:Mt→Prop}:∀m∈([]:List Mt),P m:=fun m hm=>by cases hm
theorem ja {l:List Do} {x:Do} {P:Do→Prop} (h:P x) (hl:∀m∈l,P m):∀m∈x::l,P m:=fun m hm=>by
 rcases List.mem_cons.1 hm with rfl | hm
 ·exact h
 ·exact hl m hm
theorem gt {P:Do→Prop}:∀m∈([]:List Do),P m:=fun m hm=>by cases hm
theorem BN {a b:List Do} {P:Do→Prop} (ha:∀m∈a,P m) (hb:∀m∈b,P m):∀m∈a++b,P m:=fun m hm=>by
 rcases List.mem_append.1 hm with h | h
 ·exact ha m h
 ·exact hb m h
theorem yg {v:Int} (hv:v=65280∨v=65534):bk ⟨6,v,0⟩=true:=by
 rcases hv with rfl | rfl <;>decide
theorem oT:∀m∈dr,bk m=true:=dI (bB (by decide) (by decide) (by decide) (by decide)) (dI (yg (.inl rfl)) dY)
theorem ow {k:Int} (h0:0≤k) (h1:k≤65535):∀m∈dp k,bk m=true:=dI (bB (by decide) (by decide) h0 h1) (dI (bB (by decide) (by decide) (by decide) (by decide)) (dI (bB (by decide) (by decide) (by decide) (by decide)) dY))
theorem oB {p:Pr} (h:jH p):∀m∈co p,bk m=true:=by
 obtain⟨⟨a0,a1⟩,⟨b0,b1⟩,⟨c0,c1⟩,⟨d0,d1⟩,e0,e1⟩:=h;exact dI (bB (by decide) (by decide) (by omega) (by omega)) (dI (bB (by decide) (by decide) (by decide) (by decide)) (dI (bB (by decide) (by decide) (by decide) (by decide)) (dI (bB (by decide) (by decide) (by omega) (by omega)) (dI (bB (by decide) (by decide) (by omega) (by omega)) dY))))
theorem k9 {p:Pr} (h:jH p) (hs:aK p=true):∀d∈az p,lD d:=by
 obtain⟨⟨a0,a1⟩,⟨b0,b1⟩,⟨c0,c1⟩,⟨d0,d1⟩,e0,e1⟩:=h;have hs':p.c≠ -1:=by simpa [aK] using hs
 exact ja (fi (by decide) (by decide) (by omega) (by omega)) (ja (vi (by omega) (by omega)) gt)
theorem tO:∀f∈tunnelFl,aS f=0:=by
 intro f hf;simp only [tunnelFl,List.mem_cons,List.not_mem_nil,or_false]at hf;rcases hf with rfl | rfl
 ·exact fR (by decide) (by decide) (by decide) (by decide) (by decide) (by decide) (lB oT (dI (bB (by decide) (by decide) (by decide) (by decide)) dY)) (gn (ds:=[]) gt (by decide) (by decide))
 ·exact fR (by decide) (by decide) (by decide) (by decide) (by decide) (by decide) (lB (ow (by decide) (by decide)) (dI (bB (by decide) (by decide) (by decide) (by decide)) dY)) (gn (ds:=[]) gt (by decide) (by decide))
theorem rB (l:List Pr):(l.flatMap az).length=2*l.length:=by
 induction l with
 | nil=>rfl
 | cons x r ih=>simp [az]at ih⊢;omega
theorem yG {P:List Pr} (hP:∀p∈P,jH p) (hl:P.length≤40) {p:Pr} (hp:jH p):∀f∈cm P p,aS f=0:=by
 obtain⟨⟨a0,a1⟩,⟨b0,b1⟩,⟨c0,c1⟩,⟨d0,d1⟩,e0,e1⟩:=hp;have hp:jH p:=⟨⟨a0,a1⟩,⟨b0,b1⟩,⟨c0,c1⟩,⟨d0,d1⟩,e0,e1⟩;intro f hf;simp only [cm,List.mem_cons,List.not_mem_nil,or_false]at hf;rcases hf with rfl | rfl | rfl | rfl | rfl | rfl
 ·exact fR (by decide) (by decide) (by decide) (by decide) (by simp [co,dr]) (by simp) (lB (oB hp) oT) (gn (ds:=[_]) (ja (fi (by decide) (by decide) (by omega) (by omega)) gt) (by decide) (by decide))
 ·exact fR (by decide) (by decide) (by decide) (by decide) (by simp [co,dp]) (by simp) (lB (oB hp) (ow (by decide) (by decide))) (gn (ds:=[_]) (ja (fi (by decide) (by decide) (by omega) (by omega)) gt) (by decide) (by decide))
 ·exact fR (by decide) (by decide) (by decide) (by decide) (by simp) (by simp) (dI (bB (by decide) (by decide) (by omega) (by omega)) (dI (bB (by decide) (by decide) (by omega) (by omega)) dY)) (dX gt)
 ·exact fR (by decide) (by decide) (by decide) (by decide) (by simp) (by simp) (dI (bB (by decide) (by decide) (by omega) (by omega)) (dI (bB (by decide) (by decide) (by omega) (by omega)) dY)) (dX gt)
 ·refine fR (by decide) (by decide) (by decide) (by decide) (by simp) ?_ (dI (bB (by decide) (by decide) (by omega) (by omega)) (dI (bB (by decide) (by decide) (by decide) (by decide)) dY)) (dX fun d hd=>?_)
  ·rw [rB];have:=List.length_filter_le (cO p) P;omega
  ·obtain⟨q,hq,hd⟩:=List.mem_flatMap.1 hd;obtain⟨hq1,hq2⟩:=List.mem_filter.1 hq;exact k9 (hP q hq1) (by simp only [cO,Bool.and_eq_true]at hq2;exact hq2.2) d hd
 ·exact fR (by decide) (by decide) (by decide) (by decide) (by simp) (by simp) (dI (bB (by decide) (by decide) (by omega) (by omega)) (dI (bB (by decide) (by decide) (by omega) (by omega)) dY)) (dX (ja (zy (by omega) (by omega)) gt))
theorem u9 {s ip mac ch:Int} (s0:0≤s) (s1:s≤65535) (i0:0≤ip) (i1:ip≤65535) (m0:0≤mac) (m1:mac≤65535) (c0:0≤ch) (c1:ch≤5):aS (bK s ip mac ch)=0:=
 fR (by decide) (by decide) (by decide) (by decide) (by simp) (by simp [gG]) (dI (bB (by decide) (by decide) s0 s1) (dI (bB (by decide) (by decide) i0 i1) dY))
  (dX (ja (fi (by decide) (by decide) (by decide) (by decide)) (ja (copy_any' (by decide) (by decide) (by decide) (by decide)) (ja (fi (by decide) (by decide) m0 m1) (ja (copy_any' (by decide) (by decide) (by decide) (by decide)) (ja (fi (by decide) (by decide) i0 i1) (ja (copy_any' (by decide) (by decide) (by decide) (by decide)) (ja (vi c0 c1) gt))))))))
theorem wo {r:Ac} (h1:fG r=true) (h2:(cJ r.src r.sb&&cJ r.dst r.db)=true):∀m∈br r,bk m=true:=by
 simp only [fG,inB,Bool.and_eq_true,decide_eq_true_eq]at h1 h2;obtain⟨⟨⟨⟨⟨a,b⟩,c⟩,d⟩,e⟩,f⟩:=h1;unfold br;refine lB (dI (xK (by decide) (by decide) b.1 b.2 d.1 d.2 h2.1) (dI (xK (by decide) (by decide) c.1 c.2 e.1 e.2 h2.2) dY)) ?_;split
 ·exact dY
 ·exact dI (bB (by decide) (by decide) (by omega) (by omega)) dY
theorem oG {R:List Ac} (hR:∀r∈R,fG r=true∧(cJ r.src r.sb&&cJ r.dst r.db)=true) (hl:R.length≤40) {s t n:Int} (s0:0≤s) (s1:s≤65535) (t0:0≤t) (t1:t<n) (n1:n≤7):∀f∈bD R s t n,aS f=0:=by
 intro f hf;unfold bD at hf;have hg:=gn (ds:=[]) gt t1 n1;rcases List.mem_cons.1 hf with rfl | hf
 ·exact fR t0 (by omega) (by decide) (by decide) (by simp) (by simp) (dI (bB (by decide) (by decide) s0 s1) dY) hg
 ·obtain⟨i,hi,rfl⟩:=List.mem_map.1 hf;rw [List.mem_range]at hi;have hr:=hR (R.getD i ac0) (by rw [List.getD_eq_getElem?_getD,List.getElem?_eq_getElem hi];exact List.getElem_mem _);unfold dm;refine fR t0 (by omega) (by omega) (by omega) ?_ ?_ (lB (wo hr.1 hr.2) (dI (bB (by decide) (by decide) s0 s1) dY)) ?_
  ·rw [List.length_append];unfold br;split <;>simp
  ·split <;>simp
  ·split
   ·exact dX gt
   ·exact hg
theorem sT {P:List Pr} (hP:∀p∈P,jH p) {s:Sw} (s0:0≤s.i) (s1:s.i≤500):∀f∈bW P s,aS f=0:=by
 intro f hf;obtain⟨p,hp,rfl⟩:=List.mem_map.1 hf;obtain⟨hp1,hp2⟩:=List.mem_filter.1 hp;have h:=hP p hp1;obtain⟨⟨a0,a1⟩,⟨b0,b1⟩,⟨c0,c1⟩,⟨d0,d1⟩,e0,e1⟩:=h;simp only [Bool.and_eq_true]at hp2;exact fR (by decide) (by decide) (by decide) (by decide) (by simp) (by simp [az]) (dI (bB (by decide) (by decide) s0 (by omega)) (dI (bB (by decide) (by decide) (by omega) (by omega)) dY)) (dX (k9 (hP p hp1) hp2.2))
theorem vZ {S:List Sw} {P:List Pr} (hP:∀p∈P,jH p) {s:Sw} (s0:0≤s.i) (s1:s.i≤500):∀f∈bQ S P s,aS f=0:=by
 intro f hf;unfold bQ at hf;have hm:∀m∈bg s,bk m=true:=dI (bB (by decide) (by decide) s0 (by omega)) (dI (bB (by decide) (by decide) (by omega) (by omega)) dY);split at hf
 ·cases hf
 ·rcases List.mem_cons.1 hf with rfl | hf
  ·exact fR (by decide) (by decide) (by decide) (by decide) (by simp [bg]) (by simp) (lB hm (dI (yg (.inr rfl)) dY)) (dX gt)
  ·obtain⟨p,hp,rfl⟩:=List.mem_map.1 hf;obtain⟨hp1,hp2⟩:=List.mem_filter.1 hp;have h:=hP p hp1;obtain⟨⟨a0,a1⟩,⟨b0,b1⟩,⟨c0,c1⟩,⟨d0,d1⟩,e0,e1⟩:=h;simp only [Bool.and_eq_true]at hp2;exact fR (by decide) (by decide) (by decide) (by decide) (by simp [bg]) (by simp [cX,az]) (lB hm (dI (bB (by decide) (by decide) (by omega) (by omega)) dY)) (dX (BN (ja (fi (by decide) (by decide) (by omega) (by omega)) (ja (fi (by decide) (by decide) (by omega) (by omega)) (ja (xh (by decide) (by decide)) (ja (fi (by decide) (by decide) (by omega) (by omega)) gt)))) (k9 (hP p hp1) hp2.2)))
theorem mY {S:List Sw} {P:List Pr} {A:List Ac} {ch:Int} (h:may S P A=true) (c0:0≤ch) (c1:ch≤5):∀f∈dw S P A ch,aS f=0:=by
 obtain⟨hs,hp,ha⟩:=bR h;have hP:∀p∈P,jH p:=(dy hs hp).2;have hl:=(dy hs hp).1;have hR:∀b s,∀r∈aQ (aY A s b),fG r=true∧(cJ r.src r.sb&&cJ r.dst r.db)=true:=fun b s r hr=>by
  have:r∈aY A s b:=by
   unfold aQ at hr;rw [lW,fB,fB, ←List.mem_append,List.take_append_drop]at hr;exact hr
  have:=(jF ha).2 r (List.mem_filter.1 this).1;exact⟨this.1,this.2.1⟩
 have hRl:∀b s,(aQ (aY A s b)).length≤40:=fun b s=>by
  have h1:(aY A s b).length≤A.length:=List.length_filter_le _ _;have h2:=(jF ha).1;unfold aQ;rw [l6,aV,aV,List.length_take,List.length_drop];omega
 intro f hf;unfold dw at hf;rcases List.mem_append.1 hf with hf | hf
 ·rcases List.mem_append.1 hf with hf | hf
  ·exact tO f hf
  ·obtain⟨p,hp1,hf⟩:=List.mem_flatMap.1 hf;exact yG hP hl (hP p (List.mem_filter.1 hp1).1) f hf
 ·obtain⟨s,hs1,hf⟩:=List.mem_flatMap.1 hf;have hsi:=(gc hs).2 s (List.mem_filter.1 hs1).1;obtain⟨⟨i0,i1⟩,_,g0,g1⟩:=hsi;unfold bq at hf;rcases List.mem_append.1 hf with hf | hf
  ·rcases List.mem_append.1 hf with hf | hf
   ·rcases List.mem_append.1 hf with hf | hf
    ·rcases List.mem_append.1 hf with hf | hf
     ·unfold eZ at hf;rcases List.mem_append.1 hf with hf | hf
      ·split at hf
       ·cases hf
       ·rw [List.mem_singleton.1 hf];exact u9 (by omega) (by omega) g0 g1 (by omega) (by omega) c0 c1
      ·obtain⟨p,hp1,rfl⟩:=List.mem_map.1 hf;obtain⟨⟨a0,a1⟩,⟨b0,b1⟩,⟨x0,x1⟩,⟨d0,d1⟩,e0,e1⟩:=hP p (List.mem_filter.1 hp1).1;exact u9 (by omega) (by omega) (by omega) (by omega) (by omega) (by omega) c0 c1
     ·exact oG (hR _ _) (hRl _ _) (by omega) (by omega) (by decide) (by decide) (by decide) f hf
    ·exact sT hP (by omega) i1 f hf
   ·exact vZ hP (by omega) i1 f hf
  ·exact oG (hR _ _) (hRl _ _) (by omega) (by omega) (by decide) (by decide) (by decide) f hf
end Go.Proofs.YtjaclcbckngnlaaGreat
