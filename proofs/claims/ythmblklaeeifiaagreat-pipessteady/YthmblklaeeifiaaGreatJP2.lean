/- Texts joined: Zm, Mk, Fl, Pd, Zs, Two, Rf0, So, Sv, Rs0, Pa, Ci, Pb, Pc, Px, Pg, Ph, Pi. -/
import GoSem.Claim
import Derived.Deep.AppendLies
import Derived.Deep.RegionHeld3
import Derived.Deep.QuietTactic
import Derived.BigQuiet
import Derived.Deep.RegionLaw
import Derived.Laws.OwnMore
import Derived.Laws.AppendOwnNone
import Derived.Lib.AppendZeros
import Derived.Laws.EntriesVeiled
import Derived.Test.YthmblklaeeifiaaGreatJP1
namespace Go.Proofs.YthmblklaeeifiaaGreat
open Go.RowKit
set_option linter.unusedVariables false
set_option maxRecDepth 100000
set_option maxHeartbeats 16000000
section
variable {α:Type}
def mrg (le:α→α→Bool) (A B:List α):List α:=List.merge A B le
theorem er (le:α→α→Bool) (B:List α):mrg le [] B=B:=by unfold mrg;simp
theorem dx (le:α→α→Bool) (A:List α):mrg le A []=A:=by unfold mrg;simp
theorem gg (le:α→α→Bool) (x y:α) (A B:List α):mrg le (x::A) (y::B)=if le x y=true then x::mrg le A (y::B)else y::mrg le (x::A) B:=by
 unfold mrg;rw [List.cons_merge_cons]
theorem eC (le:α→α→Bool):∀(n:Nat) (A1 A2 B1 B2:List α),A1.length+B1.length=n→(∀x∈A1,∀y∈B2,le x y=true)→(∀y∈B1,∀x∈A2,le x y=false)→mrg le (A1++A2) (B1++B2)=mrg le A1 B1++mrg le A2 B2:=by
 intro n
 induction n with
 | zero=>
  intro A1 A2 B1 B2 hn _ _;obtain rfl:A1= []:=List.eq_nil_of_length_eq_zero (by omega);obtain rfl:B1= []:=List.eq_nil_of_length_eq_zero (by omega);simp [er]
 | succ n ih=>
  intro A1 A2 B1 B2 hn h1 h2;cases A1 with
  | nil=>
   cases B1 with
   | nil=>simp at hn
   | cons y ys=>
    rw [er];cases A2 with
    | nil=>simp [er]
    | cons x xs=>
     have hq:=ih [] (x::xs) ys B2 (by simpa using hn) (by simp) (fun z hz=>h2 z (List.mem_cons_of_mem _ hz));rw [er]at hq;simp only [List.nil_append,List.cons_append]at hq⊢;rw [gg,if_neg (by rw [h2 y (by simp) x (by simp)];simp),hq]
  | cons x xs=>
   cases B1 with
   | nil=>
    rw [dx];cases B2 with
    | nil=>simp [dx]
    | cons y ys=>
     have hq:=ih xs A2 [] (y::ys) (by simpa using hn) (fun z hz=>h1 z (List.mem_cons_of_mem _ hz)) (by simp);rw [dx]at hq;simp only [List.nil_append,List.cons_append]at hq⊢;rw [gg,if_pos (h1 x (by simp) y (by simp)),hq]
   | cons y ys=>
    simp only [List.cons_append];rw [gg,gg];by_cases hle:le x y=true
    ·rw [if_pos hle,if_pos hle];have hq:=ih xs A2 (y::ys) B2 (by simp at hn⊢;omega) (fun z hz=>h1 z (List.mem_cons_of_mem _ hz)) h2;simp only [List.cons_append]at hq;rw [hq];rfl
    ·rw [if_neg hle,if_neg hle];have hq:=ih (x::xs) A2 ys B2 (by simp at hn⊢;omega) h1 (fun z hz=>h2 z (List.mem_cons_of_mem _ hz));simp only [List.cons_append]at hq;rw [hq];rfl
theorem qL (le:α→α→Bool) (A B:List α) (h:∀x∈A,∀y∈B,le x y=true):mrg le A B=A++B:=by
 have:=eC le _ A [] [] B rfl h (by simp);simpa [er,dx] using this
theorem pZ (le:α→α→Bool) (A B:List α) (h:∀y∈B,∀x∈A,le x y=false):mrg le A B=B++A:=by
 have:=eC le _ [] A B [] rfl (by simp) h;simpa [er,dx] using this
theorem qX (le:α→α→Bool) (x:α) (B1 B2:List α) (h1:∀y∈B1,le x y=false) (h2:∀y∈B2,le x y=true):mrg le [x] (B1++B2)=B1++x::B2:=by
 have:=eC le _ [] [x] B1 B2 rfl (by simp) (by simpa using h1);simp only [List.nil_append,er]at this;rw [this,qL le [x] B2 (by simpa using h2)];rfl
theorem pH (le:α→α→Bool) (y:α) (A1 A2:List α) (h1:∀x∈A1,le x y=true) (h2:∀x∈A2,le x y=false):mrg le (A1++A2) [y]=A1++y::A2:=by
 have:=eC le _ A1 A2 [] [y] rfl (by simpa using h1) (by simp);simp only [List.nil_append,dx]at this;rw [this,pZ le A2 [y] (by simpa using h2)];rfl
theorem kE (le:α→α→Bool) (A B:List α) (z:α):z∈mrg le A B↔z∈A∨z∈B:=by
 unfold mrg;exact List.mem_merge
theorem iJ (le:α→α→Bool) (A B:List α):(mrg le A B).length=A.length+B.length:=by
 unfold mrg;exact List.length_merge ..
def Asc (le:α→α→Bool) (A:List α):Prop:=A.Pairwise (fun x y=>le x y=true)
theorem qJ {le:α→α→Bool} (tr:∀x y z,le x y=true→le y z=true→le x z=true) (tot:∀x y,le x y=true∨le y x=true) {A B:List α} (hA:Asc le A) (hB:Asc le B):Asc le (mrg le A B):=by
 unfold mrg Asc at*;exact List.pairwise_merge tr (fun x y=>by rcases tot x y with h | h <;>simp [h]) _ _ hA hB
theorem fk {p:List α→Prop} (h0:p []) (h1:∀A x,p A→p (A++ [x])) (A:List α):p A:=by
 have:∀n,∀B:List α,B.length=n→p B:=by
  intro n
  induction n with
  | zero=>intro B hB;rw [List.eq_nil_of_length_eq_zero hB];exact h0
  | succ n ih=>
   intro B hB;have hne:B≠ []:=fun e=>by rw [e]at hB;simp at hB
   rw [←List.dropLast_concat_getLast hne];exact h1 _ _ (ih _ (by simp;omega))
 exact this _ A rfl
def aM (le:α→α→Bool) (A:List α):List α:=A.foldl (fun acc x=>mrg le acc [x]) []
theorem eK (le:α→α→Bool) (A:List α) (x:α):aM le (A++ [x])=mrg le (aM le A) [x]:=by
 unfold aM;rw [List.foldl_append];rfl
theorem eA {le:α→α→Bool} (tr:∀x y z,le x y=true→le y z=true→le x z=true) (tot:∀x y,le x y=true∨le y x=true) (A:List α):Asc le (aM le A):=by
 induction A using fk with
 | h0=>unfold aM Asc;simp
 | h1 A x ih=>
  rw [eK];exact qJ tr tot ih (by unfold Asc;simp)
theorem aN (le:α→α→Bool) (A:List α):(aM le A).length=A.length:=by
 induction A using fk with
 | h0=>rfl
 | h1 A x ih=>rw [eK,iJ,ih];simp
theorem fA (le:α→α→Bool) (A:List α) (z:α):z∈aM le A↔z∈A:=by
 induction A using fk with
 | h0=>unfold aM;simp
 | h1 A x ih=>rw [eK,kE,ih];simp
theorem ju (P1 P2 P3:List α) (x y:α):((P1++x::P2++y::P3).set P1.length y).set (P1.length+1+P2.length) x=P1++y::P2++x::P3:=by
 have e1:(P1++x::P2++y::P3).set P1.length y=P1++y::P2++y::P3:=by
  rw [List.append_assoc,List.set_append_right _ _ (by omega)];simp
 rw [e1,List.set_append_right _ _ (by simp;omega)];have e2:P1.length+1+P2.length-(P1++y::P2).length=0:=by simp;omega
 rw [e2];rfl
end
def mk (n m:Int):Int:=((n.toNat&&& m.toNat:Nat):Int)
theorem bn (n:Int) (h0:0≤n) (h1:n≤1000000):IntKind.i64.wrap n=n:=by
 simp [IntKind.wrap,IntKind.bits,IntKind.signed];split <;>omega
structure Mt where
 f:Int
 m:Int
 v:Int
structure Do where
 k:Int
 a:Int
 n:Int
structure Fl where
 t:Int
 p:Int
 ms:List Mt
 ds:List Do
def mt0:Mt:=⟨0,0,0⟩
def do0:Do:=⟨0,0,0⟩
def fl0:Fl:=⟨0,0,[],[]⟩
def MsAt (w:World) (v:Value) (ms:List Mt):Prop:=
 ∃a cap,v= .slice a ms.length cap∧(a=none→cap=0)∧(ms.length=0∨∃b off,a=some ⟨b,off,none⟩∧ms.length≤cap∧∀i,i<ms.length→
  w.cell? ⟨b,off+i*3,none⟩=some (.int .i64 (ms.getD i mt0).f)∧w.cell? ⟨b,off+i*3+1,none⟩=some (.int .i64 (ms.getD i mt0).m)∧w.cell? ⟨b,off+i*3+2,none⟩=some (.int .i64 (ms.getD i mt0).v))
def DsAt (w:World) (v:Value) (ds:List Do):Prop:=
 ∃a cap,v= .slice a ds.length cap∧(a=none→cap=0)∧(ds.length=0∨∃b off,a=some ⟨b,off,none⟩∧ds.length≤cap∧∀i,i<ds.length→
  w.cell? ⟨b,off+i*3,none⟩=some (.int .i64 (ds.getD i do0).k)∧w.cell? ⟨b,off+i*3+1,none⟩=some (.int .i64 (ds.getD i do0).a)∧w.cell? ⟨b,off+i*3+2,none⟩=some (.int .i64 (ds.getD i do0).n))
def FlAt (w:World) (b off:Nat) (f:Fl):Prop:=
 w.cell? ⟨b,off,none⟩=some (.int .i64 f.t)∧w.cell? ⟨b,off+1,none⟩=some (.int .i64 f.p)∧
 ∃mv dv,w.cell? ⟨b,off+2,none⟩=some mv∧w.cell? ⟨b,off+3,none⟩=some dv∧MsAt w mv f.ms∧DsAt w dv f.ds
def FsAt (w:World) (v:Value) (fs:List Fl):Prop:=
 ∃a cap,v= .slice a fs.length cap∧(a=none→cap=0)∧(fs.length=0∨∃b off,a=some ⟨b,off,none⟩∧fs.length≤cap∧∀i,i<fs.length→FlAt w b (off+i*4) (fs.getD i fl0))
theorem bs {w:World} {b o:Nat} {v:Value} (h:w.cell? ⟨b,o,none⟩=some v):b<w.heap.size:=by
 rcases Nat.lt_or_ge b w.heap.size with h' | h'
 ·exact h'
 ·simp [World.cell?,Array.getElem?_eq_none h']at h
theorem ag {w w':World} {B b o:Nat} {v:Value} (h:w.cell? ⟨b,o,none⟩=some v) (hb:Below B w w') (hB:w.heap.size≤B):w'.cell? ⟨b,o,none⟩=some v:=
 (hb.cell (p:=⟨b,o,none⟩) (Nat.lt_of_lt_of_le (bs h) hB)).trans h
theorem MsAt.below {w w':World} {B:Nat} {v:Value} {ms:List Mt} (h:MsAt w v ms) (hb:Below B w w') (hB:w.heap.size≤B):MsAt w' v ms:=by
 obtain⟨a,cap,hv,hn,h0 |⟨b,off,ha,hc,hL⟩⟩:=h
 ·exact⟨a,cap,hv,hn,.inl h0⟩
 ·exact⟨a,cap,hv,hn,.inr ⟨b,off,ha,hc,fun i hi=>⟨ag (hL i hi).1 hb hB,ag (hL i hi).2.1 hb hB,ag (hL i hi).2.2 hb hB⟩⟩⟩
theorem DsAt.below {w w':World} {B:Nat} {v:Value} {ds:List Do} (h:DsAt w v ds) (hb:Below B w w') (hB:w.heap.size≤B):DsAt w' v ds:=by
 obtain⟨a,cap,hv,hn,h0 |⟨b,off,ha,hc,hL⟩⟩:=h
 ·exact⟨a,cap,hv,hn,.inl h0⟩
 ·exact⟨a,cap,hv,hn,.inr ⟨b,off,ha,hc,fun i hi=>⟨ag (hL i hi).1 hb hB,ag (hL i hi).2.1 hb hB,ag (hL i hi).2.2 hb hB⟩⟩⟩
theorem FlAt.below {w w':World} {B b off:Nat} {f:Fl} (h:FlAt w b off f) (hb:Below B w w') (hB:w.heap.size≤B):FlAt w' b off f:=by
 obtain⟨h0,h1,mv,dv,h2,h3,hm,hd⟩:=h;exact⟨ag h0 hb hB,ag h1 hb hB,mv,dv,ag h2 hb hB,ag h3 hb hB,hm.below hb hB,hd.below hb hB⟩
theorem FsAt.below {w w':World} {B:Nat} {v:Value} {fs:List Fl} (h:FsAt w v fs) (hb:Below B w w') (hB:w.heap.size≤B):FsAt w' v fs:=by
 obtain⟨a,cap,hv,hn,h0 |⟨b,off,ha,hc,hL⟩⟩:=h
 ·exact⟨a,cap,hv,hn,.inl h0⟩
 ·exact⟨a,cap,hv,hn,.inr ⟨b,off,ha,hc,fun i hi=>(hL i hi).below hb hB⟩⟩
def isM (f v:Int):Mt:=⟨f,65535,v⟩
def hiM (f v b:Int):Mt:=⟨f,65536-2 ^ (16-b).toNat,v⟩
def cv:List Mt:=[isM 3 3,⟨6,65280,0⟩]
def cP (k:Int):List Mt:=[isM 3 k,isM 6 0,isM 7 0]
def bE (p:Pr):List Mt:=[isM 0 p.i,isM 8 0,isM 9 0,isM 2 p.m,isM 4 p.p]
def aW (n:Int):Do:=⟨4,0,n⟩
def aD (q:Pr):List Do:=[⟨1,9,q.i⟩,⟨6,0,q.c⟩]
def ky (ip mac ch:Int):List Do:=[⟨1,3,2⟩,⟨2,1,2⟩,⟨1,2,mac⟩,⟨2,5,4⟩,⟨1,4,ip⟩,⟨2,9,0⟩,⟨6,0,ch⟩]
def cV (p:Pr):List Do:=[⟨1,1,p.m⟩,⟨1,2,60000+p.s⟩,⟨3,6,0⟩,⟨1,8,p.s⟩]
def bl (r:Ac):List Mt:=[hiM 4 r.src r.sb,hiM 5 r.dst r.db]++(if r.o= -1 then []else [isM 7 r.o])
def cn (s:Int) (p:Pr):Bool:=p.s==s
def bg (p:Pr):Bool:= !(p.c== -1)
def bR (p q:Pr):Bool:=(q.s==p.s&& !(q.i==p.i))&&bg q
def eq (S:List Sw) (t:Int) (p:Pr):Bool:=S.any fun s=>s.i==p.s&&s.t==t&& !(s.g==0)
def tunnelFl:List Fl:=[⟨0,0,cv++ [isM 0 0],[aW 4]⟩,⟨0,0,cP 2++ [isM 0 0],[aW 5]⟩]
def cH (P:List Pr) (p:Pr):List Fl:=
 [⟨0,0,bE p++cv,[⟨1,8,p.s⟩,aW 2]⟩,⟨0,0,bE p++cP 1,[⟨1,8,p.s⟩,aW 1]⟩,⟨1,1,[isM 0 p.i,isM 5 p.p],[]⟩,⟨3,1,[isM 0 p.i,isM 1 p.m],[]⟩,
  ⟨3,0,[isM 0 p.i,isM 1 65535],(P.filter (bR p)).flatMap aD⟩,⟨5,0,[isM 8 p.s,isM 9 p.i],[⟨5,0,p.i⟩]⟩]
def bz (s ip mac ch:Int):Fl:=⟨1,0,[isM 8 s,isM 5 ip],ky ip mac ch⟩
def fH (P:List Pr) (s:Sw) (ch:Int):List Fl:=(if s.g=0 then []else [bz s.i s.g (60000+s.i) ch])++(P.filter (cn s.i)).map fun p=>bz s.i p.p p.m ch
def gV (R:List Ac) (s t n:Int) (i:Nat):Fl:=⟨t,(R.length:Int)-i,bl (R.getD i ac0)++ [isM 8 s],if(R.getD i ac0).d then []else [aW n]⟩
def cw (R:List Ac) (s t n:Int):List Fl:=⟨t,0,[isM 8 s],[aW n]⟩::(List.range R.length).map (gV R s t n)
def cL (P:List Pr) (s:Sw):List Fl:=(P.filter fun p=>cn s.i p&&bg p).map fun p=>⟨3,0,[isM 8 s.i,isM 1 p.m],aD p⟩
def bC (s:Sw):List Mt:=[isM 8 s.i,isM 1 (60000+s.i)]
def cC (S:List Sw) (P:List Pr) (s:Sw):List Fl:=if s.g=0 then []else
 ⟨3,1,bC s++ [⟨6,65534,0⟩],[]⟩::(P.filter fun p=>eq S s.t p&&bg p).map fun p=>⟨3,0,bC s++ [isM 5 p.p],cV p++aD p⟩
def aI (x y:Ac):Bool:=decide (y.p≤x.p)
def aZ (R:List Ac):List Ac:=mrg aI (aM aI (R.take 20)) (aM aI (R.drop 20))
def bf (A:List Ac) (s:Int) (inn:Bool):List Ac:=A.filter fun r=>r.s==s&&r.n==inn
def ck (S:List Sw) (P:List Pr) (A:List Ac) (s:Sw) (ch:Int):List Fl:=
 fH P s ch++cw (aZ (bf A s.i true)) s.i 2 3++cL P s++cC S P s++cw (aZ (bf A s.i false)) s.i 4 5
def cl (ch:Int) (p:Pr):Bool:=p.c==ch
def fe (S:List Sw) (P:List Pr) (A:List Ac) (ch:Int):List Fl:=
 tunnelFl++(P.filter (cl ch)).flatMap (cH P)++(S.filter fun s=>(P.filter (cl ch)).any (cn s.i)).flatMap fun s=>ck S P A s ch
theorem fZ (x y z:Ac) (h1:aI x y=true) (h2:aI y z=true):aI x z=true:=by
 simp only [aI,decide_eq_true_eq]at*;omega
theorem gI (x y:Ac):aI x y=true∨aI y x=true:=by
 simp only [aI,decide_eq_true_eq];omega
theorem kD {x y:Ac}:aI x y=false↔x.p<y.p:=by
 simp only [aI,decide_eq_false_iff_not];omega
theorem acLe_is {x y:Ac}:aI x y=true↔y.p≤x.p:=by
 simp only [aI,decide_eq_true_eq]
def AscA (L:List Ac):Prop:=Asc aI L
theorem AscA.at {L:List Ac} (h:AscA L) {i j:Nat} (hij:i<j) (hj:j<L.length):(L.getD j ac0).p≤(L.getD i ac0).p:=by
 have:=List.pairwise_iff_getElem.1 h i j (by omega) hj hij;rw [List.getD_eq_getElem?_getD,List.getD_eq_getElem?_getD,List.getElem?_eq_getElem hj,List.getElem?_eq_getElem (show i<L.length by omega)];exact acLe_is.1 this
theorem AscA.le {L:List Ac} (h:AscA L) {i j:Nat} (hij:i≤j) (hj:j<L.length):(L.getD j ac0).p≤(L.getD i ac0).p:=by
 rcases Nat.lt_or_ge i j with h' | h'
 ·exact h.at h' hj
 ·obtain rfl:i=j:=(by omega);exact Int.le_refl _
theorem AscA.right {A B:List Ac} (h:AscA (A++B)):AscA B:=(List.pairwise_append.1 h).2.1
theorem AscA.take {A:List Ac} (h:AscA A) (k:Nat):AscA (A.take k):=List.Pairwise.sublist (List.take_sublist k A) h
theorem AscA.drop {A:List Ac} (h:AscA A) (k:Nat):AscA (A.drop k):=List.Pairwise.sublist (List.drop_sublist k A) h
theorem iL {A:List Ac} {k:Nat} {x:Ac} (h:x∈A.take k):∃i,i<k∧i<A.length∧A.getD i ac0=x:=by
 obtain⟨i,hi,e⟩:=List.getElem_of_mem h;rw [List.length_take]at hi;refine⟨i,by omega,by omega,?_⟩;rw [List.getElem_take]at e;rw [List.getD_eq_getElem?_getD,List.getElem?_eq_getElem (by omega)];exact e
theorem iK {A:List Ac} {k:Nat} {x:Ac} (h:x∈A.drop k):∃i,k≤i∧i<A.length∧A.getD i ac0=x:=by
 obtain⟨i,hi,e⟩:=List.getElem_of_mem h;rw [List.length_drop]at hi;refine⟨k+i,by omega,by omega,?_⟩;rw [List.getElem_drop]at e;rw [List.getD_eq_getElem?_getD,List.getElem?_eq_getElem (by omega)];exact e
theorem oQ {x:Ac} {B:List Ac} (hB:AscA B) {k:Nat} (hk:k≤B.length) (h1:k=0∨x.p<(B.getD (k-1) ac0).p) (h2:k=B.length∨(B.getD k ac0).p≤x.p):mrg aI [x] B=B.take k++x::B.drop k:=by
 have:=qX aI x (B.take k) (B.drop k) (fun y hy=>by
  obtain⟨i,hi,hl,rfl⟩:=iL hy;rw [kD];have:=hB.le (show i≤k-1 by omega) (by omega);omega) (fun y hy=>by
  obtain⟨i,hi,hl,rfl⟩:=iK hy;rw [acLe_is];have:=hB.le hi hl;omega)
 rwa [List.take_append_drop]at this
theorem iX {y:Ac} {A:List Ac} (hA:AscA A) {k:Nat} (hk:k≤A.length) (h1:k=0∨y.p≤(A.getD (k-1) ac0).p) (h2:k=A.length∨(A.getD k ac0).p<y.p):mrg aI A [y]=A.take k++y::A.drop k:=by
 have:=pH aI y (A.take k) (A.drop k) (fun x hx=>by
  obtain⟨i,hi,hl,rfl⟩:=iL hx;rw [acLe_is];have:=hA.le (show i≤k-1 by omega) (by omega);omega) (fun x hx=>by
  obtain⟨i,hi,hl,rfl⟩:=iK hx;rw [kD];have:=hA.le hi hl;omega)
 rwa [List.take_append_drop]at this
theorem qb {A B:List Ac} (hA:AscA A) (hB:AscA B) {k m:Nat} (hk:k≤A.length) (hm:m≤B.length) (h1:k=0∨m=B.length∨(B.getD m ac0).p≤(A.getD (k-1) ac0).p) (h2:k=A.length∨m=0∨(A.getD k ac0).p<(B.getD (m-1) ac0).p):
  mrg aI A B=mrg aI (A.take k) (B.take m)++mrg aI (A.drop k) (B.drop m):=by
 have:=eC aI _ (A.take k) (A.drop k) (B.take m) (B.drop m) rfl (fun x hx y hy=>by
  obtain⟨i,hi,hl,rfl⟩:=iL hx;obtain⟨j,hj,hl',rfl⟩:=iK hy;rw [acLe_is];have a1:=hA.le (show i≤k-1 by omega) (by omega);have a2:=hB.le hj hl';omega) (fun y hy x hx=>by
  obtain⟨i,hi,hl,rfl⟩:=iK hx;obtain⟨j,hj,hl',rfl⟩:=iL hy;rw [kD];have a1:=hA.le hi hl;have a2:=hB.le (show j≤m-1 by omega) (by omega);omega)
 rwa [List.take_append_drop,List.take_append_drop]at this
def I (l:List Int):List Value:=l.map (Value.int .i64)
theorem qv (a b:List Int):I (a++b)=I a++I b:=by simp [I]
def Two (w:World) (B gx cx:Nat) (lx:List Int) (gy cy:Nat) (ly:List Int):Prop:=
 w.ownsRow B 3 1 (.slice (some ⟨gx,0,none⟩) lx.length cx) lx.length (I lx)∧w.ownsRow B 3 1 (.slice (some ⟨gy,0,none⟩) ly.length cy) ly.length (I ly)∧gx≠gy
theorem gR {w:World} {B e size n cap g:Nat} {xs:List Value} (h:w.ownsRow B e size (.slice (some ⟨g,0,none⟩) n cap) n xs):B≤g∧g<w.heap.size:=by
 obtain⟨_,⟨h,_⟩ |⟨g',cap',cur,h,hB,hg,_⟩⟩:=h
 ·simp at h
 ·simp only [Value.slice.injEq,Option.some.injEq,Addr.mk.injEq,and_true]at h;obtain⟨rfl,_⟩:=h;exact⟨hB,lt_of_block hg⟩
theorem Two.alloc {w:World} {B gx cx gy cy:Nat} {lx ly:List Int} (h:Two w B gx cx lx gy cy ly) (o:Obj):Two (w.alloc o) B gx cx lx gy cy ly:=⟨h.1.alloc o,h.2.1.alloc o,h.2.2⟩
theorem Two.drew {w:World} {B gx cx gy cy:Nat} {lx ly:List Int} (h:Two w B gx cx lx gy cy ly):Two w.drew B gx cx lx gy cy ly:=⟨h.1.drew,h.2.1.drew,h.2.2⟩
theorem Two.app {w w':World} {B gx cx gy cy g cap m:Nat} {lx ly news:List Int} (h:Two w B gx cx lx gy cy ly) (ho:w'.ownsRow B 3 1 (.slice (some ⟨g,0,none⟩) (lx.length+m) cap) (lx.length+m) (I lx++I news)) (hm:news.length=m)
  (hg:w.grownBy w' (Value.slice (some ⟨gx,0,none⟩) lx.length cx).ownBlock) (hl:(Value.slice (some ⟨gx,0,none⟩) lx.length cx).ownBlock=some g∨g=w.heap.size):Two w' B g cap (lx++news) gy cy ly:=by
 obtain⟨h1,h2,h3⟩:=h;have hy:=gR h2;refine⟨?_,h2.kept hg ?_,?_⟩
 ·rw [qv,List.length_append,hm];exact ho
 ·right;simp [Value.ownBlock];exact fun e=>h3 e.symm
 ·rcases hl with hl | hl
  ·simp [Value.ownBlock]at hl;rw [←hl];exact h3
  ·omega
def fm (ms:List Mt):List Int:=ms.flatMap fun x=>[x.f,x.m,x.v]
def fd (ds:List Do):List Int:=ds.flatMap fun x=>[x.k,x.a,x.n]
theorem j6 (ms:List Mt):(fm ms).length=3*ms.length:=by
 induction ms with
 | nil=>rfl
 | cons x r ih=>simp [fm]at ih⊢;omega
def ee:List Int→List Int→Int
 | a::x,b::y=>if a<b then-1 else if b<a then 1 else ee x y
 | x,y=>(x.length:Int)-(y.length:Int)
def rQ (a b:Fl):List Int:=[a.t,b.p,(a.ms.length:Int),(a.ds.length:Int)]++fm a.ms++fd a.ds
def plc (a b:Fl):Int:=ee (rQ a b) ([b.t,a.p,(b.ms.length:Int),(b.ds.length:Int)]++fm b.ms++fd b.ds)
def M (l:List Mt):List Value:=l.flatMap fun x=>[.int .i64 x.f,.int .i64 x.m,.int .i64 x.v]
def D (l:List Do):List Value:=l.flatMap fun x=>[.int .i64 x.k,.int .i64 x.a,.int .i64 x.n]
theorem dO:(Tryz.prog.info? 82).map (fun i=>(i.zero,i.size,i.bytes))=some (some (.agg #[.int .i64 0,.int .i64 0,.int .i64 0]),3,24):=by kernel_rfl
theorem ez:(Tryz.prog.info? 85).map (fun i=>(i.zero,i.size,i.bytes))=some (some (.agg #[.int .i64 0,.int .i64 0,.int .i64 0]),3,24):=by kernel_rfl
theorem rS {w:World} {B e size n:Nat} {v:Value} {xs:List Value} (h:w.ownsRow B e size v n xs) {g:Nat} (hg:v.ownBlock=some g):g<w.heap.size:=by
 obtain⟨_,⟨rfl,_⟩ |⟨g',cap',cur,rfl,hB,hb,_⟩⟩:=h
 ·simp [Value.ownBlock]at hg
 ·simp [Value.ownBlock]at hg;subst hg;exact lt_of_block hb
theorem rY (x y z:Int):∀u∈ [Value.int .i64 x,.int .i64 y,.int .i64 z],u.oneCell'=true:=by
 intro u hu;simp at hu;rcases hu with rfl | rfl | rfl <;>rfl
theorem MsAt.kept {w w':World} {v:Value} {ms:List Mt} {row:Option Nat} (h:MsAt w v ms) (hg:w.grownBy w' row) (hne:v.ownBlock=none∨v.ownBlock≠row):MsAt w' v ms:=by
 obtain⟨a,cap,rfl,hn,h0 |⟨b,off,rfl,hc,hL⟩⟩:=h
 ·exact⟨a,cap,rfl,hn,.inl h0⟩
 ·have hne':some b≠row:=by
   rcases hne with h | h
   ·simp [Value.ownBlock]at h
   ·simpa [Value.ownBlock] using h
  refine⟨_,cap,rfl,hn,.inr ⟨b,off,rfl,hc,fun i hi=>?_⟩⟩;obtain⟨e0,e1,e2⟩:=hL i hi;exact⟨(hg.cell_far _ (bs e0) hne').trans e0,(hg.cell_far _ (bs e1) hne').trans e1,(hg.cell_far _ (bs e2) hne').trans e2⟩
theorem DsAt.kept {w w':World} {v:Value} {ds:List Do} {row:Option Nat} (h:DsAt w v ds) (hg:w.grownBy w' row) (hne:v.ownBlock=none∨v.ownBlock≠row):DsAt w' v ds:=by
 obtain⟨a,cap,rfl,hn,h0 |⟨b,off,rfl,hc,hL⟩⟩:=h
 ·exact⟨a,cap,rfl,hn,.inl h0⟩
 ·have hne':some b≠row:=by
   rcases hne with h | h
   ·simp [Value.ownBlock]at h
   ·simpa [Value.ownBlock] using h
  refine⟨_,cap,rfl,hn,.inr ⟨b,off,rfl,hc,fun i hi=>?_⟩⟩;obtain⟨e0,e1,e2⟩:=hL i hi;exact⟨(hg.cell_far _ (bs e0) hne').trans e0,(hg.cell_far _ (bs e1) hne').trans e1,(hg.cell_far _ (bs e2) hne').trans e2⟩
theorem lY (l:List Mt):(M l).length=3*l.length:=by
 induction l with
 | nil=>rfl
 | cons x r ih=>simp [M]at ih⊢;omega
theorem rE:∀(l:List Mt) (i:Nat),i<l.length→(M l)[i*3]? =some (.int .i64 (l.getD i mt0).f)∧(M l)[i*3+1]? =some (.int .i64 (l.getD i mt0).m)∧(M l)[i*3+2]? =some (.int .i64 (l.getD i mt0).v)
 | [],i,h=>by simp at h
 | x::r,0,_=>⟨rfl,rfl,rfl⟩
 | x::r,i+1,h=>by
  have ih:=rE r i (by simpa using h);have e:∀j,(M (x::r))[(i+1)*3+j]? =(M r)[i*3+j]?:=fun j=>by
   have:(i+1)*3+j=i*3+j+3:=(by omega);rw [this];rfl
  refine⟨?_,?_,?_⟩
  ·have:=e 0;simp only [Nat.add_zero]at this;rw [this];simpa using ih.1
  ·rw [e 1];simpa using ih.2.1
  ·rw [e 2];simpa using ih.2.2
theorem rH:∀(l:List Do) (i:Nat),i<l.length→(D l)[i*3]? =some (.int .i64 (l.getD i do0).k)∧(D l)[i*3+1]? =some (.int .i64 (l.getD i do0).a)∧(D l)[i*3+2]? =some (.int .i64 (l.getD i do0).n)
 | [],i,h=>by simp at h
 | x::r,0,_=>⟨rfl,rfl,rfl⟩
 | x::r,i+1,h=>by
  have ih:=rH r i (by simpa using h);have e:∀j,(D (x::r))[(i+1)*3+j]? =(D r)[i*3+j]?:=fun j=>by
   have:(i+1)*3+j=i*3+j+3:=(by omega);rw [this];rfl
  refine⟨?_,?_,?_⟩
  ·have:=e 0;simp only [Nat.add_zero]at this;rw [this];simpa using ih.1
  ·rw [e 1];simpa using ih.2.1
  ·rw [e 2];simpa using ih.2.2
theorem MsAt.of_own {w:World} {B:Nat} {v:Value} {ms:List Mt} (h:w.ownsRow B 82 3 v ms.length (M ms)):MsAt w v ms:=by
 by_cases h0:ms.length=0
 ·obtain⟨_,⟨rfl,hn⟩ |⟨g,cap,cur,rfl,_⟩⟩:=h
  ·exact⟨none,0,by rw [h0],fun _=>rfl,.inl h0⟩
  ·exact⟨_,cap,rfl,by simp,.inl h0⟩
 ·obtain⟨g,cap,rfl,_,_⟩:=h.form (by omega);have hc:ms.length≤cap:=by
   obtain⟨_,⟨h,_⟩ |⟨g',cap',cur,h,_,_,hc,_⟩⟩:=h
   ·simp at h
   ·simp only [Value.slice.injEq]at h;omega
  refine⟨_,cap,rfl,by simp,.inr ⟨g,0,rfl,hc,fun i hi=>?_⟩⟩;obtain⟨e0,e1,e2⟩:=rE ms i hi;simp only [Nat.zero_add];exact⟨(h.cellAt _ (by omega)).trans e0,(h.cellAt _ (by omega)).trans e1,(h.cellAt _ (by omega)).trans e2⟩
theorem DsAt.of_own {w:World} {B:Nat} {v:Value} {ds:List Do} (h:w.ownsRow B 85 3 v ds.length (D ds)):DsAt w v ds:=by
 by_cases h0:ds.length=0
 ·obtain⟨_,⟨rfl,hn⟩ |⟨g,cap,cur,rfl,_⟩⟩:=h
  ·exact⟨none,0,by rw [h0],fun _=>rfl,.inl h0⟩
  ·exact⟨_,cap,rfl,by simp,.inl h0⟩
 ·obtain⟨g,cap,rfl,_,_⟩:=h.form (by omega);have hc:ds.length≤cap:=by
   obtain⟨_,⟨h,_⟩ |⟨g',cap',cur,h,_,_,hc,_⟩⟩:=h
   ·simp at h
   ·simp only [Value.slice.injEq]at h;omega
  refine⟨_,cap,rfl,by simp,.inr ⟨g,0,rfl,hc,fun i hi=>?_⟩⟩;obtain⟨e0,e1,e2⟩:=rH ds i hi;simp only [Nat.zero_add];exact⟨(h.cellAt _ (by omega)).trans e0,(h.cellAt _ (by omega)).trans e1,(h.cellAt _ (by omega)).trans e2⟩
def nx (f:Fl) (out:List Fl):Nat→List Fl×Bool
 | 0=>([],false)
 | k+1=>
  let d1:=(nx f out k).2|| (plc f (out.getD k fl0)==0)
  if plc f (out.getD k fl0)<0∧d1=false then((nx f out k).1++ [f,out.getD k fl0],true)else((nx f out k).1++ [out.getD k fl0],d1)
def lz (f:Fl) (out:List Fl):List Fl:=if(nx f out out.length).2 then(nx f out out.length).1 else(nx f out out.length).1++ [f]
def srt (l:List Fl):Nat→List Fl
 | 0=>[]
 | k+1=>lz (l.getD k fl0) (srt l k)
theorem j4 (f:Fl) (out:List Fl):∀k,(nx f out k).1.length≤k+1∧((nx f out k).2=false→(nx f out k).1.length=k)
 | 0=>⟨by simp [nx],fun _=>by simp [nx]⟩
 | k+1=>by
  obtain⟨h1,h2⟩:=j4 f out k;unfold nx;simp only;split
  ·rename_i h;have h3:(nx f out k).2=false:=by
    have:=h.2;simp at this;exact this.1
   exact⟨by simp [h2 h3],fun h=>by simp at h⟩
  ·refine⟨by simp;omega,fun h=>?_⟩;simp at h;simp [h2 h.1]
theorem mw (f:Fl) (out:List Fl):(lz f out).length≤out.length+1:=by
 obtain⟨h1,h2⟩:=j4 f out out.length;unfold lz;split
 ·exact h1
 ·rename_i h;simp [h2 (by simpa using h)]
theorem eO (l:List Fl):∀k,(srt l k).length≤k
 | 0=>by simp [srt]
 | k+1=>by
  have:=eO l k;have:=mw (l.getD k fl0) (srt l k);unfold srt;omega
structure Fv where
 f:Fl
 mv:Value
 dv:Value
def C (l:List Fv):List Value:=l.flatMap fun x=>[.int .i64 x.f.t,.int .i64 x.f.p,x.mv,x.dv]
def fv0:Fv:=⟨fl0,.slice none 0 0,.slice none 0 0⟩
theorem gN (a b:List Fv):C (a++b)=C a++C b:=by simp [C]
theorem qD:∀(l:List Fv) (i:Nat),i<l.length→(C l)[i*4]? =some (.int .i64 (l.getD i fv0).f.t)∧(C l)[i*4+1]? =some (.int .i64 (l.getD i fv0).f.p)∧(C l)[i*4+2]? =some (l.getD i fv0).mv∧(C l)[i*4+3]? =some (l.getD i fv0).dv
 | [],i,h=>by simp at h
 | x::r,0,_=>⟨rfl,rfl,rfl,rfl⟩
 | x::r,i+1,h=>by
  have ih:=qD r i (by simpa using h);have e:∀j,(C (x::r))[(i+1)*4+j]? =(C r)[i*4+j]?:=fun j=>by
   have:(i+1)*4+j=i*4+j+4:=(by omega);rw [this];rfl
  refine⟨?_,?_,?_,?_⟩
  ·have:=e 0;simp only [Nat.add_zero]at this;rw [this];simpa using ih.1
  ·rw [e 1];simpa using ih.2.1
  ·rw [e 2];simpa using ih.2.2.1
  ·rw [e 3];simpa using ih.2.2.2
def Apart (u v:Value):Prop:=u.ownBlock=none∨u.ownBlock≠v.ownBlock
def FvOk (w:World) (x:Fv):Prop:=MsAt w x.mv x.f.ms∧DsAt w x.dv x.f.ds∧(∀g,x.mv.ownBlock=some g→g<w.heap.size)∧(∀g,x.dv.ownBlock=some g→g<w.heap.size)
theorem FvOk.below {w w':World} {x:Fv} (h:FvOk w x) (hb:Below w.heap.size w w'):FvOk w' x:=
 ⟨h.1.below hb zr,h.2.1.below hb zr,fun g e=>Nat.lt_of_lt_of_le (h.2.2.1 g e) hb.size,fun g e=>Nat.lt_of_lt_of_le (h.2.2.2 g e) hb.size⟩
theorem FvOk.kept {w w':World} {x:Fv} {v:Value} (h:FvOk w x) (hg:w.grownBy w' v.ownBlock) (h1:Apart x.mv v) (h2:Apart x.dv v):FvOk w' x:=
 ⟨h.1.kept hg h1,h.2.1.kept hg h2,fun g e=>Nat.lt_of_lt_of_le (h.2.2.1 g e) hg.size,fun g e=>Nat.lt_of_lt_of_le (h.2.2.2 g e) hg.size⟩
theorem FvOk.slices {w:World} {x:Fv} (h:FvOk w x):(∃o c,x.mv= .slice o x.f.ms.length c)∧(∃o c,x.dv= .slice o x.f.ds.length c):=by
 obtain⟨⟨a,c,h1,_⟩,⟨a',c',h2,_⟩,_⟩:=h;exact⟨⟨a,c,h1⟩,⟨a',c',h2⟩⟩
theorem FvOk.one {w:World} {x:Fv} (h:FvOk w x):∀u∈C [x],u.oneCell'=true:=by
 obtain⟨⟨o,c,h1⟩,⟨o',c',h2⟩⟩:=h.slices;intro u hu;simp [C]at hu;rcases hu with rfl | rfl | rfl | rfl
 ·rfl
 ·rfl
 ·rw [h1];rfl
 ·rw [h2];rfl
structure Rows2 (w:World) (B:Nat) (vo:Value) (lo:List Fv) (vn:Value) (ln:List Fv):Prop where
 out:w.ownsRow B 77 4 vo lo.length (C lo)
 next:w.ownsRow B 77 4 vn ln.length (C ln)
 two:Apart vo vn
 oks:∀x∈lo++ln,FvOk w x∧Apart x.mv vo∧Apart x.dv vo∧Apart x.mv vn∧Apart x.dv vn
theorem Rows2.below {w w':World} {B:Nat} {vo vn:Value} {lo ln:List Fv} (h:Rows2 w B vo lo vn ln) (hb:Below w.heap.size w w'):Rows2 w' B vo lo vn ln:=
 ⟨aA h.out hb,aA h.next hb,h.two,fun x hx=>⟨(h.oks x hx).1.below hb,(h.oks x hx).2⟩⟩
theorem Apart.app {w:World} {u v:Value} {g H n c:Nat} (h:Apart u v) (hu:∀g,u.ownBlock=some g→g<H) (ha:v.ownBlock=some g∨g=H):Apart u (.slice (some ⟨g,0,none⟩) n c):=by
 rcases h with h | h
 ·exact .inl h
 ·cases e:u.ownBlock with
  | none=>exact .inl e
  | some b=>
   refine .inr ?_;rw [e];simp only [Value.ownBlock];rcases ha with ha | ha
   ·rw [ha,e]at h;exact h
   ·have:=hu b e;simp;omega
theorem Rows2.app {w w':World} {B g cap H:Nat} {vo vn:Value} {lo ln:List Fv} {x:Fv} (h:Rows2 w B vo lo vn ln) (hx:FvOk w x) (x1:Apart x.mv vo) (x2:Apart x.dv vo) (x3:Apart x.mv vn) (x4:Apart x.dv vn)
  (ho:w'.ownsRow B 77 4 (.slice (some ⟨g,0,none⟩) (ln.length+1) cap) (ln.length+1) (C ln++C [x])) (hg:w.grownBy w' vn.ownBlock) (ha:vn.ownBlock=some g∨g=H) (hH:w.heap.size=H):
  Rows2 w' B vo lo (.slice (some ⟨g,0,none⟩) (ln.length+1) cap) (ln++ [x]):=by
 refine⟨h.out.kept hg h.two,?_,?_,?_⟩
 ·rw [gN,List.length_append];exact ho
 ·exact Apart.app (w:=w) h.two (fun g e=>hH ▸ rS h.out e) ha
 ·intro y hy;have hy':(FvOk w y∧Apart y.mv vo∧Apart y.dv vo∧Apart y.mv vn∧Apart y.dv vn):=by
   simp only [List.mem_append,List.mem_singleton]at hy;rcases hy with hy | hy | rfl
   ·exact h.oks y (by simp [hy])
   ·exact h.oks y (by simp [hy])
   ·exact⟨hx,x1,x2,x3,x4⟩
  obtain⟨k0,k1,k2,k3,k4⟩:=hy';exact⟨k0.kept hg k3 k4,k1,k2,Apart.app (w:=w) k3 (fun g e=>hH ▸ k0.2.2.1 g e) ha,Apart.app (w:=w) k4 (fun g e=>hH ▸ k0.2.2.2 g e) ha⟩
theorem fh:(Tryz.prog.info? 77).map (fun i=>(i.zero,i.size,i.bytes))=some (some (.agg #[.int .i64 0,.int .i64 0,.slice none 0 0,.slice none 0 0]),4,64):=by kernel_rfl
theorem qy {w:World} {B e size n:Nat} {v:Value} {xs:List Value} (h:w.ownsRow B e size v n xs):∃o c,v= .slice o n c∧n≤c∧(0<n→∃g,o=some ⟨g,0,none⟩):=by
 obtain⟨_,⟨rfl,rfl⟩ |⟨g,cap,cur,rfl,_,_,hc,_⟩⟩:=h
 ·exact⟨none,0,rfl,Nat.le_refl _,fun h=>absurd h (by omega)⟩
 ·exact⟨_,cap,rfl,hc,fun _=>⟨g,rfl⟩⟩
theorem j5 (u:Value):Apart u (.slice none 0 0):=by
 unfold Apart;cases u.ownBlock with
 | none=>exact .inl rfl
 | some g=>exact .inr (by simp [Value.ownBlock])
theorem pq (f:Fl) (out:List Fl):∀k,k≤out.length→∀x∈(nx f out k).1,x=f∨x∈out
 | 0,_,x,hx=>by simp [nx]at hx
 | k+1,hk,x,hx=>by
  have ho:out.getD k fl0∈out:=by
   rw [List.getD_eq_getElem?_getD,List.getElem?_eq_getElem (by omega:k<out.length)];exact List.getElem_mem _
  have ih:=pq f out k (by omega) x;unfold nx at hx;simp only at hx;split at hx
  ·simp only [List.mem_append,List.mem_cons,List.not_mem_nil,or_false]at hx;rcases hx with hx | rfl | rfl
   ·exact ih hx
   ·exact .inl rfl
   ·exact .inr ho
  ·simp only [List.mem_append,List.mem_cons,List.not_mem_nil,or_false]at hx;rcases hx with hx | rfl
   ·exact ih hx
   ·exact .inr ho
theorem nO (l:List Fl):∀k,k≤l.length→∀x∈srt l k,x∈l
 | 0,_,x,hx=>by simp [srt]at hx
 | k+1,hk,x,hx=>by
  have hf:l.getD k fl0∈l:=by
   rw [List.getD_eq_getElem?_getD,List.getElem?_eq_getElem (by omega:k<l.length)];exact List.getElem_mem _
  have ih:=nO l k (by omega) x;have hm:=pq (l.getD k fl0) (srt l k) (srt l k).length zr x;unfold srt lz at hx;split at hx
  ·rcases hm hx with rfl | h
   ·exact hf
   ·exact ih h
  ·simp only [List.mem_append,List.mem_singleton]at hx;rcases hx with hx | rfl
   ·rcases hm hx with rfl | h
    ·exact hf
    ·exact ih h
   ·exact hf
theorem ak (w:World) (o:Obj):Below w.heap.size w (w.alloc o):=(Below.refl _ _).alloc zr _
theorem bo (f v:Int) (w:World):Calls Tryz.prog 44 #[.int .i64 f,.int .i64 v] w fun e w'=>e= .returned (.agg #[.int .i64 f,.int .i64 65535,.int .i64 v])∧Below w.heap.size w w':=by
 go_enter Tryz.func44,Tryz.ntmps44;go_wp2;refine bodyPost_ret (v:=.agg #[.int .i64 f,.int .i64 65535,.int .i64 v]) ?_ rfl ⟨rfl,ak _ _⟩;simp [results,Tryz.results44,go_sem]
theorem aQ (k a n:Int) (w:World):Calls Tryz.prog 47 #[.int .i64 k,.int .i64 a,.int .i64 n] w fun e w'=>e= .returned (.agg #[.int .i64 k,.int .i64 a,.int .i64 n])∧Below w.heap.size w w':=by
 go_enter Tryz.func47,Tryz.ntmps47;go_wp2;refine bodyPost_ret (v:=.agg #[.int .i64 k,.int .i64 a,.int .i64 n]) ?_ rfl ⟨rfl,ak _ _⟩;simp [results,Tryz.results47,go_sem]
theorem aw (t p:Int) (ma da:Option Addr) (ml mc dl dc:Nat) (w:World):Calls Tryz.prog 45 #[.int .i64 t,.int .i64 p,.slice ma ml mc,.slice da dl dc] w fun e w'=>e= .returned (.agg #[.int .i64 t,.int .i64 p,.slice ma ml mc,.slice da dl dc])∧Below w.heap.size w w':=by
 go_enter Tryz.func45,Tryz.ntmps45;go_wp2;refine bodyPost_ret (v:=.agg #[.int .i64 t,.int .i64 p,.slice ma ml mc,.slice da dl dc]) ?_ rfl ⟨rfl,ak _ _⟩;simp [results,Tryz.results45,go_sem]
theorem eJ (n:Int) (w:World) (h0:0≤n) (h1:n≤100000):Calls Tryz.prog 101 #[.int .i64 n] w fun e w'=>e= .returned (.int .i64 (60000+n))∧w'=w:=by
 go_enter Tryz.func101,Tryz.ntmps101;go_wp2;go_ret;exact⟨by go_num,rfl⟩
theorem lP (b:Int) (h0:0≤b) (h1:b≤16):1≤(2:Int) ^ (16-b).toNat∧(2:Int) ^ (16-b).toNat≤65536:=by
 obtain⟨n,rfl⟩:=Int.eq_ofNat_of_zero_le h0;have:n=0∨n=1∨n=2∨n=3∨n=4∨n=5∨n=6∨n=7∨n=8∨n=9∨n=10∨n=11∨n=12∨n=13∨n=14∨n=15∨n=16:=by omega
 rcases this with rfl | rfl | rfl | rfl | rfl | rfl | rfl | rfl | rfl | rfl | rfl | rfl | rfl | rfl | rfl | rfl | rfl <;>decide
theorem qV (b:Int) (h0:0≤b) (h1:b≤16):bits .andNot .i64 65535 (2 ^ (16-b).toNat-1)=65536-2 ^ (16-b).toNat:=by
 obtain⟨n,rfl⟩:=Int.eq_ofNat_of_zero_le h0;have:n=0∨n=1∨n=2∨n=3∨n=4∨n=5∨n=6∨n=7∨n=8∨n=9∨n=10∨n=11∨n=12∨n=13∨n=14∨n=15∨n=16:=by omega
 rcases this with rfl | rfl | rfl | rfl | rfl | rfl | rfl | rfl | rfl | rfl | rfl | rfl | rfl | rfl | rfl | rfl | rfl <;>decide
theorem iq (f v b:Int) (w:World) (h0:0≤b) (h1:b≤16):Calls Tryz.prog 134 #[.int .i64 f,.int .i64 v,.int .i64 b] w fun e w'=>e= .returned (.agg #[.int .i64 f,.int .i64 (65536-2 ^ (16-b).toNat),.int .i64 v])∧Below w.heap.size w w':=by
 go_enter Tryz.func134,Tryz.ntmps134;go_wp2;have e1:wrap64 (2 ^ (16-b).toNat)=2 ^ (16-b).toNat:=by
  have hx:=lP b h0 h1;generalize (2:Int) ^ (16-b).toNat=x at hx⊢;unfold wrap64;omega
 have e2:wrap64 (2 ^ (16-b).toNat-1)=2 ^ (16-b).toNat-1:=by
  have hx:=lP b h0 h1;generalize (2:Int) ^ (16-b).toNat=x at hx⊢;unfold wrap64;omega
 rw [e1,e2,qV b h0 h1];refine bodyPost_ret (v:=.agg #[.int .i64 f,.int .i64 (65536-2 ^ (16-b).toNat),.int .i64 v]) ?_ rfl ⟨rfl,ak _ _⟩;simp [results,Tryz.results134,go_sem]
theorem bJ (w:World):Calls Tryz.prog 46 #[] w fun e w'=>∃u,e= .returned u∧w'.ownsRow w.heap.size 82 3 u 2 (M cv)∧Below w.heap.size w w':=by
 go_enter Tryz.func46,Tryz.ntmps46;go_wp2_with fail
 refine(bo _ _ _).mono ?_;rintro e w1 ⟨rfl,hb1⟩;go_wp2_with fail
 go_ret;exact⟨_,rfl,World.ownsRow_lit _ _ _ hb1.size (by decide) rfl,hb1.alloc hb1.size _⟩
def idx {α:Type} (p:α→Bool) (l:List α):Int:=match l.findIdx? p with
 | some k=>(k:Int)
 | none=> -1
theorem fu {α:Type} {p:α→Bool} (d:α) {l:List α} {k:Nat} (hk:k<l.length) (h1:∀j,j<k→p (l.getD j d)=false) (h2:p (l.getD k d)=true):idx p l=k:=by
 have e:l.findIdx? p=some k:=by
  rw [List.findIdx?_eq_some_iff_getElem];refine⟨hk,by simpa [List.getD,List.getElem?_eq_getElem hk] using h2,fun j hj=>?_⟩;have:=h1 j hj;simpa [List.getD,List.getElem?_eq_getElem (show j<l.length by omega)] using this
 unfold idx;rw [e]
theorem fg {α:Type} {p:α→Bool} (d:α) {l:List α} (h1:∀j,j<l.length→p (l.getD j d)=false):idx p l= -1:=by
 have e:l.findIdx? p=none:=by
  rw [List.findIdx?_eq_none_iff];intro x hx;obtain⟨j,hj,rfl⟩:=List.getElem_of_mem hx;have:=h1 j hj;simpa [List.getD,List.getElem?_eq_getElem hj] using this
 unfold idx;rw [e]
theorem dL {α:Type} (p:α→Bool) (l:List α):decide (0≤idx p l)=l.any p:=by
 unfold idx;cases h:l.findIdx? p with
 | none=>
  rw [List.findIdx?_eq_none_iff]at h;simp only [Int.reduceNeg,Int.reduceLE,decide_false];symm;rw [List.any_eq_false];intro x hx;simp [h x hx]
 | some k=>
  rw [List.findIdx?_eq_some_iff_getElem]at h;obtain⟨hk,h1,_⟩:=h;have h2:l.any p=true:=by
   rw [List.any_eq_true];exact⟨_,List.getElem_mem hk,h1⟩
  rw [h2];simp
theorem kP {α:Type} (p:α→Bool) (l:List α): -1≤idx p l∧idx p l<l.length:=by
 unfold idx;cases h:l.findIdx? p with
 | none=>exact⟨by simp,by simp <;>omega⟩
 | some k=>
  rw [List.findIdx?_eq_some_iff_getElem]at h;obtain⟨hk,_⟩:=h;exact⟨by simp <;>omega,by simpa using hk⟩
def kI (w:World) (b0:Nat) (p:Sw→Bool):Prop:=∀(W:World) (x:Sw),Below w.heap.size w W→Calls Tryz.prog 149 #[.agg #[.int .i64 x.i,.int .i64 x.t,.int .i64 x.g],.pointer (some ⟨b0,0,none⟩)] W fun e w'=>e= .returned (.bool (p x))∧Below W.heap.size W w'
theorem kn (l:List Sw) (p:Sw→Bool) (v:Value) (b0:Nat) (w:World) (hF:cZ w v l) (hT:kI w b0 p) (hl:l.length*24≤140737488355328):
  Calls Tryz.prog 125 #[v,.func (.func 149) #[] #[.pointer (some ⟨b0,0,none⟩)]] w fun e w'=>e= .returned (.int .i64 (idx p l))∧Below w.heap.size w w':=by
 have HF:=aa hF;have HT:=aa hT;obtain⟨a,cap,rfl⟩:=hF.slice;clear hF hT;go_enter Tryz.func125,Tryz.ntmps125;go_wp2_with fail
 go_loopw [8] (fun i wr=>∃k:Nat,k≤l.length∧i= .int .i64 k∧Hid (∀j,j<k→p (l.getD j sw0)=false)∧Below w.heap.size w wr) (fun i _=>l.length-(intOf i).toNat)
 case atStart=>exact⟨0,by omega,rfl,aa (fun j h=>absurd h (by omega)),Below.refl _ _⟩
 case round=>
  obtain⟨k,hk,rfl,HALL,hbr⟩:=hrel;by_cases hlt:k<l.length
  ·obtain⟨b,off,cap',e1,hcap, -,g0,g1,g2⟩:=iu (RowAt.below HF.out hbr zr) hlt;simp only [Value.slice.injEq,true_and]at e1;obtain⟨rfl,rfl⟩:=e1;have HST:Hid (∀W:World,Below w.heap.size w W→Calls Tryz.prog 149 #[.agg #[.int .i64 (l.getD k sw0).i,.int .i64 (l.getD k sw0).t,.int .i64 (l.getD k sw0).g],.pointer (some ⟨b0,0,none⟩)] W fun e w'=>e= .returned (.bool (p (l.getD k sw0)))∧Below W.heap.size W w'):=fun W hW=>HT.out W _ hW;have HNX:Hid (p (l.getD k sw0)=false→∀j,j<k+1→p (l.getD j sw0)=false):=fun h j hj=>by
    by_cases e:j=k
    ·subst e;exact h
    ·exact HALL.out j (by omega)
   have HFD:Hid (p (l.getD k sw0)=true→idx p l=k):=fun h=>fu sw0 hlt HALL.out h;generalize p (l.getD k sw0)=R at*;generalize (l.getD k sw0).i=y0 at*;generalize (l.getD k sw0).t=y1 at*;generalize (l.getD k sw0).g=y2 at*;have q1:(0:Int)≤(k:Int):=(by omega);have q2:(k:Int)<(l.length:Int):=(by omega);clear HALL;go_wp2_with fail
   refine(ae HST _ ?_).mono ?_
   ·first | exact hbr | exact hbr.drew | exact⟨hbr.os,hbr.tape,hbr.output,hbr.size,hbr.block⟩
   rintro e w1 ⟨rfl,hb1⟩;have HB1:Hid (Below w.heap.size w w1):=hbr.trans (hb1.mono hbr.size);clear hb1 hbr HST g0 g1 g2;cases R
   ·have HN:=aa (HNX.out rfl);clear HNX HFD;go_wp2_with fail
    go_roundw
    case rel=>exact⟨k+1,by omega,by go_num,HN,HB1.out⟩
    case measure=>simp [intOf];omega
   ·have HN:=aa (HFD.out rfl);clear HNX HFD;go_wp2_with fail
    go_ret;exact⟨ap HN.out.symm,HB1.out⟩
  ·have HN:Hid (idx p l= -1):=fg sw0 fun i hi=>HALL.out i (by omega);have HB1:=aa hbr;clear HALL hbr;go_wp2_with fail
   go_ret;exact⟨ap HN.out.symm,HB1.out⟩
theorem oG (l:List Sw) (p:Sw→Bool) (v:Value) (b0:Nat) (w:World) (hF:cZ w v l) (hT:kI w b0 p) (hl:l.length*24≤140737488355328):
  Calls Tryz.prog 136 #[v,.func (.func 149) #[] #[.pointer (some ⟨b0,0,none⟩)]] w fun e w'=>e= .returned (.bool (l.any p))∧Below w.heap.size w w':=by
 have HI:=aa (kn l p v b0 w hF hT hl);have HA:=aa (dL p l);obtain⟨a,cap,rfl⟩:=hF.slice;clear hF hT;generalize idx p l=I at*;go_enter Tryz.func136,Tryz.ntmps136;go_wp2_with fail
 refine(ae HI).mono ?_;rintro e w1 ⟨rfl,hb1⟩;go_wp2_with fail
 go_ret;exact⟨aC HA.out,hb1⟩
def gJ (w:World) (b0 b1:Nat) (p:Sw→Bool):Prop:=∀(W:World) (x:Sw),Below w.heap.size w W→Calls Tryz.prog 150 #[.agg #[.int .i64 x.i,.int .i64 x.t,.int .i64 x.g],.pointer (some ⟨b0,0,none⟩),.pointer (some ⟨b1,0,none⟩)] W fun e w'=>e= .returned (.bool (p x))∧Below W.heap.size W w'
theorem lm (l:List Sw) (p:Sw→Bool) (v:Value) (b0 b1:Nat) (w:World) (hF:cZ w v l) (hT:gJ w b0 b1 p) (hl:l.length*24≤140737488355328):
  Calls Tryz.prog 125 #[v,.func (.func 150) #[] #[.pointer (some ⟨b0,0,none⟩),.pointer (some ⟨b1,0,none⟩)]] w fun e w'=>e= .returned (.int .i64 (idx p l))∧Below w.heap.size w w':=by
 have HF:=aa hF;have HT:=aa hT;obtain⟨a,cap,rfl⟩:=hF.slice;clear hF hT;go_enter Tryz.func125,Tryz.ntmps125;go_wp2_with fail
 go_loopw [8] (fun i wr=>∃k:Nat,k≤l.length∧i= .int .i64 k∧Hid (∀j,j<k→p (l.getD j sw0)=false)∧Below w.heap.size w wr) (fun i _=>l.length-(intOf i).toNat)
 case atStart=>exact⟨0,by omega,rfl,aa (fun j h=>absurd h (by omega)),Below.refl _ _⟩
 case round=>
  obtain⟨k,hk,rfl,HALL,hbr⟩:=hrel;by_cases hlt:k<l.length
  ·obtain⟨b,off,cap',e1,hcap, -,g0,g1,g2⟩:=iu (RowAt.below HF.out hbr zr) hlt;simp only [Value.slice.injEq,true_and]at e1;obtain⟨rfl,rfl⟩:=e1;have HST:Hid (∀W:World,Below w.heap.size w W→Calls Tryz.prog 150 #[.agg #[.int .i64 (l.getD k sw0).i,.int .i64 (l.getD k sw0).t,.int .i64 (l.getD k sw0).g],.pointer (some ⟨b0,0,none⟩),.pointer (some ⟨b1,0,none⟩)] W fun e w'=>e= .returned (.bool (p (l.getD k sw0)))∧Below W.heap.size W w'):=fun W hW=>HT.out W _ hW;have HNX:Hid (p (l.getD k sw0)=false→∀j,j<k+1→p (l.getD j sw0)=false):=fun h j hj=>by
    by_cases e:j=k
    ·subst e;exact h
    ·exact HALL.out j (by omega)
   have HFD:Hid (p (l.getD k sw0)=true→idx p l=k):=fun h=>fu sw0 hlt HALL.out h;generalize p (l.getD k sw0)=R at*;generalize (l.getD k sw0).i=y0 at*;generalize (l.getD k sw0).t=y1 at*;generalize (l.getD k sw0).g=y2 at*;have q1:(0:Int)≤(k:Int):=(by omega);have q2:(k:Int)<(l.length:Int):=(by omega);clear HALL;go_wp2_with fail
   refine(ae HST _ ?_).mono ?_
   ·first | exact hbr | exact hbr.drew | exact⟨hbr.os,hbr.tape,hbr.output,hbr.size,hbr.block⟩
   rintro e w1 ⟨rfl,hb1⟩;have HB1:Hid (Below w.heap.size w w1):=hbr.trans (hb1.mono hbr.size);clear hb1 hbr HST g0 g1 g2;cases R
   ·have HN:=aa (HNX.out rfl);clear HNX HFD;go_wp2_with fail
    go_roundw
    case rel=>exact⟨k+1,by omega,by go_num,HN,HB1.out⟩
    case measure=>simp [intOf];omega
   ·have HN:=aa (HFD.out rfl);clear HNX HFD;go_wp2_with fail
    go_ret;exact⟨ap HN.out.symm,HB1.out⟩
  ·have HN:Hid (idx p l= -1):=fg sw0 fun i hi=>HALL.out i (by omega);have HB1:=aa hbr;clear HALL hbr;go_wp2_with fail
   go_ret;exact⟨ap HN.out.symm,HB1.out⟩
theorem mh (l:List Sw) (p:Sw→Bool) (v:Value) (b0 b1:Nat) (w:World) (hF:cZ w v l) (hT:gJ w b0 b1 p) (hl:l.length*24≤140737488355328):
  Calls Tryz.prog 136 #[v,.func (.func 150) #[] #[.pointer (some ⟨b0,0,none⟩),.pointer (some ⟨b1,0,none⟩)]] w fun e w'=>e= .returned (.bool (l.any p))∧Below w.heap.size w w':=by
 have HI:=aa (lm l p v b0 b1 w hF hT hl);have HA:=aa (dL p l);obtain⟨a,cap,rfl⟩:=hF.slice;clear hF hT;generalize idx p l=I at*;go_enter Tryz.func136,Tryz.ntmps136;go_wp2_with fail
 refine(ae HI).mono ?_;rintro e w1 ⟨rfl,hb1⟩;go_wp2_with fail
 go_ret;exact⟨aC HA.out,hb1⟩
def kT (w:World) (b0 b1:Nat) (p:Sw→Bool):Prop:=∀(W:World) (x:Sw),Below w.heap.size w W→Calls Tryz.prog 152 #[.agg #[.int .i64 x.i,.int .i64 x.t,.int .i64 x.g],.pointer (some ⟨b0,0,none⟩),.pointer (some ⟨b1,0,none⟩)] W fun e w'=>e= .returned (.bool (p x))∧Below W.heap.size W w'
theorem oX (l:List Sw) (p:Sw→Bool) (v:Value) (b0 b1:Nat) (w:World) (hF:cZ w v l) (hT:kT w b0 b1 p) (hl:l.length*24≤140737488355328):
  Calls Tryz.prog 125 #[v,.func (.func 152) #[] #[.pointer (some ⟨b0,0,none⟩),.pointer (some ⟨b1,0,none⟩)]] w fun e w'=>e= .returned (.int .i64 (idx p l))∧Below w.heap.size w w':=by
 have HF:=aa hF;have HT:=aa hT;obtain⟨a,cap,rfl⟩:=hF.slice;clear hF hT;go_enter Tryz.func125,Tryz.ntmps125;go_wp2_with fail
 go_loopw [8] (fun i wr=>∃k:Nat,k≤l.length∧i= .int .i64 k∧Hid (∀j,j<k→p (l.getD j sw0)=false)∧Below w.heap.size w wr) (fun i _=>l.length-(intOf i).toNat)
 case atStart=>exact⟨0,by omega,rfl,aa (fun j h=>absurd h (by omega)),Below.refl _ _⟩
 case round=>
  obtain⟨k,hk,rfl,HALL,hbr⟩:=hrel;by_cases hlt:k<l.length
  ·obtain⟨b,off,cap',e1,hcap, -,g0,g1,g2⟩:=iu (RowAt.below HF.out hbr zr) hlt;simp only [Value.slice.injEq,true_and]at e1;obtain⟨rfl,rfl⟩:=e1;have HST:Hid (∀W:World,Below w.heap.size w W→Calls Tryz.prog 152 #[.agg #[.int .i64 (l.getD k sw0).i,.int .i64 (l.getD k sw0).t,.int .i64 (l.getD k sw0).g],.pointer (some ⟨b0,0,none⟩),.pointer (some ⟨b1,0,none⟩)] W fun e w'=>e= .returned (.bool (p (l.getD k sw0)))∧Below W.heap.size W w'):=fun W hW=>HT.out W _ hW;have HNX:Hid (p (l.getD k sw0)=false→∀j,j<k+1→p (l.getD j sw0)=false):=fun h j hj=>by
    by_cases e:j=k
    ·subst e;exact h
    ·exact HALL.out j (by omega)
   have HFD:Hid (p (l.getD k sw0)=true→idx p l=k):=fun h=>fu sw0 hlt HALL.out h;generalize p (l.getD k sw0)=R at*;generalize (l.getD k sw0).i=y0 at*;generalize (l.getD k sw0).t=y1 at*;generalize (l.getD k sw0).g=y2 at*;have q1:(0:Int)≤(k:Int):=(by omega);have q2:(k:Int)<(l.length:Int):=(by omega);clear HALL;go_wp2_with fail
   refine(ae HST _ ?_).mono ?_
   ·first | exact hbr | exact hbr.drew | exact⟨hbr.os,hbr.tape,hbr.output,hbr.size,hbr.block⟩
   rintro e w1 ⟨rfl,hb1⟩;have HB1:Hid (Below w.heap.size w w1):=hbr.trans (hb1.mono hbr.size);clear hb1 hbr HST g0 g1 g2;cases R
   ·have HN:=aa (HNX.out rfl);clear HNX HFD;go_wp2_with fail
    go_roundw
    case rel=>exact⟨k+1,by omega,by go_num,HN,HB1.out⟩
    case measure=>simp [intOf];omega
   ·have HN:=aa (HFD.out rfl);clear HNX HFD;go_wp2_with fail
    go_ret;exact⟨ap HN.out.symm,HB1.out⟩
  ·have HN:Hid (idx p l= -1):=fg sw0 fun i hi=>HALL.out i (by omega);have HB1:=aa hbr;clear HALL hbr;go_wp2_with fail
   go_ret;exact⟨ap HN.out.symm,HB1.out⟩
theorem oF (l:List Sw) (p:Sw→Bool) (v:Value) (b0 b1:Nat) (w:World) (hF:cZ w v l) (hT:kT w b0 b1 p) (hl:l.length*24≤140737488355328):
  Calls Tryz.prog 136 #[v,.func (.func 152) #[] #[.pointer (some ⟨b0,0,none⟩),.pointer (some ⟨b1,0,none⟩)]] w fun e w'=>e= .returned (.bool (l.any p))∧Below w.heap.size w w':=by
 have HI:=aa (oX l p v b0 b1 w hF hT hl);have HA:=aa (dL p l);obtain⟨a,cap,rfl⟩:=hF.slice;clear hF hT;generalize idx p l=I at*;go_enter Tryz.func136,Tryz.ntmps136;go_wp2_with fail
 refine(ae HI).mono ?_;rintro e w1 ⟨rfl,hb1⟩;go_wp2_with fail
 go_ret;exact⟨aC HA.out,hb1⟩
def gt (w:World) (b0:Nat) (p:Pr→Bool):Prop:=∀(W:World) (x:Pr),Below w.heap.size w W→Calls Tryz.prog 127 #[.agg #[.int .i64 x.i,.int .i64 x.s,.int .i64 x.m,.int .i64 x.p,.int .i64 x.c],.pointer (some ⟨b0,0,none⟩)] W fun e w'=>e= .returned (.bool (p x))∧Below W.heap.size W w'
theorem lZ (l:List Pr) (p:Pr→Bool) (v:Value) (b0:Nat) (w:World) (hF:dC w v l) (hT:gt w b0 p) (hl:l.length*40≤140737488355328):
  Calls Tryz.prog 52 #[v,.func (.func 127) #[] #[.pointer (some ⟨b0,0,none⟩)]] w fun e w'=>e= .returned (.int .i64 (idx p l))∧Below w.heap.size w w':=by
 have HF:=aa hF;have HT:=aa hT;obtain⟨a,cap,rfl⟩:=hF.slice;clear hF hT;go_enter Tryz.func52,Tryz.ntmps52;go_wp2_with fail
 go_loopw [8] (fun i wr=>∃k:Nat,k≤l.length∧i= .int .i64 k∧Hid (∀j,j<k→p (l.getD j pr0)=false)∧Below w.heap.size w wr) (fun i _=>l.length-(intOf i).toNat)
 case atStart=>exact⟨0,by omega,rfl,aa (fun j h=>absurd h (by omega)),Below.refl _ _⟩
 case round=>
  obtain⟨k,hk,rfl,HALL,hbr⟩:=hrel;by_cases hlt:k<l.length
  ·obtain⟨b,off,cap',e1,hcap, -,g0,g1,g2,g3,g4⟩:=eZ (RowAt.below HF.out hbr zr) hlt;simp only [Value.slice.injEq,true_and]at e1;obtain⟨rfl,rfl⟩:=e1;have HST:Hid (∀W:World,Below w.heap.size w W→Calls Tryz.prog 127 #[.agg #[.int .i64 (l.getD k pr0).i,.int .i64 (l.getD k pr0).s,.int .i64 (l.getD k pr0).m,.int .i64 (l.getD k pr0).p,.int .i64 (l.getD k pr0).c],.pointer (some ⟨b0,0,none⟩)] W fun e w'=>e= .returned (.bool (p (l.getD k pr0)))∧Below W.heap.size W w'):=fun W hW=>HT.out W _ hW;have HNX:Hid (p (l.getD k pr0)=false→∀j,j<k+1→p (l.getD j pr0)=false):=fun h j hj=>by
    by_cases e:j=k
    ·subst e;exact h
    ·exact HALL.out j (by omega)
   have HFD:Hid (p (l.getD k pr0)=true→idx p l=k):=fun h=>fu pr0 hlt HALL.out h;generalize p (l.getD k pr0)=R at*;generalize (l.getD k pr0).i=y0 at*;generalize (l.getD k pr0).s=y1 at*;generalize (l.getD k pr0).m=y2 at*;generalize (l.getD k pr0).p=y3 at*;generalize (l.getD k pr0).c=y4 at*;have q1:(0:Int)≤(k:Int):=(by omega);have q2:(k:Int)<(l.length:Int):=(by omega);clear HALL;go_wp2_with fail
   refine(ae HST _ ?_).mono ?_
   ·first | exact hbr | exact hbr.drew | exact⟨hbr.os,hbr.tape,hbr.output,hbr.size,hbr.block⟩
   rintro e w1 ⟨rfl,hb1⟩;have HB1:Hid (Below w.heap.size w w1):=hbr.trans (hb1.mono hbr.size);clear hb1 hbr HST g0 g1 g2 g3 g4;cases R
   ·have HN:=aa (HNX.out rfl);clear HNX HFD;go_wp2_with fail
    go_roundw
    case rel=>exact⟨k+1,by omega,by go_num,HN,HB1.out⟩
    case measure=>simp [intOf];omega
   ·have HN:=aa (HFD.out rfl);clear HNX HFD;go_wp2_with fail
    go_ret;exact⟨ap HN.out.symm,HB1.out⟩
  ·have HN:Hid (idx p l= -1):=fg pr0 fun i hi=>HALL.out i (by omega);have HB1:=aa hbr;clear HALL hbr;go_wp2_with fail
   go_ret;exact⟨ap HN.out.symm,HB1.out⟩
theorem lG (l:List Pr) (p:Pr→Bool) (v:Value) (b0:Nat) (w:World) (hF:dC w v l) (hT:gt w b0 p) (hl:l.length*40≤140737488355328):
  Calls Tryz.prog 22 #[v,.func (.func 127) #[] #[.pointer (some ⟨b0,0,none⟩)]] w fun e w'=>e= .returned (.bool (l.any p))∧Below w.heap.size w w':=by
 have HI:=aa (lZ l p v b0 w hF hT hl);have HA:=aa (dL p l);obtain⟨a,cap,rfl⟩:=hF.slice;clear hF hT;generalize idx p l=I at*;go_enter Tryz.func22,Tryz.ntmps22;go_wp2_with fail
 refine(ae HI).mono ?_;rintro e w1 ⟨rfl,hb1⟩;go_wp2_with fail
 go_ret;exact⟨aC HA.out,hb1⟩
def ny (w:World) (b0 b1 b2:Nat) (p:Pr→Bool):Prop:=∀(W:World) (x:Pr),Below w.heap.size w W→Calls Tryz.prog 151 #[.agg #[.int .i64 x.i,.int .i64 x.s,.int .i64 x.m,.int .i64 x.p,.int .i64 x.c],.pointer (some ⟨b0,0,none⟩),.pointer (some ⟨b1,0,none⟩),.pointer (some ⟨b2,0,none⟩)] W fun e w'=>e= .returned (.bool (p x))∧Below W.heap.size W w'
theorem ou (l:List Pr) (p:Pr→Bool) (v:Value) (b0 b1 b2:Nat) (w:World) (hF:dC w v l) (hT:ny w b0 b1 b2 p) (hl:l.length*40≤140737488355328):
  Calls Tryz.prog 52 #[v,.func (.func 151) #[] #[.pointer (some ⟨b0,0,none⟩),.pointer (some ⟨b1,0,none⟩),.pointer (some ⟨b2,0,none⟩)]] w fun e w'=>e= .returned (.int .i64 (idx p l))∧Below w.heap.size w w':=by
 have HF:=aa hF;have HT:=aa hT;obtain⟨a,cap,rfl⟩:=hF.slice;clear hF hT;go_enter Tryz.func52,Tryz.ntmps52;go_wp2_with fail
 go_loopw [8] (fun i wr=>∃k:Nat,k≤l.length∧i= .int .i64 k∧Hid (∀j,j<k→p (l.getD j pr0)=false)∧Below w.heap.size w wr) (fun i _=>l.length-(intOf i).toNat)
 case atStart=>exact⟨0,by omega,rfl,aa (fun j h=>absurd h (by omega)),Below.refl _ _⟩
 case round=>
  obtain⟨k,hk,rfl,HALL,hbr⟩:=hrel;by_cases hlt:k<l.length
  ·obtain⟨b,off,cap',e1,hcap, -,g0,g1,g2,g3,g4⟩:=eZ (RowAt.below HF.out hbr zr) hlt;simp only [Value.slice.injEq,true_and]at e1;obtain⟨rfl,rfl⟩:=e1;have HST:Hid (∀W:World,Below w.heap.size w W→Calls Tryz.prog 151 #[.agg #[.int .i64 (l.getD k pr0).i,.int .i64 (l.getD k pr0).s,.int .i64 (l.getD k pr0).m,.int .i64 (l.getD k pr0).p,.int .i64 (l.getD k pr0).c],.pointer (some ⟨b0,0,none⟩),.pointer (some ⟨b1,0,none⟩),.pointer (some ⟨b2,0,none⟩)] W fun e w'=>e= .returned (.bool (p (l.getD k pr0)))∧Below W.heap.size W w'):=fun W hW=>HT.out W _ hW;have HNX:Hid (p (l.getD k pr0)=false→∀j,j<k+1→p (l.getD j pr0)=false):=fun h j hj=>by
    by_cases e:j=k
    ·subst e;exact h
    ·exact HALL.out j (by omega)
   have HFD:Hid (p (l.getD k pr0)=true→idx p l=k):=fun h=>fu pr0 hlt HALL.out h;generalize p (l.getD k pr0)=R at*;generalize (l.getD k pr0).i=y0 at*;generalize (l.getD k pr0).s=y1 at*;generalize (l.getD k pr0).m=y2 at*;generalize (l.getD k pr0).p=y3 at*;generalize (l.getD k pr0).c=y4 at*;have q1:(0:Int)≤(k:Int):=(by omega);have q2:(k:Int)<(l.length:Int):=(by omega);clear HALL;go_wp2_with fail
   refine(ae HST _ ?_).mono ?_
   ·first | exact hbr | exact hbr.drew | exact⟨hbr.os,hbr.tape,hbr.output,hbr.size,hbr.block⟩
   rintro e w1 ⟨rfl,hb1⟩;have HB1:Hid (Below w.heap.size w w1):=hbr.trans (hb1.mono hbr.size);clear hb1 hbr HST g0 g1 g2 g3 g4;cases R
   ·have HN:=aa (HNX.out rfl);clear HNX HFD;go_wp2_with fail
    go_roundw
    case rel=>exact⟨k+1,by omega,by go_num,HN,HB1.out⟩
    case measure=>simp [intOf];omega
   ·have HN:=aa (HFD.out rfl);clear HNX HFD;go_wp2_with fail
    go_ret;exact⟨ap HN.out.symm,HB1.out⟩
  ·have HN:Hid (idx p l= -1):=fg pr0 fun i hi=>HALL.out i (by omega);have HB1:=aa hbr;clear HALL hbr;go_wp2_with fail
   go_ret;exact⟨ap HN.out.symm,HB1.out⟩
theorem oR (l:List Pr) (p:Pr→Bool) (v:Value) (b0 b1 b2:Nat) (w:World) (hF:dC w v l) (hT:ny w b0 b1 b2 p) (hl:l.length*40≤140737488355328):
  Calls Tryz.prog 22 #[v,.func (.func 151) #[] #[.pointer (some ⟨b0,0,none⟩),.pointer (some ⟨b1,0,none⟩),.pointer (some ⟨b2,0,none⟩)]] w fun e w'=>e= .returned (.bool (l.any p))∧Below w.heap.size w w':=by
 have HI:=aa (ou l p v b0 b1 b2 w hF hT hl);have HA:=aa (dL p l);obtain⟨a,cap,rfl⟩:=hF.slice;clear hF hT;generalize idx p l=I at*;go_enter Tryz.func22,Tryz.ntmps22;go_wp2_with fail
 refine(ae HI).mono ?_;rintro e w1 ⟨rfl,hb1⟩;go_wp2_with fail
 go_ret;exact⟨aC HA.out,hb1⟩
theorem fp {α:Type} (p:α→Bool) (d:α) {l:List α} {k:Nat} (h:k<l.length):(l.take (k+1)).filter p=(l.take k).filter p++(if p (l.getD k d)then [l.getD k d]else []):=by
 rw [List.take_succ_eq_append_getElem h,List.filter_append];have e:l.getD k d=l[k]:=by simp [List.getD,List.getElem?_eq_getElem h]
 rw [e];by_cases hp:p l[k]=true
 ·simp [hp]
 ·simp [hp]
theorem dr (W:World) (cs:List Value) (t:TypeId):∀j u,cs[j]? =some u→(W.alloc (.cells cs.toArray t)).cell? ((⟨W.heap.size,0,none⟩:Addr).add j)=some u:=fun j u h=>by
 rw [eP,Nat.zero_add];exact aj W _ rfl _ _ _ _ (by simpa using h)
def br (f:Nat):Prop:=∀args W,Sem.run Tryz.prog (callFunc f args) W= .ok (.enter f args) W
def PicksPr (w:World) (f:Nat) (cs:Array Value) (p:Pr→Bool):Prop:=∀(W:World) (x:Pr),Below w.heap.size w W→Calls Tryz.prog f (#[.agg #[.int .i64 x.i,.int .i64 x.s,.int .i64 x.m,.int .i64 x.p,.int .i64 x.c]]++cs) W fun e w'=>e= .returned (.bool (p x))∧Below W.heap.size W w'
theorem cz (l:List Pr) (p:Pr→Bool) (v:Value) (f:Nat) (cs:Array Value) (w:World) (hF:dC w v l) (hT:PicksPr w f cs p) (hE:br f) (hl:l.length≤1000):
  Calls Tryz.prog 16 #[v,.func (.func f) #[] cs] w fun e w'=>∃u,e= .returned u∧w'.ownsRow w.heap.size 56 5 u (l.filter p).length ((l.filter p).flatMap prC)∧Below w.heap.size w w':=by
 obtain⟨i0,hi,hz0,hz1,hz2⟩:=info_parts kW;have HF:=aa hF;have HT:=aa hT;have HEN:=aa hE;obtain⟨a,cap,rfl⟩:=hF.slice;clear hF hT hE;go_enter Tryz.func16,Tryz.ntmps16;go_wp2_with fail
 go_loopw [5,10] (fun u i wr=>∃k:Nat,k≤l.length∧i= .int .i64 k∧Hid (wr.ownsRow w.heap.size 56 5 u ((l.take k).filter p).length (((l.take k).filter p).flatMap prC))∧Below w.heap.size w wr) (fun _ i _=>l.length-(intOf i).toNat)
 case atStart=>exact⟨0,by omega,rfl,aa (by simpa using World.ownsRow_nil w w.heap.size 56 5),Below.refl _ _⟩
 case round=>
  obtain⟨k,hk,rfl,HO,hbr⟩:=hrel;by_cases hlt:k<l.length
  ·obtain⟨b,off,cap',e1,hcap, -,g0,g1,g2,g3,g4⟩:=eZ (RowAt.below HF.out hbr zr) hlt;simp only [Value.slice.injEq,true_and]at e1;obtain⟨rfl,rfl⟩:=e1;have HST:Hid (∀W:World,Below w.heap.size w W→Calls Tryz.prog f (#[.agg #[.int .i64 (l.getD k pr0).i,.int .i64 (l.getD k pr0).s,.int .i64 (l.getD k pr0).m,.int .i64 (l.getD k pr0).p,.int .i64 (l.getD k pr0).c]]++cs) W fun e w'=>e= .returned (.bool (p (l.getD k pr0)))∧Below W.heap.size W w'):=fun W hW=>HT.out W _ hW;have HN:=aa (fp p pr0 hlt);have HC:Hid (prC (l.getD k pr0)= [.int .i64 (l.getD k pr0).i,.int .i64 (l.getD k pr0).s,.int .i64 (l.getD k pr0).m,.int .i64 (l.getD k pr0).p,.int .i64 (l.getD k pr0).c]):=rfl;have hlen:((l.take k).filter p).length≤k:=Nat.le_trans (List.length_filter_le _ _) (by rw [List.length_take];omega);obtain⟨o,c,rfl⟩:=aF HO.out;obtain⟨N,hN⟩:∃N,N=((l.take k).filter p).length:=⟨_,rfl⟩;rw [←hN]at HO hlen⊢;have HNN:=aa hN;clear hN;generalize hR:p (l.getD k pr0)=R at*;have HR:=aa hR;clear hR;generalize (l.getD k pr0).i=y0 at*;generalize (l.getD k pr0).s=y1 at*;generalize (l.getD k pr0).m=y2 at*;generalize (l.getD k pr0).p=y3 at*;generalize (l.getD k pr0).c=y4 at*;have q1:(0:Int)≤(k:Int):=(by omega);have q2:(k:Int)<(l.length:Int):=(by omega);obtain⟨W1,hW1⟩:∃W1,W1=wr.alloc (.cells #[.int .i64 y0,.int .i64 y1,.int .i64 y2,.int .i64 y3,.int .i64 y4] 56):=⟨_,rfl⟩;have hbW:Below wr.heap.size wr W1:=by rw [hW1];exact ak _ _
   have d0:W1.cell? ⟨wr.heap.size,0,none⟩=some (.int .i64 y0):=zN1 hW1 rfl;have d1:W1.cell? ⟨wr.heap.size,1,none⟩=some (.int .i64 y1):=zN1 hW1 rfl;have d2:W1.cell? ⟨wr.heap.size,2,none⟩=some (.int .i64 y2):=zN1 hW1 rfl;have d3:W1.cell? ⟨wr.heap.size,3,none⟩=some (.int .i64 y3):=zN1 hW1 rfl;have d4:W1.cell? ⟨wr.heap.size,4,none⟩=some (.int .i64 y4):=zN1 hW1 rfl;go_wp2_with fail
   rw [←hW1];clear hW1;rw [ae HEN];refine(ae HST _ (hbr.trans (hbW.mono hbr.size))).mono ?_;rintro e w1 ⟨rfl,hb1⟩;have hb01:Below wr.heap.size wr w1:=hbW.trans (hb1.mono hbW.size);have HO1:=aa (aA HO.out hb01);have HB1:Hid (Below w.heap.size w w1):=hbr.trans (hb01.mono hbr.size);have q3:=zC d0 hb1;have q4:=zC d1 hb1;have q5:=zC d2 hb1;have q6:=zC d3 hb1;have q7:=zC d4 hb1;have hs1:w.heap.size≤w1.heap.size:=HB1.out.size;clear g0 g1 g2 g3 g4 d0 d1 d2 d3 d4 hb1 hbr HST HO hb01 hbW;cases R
   ·have HE:Hid (w1.ownsRow w.heap.size 56 5 (.slice o N c) ((l.take (k+1)).filter p).length (((l.take (k+1)).filter p).flatMap prC)):=by
     refine aa ?_;rw [HN.out,if_neg (by simp),List.append_nil];rw [←HNN.out];exact HO1.out
    go_wp2_with fail
    go_roundw
    case rel=>exact⟨k+1,by omega,by go_num,HE,HB1.out⟩
    case measure=>simp [intOf];omega
   ·obtain⟨W2,hW2⟩:∃W2,W2=w1.alloc (.cells #[.int .i64 y0,.int .i64 y1,.int .i64 y2,.int .i64 y3,.int .i64 y4] 56):=⟨_,rfl⟩;have hbW2:Below w1.heap.size w1 W2:=by rw [hW2];exact ak _ _
    have NEWS:Hid (∀j u,[.int .i64 y0,.int .i64 y1,.int .i64 y2,.int .i64 y3,.int .i64 y4][j]? =some u→W2.cell? ((⟨w1.heap.size,0,none⟩:Addr).add j)=some u):=by rw [hW2];exact aa (dr w1 _ _)
    have HO2:=aa (aA HO1.out hbW2);have hs2:w.heap.size≤W2.heap.size:=Nat.le_trans hs1 hbW2.size;have HW2:Hid (w1.alloc (.cells #[.int .i64 y0,.int .i64 y1,.int .i64 y2,.int .i64 y3,.int .i64 y4] 56)=W2):=hW2.symm;clear hW2;go_wp2_with (at_builtin;rw [ae HW2];refine wpList_append_own _ rfl _ _ 26 rfl w.heap.size 56 i0 _ 5 40 Tryz.underlying26 hi hz0 hz1 hz2 rfl (by decide) _ _ _ rfl (ae HO2) ⟨w1.heap.size,0,none⟩ 1 1 [.int .i64 y0,.int .i64 y1,.int .i64 y2,.int .i64 y3,.int .i64 y4] rfl rfl (ae NEWS) (dH rfl) ?a1 ?a2 ?a3 ?_)
    case a1=>unfold maxLen;omega
    case a2=>omega
    case a3=>exact hs2
    intro v3 w3 ho3 hg3 _;have hb3:Below w.heap.size w w3:=(HB1.out.trans (hbW2.mono hs1)).grown hg3 hs2 (aB HO2.out);have HE:Hid (w3.ownsRow w.heap.size 56 5 v3 ((l.take (k+1)).filter p).length (((l.take (k+1)).filter p).flatMap prC)):=by
     refine aa ?_;rw [HN.out,if_pos trivial,List.length_append,List.flatMap_append, ←HNN.out];simp only [List.flatMap_cons,List.flatMap_nil,List.append_nil,HC.out,List.length_singleton];exact ho3
    clear ho3 hg3 HO2 NEWS HO1 HW2 hbW2 q3 q4 q5 q6 q7 HN HC;go_wp2_with fail
    go_roundw
    case rel=>exact⟨k+1,by omega,by go_num,HE,hb3⟩
    case measure=>simp [intOf];omega
  ·have hke:k=l.length:=(by omega);have HE:Hid (wr.ownsRow w.heap.size 56 5 u5 (l.filter p).length ((l.filter p).flatMap prC)):=by
    have:=HO.out;rw [hke,List.take_length]at this;exact aa this
   obtain⟨o,c,rfl⟩:=aF HE.out;clear HO;have hkk:¬((k:Int)<(l.length:Int)):=(by omega);go_wp2_with fail
   go_ret;exact⟨_,rfl,HE.out,hbr⟩
def gr (w:World) (f:Nat) (cs:Array Value) (p:Sw→Bool):Prop:=∀(W:World) (x:Sw),Below w.heap.size w W→Calls Tryz.prog f (#[.agg #[.int .i64 x.i,.int .i64 x.t,.int .i64 x.g]]++cs) W fun e w'=>e= .returned (.bool (p x))∧Below W.heap.size W w'
theorem kX (l:List Sw) (p:Sw→Bool) (v:Value) (f:Nat) (cs:Array Value) (w:World) (hF:cZ w v l) (hT:gr w f cs p) (hE:br f) (hl:l.length≤1000):
  Calls Tryz.prog 20 #[v,.func (.func f) #[] cs] w fun e w'=>∃u,e= .returned u∧w'.ownsRow w.heap.size 54 3 u (l.filter p).length ((l.filter p).flatMap swC)∧Below w.heap.size w w':=by
 obtain⟨i0,hi,hz0,hz1,hz2⟩:=info_parts nt;have HF:=aa hF;have HT:=aa hT;have HEN:=aa hE;obtain⟨a,cap,rfl⟩:=hF.slice;clear hF hT hE;go_enter Tryz.func20,Tryz.ntmps20;go_wp2_with fail
 go_loopw [5,10] (fun u i wr=>∃k:Nat,k≤l.length∧i= .int .i64 k∧Hid (wr.ownsRow w.heap.size 54 3 u ((l.take k).filter p).length (((l.take k).filter p).flatMap swC))∧Below w.heap.size w wr) (fun _ i _=>l.length-(intOf i).toNat)
 case atStart=>exact⟨0,by omega,rfl,aa (by simpa using World.ownsRow_nil w w.heap.size 54 3),Below.refl _ _⟩
 case round=>
  obtain⟨k,hk,rfl,HO,hbr⟩:=hrel;by_cases hlt:k<l.length
  ·obtain⟨b,off,cap',e1,hcap, -,g0,g1,g2⟩:=iu (RowAt.below HF.out hbr zr) hlt;simp only [Value.slice.injEq,true_and]at e1;obtain⟨rfl,rfl⟩:=e1;have HST:Hid (∀W:World,Below w.heap.size w W→Calls Tryz.prog f (#[.agg #[.int .i64 (l.getD k sw0).i,.int .i64 (l.getD k sw0).t,.int .i64 (l.getD k sw0).g]]++cs) W fun e w'=>e= .returned (.bool (p (l.getD k sw0)))∧Below W.heap.size W w'):=fun W hW=>HT.out W _ hW;have HN:=aa (fp p sw0 hlt);have HC:Hid (swC (l.getD k sw0)= [.int .i64 (l.getD k sw0).i,.int .i64 (l.getD k sw0).t,.int .i64 (l.getD k sw0).g]):=rfl;have hlen:((l.take k).filter p).length≤k:=Nat.le_trans (List.length_filter_le _ _) (by rw [List.length_take];omega);obtain⟨o,c,rfl⟩:=aF HO.out;obtain⟨N,hN⟩:∃N,N=((l.take k).filter p).length:=⟨_,rfl⟩;rw [←hN]at HO hlen⊢;have HNN:=aa hN;clear hN;generalize hR:p (l.getD k sw0)=R at*;have HR:=aa hR;clear hR;generalize (l.getD k sw0).i=y0 at*;generalize (l.getD k sw0).t=y1 at*;generalize (l.getD k sw0).g=y2 at*;have q1:(0:Int)≤(k:Int):=(by omega);have q2:(k:Int)<(l.length:Int):=(by omega);obtain⟨W1,hW1⟩:∃W1,W1=wr.alloc (.cells #[.int .i64 y0,.int .i64 y1,.int .i64 y2] 54):=⟨_,rfl⟩;have hbW:Below wr.heap.size wr W1:=by rw [hW1];exact ak _ _
   have d0:W1.cell? ⟨wr.heap.size,0,none⟩=some (.int .i64 y0):=zN1 hW1 rfl;have d1:W1.cell? ⟨wr.heap.size,1,none⟩=some (.int .i64 y1):=zN1 hW1 rfl;have d2:W1.cell? ⟨wr.heap.size,2,none⟩=some (.int .i64 y2):=zN1 hW1 rfl;go_wp2_with fail
   rw [←hW1];clear hW1;rw [ae HEN];refine(ae HST _ (hbr.trans (hbW.mono hbr.size))).mono ?_;rintro e w1 ⟨rfl,hb1⟩;have hb01:Below wr.heap.size wr w1:=hbW.trans (hb1.mono hbW.size);have HO1:=aa (aA HO.out hb01);have HB1:Hid (Below w.heap.size w w1):=hbr.trans (hb01.mono hbr.size);have q3:=zC d0 hb1;have q4:=zC d1 hb1;have q5:=zC d2 hb1;have hs1:w.heap.size≤w1.heap.size:=HB1.out.size;clear g0 g1 g2 d0 d1 d2 hb1 hbr HST HO hb01 hbW;cases R
   ·have HE:Hid (w1.ownsRow w.heap.size 54 3 (.slice o N c) ((l.take (k+1)).filter p).length (((l.take (k+1)).filter p).flatMap swC)):=by
     refine aa ?_;rw [HN.out,if_neg (by simp),List.append_nil];rw [←HNN.out];exact HO1.out
    go_wp2_with fail
    go_roundw
    case rel=>exact⟨k+1,by omega,by go_num,HE,HB1.out⟩
    case measure=>simp [intOf];omega
   ·obtain⟨W2,hW2⟩:∃W2,W2=w1.alloc (.cells #[.int .i64 y0,.int .i64 y1,.int .i64 y2] 54):=⟨_,rfl⟩;have hbW2:Below w1.heap.size w1 W2:=by rw [hW2];exact ak _ _
    have NEWS:Hid (∀j u,[.int .i64 y0,.int .i64 y1,.int .i64 y2][j]? =some u→W2.cell? ((⟨w1.heap.size,0,none⟩:Addr).add j)=some u):=by rw [hW2];exact aa (dr w1 _ _)
    have HO2:=aa (aA HO1.out hbW2);have hs2:w.heap.size≤W2.heap.size:=Nat.le_trans hs1 hbW2.size;have HW2:Hid (w1.alloc (.cells #[.int .i64 y0,.int .i64 y1,.int .i64 y2] 54)=W2):=hW2.symm;clear hW2;go_wp2_with (at_builtin;rw [ae HW2];refine wpList_append_own _ rfl _ _ 25 rfl w.heap.size 54 i0 _ 3 24 Tryz.underlying25 hi hz0 hz1 hz2 rfl (by decide) _ _ _ rfl (ae HO2) ⟨w1.heap.size,0,none⟩ 1 1 [.int .i64 y0,.int .i64 y1,.int .i64 y2] rfl rfl (ae NEWS) (dH rfl) ?a1 ?a2 ?a3 ?_)
    case a1=>unfold maxLen;omega
    case a2=>omega
    case a3=>exact hs2
    intro v3 w3 ho3 hg3 _;have hb3:Below w.heap.size w w3:=(HB1.out.trans (hbW2.mono hs1)).grown hg3 hs2 (aB HO2.out);have HE:Hid (w3.ownsRow w.heap.size 54 3 v3 ((l.take (k+1)).filter p).length (((l.take (k+1)).filter p).flatMap swC)):=by
     refine aa ?_;rw [HN.out,if_pos trivial,List.length_append,List.flatMap_append, ←HNN.out];simp only [List.flatMap_cons,List.flatMap_nil,List.append_nil,HC.out,List.length_singleton];exact ho3
    clear ho3 hg3 HO2 NEWS HO1 HW2 hbW2 q3 q4 q5 HN HC;go_wp2_with fail
    go_roundw
    case rel=>exact⟨k+1,by omega,by go_num,HE,hb3⟩
    case measure=>simp [intOf];omega
  ·have hke:k=l.length:=(by omega);have HE:Hid (wr.ownsRow w.heap.size 54 3 u5 (l.filter p).length ((l.filter p).flatMap swC)):=by
    have:=HO.out;rw [hke,List.take_length]at this;exact aa this
   obtain⟨o,c,rfl⟩:=aF HE.out;clear HO;have hkk:¬((k:Int)<(l.length:Int)):=(by omega);go_wp2_with fail
   go_ret;exact⟨_,rfl,HE.out,hbr⟩
def nP (w:World) (f:Nat) (cs:Array Value) (p:Ac→Bool):Prop:=∀(W:World) (x:Ac),Below w.heap.size w W→Calls Tryz.prog f (#[.agg #[.int .i64 x.s,.int .i64 x.p,.bool x.n,.int .i64 x.src,.int .i64 x.sb,.int .i64 x.dst,.int .i64 x.db,.int .i64 x.o,.bool x.d]]++cs) W fun e w'=>e= .returned (.bool (p x))∧Below W.heap.size W w'
theorem kM (l:List Ac) (p:Ac→Bool) (v:Value) (f:Nat) (cs:Array Value) (w:World) (hF:nT w v l) (hT:nP w f cs p) (hE:br f) (hl:l.length≤1000):
  Calls Tryz.prog 105 #[v,.func (.func f) #[] cs] w fun e w'=>∃u,e= .returned u∧w'.ownsRow w.heap.size 58 9 u (l.filter p).length ((l.filter p).flatMap acC)∧Below w.heap.size w w':=by
 obtain⟨i0,hi,hz0,hz1,hz2⟩:=info_parts kq;have HF:=aa hF;have HT:=aa hT;have HEN:=aa hE;obtain⟨a,cap,rfl⟩:=hF.slice;clear hF hT hE;go_enter Tryz.func105,Tryz.ntmps105;go_wp2_with fail
 go_loopw [5,10] (fun u i wr=>∃k:Nat,k≤l.length∧i= .int .i64 k∧Hid (wr.ownsRow w.heap.size 58 9 u ((l.take k).filter p).length (((l.take k).filter p).flatMap acC))∧Below w.heap.size w wr) (fun _ i _=>l.length-(intOf i).toNat)
 case atStart=>exact⟨0,by omega,rfl,aa (by simpa using World.ownsRow_nil w w.heap.size 58 9),Below.refl _ _⟩
 case round=>
  obtain⟨k,hk,rfl,HO,hbr⟩:=hrel;by_cases hlt:k<l.length
  ·obtain⟨b,off,cap',e1,hcap, -,g0,g1,g2,g3,g4,g5,g6,g7,g8⟩:=qr (RowAt.below HF.out hbr zr) hlt;simp only [Value.slice.injEq,true_and]at e1;obtain⟨rfl,rfl⟩:=e1;have HST:Hid (∀W:World,Below w.heap.size w W→Calls Tryz.prog f (#[.agg #[.int .i64 (l.getD k ac0).s,.int .i64 (l.getD k ac0).p,.bool (l.getD k ac0).n,.int .i64 (l.getD k ac0).src,.int .i64 (l.getD k ac0).sb,.int .i64 (l.getD k ac0).dst,.int .i64 (l.getD k ac0).db,.int .i64 (l.getD k ac0).o,.bool (l.getD k ac0).d]]++cs) W fun e w'=>e= .returned (.bool (p (l.getD k ac0)))∧Below W.heap.size W w'):=fun W hW=>HT.out W _ hW;have HN:=aa (fp p ac0 hlt);have HC:Hid (acC (l.getD k ac0)= [.int .i64 (l.getD k ac0).s,.int .i64 (l.getD k ac0).p,.bool (l.getD k ac0).n,.int .i64 (l.getD k ac0).src,.int .i64 (l.getD k ac0).sb,.int .i64 (l.getD k ac0).dst,.int .i64 (l.getD k ac0).db,.int .i64 (l.getD k ac0).o,.bool (l.getD k ac0).d]):=rfl;have hlen:((l.take k).filter p).length≤k:=Nat.le_trans (List.length_filter_le _ _) (by rw [List.length_take];omega);obtain⟨o,c,rfl⟩:=aF HO.out;obtain⟨N,hN⟩:∃N,N=((l.take k).filter p).length:=⟨_,rfl⟩;rw [←hN]at HO hlen⊢;have HNN:=aa hN;clear hN;generalize hR:p (l.getD k ac0)=R at*;have HR:=aa hR;clear hR;generalize (l.getD k ac0).s=y0 at*;generalize (l.getD k ac0).p=y1 at*;generalize (l.getD k ac0).n=y2 at*;generalize (l.getD k ac0).src=y3 at*;generalize (l.getD k ac0).sb=y4 at*;generalize (l.getD k ac0).dst=y5 at*;generalize (l.getD k ac0).db=y6 at*;generalize (l.getD k ac0).o=y7 at*;generalize (l.getD k ac0).d=y8 at*;have q1:(0:Int)≤(k:Int):=(by omega);have q2:(k:Int)<(l.length:Int):=(by omega);obtain⟨W1,hW1⟩:∃W1,W1=wr.alloc (.cells #[.int .i64 y0,.int .i64 y1,.bool y2,.int .i64 y3,.int .i64 y4,.int .i64 y5,.int .i64 y6,.int .i64 y7,.bool y8] 58):=⟨_,rfl⟩;have hbW:Below wr.heap.size wr W1:=by rw [hW1];exact ak _ _
   have d0:W1.cell? ⟨wr.heap.size,0,none⟩=some (.int .i64 y0):=zN1 hW1 rfl;have d1:W1.cell? ⟨wr.heap.size,1,none⟩=some (.int .i64 y1):=zN1 hW1 rfl;have d2:W1.cell? ⟨wr.heap.size,2,none⟩=some (.bool y2):=zN1 hW1 rfl;have d3:W1.cell? ⟨wr.heap.size,3,none⟩=some (.int .i64 y3):=zN1 hW1 rfl;have d4:W1.cell? ⟨wr.heap.size,4,none⟩=some (.int .i64 y4):=zN1 hW1 rfl;have d5:W1.cell? ⟨wr.heap.size,5,none⟩=some (.int .i64 y5):=zN1 hW1 rfl;have d6:W1.cell? ⟨wr.heap.size,6,none⟩=some (.int .i64 y6):=zN1 hW1 rfl;have d7:W1.cell? ⟨wr.heap.size,7,none⟩=some (.int .i64 y7):=zN1 hW1 rfl;have d8:W1.cell? ⟨wr.heap.size,8,none⟩=some (.bool y8):=zN1 hW1 rfl;go_wp2_with fail
   rw [←hW1];clear hW1;rw [ae HEN];refine(ae HST _ (hbr.trans (hbW.mono hbr.size))).mono ?_;rintro e w1 ⟨rfl,hb1⟩;have hb01:Below wr.heap.size wr w1:=hbW.trans (hb1.mono hbW.size);have HO1:=aa (aA HO.out hb01);have HB1:Hid (Below w.heap.size w w1):=hbr.trans (hb01.mono hbr.size);have q3:=zC d0 hb1;have q4:=zC d1 hb1;have q5:=zC d2 hb1;have q6:=zC d3 hb1;have q7:=zC d4 hb1;have q8:=zC d5 hb1;have q9:=zC d6 hb1;have q10:=zC d7 hb1;have q11:=zC d8 hb1;have hs1:w.heap.size≤w1.heap.size:=HB1.out.size;clear g0 g1 g2 g3 g4 g5 g6 g7 g8 d0 d1 d2 d3 d4 d5 d6 d7 d8 hb1 hbr HST HO hb01 hbW;cases R
   ·have HE:Hid (w1.ownsRow w.heap.size 58 9 (.slice o N c) ((l.take (k+1)).filter p).length (((l.take (k+1)).filter p).flatMap acC)):=by
     refine aa ?_;rw [HN.out,if_neg (by simp),List.append_nil];rw [←HNN.out];exact HO1.out
    go_wp2_with fail
    go_roundw
    case rel=>exact⟨k+1,by omega,by go_num,HE,HB1.out⟩
    case measure=>simp [intOf];omega
   ·obtain⟨W2,hW2⟩:∃W2,W2=w1.alloc (.cells #[.int .i64 y0,.int .i64 y1,.bool y2,.int .i64 y3,.int .i64 y4,.int .i64 y5,.int .i64 y6,.int .i64 y7,.bool y8] 58):=⟨_,rfl⟩;have hbW2:Below w1.heap.size w1 W2:=by rw [hW2];exact ak _ _
    have NEWS:Hid (∀j u,[.int .i64 y0,.int .i64 y1,.bool y2,.int .i64 y3,.int .i64 y4,.int .i64 y5,.int .i64 y6,.int .i64 y7,.bool y8][j]? =some u→W2.cell? ((⟨w1.heap.size,0,none⟩:Addr).add j)=some u):=by rw [hW2];exact aa (dr w1 _ _)
    have HO2:=aa (aA HO1.out hbW2);have hs2:w.heap.size≤W2.heap.size:=Nat.le_trans hs1 hbW2.size;have HW2:Hid (w1.alloc (.cells #[.int .i64 y0,.int .i64 y1,.bool y2,.int .i64 y3,.int .i64 y4,.int .i64 y5,.int .i64 y6,.int .i64 y7,.bool y8] 58)=W2):=hW2.symm;clear hW2;go_wp2_with (at_builtin;rw [ae HW2];refine wpList_append_own _ rfl _ _ 27 rfl w.heap.size 58 i0 _ 9 72 Tryz.underlying27 hi hz0 hz1 hz2 rfl (by decide) _ _ _ rfl (ae HO2) ⟨w1.heap.size,0,none⟩ 1 1 [.int .i64 y0,.int .i64 y1,.bool y2,.int .i64 y3,.int .i64 y4,.int .i64 y5,.int .i64 y6,.int .i64 y7,.bool y8] rfl rfl (ae NEWS) (dH rfl) ?a1 ?a2 ?a3 ?_)
    case a1=>unfold maxLen;omega
    case a2=>omega
    case a3=>exact hs2
    intro v3 w3 ho3 hg3 _;have hb3:Below w.heap.size w w3:=(HB1.out.trans (hbW2.mono hs1)).grown hg3 hs2 (aB HO2.out);have HE:Hid (w3.ownsRow w.heap.size 58 9 v3 ((l.take (k+1)).filter p).length (((l.take (k+1)).filter p).flatMap acC)):=by
     refine aa ?_;rw [HN.out,if_pos trivial,List.length_append,List.flatMap_append, ←HNN.out];simp only [List.flatMap_cons,List.flatMap_nil,List.append_nil,HC.out,List.length_singleton];exact ho3
    clear ho3 hg3 HO2 NEWS HO1 HW2 hbW2 q3 q4 q5 q6 q7 q8 q9 q10 q11 HN HC;go_wp2_with fail
    go_roundw
    case rel=>exact⟨k+1,by omega,by go_num,HE,hb3⟩
    case measure=>simp [intOf];omega
  ·have hke:k=l.length:=(by omega);have HE:Hid (wr.ownsRow w.heap.size 58 9 u5 (l.filter p).length ((l.filter p).flatMap acC)):=by
    have:=HO.out;rw [hke,List.take_length]at this;exact aa this
   obtain⟨o,c,rfl⟩:=aF HE.out;clear HO;have hkk:¬((k:Int)<(l.length:Int)):=(by omega);go_wp2_with fail
   go_ret;exact⟨_,rfl,HE.out,hbr⟩
theorem ah {K:Act→World→Prop} {a:Act} {cur:World} {o:Obj} (h:∀V g,V=cur.alloc o→g=cur.heap.size→K a V):K a (cur.alloc o):=h _ _ rfl rfl
theorem bw (k:Int) (w:World):Calls Tryz.prog 48 #[.int .i64 k] w fun e w'=>∃u,e= .returned u∧w'.ownsRow w.heap.size 82 3 u 3 (M (cP k))∧Below w.heap.size w w':=by
 have HB:Below w.heap.size w w:=Below.refl _ _;go_enter Tryz.func48,Tryz.ntmps48;go_wp2_with fail
 refine(bo _ _ _).mono ?_;rintro e V0 ⟨rfl,hb⟩;replace HB:=zT HB hb;clear hb;go_wp2_with fail
 refine(bo _ _ _).mono ?_;rintro e V1 ⟨rfl,hb⟩;replace HB:=zT HB hb;clear hb;go_wp2_with fail
 refine(bo _ _ _).mono ?_;rintro e V2 ⟨rfl,hb⟩;replace HB:=zT HB hb;clear hb;go_wp2_with fail
 go_ret;exact⟨_,rfl,World.ownsRow_lit _ _ 3 HB.size (by decide) rfl,HB.alloc HB.size _⟩
theorem ft (ip mac ch:Int) (w:World):Calls Tryz.prog 100 #[.int .i64 ip,.int .i64 mac,.int .i64 ch] w fun e w'=>∃u,e= .returned u∧w'.ownsRow w.heap.size 85 3 u 7 (D (ky ip mac ch))∧Below w.heap.size w w':=by
 have HB:Below w.heap.size w w:=Below.refl _ _;go_enter Tryz.func100,Tryz.ntmps100;go_wp2_with fail
 refine(aQ _ _ _ _).mono ?_;rintro e V0 ⟨rfl,hb⟩;replace HB:=zT HB hb;clear hb;go_wp2_with fail
 refine(aQ _ _ _ _).mono ?_;rintro e V1 ⟨rfl,hb⟩;replace HB:=zT HB hb;clear hb;go_wp2_with fail
 refine(aQ _ _ _ _).mono ?_;rintro e V2 ⟨rfl,hb⟩;replace HB:=zT HB hb;clear hb;go_wp2_with fail
 refine(aQ _ _ _ _).mono ?_;rintro e V3 ⟨rfl,hb⟩;replace HB:=zT HB hb;clear hb;go_wp2_with fail
 refine(aQ _ _ _ _).mono ?_;rintro e V4 ⟨rfl,hb⟩;replace HB:=zT HB hb;clear hb;go_wp2_with fail
 refine(aQ _ _ _ _).mono ?_;rintro e V5 ⟨rfl,hb⟩;replace HB:=zT HB hb;clear hb;go_wp2_with fail
 refine(aQ _ _ _ _).mono ?_;rintro e V6 ⟨rfl,hb⟩;replace HB:=zT HB hb;clear hb;go_wp2_with fail
 go_ret;exact⟨_,rfl,World.ownsRow_lit _ _ 7 HB.size (by decide) rfl,HB.alloc HB.size _⟩
theorem fW (i s m p c:Int) (w:World):Calls Tryz.prog 97 #[.agg #[.int .i64 i,.int .i64 s,.int .i64 m,.int .i64 p,.int .i64 c]] w fun e w'=>∃u,e= .returned u∧w'.ownsRow w.heap.size 85 3 u 2 (D (aD ⟨i,s,m,p,c⟩))∧Below w.heap.size w w':=by
 go_enter Tryz.func97,Tryz.ntmps97;go_wp2_with fail
 obtain⟨W,hW⟩:∃W,W=w.alloc (.cells #[.int .i64 i,.int .i64 s,.int .i64 m,.int .i64 p,.int .i64 c] 56):=⟨_,rfl⟩;rw [←hW];have k0:W.cell? ⟨w.heap.size,0,none⟩=some (.int .i64 i):=zN1 hW rfl;have k1:W.cell? ⟨w.heap.size,1,none⟩=some (.int .i64 s):=zN1 hW rfl;have k2:W.cell? ⟨w.heap.size,2,none⟩=some (.int .i64 m):=zN1 hW rfl;have k3:W.cell? ⟨w.heap.size,3,none⟩=some (.int .i64 p):=zN1 hW rfl;have k4:W.cell? ⟨w.heap.size,4,none⟩=some (.int .i64 c):=zN1 hW rfl;have HB:Below w.heap.size w W:=by rw [hW];exact ak _ _
 clear hW;refine wp_region_held_drew (S:=(fun w'=>w'.cell? ⟨w.heap.size,0,none⟩=some (.int .i64 i)∧w'.cell? ⟨w.heap.size,1,none⟩=some (.int .i64 s)∧w'.cell? ⟨w.heap.size,2,none⟩=some (.int .i64 m)∧w'.cell? ⟨w.heap.size,3,none⟩=some (.int .i64 p)∧w'.cell? ⟨w.heap.size,4,none⟩=some (.int .i64 c))) (by kernel_rfl) ⟨k0,k1,k2,k3,k4⟩ (fun hHeld=>?_);have HDW:Below W.heap.size W W.drew:=(Below.refl _ _).drew;replace⟨k0,k1,k2,k3,k4⟩:=bM k0 k1 k2 k3 k4 HDW;replace HB:=zT HB HDW;clear HDW;generalize W.drew=V1 at*;refine sqA [(0,3),(1,4),(3,6),(4,7)] ?_;(iterate 4 (refine sqN rfl (by kernel_rfl) (fun _ _ _ h=>h) rfl ‹_› (by intro w h;go_simp <;>with_reducible rfl) ?_;simp only [nz]));refine sqZ ?_;refine rs 2 5 (by kernel_rfl) rfl (fun K hK=>?_);go_simp;clear hHeld;refine(aQ _ _ _ _).mono ?_;rintro e V2 ⟨rfl,hb2⟩;replace⟨k0,k1,k2,k3,k4⟩:=bM k0 k1 k2 k3 k4 hb2;replace HB:=zT HB hb2;clear hb2;refine hK.out _ _ ⟨k0,k1,k2,k3,k4⟩ (fun hHeld=>?_);clear hK K;(try simp only [nz]);refine rs 5 8 (by kernel_rfl) rfl (fun K hK=>?_);go_simp;clear hHeld;refine(aQ _ _ _ _).mono ?_;rintro e V3 ⟨rfl,hb3⟩;replace⟨k0,k1,k2,k3,k4⟩:=bM k0 k1 k2 k3 k4 hb3;replace HB:=zT HB hb3;clear hb3;refine hK.out _ _ ⟨k0,k1,k2,k3,k4⟩ (fun hHeld=>?_);clear hK K;(try simp only [nz]);refine rs 6 9 (by kernel_rfl) rfl (fun K hK=>?_);go_simp;clear hHeld;refine ah (fun V4 g4 hV hg=>?_);rw [←hg];have hbN:=zB hV;have HO:Hid (V4.ownsRow w.heap.size 85 3 (.slice (some ⟨g4,0,none⟩) 2 2) 2 (D (aD ⟨i,s,m,p,c⟩))):=zW hV hg HB.size (by decide) rfl;replace⟨k0,k1,k2,k3,k4⟩:=bM k0 k1 k2 k3 k4 hbN;replace HB:=zT HB hbN;clear hV hg hbN;refine hK.out _ _ ⟨k0,k1,k2,k3,k4⟩ (fun hHeld=>?_);clear hK K;(try simp only [nz]);refine tq 7 2 rfl (by kernel_rfl) (fun _ _ _ h=>h) rfl ‹_› (by intro w h;go_simp <;>with_reducible rfl) ?_;simp only [nz];refine wpAnyH_done (by kernel_rfl) ?_ _;clear hHeld;go_wp2_with fail
 go_ret;exact⟨_,rfl,HO.out,HB⟩
theorem jG (i s m p c:Int) (w:World) (h0:0≤s) (h1:s≤100000):Calls Tryz.prog 109 #[.agg #[.int .i64 i,.int .i64 s,.int .i64 m,.int .i64 p,.int .i64 c]] w fun e w'=>∃u,e= .returned u∧w'.ownsRow w.heap.size 85 3 u 4 (D (cV ⟨i,s,m,p,c⟩))∧Below w.heap.size w w':=by
 go_enter Tryz.func109,Tryz.ntmps109;go_wp2_with fail
 obtain⟨W,hW⟩:∃W,W=w.alloc (.cells #[.int .i64 i,.int .i64 s,.int .i64 m,.int .i64 p,.int .i64 c] 56):=⟨_,rfl⟩;rw [←hW];have k0:W.cell? ⟨w.heap.size,0,none⟩=some (.int .i64 i):=zN1 hW rfl;have k1:W.cell? ⟨w.heap.size,1,none⟩=some (.int .i64 s):=zN1 hW rfl;have k2:W.cell? ⟨w.heap.size,2,none⟩=some (.int .i64 m):=zN1 hW rfl;have k3:W.cell? ⟨w.heap.size,3,none⟩=some (.int .i64 p):=zN1 hW rfl;have k4:W.cell? ⟨w.heap.size,4,none⟩=some (.int .i64 c):=zN1 hW rfl;have HB:Below w.heap.size w W:=by rw [hW];exact ak _ _
 clear hW;refine wp_region_held_drew (S:=(fun w'=>w'.cell? ⟨w.heap.size,0,none⟩=some (.int .i64 i)∧w'.cell? ⟨w.heap.size,1,none⟩=some (.int .i64 s)∧w'.cell? ⟨w.heap.size,2,none⟩=some (.int .i64 m)∧w'.cell? ⟨w.heap.size,3,none⟩=some (.int .i64 p)∧w'.cell? ⟨w.heap.size,4,none⟩=some (.int .i64 c))) (by kernel_rfl) ⟨k0,k1,k2,k3,k4⟩ (fun hHeld=>?_);have HDW:Below W.heap.size W W.drew:=(Below.refl _ _).drew;replace⟨k0,k1,k2,k3,k4⟩:=bM k0 k1 k2 k3 k4 HDW;replace HB:=zT HB HDW;clear HDW;generalize W.drew=V1 at*;refine sqA [(0,3),(1,4),(3,6),(4,7),(8,11),(9,12)] ?_;(iterate 6 (refine sqN rfl (by kernel_rfl) (fun _ _ _ h=>h) rfl ‹_› (by intro w h;go_simp <;>with_reducible rfl) ?_;simp only [nz]));refine sqZ ?_;refine rs 2 5 (by kernel_rfl) rfl (fun K hK=>?_);go_simp;clear hHeld;refine(aQ _ _ _ _).mono ?_;rintro e V2 ⟨rfl,hb2⟩;replace⟨k0,k1,k2,k3,k4⟩:=bM k0 k1 k2 k3 k4 hb2;replace HB:=zT HB hb2;clear hb2;refine hK.out _ _ ⟨k0,k1,k2,k3,k4⟩ (fun hHeld=>?_);clear hK K;(try simp only [nz]);refine rs 5 8 (by kernel_rfl) rfl (fun K hK=>?_);go_simp;clear hHeld;refine(eJ _ _ (by assumption) (by assumption)).mono ?_;rintro e V3 ⟨rfl,hVV⟩;rw [hVV];clear hVV;refine hK.out _ _ ⟨k0,k1,k2,k3,k4⟩ (fun hHeld=>?_);clear hK K;(try simp only [nz]);refine rs 6 9 (by kernel_rfl) rfl (fun K hK=>?_);go_simp;clear hHeld;refine(aQ _ _ _ _).mono ?_;rintro e V4 ⟨rfl,hb4⟩;replace⟨k0,k1,k2,k3,k4⟩:=bM k0 k1 k2 k3 k4 hb4;replace HB:=zT HB hb4;clear hb4;refine hK.out _ _ ⟨k0,k1,k2,k3,k4⟩ (fun hHeld=>?_);clear hK K;(try simp only [nz]);refine rs 7 10 (by kernel_rfl) rfl (fun K hK=>?_);go_simp;clear hHeld;refine(aQ _ _ _ _).mono ?_;rintro e V5 ⟨rfl,hb5⟩;replace⟨k0,k1,k2,k3,k4⟩:=bM k0 k1 k2 k3 k4 hb5;replace HB:=zT HB hb5;clear hb5;refine hK.out _ _ ⟨k0,k1,k2,k3,k4⟩ (fun hHeld=>?_);clear hK K;(try simp only [nz]);refine rs 10 13 (by kernel_rfl) rfl (fun K hK=>?_);go_simp;clear hHeld;refine(aQ _ _ _ _).mono ?_;rintro e V6 ⟨rfl,hb6⟩;replace⟨k0,k1,k2,k3,k4⟩:=bM k0 k1 k2 k3 k4 hb6;replace HB:=zT HB hb6;clear hb6;refine hK.out _ _ ⟨k0,k1,k2,k3,k4⟩ (fun hHeld=>?_);clear hK K;(try simp only [nz]);refine rs 11 14 (by kernel_rfl) rfl (fun K hK=>?_);go_simp;clear hHeld;refine ah (fun V7 g7 hV hg=>?_);rw [←hg];have hbN:=zB hV;have HO:Hid (V7.ownsRow w.heap.size 85 3 (.slice (some ⟨g7,0,none⟩) 4 4) 4 (D (cV ⟨i,s,m,p,c⟩))):=zW hV hg HB.size (by decide) rfl;replace⟨k0,k1,k2,k3,k4⟩:=bM k0 k1 k2 k3 k4 hbN;replace HB:=zT HB hbN;clear hV hg hbN;refine hK.out _ _ ⟨k0,k1,k2,k3,k4⟩ (fun hHeld=>?_);clear hK K;(try simp only [nz]);refine tq 12 2 rfl (by kernel_rfl) (fun _ _ _ h=>h) rfl ‹_› (by intro w h;go_simp <;>with_reducible rfl) ?_;simp only [nz];refine wpAnyH_done (by kernel_rfl) ?_ _;clear hHeld;go_wp2_with fail
 go_ret;exact⟨_,rfl,HO.out,HB⟩
theorem eX (i s m p c:Int) (w:World):Calls Tryz.prog 50 #[.agg #[.int .i64 i,.int .i64 s,.int .i64 m,.int .i64 p,.int .i64 c]] w fun e w'=>∃u,e= .returned u∧w'.ownsRow w.heap.size 82 3 u 5 (M (bE ⟨i,s,m,p,c⟩))∧Below w.heap.size w w':=by
 go_enter Tryz.func50,Tryz.ntmps50;go_wp2_with fail
 obtain⟨W,hW⟩:∃W,W=w.alloc (.cells #[.int .i64 i,.int .i64 s,.int .i64 m,.int .i64 p,.int .i64 c] 56):=⟨_,rfl⟩;rw [←hW];have k0:W.cell? ⟨w.heap.size,0,none⟩=some (.int .i64 i):=zN1 hW rfl;have k1:W.cell? ⟨w.heap.size,1,none⟩=some (.int .i64 s):=zN1 hW rfl;have k2:W.cell? ⟨w.heap.size,2,none⟩=some (.int .i64 m):=zN1 hW rfl;have k3:W.cell? ⟨w.heap.size,3,none⟩=some (.int .i64 p):=zN1 hW rfl;have k4:W.cell? ⟨w.heap.size,4,none⟩=some (.int .i64 c):=zN1 hW rfl;have HB:Below w.heap.size w W:=by rw [hW];exact ak _ _
 clear hW;refine wp_region_held_drew (S:=(fun w'=>w'.cell? ⟨w.heap.size,0,none⟩=some (.int .i64 i)∧w'.cell? ⟨w.heap.size,1,none⟩=some (.int .i64 s)∧w'.cell? ⟨w.heap.size,2,none⟩=some (.int .i64 m)∧w'.cell? ⟨w.heap.size,3,none⟩=some (.int .i64 p)∧w'.cell? ⟨w.heap.size,4,none⟩=some (.int .i64 c))) (by kernel_rfl) ⟨k0,k1,k2,k3,k4⟩ (fun hHeld=>?_);have HDW:Below W.heap.size W W.drew:=(Below.refl _ _).drew;replace⟨k0,k1,k2,k3,k4⟩:=bM k0 k1 k2 k3 k4 HDW;replace HB:=zT HB HDW;clear HDW;generalize W.drew=V1 at*;refine sqA [(0,3),(1,4),(5,8),(6,9),(8,11),(9,12)] ?_;(iterate 6 (refine sqN rfl (by kernel_rfl) (fun _ _ _ h=>h) rfl ‹_› (by intro w h;go_simp <;>with_reducible rfl) ?_;simp only [nz]));refine sqZ ?_;refine rs 2 5 (by kernel_rfl) rfl (fun K hK=>?_);go_simp;clear hHeld;refine(bo _ _ _).mono ?_;rintro e V2 ⟨rfl,hb2⟩;replace⟨k0,k1,k2,k3,k4⟩:=bM k0 k1 k2 k3 k4 hb2;replace HB:=zT HB hb2;clear hb2;refine hK.out _ _ ⟨k0,k1,k2,k3,k4⟩ (fun hHeld=>?_);clear hK K;(try simp only [nz]);refine rs 3 6 (by kernel_rfl) rfl (fun K hK=>?_);go_simp;clear hHeld;refine(bo _ _ _).mono ?_;rintro e V3 ⟨rfl,hb3⟩;replace⟨k0,k1,k2,k3,k4⟩:=bM k0 k1 k2 k3 k4 hb3;replace HB:=zT HB hb3;clear hb3;refine hK.out _ _ ⟨k0,k1,k2,k3,k4⟩ (fun hHeld=>?_);clear hK K;(try simp only [nz]);refine rs 4 7 (by kernel_rfl) rfl (fun K hK=>?_);go_simp;clear hHeld;refine(bo _ _ _).mono ?_;rintro e V4 ⟨rfl,hb4⟩;replace⟨k0,k1,k2,k3,k4⟩:=bM k0 k1 k2 k3 k4 hb4;replace HB:=zT HB hb4;clear hb4;refine hK.out _ _ ⟨k0,k1,k2,k3,k4⟩ (fun hHeld=>?_);clear hK K;(try simp only [nz]);refine rs 7 10 (by kernel_rfl) rfl (fun K hK=>?_);go_simp;clear hHeld;refine(bo _ _ _).mono ?_;rintro e V5 ⟨rfl,hb5⟩;replace⟨k0,k1,k2,k3,k4⟩:=bM k0 k1 k2 k3 k4 hb5;replace HB:=zT HB hb5;clear hb5;refine hK.out _ _ ⟨k0,k1,k2,k3,k4⟩ (fun hHeld=>?_);clear hK K;(try simp only [nz]);refine rs 10 13 (by kernel_rfl) rfl (fun K hK=>?_);go_simp;clear hHeld;refine(bo _ _ _).mono ?_;rintro e V6 ⟨rfl,hb6⟩;replace⟨k0,k1,k2,k3,k4⟩:=bM k0 k1 k2 k3 k4 hb6;replace HB:=zT HB hb6;clear hb6;refine hK.out _ _ ⟨k0,k1,k2,k3,k4⟩ (fun hHeld=>?_);clear hK K;(try simp only [nz]);refine rs 11 14 (by kernel_rfl) rfl (fun K hK=>?_);go_simp;clear hHeld;refine ah (fun V7 g7 hV hg=>?_);rw [←hg];have hbN:=zB hV;have HO:Hid (V7.ownsRow w.heap.size 82 3 (.slice (some ⟨g7,0,none⟩) 5 5) 5 (M (bE ⟨i,s,m,p,c⟩))):=zW hV hg HB.size (by decide) rfl;replace⟨k0,k1,k2,k3,k4⟩:=bM k0 k1 k2 k3 k4 hbN;replace HB:=zT HB hbN;clear hV hg hbN;refine hK.out _ _ ⟨k0,k1,k2,k3,k4⟩ (fun hHeld=>?_);clear hK K;(try simp only [nz]);refine tq 12 2 rfl (by kernel_rfl) (fun _ _ _ h=>h) rfl ‹_› (by intro w h;go_simp <;>with_reducible rfl) ?_;simp only [nz];refine wpAnyH_done (by kernel_rfl) ?_ _;clear hHeld;go_wp2_with fail
 go_ret;exact⟨_,rfl,HO.out,HB⟩
def SrcAt (w:World) (sz:Nat) (u:Value) (n:Nat) (xs:List Value):Prop:=(u= .slice none 0 0∧n=0∧xs= [])∨∃ad c,u= .slice (some ad) n c∧xs.length=n*sz∧(∀j v,xs[j]? =some v→w.cell? (ad.add j)=some v)∧∀v∈xs,v.oneCell'=true
theorem SrcAt.below {w w':World} {sz n:Nat} {u:Value} {xs:List Value} (h:SrcAt w sz u n xs) (hb:Below w.heap.size w w'):SrcAt w' sz u n xs:=by
 rcases h with h |⟨ad,c,rfl,hl,hc,h1⟩
 ·exact .inl h
 ·refine .inr ⟨ad,c,rfl,hl,fun j v hj=>?_,h1⟩;have h:=hc j v hj;have hsp:(ad.add j).spot=none:=World.cell?_spot h;rcases hq:ad.add j with⟨bb,oo,ss⟩;rw [hq]at h hsp;simp only at hsp;subst hsp;exact zC h hb
theorem SrcAt.below' {w w':World} {sz n:Nat} {u:Value} {xs:List Value} (h:SrcAt w sz u n xs) (hb:Below w.heap.size w w'):SrcAt w' sz u n xs:=h.below hb
theorem bU (cs:Array Value) (n:Nat):(Builtin.zeroCells cs n).size=n*cs.size:=by
 unfold Builtin.zeroCells;simp
theorem SrcAt.of_own {w:World} {B e sz n:Nat} {u:Value} {xs:List Value} (h:w.ownsRow B e sz u n xs) (h1:∀v∈xs,v.oneCell'=true):SrcAt w sz u n xs:=by
 have hh:=h;obtain⟨hl,⟨rfl,h0⟩ |⟨g,cap,cur,rfl,_⟩⟩:=h
 ·exact .inl ⟨rfl,h0,List.eq_nil_of_length_eq_zero (by rw [hl,h0];simp)⟩
 ·exact .inr ⟨⟨g,0,none⟩,cap,rfl,hl,hh.cells rfl,h1⟩
def cnt (L:List (Value×Nat×List Value)):Nat:=(L.map fun x=>x.2.1).sum
def cat (L:List (Value×Nat×List Value)):List Value:=L.flatMap fun x=>x.2.2
def z3:Value×Nat×List Value:=(.slice none 0 0,0,[])
theorem dS {L:List (Value×Nat×List Value)} {k:Nat} (h:k<L.length):cnt (L.take (k+1))=cnt (L.take k)+(L.getD k z3).2.1:=by
 unfold cnt;rw [List.take_succ_eq_append_getElem h,List.map_append,List.sum_append];simp [List.getD,List.getElem?_eq_getElem h]
theorem iZ {L:List (Value×Nat×List Value)} {k:Nat} (h:k<L.length):cat (L.take (k+1))=cat (L.take k)++(L.getD k z3).2.2:=by
 unfold cat;rw [List.take_succ_eq_append_getElem h,List.flatMap_append];simp [List.getD,List.getElem?_eq_getElem h]
theorem kA {L:List (Value×Nat×List Value)} {m:Nat} (h:∀x∈L,x.2.1≤m):∀k,k≤L.length→cnt (L.take k)≤k*m
 | 0,_=>by simp [cnt]
 | k+1,hk=>by
  rw [dS (by omega),Nat.add_mul];have h1:=kA h k (by omega);have h2:=h (L.getD k z3) (by
   rw [List.getD_eq_getElem?_getD,List.getElem?_eq_getElem (by omega:k<L.length)];exact List.getElem_mem _)
  omega
theorem dA {L:List (Value×Nat×List Value)} {k:Nat} (h:k<L.length):L.getD k z3∈L:=by
 rw [List.getD_eq_getElem?_getD,List.getElem?_eq_getElem h];exact List.getElem_mem _
theorem m7 (n:Nat) (w:World) (hn:n≤10000000):Calls Tryz.prog 93 #[.slice none 0 0,.int .i64 n] w fun e w'=>∃u,e= .returned u∧w'.ownsRow w.heap.size 82 3 u 0 []∧Below w.heap.size w w':=by
 obtain⟨i0,hi,hz0,hz1,hz2⟩:=info_parts dO;have h1:¬((n:Int)<0):=by omega
 by_cases h0:n=0
 ·subst h0;clear hi hz0 hz1 hz2;go_enter Tryz.func93,Tryz.ntmps93;go_wp2;go_ret;exact⟨_,rfl,World.ownsRow_nil _ _ _ _,Below.refl _ _⟩
 ·have h4:(0:Int)<(n:Int):=(by omega);have hr:=fun ty=>Lib.run_append_nil_zeros (P:=Tryz.prog) w 74 3 ty 82 i0 _ .i64 .i64 Tryz.underlying74 Tryz.underlying3 hi hz0 n (by omega) (by rw [hz1];decide) (by omega) (by rw [hz2];omega);have HR:=aa hr;have hG0:=grownCap_ge w n 0 82;have hG1:=grownCap_le_maxLen w n 0 82 (by unfold maxLen;omega);generalize grownCap w n 0 82=G at*;clear hr;have hG2:G≤9223372036854775807:=by unfold maxLen at hG1;omega
  have hO:((w.drew).alloc (.cells (Builtin.zeroCells (Value.cells (.agg #[.int .i64 0,.int .i64 0,.int .i64 0])) n++Builtin.zeroCells (Value.cells (.agg #[.int .i64 0,.int .i64 0,.int .i64 0])) (G-n)) 82)).ownsRow w.heap.size 82 3 (.slice (some ⟨w.heap.size,0,none⟩) 0 G) 0 []:=by
   refine World.ownsRow_made w.drew _ G zr hG1 ?_;rw [Array.size_append,bU,bU];rw [←Nat.add_mul];congr 1;omega
  have HO:=aa hO;clear hO;go_enter Tryz.func93,Tryz.ntmps93;go_wp2_with (at_builtin;refine Lib.wpList_append_run _ rfl _ _ _ _ rfl _ _ rfl rfl _ _ ((ae HR) _) ?_)
  go_ret;exact⟨_,rfl,HO.out,(Below.refl _ _).drew.alloc zr _⟩
theorem dK (L:List (Value×Nat×List Value)) (g cap:Nat) (w:World) (hc:∀j,j<L.length→w.cell? ⟨g,j,none⟩=some (L.getD j z3).1) (hs:∀x∈L,SrcAt w 3 x.1 x.2.1 x.2.2) (hl:L.length≤10) (hcap:L.length≤cap) (hn:∀x∈L,x.2.1≤100000):
  Calls Tryz.prog 49 #[.slice (some ⟨g,0,none⟩) L.length cap] w fun e w'=>∃u,e= .returned u∧w'.ownsRow w.heap.size 82 3 u (cnt L) (cat L)∧Below w.heap.size w w':=by
 obtain⟨i0,hi,hz0,hz1,hz2⟩:=info_parts dO;have HC:=aa hc;have HS:=aa hs;have HN:=aa (fun k hk=>kA hn k hk);have HM:=aa hn;clear hc hs hn;go_enter Tryz.func49,Tryz.ntmps49;go_wp2_with fail
 go_loopw [3,11] (fun s i wr=>∃k:Nat,k≤L.length∧i= .int .i64 k∧s= .int .i64 (cnt (L.take k):Nat)∧Below w.heap.size w wr) (fun _ i _=>L.length-(intOf i).toNat)
 case atStart=>exact⟨0,by omega,rfl,rfl,Below.refl _ _⟩
 case round=>
  obtain⟨k,hk,rfl,rfl,hbr⟩:=hrel;by_cases hlt:k<L.length
  ·have hx:=(HS.out _ (dA hlt));have hcell:=(hbr.cell (p:=⟨g,k,none⟩) (am (HC.out k hlt))).trans (HC.out k hlt);obtain⟨o,c,hu⟩:∃o c,(L.getD k z3).1= .slice o (L.getD k z3).2.1 c:=by
    rcases hx with⟨h,h0,_⟩ |⟨ad,c,h,_⟩
    ·exact⟨_,_,by rw [h,h0]⟩
    ·exact⟨_,_,h⟩
   rw [hu]at hcell;have HX:=aa (dS hlt);have hb1:=HN.out k hk;have hb2:=HM.out _ (dA hlt);clear hx hu;generalize (L.getD k z3).2.1=m at*;generalize hcn:cnt (L.take k)=C0 at*;clear hcn;have hb3:C0≤1000000:=Nat.le_trans hb1 (by omega);have hb4:¬((C0:Int)+(m:Int)<0):=(by omega);have q1:(0:Int)≤(k:Int):=(by omega);have q2:(k:Int)<(L.length:Int):=(by omega);clear hb1;go_wp2_with fail
   go_roundw
   case rel=>exact⟨k+1,by omega,by go_num,by rw [HX.out];go_num,hbr⟩
   case measure=>simp [intOf];omega
  ·obtain rfl:k=L.length:=(by omega);have hb1:=HN.out _ zr;rw [List.take_length]at hb1⊢;have hb3:cnt L≤1000000:=Nat.le_trans hb1 (by omega);have HG:=aa (m7 (cnt L) wr (by omega));obtain⟨C1,hC1⟩:∃C1,C1=cnt L:=⟨_,rfl⟩;have HC1:=aa hC1;rw [←hC1]at HG hb3⊢;clear hC1 hb1;go_wp2_with fail
   refine(ae HG).mono ?_;rintro e w1 ⟨u,rfl,ho,hb⟩;have hb01:=hbr.trans (hb.mono hbr.size);have HO:=aa (aE ho hbr.size);obtain⟨o,c,rfl⟩:=aF ho;clear ho hb hbr HG;go_wp2_with fail
   go_loopw [6,27] (fun v i wq=>∃k:Nat,k≤L.length∧i= .int .i64 k∧Hid (wq.ownsRow w.heap.size 82 3 v (cnt (L.take k)) (cat (L.take k)))∧Below w.heap.size w wq) (fun _ i _=>L.length-(intOf i).toNat)
   case atStart=>exact⟨0,by omega,rfl,aa (by simpa [cnt,cat] using HO.out),hb01⟩
   case round=>
    clear HO hb01;obtain⟨k,hk,rfl,HO,hbr⟩:=hrel;by_cases hlt:k<L.length
    ·have hx:=(HS.out _ (dA hlt));have hcell:=(hbr.cell (p:=⟨g,k,none⟩) (am (HC.out k hlt))).trans (HC.out k hlt);have HX:=aa (dS hlt);have HY:=aa (iZ hlt);have hb1:=HN.out k hk;have hb2:=HM.out _ (dA hlt);obtain⟨o1,c1,rfl⟩:=aF HO.out;have hb4:cnt (L.take k)≤1000000:=Nat.le_trans hb1 (by omega);have q1:(0:Int)≤(k:Int):=(by omega);have q2:(k:Int)<(L.length:Int):=(by omega);clear hb1;have hsz:=hbr.size;have HS2:=aa (hx.below' hbr);clear hx;obtain⟨C2,hC2⟩:∃C2,C2=cnt (L.take k):=⟨_,rfl⟩;rw [←hC2]at HO HX hb4⊢;clear hC2;obtain⟨XS,hXS⟩:∃XS,XS=cat (L.take k):=⟨_,rfl⟩;rw [←hXS]at HO HY;clear hXS;rcases HS2.out with⟨hu,h0,hnil⟩ |⟨ad,c2,hu,hln,hcs,hone⟩
     ·rw [hu]at hcell;rw [h0,Nat.add_zero]at HX;rw [hnil,List.append_nil]at HY;clear hu h0 hnil HS2 hb2;go_wp2_with (at_builtin;refine wpList_append_own_none rfl _ _ 74 rfl w.heap.size 82 i0 3 Tryz.underlying74 hi _ _ _ rfl (ae HO) rfl ?_)
      go_roundw
      case rel=>exact⟨k+1,by omega,by go_num,by rw [HX.out,HY.out];exact HO,hbr⟩
      case measure=>simp [intOf];omega
     ·rw [hu]at hcell;have HLN:=aa hln;have HCS:=aa hcs;have HONE:=aa hone;clear hu hln hcs hone HS2;generalize (L.getD k z3).2.1=m at*;generalize (L.getD k z3).2.2=ys at*;go_wp2_with (at_builtin;refine wpList_append_own _ rfl _ _ 74 rfl w.heap.size 82 i0 _ 3 24 Tryz.underlying74 hi hz0 hz1 hz2 rfl (by decide) _ _ _ rfl (ae HO) ad m c2 ys rfl (ae HLN) (ae HCS) (ae HONE) ?a1 ?a2 ?a3 ?_)
      case a1=>unfold maxLen;omega
      case a2=>omega
      case a3=>exact hsz
      intro v3 w3 ho3 hg3 _;have hb3:Below w.heap.size w w3:=hbr.grown hg3 hsz (aB HO.out);have HE:=aa ho3;obtain⟨o3,c3,rfl⟩:=aF ho3;clear ho3 hg3 HO HCS hcell;go_wp2_with fail
      go_roundw
      case rel=>exact⟨k+1,by omega,by go_num,by rw [HX.out,HY.out];exact HE,hb3⟩
      case measure=>simp [intOf];omega
    ·obtain rfl:k=L.length:=(by omega);rw [List.take_length]at HO;obtain⟨o1,c1,rfl⟩:=aF HO.out;have HX:=aa HO.out;clear HO;go_wp2_with fail
     go_ret;exact⟨_,rfl,HX.out,hbr⟩
theorem mU (n:Nat) (w:World) (hn:n≤10000000):Calls Tryz.prog 138 #[.slice none 0 0,.int .i64 n] w fun e w'=>∃u,e= .returned u∧w'.ownsRow w.heap.size 85 3 u 0 []∧Below w.heap.size w w':=by
 obtain⟨i0,hi,hz0,hz1,hz2⟩:=info_parts ez;have h1:¬((n:Int)<0):=by omega
 by_cases h0:n=0
 ·subst h0;clear hi hz0 hz1 hz2;go_enter Tryz.func138,Tryz.ntmps138;go_wp2;go_ret;exact⟨_,rfl,World.ownsRow_nil _ _ _ _,Below.refl _ _⟩
 ·have h4:(0:Int)<(n:Int):=(by omega);have hr:=fun ty=>Lib.run_append_nil_zeros (P:=Tryz.prog) w 75 3 ty 85 i0 _ .i64 .i64 Tryz.underlying75 Tryz.underlying3 hi hz0 n (by omega) (by rw [hz1];decide) (by omega) (by rw [hz2];omega);have HR:=aa hr;have hG0:=grownCap_ge w n 0 85;have hG1:=grownCap_le_maxLen w n 0 85 (by unfold maxLen;omega);generalize grownCap w n 0 85=G at*;clear hr;have hG2:G≤9223372036854775807:=by unfold maxLen at hG1;omega
  have hO:((w.drew).alloc (.cells (Builtin.zeroCells (Value.cells (.agg #[.int .i64 0,.int .i64 0,.int .i64 0])) n++Builtin.zeroCells (Value.cells (.agg #[.int .i64 0,.int .i64 0,.int .i64 0])) (G-n)) 85)).ownsRow w.heap.size 85 3 (.slice (some ⟨w.heap.size,0,none⟩) 0 G) 0 []:=by
   refine World.ownsRow_made w.drew _ G zr hG1 ?_;rw [Array.size_append,bU,bU];rw [←Nat.add_mul];congr 1;omega
  have HO:=aa hO;clear hO;go_enter Tryz.func138,Tryz.ntmps138;go_wp2_with (at_builtin;refine Lib.wpList_append_run _ rfl _ _ _ _ rfl _ _ rfl rfl _ _ ((ae HR) _) ?_)
  go_ret;exact⟨_,rfl,HO.out,(Below.refl _ _).drew.alloc zr _⟩
theorem kH (L:List (Value×Nat×List Value)) (g cap:Nat) (w:World) (hc:∀j,j<L.length→w.cell? ⟨g,j,none⟩=some (L.getD j z3).1) (hs:∀x∈L,SrcAt w 3 x.1 x.2.1 x.2.2) (hl:L.length≤10) (hcap:L.length≤cap) (hn:∀x∈L,x.2.1≤100000):
  Calls Tryz.prog 108 #[.slice (some ⟨g,0,none⟩) L.length cap] w fun e w'=>∃u,e= .returned u∧w'.ownsRow w.heap.size 85 3 u (cnt L) (cat L)∧Below w.heap.size w w':=by
 obtain⟨i0,hi,hz0,hz1,hz2⟩:=info_parts ez;have HC:=aa hc;have HS:=aa hs;have HN:=aa (fun k hk=>kA hn k hk);have HM:=aa hn;clear hc hs hn;go_enter Tryz.func108,Tryz.ntmps108;go_wp2_with fail
 go_loopw [3,11] (fun s i wr=>∃k:Nat,k≤L.length∧i= .int .i64 k∧s= .int .i64 (cnt (L.take k):Nat)∧Below w.heap.size w wr) (fun _ i _=>L.length-(intOf i).toNat)
 case atStart=>exact⟨0,by omega,rfl,rfl,Below.refl _ _⟩
 case round=>
  obtain⟨k,hk,rfl,rfl,hbr⟩:=hrel;by_cases hlt:k<L.length
  ·have hx:=(HS.out _ (dA hlt));have hcell:=(hbr.cell (p:=⟨g,k,none⟩) (am (HC.out k hlt))).trans (HC.out k hlt);obtain⟨o,c,hu⟩:∃o c,(L.getD k z3).1= .slice o (L.getD k z3).2.1 c:=by
    rcases hx with⟨h,h0,_⟩ |⟨ad,c,h,_⟩
    ·exact⟨_,_,by rw [h,h0]⟩
    ·exact⟨_,_,h⟩
   rw [hu]at hcell;have HX:=aa (dS hlt);have hb1:=HN.out k hk;have hb2:=HM.out _ (dA hlt);clear hx hu;generalize (L.getD k z3).2.1=m at*;generalize hcn:cnt (L.take k)=C0 at*;clear hcn;have hb3:C0≤1000000:=Nat.le_trans hb1 (by omega);have hb4:¬((C0:Int)+(m:Int)<0):=(by omega);have q1:(0:Int)≤(k:Int):=(by omega);have q2:(k:Int)<(L.length:Int):=(by omega);clear hb1;go_wp2_with fail
   go_roundw
   case rel=>exact⟨k+1,by omega,by go_num,by rw [HX.out];go_num,hbr⟩
   case measure=>simp [intOf];omega
  ·obtain rfl:k=L.length:=(by omega);have hb1:=HN.out _ zr;rw [List.take_length]at hb1⊢;have hb3:cnt L≤1000000:=Nat.le_trans hb1 (by omega);have HG:=aa (mU (cnt L) wr (by omega));obtain⟨C1,hC1⟩:∃C1,C1=cnt L:=⟨_,rfl⟩;have HC1:=aa hC1;rw [←hC1]at HG hb3⊢;clear hC1 hb1;go_wp2_with fail
   refine(ae HG).mono ?_;rintro e w1 ⟨u,rfl,ho,hb⟩;have hb01:=hbr.trans (hb.mono hbr.size);have HO:=aa (aE ho hbr.size);obtain⟨o,c,rfl⟩:=aF ho;clear ho hb hbr HG;go_wp2_with fail
   go_loopw [6,27] (fun v i wq=>∃k:Nat,k≤L.length∧i= .int .i64 k∧Hid (wq.ownsRow w.heap.size 85 3 v (cnt (L.take k)) (cat (L.take k)))∧Below w.heap.size w wq) (fun _ i _=>L.length-(intOf i).toNat)
   case atStart=>exact⟨0,by omega,rfl,aa (by simpa [cnt,cat] using HO.out),hb01⟩
   case round=>
    clear HO hb01;obtain⟨k,hk,rfl,HO,hbr⟩:=hrel;by_cases hlt:k<L.length
    ·have hx:=(HS.out _ (dA hlt));have hcell:=(hbr.cell (p:=⟨g,k,none⟩) (am (HC.out k hlt))).trans (HC.out k hlt);have HX:=aa (dS hlt);have HY:=aa (iZ hlt);have hb1:=HN.out k hk;have hb2:=HM.out _ (dA hlt);obtain⟨o1,c1,rfl⟩:=aF HO.out;have hb4:cnt (L.take k)≤1000000:=Nat.le_trans hb1 (by omega);have q1:(0:Int)≤(k:Int):=(by omega);have q2:(k:Int)<(L.length:Int):=(by omega);clear hb1;have hsz:=hbr.size;have HS2:=aa (hx.below' hbr);clear hx;obtain⟨C2,hC2⟩:∃C2,C2=cnt (L.take k):=⟨_,rfl⟩;rw [←hC2]at HO HX hb4⊢;clear hC2;obtain⟨XS,hXS⟩:∃XS,XS=cat (L.take k):=⟨_,rfl⟩;rw [←hXS]at HO HY;clear hXS;rcases HS2.out with⟨hu,h0,hnil⟩ |⟨ad,c2,hu,hln,hcs,hone⟩
     ·rw [hu]at hcell;rw [h0,Nat.add_zero]at HX;rw [hnil,List.append_nil]at HY;clear hu h0 hnil HS2 hb2;go_wp2_with (at_builtin;refine wpList_append_own_none rfl _ _ 75 rfl w.heap.size 85 i0 3 Tryz.underlying75 hi _ _ _ rfl (ae HO) rfl ?_)
      go_roundw
      case rel=>exact⟨k+1,by omega,by go_num,by rw [HX.out,HY.out];exact HO,hbr⟩
      case measure=>simp [intOf];omega
     ·rw [hu]at hcell;have HLN:=aa hln;have HCS:=aa hcs;have HONE:=aa hone;clear hu hln hcs hone HS2;generalize (L.getD k z3).2.1=m at*;generalize (L.getD k z3).2.2=ys at*;go_wp2_with (at_builtin;refine wpList_append_own _ rfl _ _ 75 rfl w.heap.size 85 i0 _ 3 24 Tryz.underlying75 hi hz0 hz1 hz2 rfl (by decide) _ _ _ rfl (ae HO) ad m c2 ys rfl (ae HLN) (ae HCS) (ae HONE) ?a1 ?a2 ?a3 ?_)
      case a1=>unfold maxLen;omega
      case a2=>omega
      case a3=>exact hsz
      intro v3 w3 ho3 hg3 _;have hb3:Below w.heap.size w w3:=hbr.grown hg3 hsz (aB HO.out);have HE:=aa ho3;obtain⟨o3,c3,rfl⟩:=aF ho3;clear ho3 hg3 HO HCS hcell;go_wp2_with fail
      go_roundw
      case rel=>exact⟨k+1,by omega,by go_num,by rw [HX.out,HY.out];exact HE,hb3⟩
      case measure=>simp [intOf];omega
    ·obtain rfl:k=L.length:=(by omega);rw [List.take_length]at HO;obtain⟨o1,c1,rfl⟩:=aF HO.out;have HX:=aa HO.out;clear HO;go_wp2_with fail
     go_ret;exact⟨_,rfl,HX.out,hbr⟩
theorem mY (n:Nat) (w:World) (hn:n≤10000000):Calls Tryz.prog 98 #[.slice none 0 0,.int .i64 n] w fun e w'=>∃u,e= .returned u∧w'.ownsRow w.heap.size 77 4 u 0 []∧Below w.heap.size w w':=by
 obtain⟨i0,hi,hz0,hz1,hz2⟩:=info_parts fh;have h1:¬((n:Int)<0):=by omega
 by_cases h0:n=0
 ·subst h0;clear hi hz0 hz1 hz2;go_enter Tryz.func98,Tryz.ntmps98;go_wp2;go_ret;exact⟨_,rfl,World.ownsRow_nil _ _ _ _,Below.refl _ _⟩
 ·have h4:(0:Int)<(n:Int):=(by omega);have hr:=fun ty=>Lib.run_append_nil_zeros (P:=Tryz.prog) w 31 3 ty 77 i0 _ .i64 .i64 Tryz.underlying31 Tryz.underlying3 hi hz0 n (by omega) (by rw [hz1];decide) (by omega) (by rw [hz2];omega);have HR:=aa hr;have hG0:=grownCap_ge w n 0 77;have hG1:=grownCap_le_maxLen w n 0 77 (by unfold maxLen;omega);generalize grownCap w n 0 77=G at*;clear hr;have hG2:G≤9223372036854775807:=by unfold maxLen at hG1;omega
  have hO:((w.drew).alloc (.cells (Builtin.zeroCells (Value.cells (.agg #[.int .i64 0,.int .i64 0,.slice none 0 0,.slice none 0 0])) n++Builtin.zeroCells (Value.cells (.agg #[.int .i64 0,.int .i64 0,.slice none 0 0,.slice none 0 0])) (G-n)) 77)).ownsRow w.heap.size 77 4 (.slice (some ⟨w.heap.size,0,none⟩) 0 G) 0 []:=by
   refine World.ownsRow_made w.drew _ G zr hG1 ?_;rw [Array.size_append,bU,bU];rw [←Nat.add_mul];congr 1;omega
  have HO:=aa hO;clear hO;go_enter Tryz.func98,Tryz.ntmps98;go_wp2_with (at_builtin;refine Lib.wpList_append_run _ rfl _ _ _ _ rfl _ _ rfl rfl _ _ ((ae HR) _) ?_)
  go_ret;exact⟨_,rfl,HO.out,(Below.refl _ _).drew.alloc zr _⟩
theorem ks (L:List (Value×Nat×List Value)) (g cap:Nat) (w:World) (hc:∀j,j<L.length→w.cell? ⟨g,j,none⟩=some (L.getD j z3).1) (hs:∀x∈L,SrcAt w 4 x.1 x.2.1 x.2.2) (hl:L.length≤10) (hcap:L.length≤cap) (hn:∀x∈L,x.2.1≤100000):
  Calls Tryz.prog 54 #[.slice (some ⟨g,0,none⟩) L.length cap] w fun e w'=>∃u,e= .returned u∧w'.ownsRow w.heap.size 77 4 u (cnt L) (cat L)∧Below w.heap.size w w':=by
 obtain⟨i0,hi,hz0,hz1,hz2⟩:=info_parts fh;have HC:=aa hc;have HS:=aa hs;have HN:=aa (fun k hk=>kA hn k hk);have HM:=aa hn;clear hc hs hn;go_enter Tryz.func54,Tryz.ntmps54;go_wp2_with fail
 go_loopw [3,11] (fun s i wr=>∃k:Nat,k≤L.length∧i= .int .i64 k∧s= .int .i64 (cnt (L.take k):Nat)∧Below w.heap.size w wr) (fun _ i _=>L.length-(intOf i).toNat)
 case atStart=>exact⟨0,by omega,rfl,rfl,Below.refl _ _⟩
 case round=>
  obtain⟨k,hk,rfl,rfl,hbr⟩:=hrel;by_cases hlt:k<L.length
  ·have hx:=(HS.out _ (dA hlt));have hcell:=(hbr.cell (p:=⟨g,k,none⟩) (am (HC.out k hlt))).trans (HC.out k hlt);obtain⟨o,c,hu⟩:∃o c,(L.getD k z3).1= .slice o (L.getD k z3).2.1 c:=by
    rcases hx with⟨h,h0,_⟩ |⟨ad,c,h,_⟩
    ·exact⟨_,_,by rw [h,h0]⟩
    ·exact⟨_,_,h⟩
   rw [hu]at hcell;have HX:=aa (dS hlt);have hb1:=HN.out k hk;have hb2:=HM.out _ (dA hlt);clear hx hu;generalize (L.getD k z3).2.1=m at*;generalize hcn:cnt (L.take k)=C0 at*;clear hcn;have hb3:C0≤1000000:=Nat.le_trans hb1 (by omega);have hb4:¬((C0:Int)+(m:Int)<0):=(by omega);have q1:(0:Int)≤(k:Int):=(by omega);have q2:(k:Int)<(L.length:Int):=(by omega);clear hb1;go_wp2_with fail
   go_roundw
   case rel=>exact⟨k+1,by omega,by go_num,by rw [HX.out];go_num,hbr⟩
   case measure=>simp [intOf];omega
  ·obtain rfl:k=L.length:=(by omega);have hb1:=HN.out _ zr;rw [List.take_length]at hb1⊢;have hb3:cnt L≤1000000:=Nat.le_trans hb1 (by omega);have HG:=aa (mY (cnt L) wr (by omega));obtain⟨C1,hC1⟩:∃C1,C1=cnt L:=⟨_,rfl⟩;have HC1:=aa hC1;rw [←hC1]at HG hb3⊢;clear hC1 hb1;go_wp2_with fail
   refine(ae HG).mono ?_;rintro e w1 ⟨u,rfl,ho,hb⟩;have hb01:=hbr.trans (hb.mono hbr.size);have HO:=aa (aE ho hbr.size);obtain⟨o,c,rfl⟩:=aF ho;clear ho hb hbr HG;go_wp2_with fail
   go_loopw [6,27] (fun v i wq=>∃k:Nat,k≤L.length∧i= .int .i64 k∧Hid (wq.ownsRow w.heap.size 77 4 v (cnt (L.take k)) (cat (L.take k)))∧Below w.heap.size w wq) (fun _ i _=>L.length-(intOf i).toNat)
   case atStart=>exact⟨0,by omega,rfl,aa (by simpa [cnt,cat] using HO.out),hb01⟩
   case round=>
    clear HO hb01;obtain⟨k,hk,rfl,HO,hbr⟩:=hrel;by_cases hlt:k<L.length
    ·have hx:=(HS.out _ (dA hlt));have hcell:=(hbr.cell (p:=⟨g,k,none⟩) (am (HC.out k hlt))).trans (HC.out k hlt);have HX:=aa (dS hlt);have HY:=aa (iZ hlt);have hb1:=HN.out k hk;have hb2:=HM.out _ (dA hlt);obtain⟨o1,c1,rfl⟩:=aF HO.out;have hb4:cnt (L.take k)≤1000000:=Nat.le_trans hb1 (by omega);have q1:(0:Int)≤(k:Int):=(by omega);have q2:(k:Int)<(L.length:Int):=(by omega);clear hb1;have hsz:=hbr.size;have HS2:=aa (hx.below' hbr);clear hx;obtain⟨C2,hC2⟩:∃C2,C2=cnt (L.take k):=⟨_,rfl⟩;rw [←hC2]at HO HX hb4⊢;clear hC2;obtain⟨XS,hXS⟩:∃XS,XS=cat (L.take k):=⟨_,rfl⟩;rw [←hXS]at HO HY;clear hXS;rcases HS2.out with⟨hu,h0,hnil⟩ |⟨ad,c2,hu,hln,hcs,hone⟩
     ·rw [hu]at hcell;rw [h0,Nat.add_zero]at HX;rw [hnil,List.append_nil]at HY;clear hu h0 hnil HS2 hb2;go_wp2_with (at_builtin;refine wpList_append_own_none rfl _ _ 31 rfl w.heap.size 77 i0 4 Tryz.underlying31 hi _ _ _ rfl (ae HO) rfl ?_)
      go_roundw
      case rel=>exact⟨k+1,by omega,by go_num,by rw [HX.out,HY.out];exact HO,hbr⟩
      case measure=>simp [intOf];omega
     ·rw [hu]at hcell;have HLN:=aa hln;have HCS:=aa hcs;have HONE:=aa hone;clear hu hln hcs hone HS2;generalize (L.getD k z3).2.1=m at*;generalize (L.getD k z3).2.2=ys at*;go_wp2_with (at_builtin;refine wpList_append_own _ rfl _ _ 31 rfl w.heap.size 77 i0 _ 4 64 Tryz.underlying31 hi hz0 hz1 hz2 rfl (by decide) _ _ _ rfl (ae HO) ad m c2 ys rfl (ae HLN) (ae HCS) (ae HONE) ?a1 ?a2 ?a3 ?_)
      case a1=>unfold maxLen;omega
      case a2=>omega
      case a3=>exact hsz
      intro v3 w3 ho3 hg3 _;have hb3:Below w.heap.size w w3:=hbr.grown hg3 hsz (aB HO.out);have HE:=aa ho3;obtain⟨o3,c3,rfl⟩:=aF ho3;clear ho3 hg3 HO HCS hcell;go_wp2_with fail
      go_roundw
      case rel=>exact⟨k+1,by omega,by go_num,by rw [HX.out,HY.out];exact HE,hb3⟩
      case measure=>simp [intOf];omega
    ·obtain rfl:k=L.length:=(by omega);rw [List.take_length]at HO;obtain⟨o1,c1,rfl⟩:=aF HO.out;have HX:=aa HO.out;clear HO;go_wp2_with fail
     go_ret;exact⟨_,rfl,HX.out,hbr⟩
def FvIn (w:World) (B:Nat) (u:Value) (x:Fv):Prop:=FvOk w x∧Apart x.mv u∧Apart x.dv u∧(∀g,x.mv.ownBlock=some g→B≤g)∧∀g,x.dv.ownBlock=some g→B≤g
theorem FvIn.below {w w':World} {B:Nat} {u:Value} {x:Fv} (h:FvIn w B u x) (hb:Below w.heap.size w w'):FvIn w' B u x:=⟨h.1.below hb,h.2⟩
theorem FvIn.less {w:World} {B B':Nat} {u:Value} {x:Fv} (h:FvIn w B u x) (hB:B'≤B):FvIn w B' u x:=⟨h.1,h.2.1,h.2.2.1,fun g e=>Nat.le_trans hB (h.2.2.2.1 g e),fun g e=>Nat.le_trans hB (h.2.2.2.2 g e)⟩
theorem FvIn.far {w:World} {B:Nat} {u v:Value} {x:Fv} (h:FvIn w B u x) (hv:∀g,v.ownBlock=some g→g<B):FvIn w B v x:=by
 refine⟨h.1,?_,?_,h.2.2.2⟩
 ·cases e:x.mv.ownBlock with
  | none=>exact .inl e
  | some b=>exact .inr fun e'=>by have h1:=h.2.2.2.1 b e;have h2:=hv b (by rw [←e',e]);omega
 ·cases e:x.dv.ownBlock with
  | none=>exact .inl e
  | some b=>exact .inr fun e'=>by have h1:=h.2.2.2.2 b e;have h2:=hv b (by rw [←e',e]);omega
def FR (w:World) (B:Nat) (u:Value) (fs:List Fl):Prop:=∃lo:List Fv,lo.map Fv.f=fs∧w.ownsRow B 77 4 u lo.length (C lo)∧∀x∈lo,FvIn w B u x
theorem FR.below {w w':World} {B B':Nat} {u:Value} {fs:List Fl} (h:FR w B u fs) (hb:Below B' w w') (hB:w.heap.size≤B'):FR w' B u fs:=by
 obtain⟨lo,h1,h2,h3⟩:=h;have hb':=hb.mono hB;exact⟨lo,h1,aA h2 hb',fun x hx=>(h3 x hx).below hb'⟩
theorem FR.less {w:World} {B B':Nat} {u:Value} {fs:List Fl} (h:FR w B u fs) (hB:B'≤B):FR w B' u fs:=by
 obtain⟨lo,h1,h2,h3⟩:=h;exact⟨lo,h1,aE h2 hB,fun x hx=>(h3 x hx).less hB⟩
theorem FR.nil (w:World) (B:Nat):FR w B (.slice none 0 0) []:=⟨[],rfl,World.ownsRow_nil _ _ _ _,by simp⟩
theorem FR.slc {w:World} {B:Nat} {u:Value} {fs:List Fl} (h:FR w B u fs):∃o c,u= .slice o fs.length c:=by
 obtain⟨lo,h1,h2,h3⟩:=h;obtain⟨o,c,h⟩:=aF h2;exact⟨o,c,by rw [h, ←h1,List.length_map]⟩
theorem FR.lt {w:World} {B:Nat} {u:Value} {fs:List Fl} (h:FR w B u fs):∀g,u.ownBlock=some g→g<w.heap.size:=by
 obtain⟨lo,h1,h2,h3⟩:=h;intro g e;exact bB h2 e
theorem nZ (l:List Fv):(C l).length=l.length*4:=by
 induction l with
 | nil=>rfl
 | cons x r ih=>simp [C]at ih⊢;omega
theorem FvIn.held {w:World} {B:Nat} {u:Value} {x:Fv} (h:FvIn w B u x):MsAt w x.mv x.f.ms∧DsAt w x.dv x.f.ds:=⟨h.1.1,h.1.2.1⟩
theorem jW {w:World} {B:Nat} {u:Value}:∀{lo:List Fv},(∀x∈lo,FvIn w B u x)→∀v∈C lo,v.oneCell'=true:=by
 intro lo h v hv;unfold C at hv;rw [List.mem_flatMap]at hv;obtain⟨x,hx,hv⟩:=hv;exact(h x hx).1.one v (by simpa [C] using hv)
theorem FR.src {w:World} {B:Nat} {u:Value} {fs:List Fl} (h:FR w B u fs):∃lo:List Fv,lo.map Fv.f=fs∧lo.length=fs.length∧SrcAt w 4 u lo.length (C lo)∧∀x∈lo,FvIn w B u x:=by
 obtain⟨lo,h1,h2,h3⟩:=h;exact⟨lo,h1,by rw [←h1,List.length_map],SrcAt.of_own h2 (jW h3),h3⟩
theorem FR.app {w w':World} {B g n cap:Nat} {u:Value} {lo lo2:List Fv} (ok1:∀x∈lo,FvIn w B u x) (ok2:∀x∈lo2,FvIn w B u x)
  (ho:w'.ownsRow B 77 4 (.slice (some ⟨g,0,none⟩) n cap) n (C lo++C lo2)) (hn:n=lo.length+lo2.length) (hg:w.grownBy w' u.ownBlock) (ha:u.ownBlock=some g∨g=w.heap.size):
  FR w' B (.slice (some ⟨g,0,none⟩) n cap) (lo.map Fv.f++lo2.map Fv.f):=by
 refine⟨lo++lo2,by simp,by rw [gN,List.length_append, ←hn];exact ho,fun x hx=>?_⟩;have hx':FvIn w B u x:=by
  rcases List.mem_append.1 hx with h | h
  ·exact ok1 x h
  ·exact ok2 x h
 obtain⟨k0,k1,k2,k3,k4⟩:=hx';refine⟨k0.kept hg k1 k2,?_,?_,k3,k4⟩
 ·exact Apart.app (w:=w) k1 (fun g e=>k0.2.2.1 g e) ha
 ·exact Apart.app (w:=w) k2 (fun g e=>k0.2.2.2 g e) ha
theorem aS {w:World} {B:Nat} {f:Fl} {mv dv u:Value} (h1:w.ownsRow B 82 3 mv f.ms.length (M f.ms)) (h2:w.ownsRow B 85 3 dv f.ds.length (D f.ds)) (hu:∀g,u.ownBlock=some g→g<B):FvIn w B u ⟨f,mv,dv⟩:=by
 refine FvIn.far (u:=.slice none 0 0) ⟨⟨MsAt.of_own h1,DsAt.of_own h2,fun g e=>bB h1 e,fun g e=>bB h2 e⟩,?_,?_,aB h1,aB h2⟩ hu
 ·exact j5 _
 ·exact j5 _
theorem FR.lit {cur:World} {B n:Nat} {lo:List Fv} {cs:Array Value} (hcs:cs.toList=C lo) (hn:lo.length=n) (hB:B≤cur.heap.size) (hm:n≤maxLen) (ok:∀x∈lo,FvIn cur B (.slice none 0 0) x):
  FR (cur.alloc (.cells cs 77)) B (.slice (some ⟨cur.heap.size,0,none⟩) n n) (lo.map Fv.f):=by
 have hs:cs.size=n*4:=by rw [←Array.length_toList,hcs,nZ,hn]
 have ho:=World.ownsRow_lit (base:=B) (e:=77) (size:=4) cur cs n hB hm hs;rw [hcs]at ho;refine⟨lo,rfl,by rw [hn];exact ho,fun x hx=>?_⟩;have hb:=ak cur (.cells cs 77);obtain⟨k0,_,_,k3,k4⟩:=ok x hx;refine⟨k0.below hb,?_,?_,k3,k4⟩
 ·cases e:x.mv.ownBlock with
  | none=>exact .inl e
  | some b=>exact .inr fun e'=>by have h1:=k0.2.2.1 b e;rw [e]at e';simp [Value.ownBlock]at e';omega
 ·cases e:x.dv.ownBlock with
  | none=>exact .inl e
  | some b=>exact .inr fun e'=>by have h1:=k0.2.2.2 b e;rw [e]at e';simp [Value.ownBlock]at e';omega
theorem FR.fsAt {w:World} {B:Nat} {u:Value} {fs:List Fl} (h:FR w B u fs):FsAt w u fs:=by
 obtain⟨lo,h1,h2,h3⟩:=h;subst h1;obtain⟨o,c,rfl,hc,hg⟩:=qy h2;by_cases hz:lo.length=0
 ·refine⟨o,c,by simp,?_,.inl (by simpa using hz)⟩;intro ho;subst ho;obtain⟨_,⟨hv,_⟩ |⟨g',cap',cur,hv,_⟩⟩:=h2
  ·simp only [Value.slice.injEq]at hv;exact hv.2.2
  ·simp at hv
 ·obtain⟨g,rfl⟩:=hg (by omega);refine⟨_,c,by simp,by simp,.inr ⟨g,0,rfl,by simpa using hc,fun i hi=>?_⟩⟩;have hi':i<lo.length:=(by simpa using hi);obtain⟨c0,c1,c2,c3⟩:=qD lo i hi';have e:(lo.map Fv.f).getD i fl0=(lo.getD i fv0).f:=(by simp [List.getD,List.getElem?_eq_getElem hi']);rw [e,Nat.zero_add];have hh:=(h3 (lo.getD i fv0) (by rw [List.getD_eq_getElem?_getD,List.getElem?_eq_getElem hi'];exact List.getElem_mem _)).held;exact⟨(h2.cellAt _ (by omega)).trans c0,(h2.cellAt _ (by omega)).trans c1,_,_,(h2.cellAt _ (by omega)).trans c2,(h2.cellAt _ (by omega)).trans c3,hh.1,hh.2⟩
theorem aP {w:World} {B e sz n:Nat} {u:Value} {xs:List Value} (h:w.ownsRow B e sz u n xs) (hn:0<n):∃g c,u= .slice (some ⟨g,0,none⟩) n c∧B≤g∧g<w.heap.size:=by
 have h':=h;obtain⟨_,⟨_,h0⟩ |⟨g,cap,cur,rfl,hB,_⟩⟩:=h
 ·omega
 ·exact⟨g,cap,rfl,hB,bB h' rfl⟩
theorem aK {w w':World} {b o gA:Nat} {v:Value} (hg:w.grownBy w' (some gA)) (h:w.cell? ⟨b,o,none⟩=some v) (hne:b≠gA):w'.cell? ⟨b,o,none⟩=some v:=
 (hg.cell_far _ (am h) (by simpa using hne)).trans h
theorem rW {w w':World}{g:Nat}{b0 b1 b2 o0 o1 o2:Nat}{v0 v1 v2:Value}(h:w.grownBy w' (some g))(h0:w.cell? ⟨b0,o0,none⟩=some v0)(h1:w.cell? ⟨b1,o1,none⟩=some v1)(h2:w.cell? ⟨b2,o2,none⟩=some v2)(e:b0≠g∧b1≠g∧b2≠g):w'.cell? ⟨b0,o0,none⟩=some v0∧w'.cell? ⟨b1,o1,none⟩=some v1∧w'.cell? ⟨b2,o2,none⟩=some v2:=⟨aK h h0 e.1,aK h h1 e.2.1,aK h h2 e.2.2⟩
theorem oS {w w':World}{g:Nat}{b0 b1 b2 b3 o0 o1 o2 o3:Nat}{v0 v1 v2 v3:Value}(h:w.grownBy w' (some g))(h0:w.cell? ⟨b0,o0,none⟩=some v0)(h1:w.cell? ⟨b1,o1,none⟩=some v1)(h2:w.cell? ⟨b2,o2,none⟩=some v2)(h3:w.cell? ⟨b3,o3,none⟩=some v3)(e:b0≠g∧b1≠g∧b2≠g∧b3≠g):w'.cell? ⟨b0,o0,none⟩=some v0∧w'.cell? ⟨b1,o1,none⟩=some v1∧w'.cell? ⟨b2,o2,none⟩=some v2∧w'.cell? ⟨b3,o3,none⟩=some v3:=⟨aK h h0 e.1,aK h h1 e.2.1,aK h h2 e.2.2.1,aK h h3 e.2.2.2⟩
theorem cY {w w':World}{g:Nat}{b0 b1 b2 b3 b4 b5 b6 b7 b8 b9 b10 b11 b12 b13 b14 o0 o1 o2 o3 o4 o5 o6 o7 o8 o9 o10 o11 o12 o13 o14:Nat}{v0 v1 v2 v3 v4 v5 v6 v7 v8 v9 v10 v11 v12 v13 v14:Value}(h:w.grownBy w' (some g))(h0:w.cell? ⟨b0,o0,none⟩=some v0)(h1:w.cell? ⟨b1,o1,none⟩=some v1)(h2:w.cell? ⟨b2,o2,none⟩=some v2)(h3:w.cell? ⟨b3,o3,none⟩=some v3)(h4:w.cell? ⟨b4,o4,none⟩=some v4)(h5:w.cell? ⟨b5,o5,none⟩=some v5)(h6:w.cell? ⟨b6,o6,none⟩=some v6)(h7:w.cell? ⟨b7,o7,none⟩=some v7)(h8:w.cell? ⟨b8,o8,none⟩=some v8)(h9:w.cell? ⟨b9,o9,none⟩=some v9)(h10:w.cell? ⟨b10,o10,none⟩=some v10)(h11:w.cell? ⟨b11,o11,none⟩=some v11)(h12:w.cell? ⟨b12,o12,none⟩=some v12)(h13:w.cell? ⟨b13,o13,none⟩=some v13)(h14:w.cell? ⟨b14,o14,none⟩=some v14)(e:b0≠g∧b1≠g∧b2≠g∧b3≠g∧b4≠g∧b5≠g∧b6≠g∧b7≠g∧b8≠g∧b9≠g∧b10≠g∧b11≠g∧b12≠g∧b13≠g∧b14≠g):w'.cell? ⟨b0,o0,none⟩=some v0∧w'.cell? ⟨b1,o1,none⟩=some v1∧w'.cell? ⟨b2,o2,none⟩=some v2∧w'.cell? ⟨b3,o3,none⟩=some v3∧w'.cell? ⟨b4,o4,none⟩=some v4∧w'.cell? ⟨b5,o5,none⟩=some v5∧w'.cell? ⟨b6,o6,none⟩=some v6∧w'.cell? ⟨b7,o7,none⟩=some v7∧w'.cell? ⟨b8,o8,none⟩=some v8∧w'.cell? ⟨b9,o9,none⟩=some v9∧w'.cell? ⟨b10,o10,none⟩=some v10∧w'.cell? ⟨b11,o11,none⟩=some v11∧w'.cell? ⟨b12,o12,none⟩=some v12∧w'.cell? ⟨b13,o13,none⟩=some v13∧w'.cell? ⟨b14,o14,none⟩=some v14:=⟨aK h h0 e.1,aK h h1 e.2.1,aK h h2 e.2.2.1,aK h h3 e.2.2.2.1,aK h h4 e.2.2.2.2.1,aK h h5 e.2.2.2.2.2.1,aK h h6 e.2.2.2.2.2.2.1,aK h h7 e.2.2.2.2.2.2.2.1,aK h h8 e.2.2.2.2.2.2.2.2.1,aK h h9 e.2.2.2.2.2.2.2.2.2.1,aK h h10 e.2.2.2.2.2.2.2.2.2.2.1,aK h h11 e.2.2.2.2.2.2.2.2.2.2.2.1,aK h h12 e.2.2.2.2.2.2.2.2.2.2.2.2.1,aK h h13 e.2.2.2.2.2.2.2.2.2.2.2.2.2.1,aK h h14 e.2.2.2.2.2.2.2.2.2.2.2.2.2.2⟩
theorem bQ {w w':World} {b gA B e sz n m c:Nat} {xs:List Value} (hg:w.grownBy w' (some gA)) (h:w.ownsRow B e sz (.slice (some ⟨b,0,none⟩) m c) n xs) (hne:b≠gA):w'.ownsRow B e sz (.slice (some ⟨b,0,none⟩) m c) n xs:=
 h.kept hg (.inr (by simpa [Value.ownBlock] using hne))
theorem r8 (a b:List Mt):M (a++b)=M a++M b:=by simp [M]
theorem sd (a b:List Do):D (a++b)=D a++D b:=by simp [D]
theorem cQ (l:List Mt):∀u∈M l,u.oneCell'=true:=by
 intro u hu;unfold M at hu;rw [List.mem_flatMap]at hu;obtain⟨x,_,hu⟩:=hu;exact rY _ _ _ u hu
theorem nJ (l:List Do):∀u∈D l,u.oneCell'=true:=by
 intro u hu;unfold D at hu;rw [List.mem_flatMap]at hu;obtain⟨x,_,hu⟩:=hu;exact rY _ _ _ u hu
theorem ll {P:Program} {md:Region.Mode} {ops:Array Oper} {Q:Exit→Act→World→Prop} {S:World→Prop} {fuel fuel2:Nat} {listed listed2:Array Bool} {a:Act} {w:World} (F:Nat→Nat→Nat→World→Prop) {A1:Nat→Nat→Nat→Act}
  (h:(∀x0 x1 x2 w',F x0 x1 x2 w'→S w'→wpAnyH P md ops Q S fuel2 listed2 (A1 x0 x1 x2) w')→wpAnyH P md ops Q S fuel listed a w) (hk:∀x0 x1 x2 w',F x0 x1 x2 w'→S w'→wpAnyH P md ops Q S fuel2 listed2 (A1 x0 x1 x2) w'):wpAnyH P md ops Q S fuel listed a w:=h hk
theorem lM {P:Program} {md:Region.Mode} {ops:Array Oper} {Q:Exit→Act→World→Prop} {S:World→Prop} {fuel fuel2:Nat} {listed listed2:Array Bool} {a:Act} {w:World} (F:Nat→Nat→Nat→Nat→World→Prop) {A1:Nat→Nat→Nat→Nat→Act}
  (h:(∀x0 x1 x2 x3 w',F x0 x1 x2 x3 w'→S w'→wpAnyH P md ops Q S fuel2 listed2 (A1 x0 x1 x2 x3) w')→wpAnyH P md ops Q S fuel listed a w) (hk:∀x0 x1 x2 x3 w',F x0 x1 x2 x3 w'→S w'→wpAnyH P md ops Q S fuel2 listed2 (A1 x0 x1 x2 x3) w'):wpAnyH P md ops Q S fuel listed a w:=h hk
theorem mE {P:Program} {md:Region.Mode} {ops:Array Oper} {Q:Exit→Act→World→Prop} {S:World→Prop} {fuel fuel2:Nat} {listed listed2:Array Bool} {a:Act} {w:World} (F:Nat→Nat→Nat→Nat→Nat→Nat→Nat→Nat→Nat→World→Prop) {A1:Nat→Nat→Nat→Nat→Nat→Nat→Nat→Nat→Nat→Act}
  (h:(∀x0 x1 x2 x3 x4 x5 x6 x7 x8 w',F x0 x1 x2 x3 x4 x5 x6 x7 x8 w'→S w'→wpAnyH P md ops Q S fuel2 listed2 (A1 x0 x1 x2 x3 x4 x5 x6 x7 x8) w')→wpAnyH P md ops Q S fuel listed a w) (hk:∀x0 x1 x2 x3 x4 x5 x6 x7 x8 w',F x0 x1 x2 x3 x4 x5 x6 x7 x8 w'→S w'→wpAnyH P md ops Q S fuel2 listed2 (A1 x0 x1 x2 x3 x4 x5 x6 x7 x8) w'):wpAnyH P md ops Q S fuel listed a w:=h hk
theorem iE (w:World):Calls Tryz.prog 18 #[] w fun e w'=>∃u,e= .returned u∧FR w' w.heap.size u tunnelFl∧Below w.heap.size w w':=by
 obtain⟨iM,hiM,zM0,zM1,zM2⟩:=info_parts dO;obtain⟨iD,hiD,zD0,zD1,zD2⟩:=info_parts ez;obtain⟨iF,hiF,zF0,zF1,zF2⟩:=info_parts fh;go_enter Tryz.func18,Tryz.ntmps18;go_wp2_with fail
 refine(bo _ _ _).mono ?_;rintro e V0 ⟨rfl,hb0⟩;go_wp2_with fail
 obtain⟨W,hW⟩:∃W,W=V0.alloc (.cells #[.int .i64 0,.int .i64 65535,.int .i64 0] 82):=⟨_,rfl⟩;rw [←hW];obtain⟨tb,htb⟩:∃tb,tb=V0.heap.size:=⟨_,rfl⟩;have k0:W.cell? ⟨tb,0,none⟩=some (.int .i64 0):=zN2 hW htb rfl;have k1:W.cell? ⟨tb,1,none⟩=some (.int .i64 65535):=zN2 hW htb rfl;have k2:W.cell? ⟨tb,2,none⟩=some (.int .i64 0):=zN2 hW htb rfl;have htl:tb<W.heap.size:=by rw [hW,htb];simp
 have HB:Below w.heap.size w W:=by rw [hW];exact hb0.alloc hb0.size _
 rw [←htb];clear hW htb hb0;have hs0_2:=HB.size;refine wp_region_held_drew (S:=(fun w'=>w'.cell? ⟨tb,0,none⟩=some (.int .i64 0)∧w'.cell? ⟨tb,1,none⟩=some (.int .i64 65535)∧w'.cell? ⟨tb,2,none⟩=some (.int .i64 0))) (by kernel_rfl) ⟨k0,k1,k2⟩ (fun hHeld=>?_);have HDW:Below W.heap.size W W.drew:=(Below.refl _ _).drew;have hs1:=HDW.size;replace⟨k0,k1,k2⟩:=aR k0 k1 k2 HDW;replace HB:=zT HB HDW;clear HDW;generalize W.drew=V2 at*;refine sqA [(1,4),(8,11)] ?_;(iterate 2 (refine sqN rfl (by kernel_rfl) (fun _ _ _ h=>h) rfl ‹_› (by intro w h;go_simp <;>with_reducible rfl) ?_;simp only [nz]));refine sqZ ?_;apply mE (fun gA cA gL gB cB gD gE cE gM w'=>(w'.cell? ⟨tb,0,none⟩=some (.int .i64 0)∧w'.cell? ⟨tb,1,none⟩=some (.int .i64 65535)∧w'.cell? ⟨tb,2,none⟩=some (.int .i64 0))∧w'.ownsRow w.heap.size 82 3 (.slice (some ⟨gB,0,none⟩) 3 cB) 3 (M cv++M [isM 0 0])∧w'.ownsRow w.heap.size 85 3 (.slice (some ⟨gD,0,none⟩) 1 1) 1 (D [aW 4])∧w'.ownsRow w.heap.size 82 3 (.slice (some ⟨gE,0,none⟩) 3 cE) 3 (M (cP 2))∧w'.ownsRow w.heap.size 82 3 (.slice (some ⟨gM,0,none⟩) 1 1) 1 (M [isM 0 0])∧Below w.heap.size w w'∧tb≠gB∧tb≠gD∧tb≠gE∧tb≠gM∧gB≠gD∧gB≠gE∧gB≠gM∧gD≠gE∧gD≠gM∧gE≠gM)
 ·intro HK2;apply lM (fun gA cA gL gM w'=>(w'.cell? ⟨tb,0,none⟩=some (.int .i64 0)∧w'.cell? ⟨tb,1,none⟩=some (.int .i64 65535)∧w'.cell? ⟨tb,2,none⟩=some (.int .i64 0))∧w'.ownsRow w.heap.size 82 3 (.slice (some ⟨gA,0,none⟩) 2 cA) 2 (M cv)∧w'.ownsRow w.heap.size 82 3 (.slice (some ⟨gL,0,none⟩) 1 1) 1 (M [isM 0 0])∧w'.ownsRow w.heap.size 82 3 (.slice (some ⟨gM,0,none⟩) 1 1) 1 (M [isM 0 0])∧Below w.heap.size w w'∧tb≠gA∧tb≠gL∧tb≠gM∧gA≠gL∧gA≠gM∧gL≠gM)
  ·intro HK3;apply ll (fun gA cA gL w'=>(w'.cell? ⟨tb,0,none⟩=some (.int .i64 0)∧w'.cell? ⟨tb,1,none⟩=some (.int .i64 65535)∧w'.cell? ⟨tb,2,none⟩=some (.int .i64 0))∧w'.ownsRow w.heap.size 82 3 (.slice (some ⟨gA,0,none⟩) 2 cA) 2 (M cv)∧w'.ownsRow w.heap.size 82 3 (.slice (some ⟨gL,0,none⟩) 1 1) 1 (M [isM 0 0])∧Below w.heap.size w w'∧tb≠gA∧tb≠gL∧gA≠gL)
   ·intro HK1;have hHeld:=hHeld;refine wpAnyH_ready (rs:=[0,2,9]) (by kernel_rfl) (by simp) ?_;refine(AllReadyH.cons (o:=⟨some 3,_,_,_,_,_⟩) rfl (fun K hK=>?_) (AllReadyH.cons (o:=⟨some 5,_,_,_,_,_⟩) rfl (fun K hK=>?_) (AllReadyH.cons (o:=⟨some 12,_,_,_,_,_⟩) rfl (fun K hK=>?_) AllReadyH.nil)))
    ·go_simp;clear hHeld;have HBold:=HB.size;refine(bJ _).mono ?_;rintro e V3 ⟨u3,rfl,ho3,hb3⟩;have hs4:=hb3.size;replace⟨k0,k1,k2⟩:=aR k0 k1 k2 hb3;replace HB:=zT HB hb3;obtain⟨g5,c5,rfl,hg5,hl5⟩:=aP ho3 (by decide);have HA:=aa (aE ho3 (Nat.le_trans HBold zr));clear ho3 HBold;clear hb3;refine hK.out _ _ ⟨k0,k1,k2⟩ (fun hHeld=>?_);clear hK K;(try simp only [nz]);refine wpAnyH_ready (rs:=[2,9]) (by kernel_rfl) (by simp) ?_;refine(AllReadyH.cons (o:=⟨some 5,_,_,_,_,_⟩) rfl (fun K hK=>?_) (AllReadyH.cons (o:=⟨some 12,_,_,_,_,_⟩) rfl (fun K hK=>?_) AllReadyH.nil))
     ·go_simp;clear hHeld;refine ah (fun V6 g6 hV hg=>?_);rw [←hg];have hbN:=zB hV;have hg6:V3.heap.size≤g6:=(by omega);have hl6:=zL hV hg;have HL1:Hid (V6.ownsRow w.heap.size 82 3 (.slice (some ⟨g6,0,none⟩) 1 1) 1 (M [isM 0 0])):=zW hV hg HB.size (by decide) rfl;have hs7:=hbN.size;replace⟨k0,k1,k2⟩:=aR k0 k1 k2 hbN;replace HA:=zO HA hbN;replace HB:=zT HB hbN;clear hV hg hbN;refine hK.out _ _ ⟨k0,k1,k2⟩ (fun hHeld=>?_);clear hK K;(try simp only [nz]);exact HK1 g5 c5 g6 _ ⟨⟨k0,k1,k2⟩,HA.out,HL1.out,HB,by omega,by omega,by omega⟩ hHeld
     ·go_simp;clear hHeld;refine ah (fun V6 g6 hV hg=>?_);rw [←hg];have hbN:=zB hV;have hg6:V3.heap.size≤g6:=(by omega);have hl6:=zL hV hg;have HL2:Hid (V6.ownsRow w.heap.size 82 3 (.slice (some ⟨g6,0,none⟩) 1 1) 1 (M [isM 0 0])):=zW hV hg HB.size (by decide) rfl;have hs7:=hbN.size;replace⟨k0,k1,k2⟩:=aR k0 k1 k2 hbN;replace HA:=zO HA hbN;replace HB:=zT HB hbN;clear hV hg hbN;refine hK.out _ _ ⟨k0,k1,k2⟩ (fun hHeld=>?_);clear hK K;(try simp only [nz]);refine rs 2 5 (by kernel_rfl) rfl (fun K hK=>?_);go_simp;clear hHeld;refine ah (fun V8 g8 hV hg=>?_);rw [←hg];have hbN:=zB hV;have hg8:V6.heap.size≤g8:=(by omega);have hl8:=zL hV hg;have HL1:Hid (V8.ownsRow w.heap.size 82 3 (.slice (some ⟨g8,0,none⟩) 1 1) 1 (M [isM 0 0])):=zW hV hg HB.size (by decide) rfl;have hs9:=hbN.size;replace⟨k0,k1,k2⟩:=aR k0 k1 k2 hbN;replace HA:=zO HA hbN;replace HL2:=zO HL2 hbN;replace HB:=zT HB hbN;clear hV hg hbN;refine hK.out _ _ ⟨k0,k1,k2⟩ (fun hHeld=>?_);clear hK K;(try simp only [nz]);exact HK3 g5 c5 g8 g6 _ ⟨⟨k0,k1,k2⟩,HA.out,HL1.out,HL2.out,HB,by omega,by omega,by omega,by omega,by omega,by omega⟩ hHeld
    ·go_simp;clear hHeld;refine ah (fun V3 g3 hV hg=>?_);rw [←hg];have hbN:=zB hV;have hg3:V2.heap.size≤g3:=(by omega);have hl3:=zL hV hg;have HL1:Hid (V3.ownsRow w.heap.size 82 3 (.slice (some ⟨g3,0,none⟩) 1 1) 1 (M [isM 0 0])):=zW hV hg HB.size (by decide) rfl;have hs4:=hbN.size;replace⟨k0,k1,k2⟩:=aR k0 k1 k2 hbN;replace HB:=zT HB hbN;clear hV hg hbN;refine hK.out _ _ ⟨k0,k1,k2⟩ (fun hHeld=>?_);clear hK K;(try simp only [nz]);refine wpAnyH_ready (rs:=[0,9]) (by kernel_rfl) (by simp) ?_;refine(AllReadyH.cons (o:=⟨some 3,_,_,_,_,_⟩) rfl (fun K hK=>?_) (AllReadyH.cons (o:=⟨some 12,_,_,_,_,_⟩) rfl (fun K hK=>?_) AllReadyH.nil))
     ·go_simp;clear hHeld;have HBold:=HB.size;refine(bJ _).mono ?_;rintro e V5 ⟨u5,rfl,ho5,hb5⟩;have hs6:=hb5.size;replace⟨k0,k1,k2⟩:=aR k0 k1 k2 hb5;replace HL1:=zO HL1 hb5;replace HB:=zT HB hb5;obtain⟨g7,c7,rfl,hg7,hl7⟩:=aP ho5 (by decide);have HA:=aa (aE ho5 (Nat.le_trans HBold zr));clear ho5 HBold;clear hb5;refine hK.out _ _ ⟨k0,k1,k2⟩ (fun hHeld=>?_);clear hK K;(try simp only [nz]);exact HK1 g7 c7 g3 _ ⟨⟨k0,k1,k2⟩,HA.out,HL1.out,HB,by omega,by omega,by omega⟩ hHeld
     ·go_simp;clear hHeld;refine ah (fun V5 g5 hV hg=>?_);rw [←hg];have hbN:=zB hV;have hg5:V3.heap.size≤g5:=(by omega);have hl5:=zL hV hg;have HL2:Hid (V5.ownsRow w.heap.size 82 3 (.slice (some ⟨g5,0,none⟩) 1 1) 1 (M [isM 0 0])):=zW hV hg HB.size (by decide) rfl;have hs6:=hbN.size;replace⟨k0,k1,k2⟩:=aR k0 k1 k2 hbN;replace HL1:=zO HL1 hbN;replace HB:=zT HB hbN;clear hV hg hbN;refine hK.out _ _ ⟨k0,k1,k2⟩ (fun hHeld=>?_);clear hK K;(try simp only [nz]);refine rs 0 3 (by kernel_rfl) rfl (fun K hK=>?_);go_simp;clear hHeld;have HBold:=HB.size;refine(bJ _).mono ?_;rintro e V7 ⟨u7,rfl,ho7,hb7⟩;have hs8:=hb7.size;replace⟨k0,k1,k2⟩:=aR k0 k1 k2 hb7;replace HL1:=zO HL1 hb7;replace HL2:=zO HL2 hb7;replace HB:=zT HB hb7;obtain⟨g9,c9,rfl,hg9,hl9⟩:=aP ho7 (by decide);have HA:=aa (aE ho7 (Nat.le_trans HBold zr));clear ho7 HBold;clear hb7;refine hK.out _ _ ⟨k0,k1,k2⟩ (fun hHeld=>?_);clear hK K;(try simp only [nz]);exact HK3 g9 c9 g3 g5 _ ⟨⟨k0,k1,k2⟩,HA.out,HL1.out,HL2.out,HB,by omega,by omega,by omega,by omega,by omega,by omega⟩ hHeld
    ·go_simp;clear hHeld;refine ah (fun V3 g3 hV hg=>?_);rw [←hg];have hbN:=zB hV;have hg3:V2.heap.size≤g3:=(by omega);have hl3:=zL hV hg;have HL2:Hid (V3.ownsRow w.heap.size 82 3 (.slice (some ⟨g3,0,none⟩) 1 1) 1 (M [isM 0 0])):=zW hV hg HB.size (by decide) rfl;have hs4:=hbN.size;replace⟨k0,k1,k2⟩:=aR k0 k1 k2 hbN;replace HB:=zT HB hbN;clear hV hg hbN;refine hK.out _ _ ⟨k0,k1,k2⟩ (fun hHeld=>?_);clear hK K;(try simp only [nz]);refine wpAnyH_ready (rs:=[0,2]) (by kernel_rfl) (by simp) ?_;refine(AllReadyH.cons (o:=⟨some 3,_,_,_,_,_⟩) rfl (fun K hK=>?_) (AllReadyH.cons (o:=⟨some 5,_,_,_,_,_⟩) rfl (fun K hK=>?_) AllReadyH.nil))
     ·go_simp;clear hHeld;have HBold:=HB.size;refine(bJ _).mono ?_;rintro e V5 ⟨u5,rfl,ho5,hb5⟩;have hs6:=hb5.size;replace⟨k0,k1,k2⟩:=aR k0 k1 k2 hb5;replace HL2:=zO HL2 hb5;replace HB:=zT HB hb5;obtain⟨g7,c7,rfl,hg7,hl7⟩:=aP ho5 (by decide);have HA:=aa (aE ho5 (Nat.le_trans HBold zr));clear ho5 HBold;clear hb5;refine hK.out _ _ ⟨k0,k1,k2⟩ (fun hHeld=>?_);clear hK K;(try simp only [nz]);refine rs 2 5 (by kernel_rfl) rfl (fun K hK=>?_);go_simp;clear hHeld;refine ah (fun V8 g8 hV hg=>?_);rw [←hg];have hbN:=zB hV;have hg8:V5.heap.size≤g8:=(by omega);have hl8:=zL hV hg;have HL1:Hid (V8.ownsRow w.heap.size 82 3 (.slice (some ⟨g8,0,none⟩) 1 1) 1 (M [isM 0 0])):=zW hV hg HB.size (by decide) rfl;have hs9:=hbN.size;replace⟨k0,k1,k2⟩:=aR k0 k1 k2 hbN;replace HL2:=zO HL2 hbN;replace HA:=zO HA hbN;replace HB:=zT HB hbN;clear hV hg hbN;refine hK.out _ _ ⟨k0,k1,k2⟩ (fun hHeld=>?_);clear hK K;(try simp only [nz]);exact HK3 g7 c7 g8 g3 _ ⟨⟨k0,k1,k2⟩,HA.out,HL1.out,HL2.out,HB,by omega,by omega,by omega,by omega,by omega,by omega⟩ hHeld
     ·go_simp;clear hHeld;refine ah (fun V5 g5 hV hg=>?_);rw [←hg];have hbN:=zB hV;have hg5:V3.heap.size≤g5:=(by omega);have hl5:=zL hV hg;have HL1:Hid (V5.ownsRow w.heap.size 82 3 (.slice (some ⟨g5,0,none⟩) 1 1) 1 (M [isM 0 0])):=zW hV hg HB.size (by decide) rfl;have hs6:=hbN.size;replace⟨k0,k1,k2⟩:=aR k0 k1 k2 hbN;replace HL2:=zO HL2 hbN;replace HB:=zT HB hbN;clear hV hg hbN;refine hK.out _ _ ⟨k0,k1,k2⟩ (fun hHeld=>?_);clear hK K;(try simp only [nz]);refine rs 0 3 (by kernel_rfl) rfl (fun K hK=>?_);go_simp;clear hHeld;have HBold:=HB.size;refine(bJ _).mono ?_;rintro e V7 ⟨u7,rfl,ho7,hb7⟩;have hs8:=hb7.size;replace⟨k0,k1,k2⟩:=aR k0 k1 k2 hb7;replace HL2:=zO HL2 hb7;replace HL1:=zO HL1 hb7;replace HB:=zT HB hb7;obtain⟨g9,c9,rfl,hg9,hl9⟩:=aP ho7 (by decide);have HA:=aa (aE ho7 (Nat.le_trans HBold zr));clear ho7 HBold;clear hb7;refine hK.out _ _ ⟨k0,k1,k2⟩ (fun hHeld=>?_);clear hK K;(try simp only [nz]);exact HK3 g9 c9 g5 g3 _ ⟨⟨k0,k1,k2⟩,HA.out,HL1.out,HL2.out,HB,by omega,by omega,by omega,by omega,by omega,by omega⟩ hHeld
   ·intro gA cA gL V200 hF hHeld;obtain⟨⟨k0,k1,k2⟩,hHA,hHL1,HB,ne0,ne1,ne2⟩:=hF;have HA:=aa hHA;have HL1:=aa hHL1;have lHA:gA<V200.heap.size:=bB hHA rfl;have lHL1:gL<V200.heap.size:=bB hHL1 rfl;have gHA:w.heap.size≤gA:=aB hHA _ rfl;have gHL1:w.heap.size≤gL:=aB hHL1 _ rfl;clear hHA hHL1;have lk:=am k0;have hsz:=HB.size;have hHeld:=hHeld;refine wpAnyH_ready (rs:=[3,9]) (by kernel_rfl) (by simp) ?_;refine(AllReadyH.cons (o:=⟨some 6,_,_,_,_,_⟩) rfl (fun K hK=>?_) (AllReadyH.cons (o:=⟨some 12,_,_,_,_,_⟩) rfl (fun K hK=>?_) AllReadyH.nil))
    ·clear hHeld;refine step_append_lies _ rfl (.tmp 3) (.tmp 5) 74 rfl w.heap.size 82 iM _ 3 24 Tryz.underlying74 hiM zM0 zM1 zM2 rfl (by decide) (.slice (some ⟨gA,0,none⟩) 2 cA) 2 _ rfl (ae HA) ⟨gL,0,none⟩ 1 1 _ rfl rfl (HL1.out.cells rfl) (cQ _) (by decide) (by decide) (by decide) HB.size _ rfl ?_;intro g201 c201 V201 ho201 hgr ha hl201;replace hgr:V200.grownBy V201 (some gA):=hgr;replace ha:some gA=some g201∨g201=V200.heap.size:=ha;have hs201:=hgr.size;have hge201:g201=gA∨g201=V200.heap.size:=by rcases ha with h | h;exact .inl (Option.some.inj h).symm;exact .inr h
     replace⟨k0,k1,k2⟩:=rW hgr k0 k1 k2 (by omega);replace HB:=HB.grown hgr HB.size (fun k hk=>by cases hk;omega);clear HA HL1;have HA:=aa ho201;clear ho201 hgr ha;refine hK.out _ _ ⟨k0,k1,k2⟩ (fun hHeld=>?_);clear hK K;(try simp only [nz]);refine wpAnyH_ready (rs:=[4,9]) (by kernel_rfl) (by simp) ?_;refine(AllReadyH.cons (o:=⟨some 7,_,_,_,_,_⟩) rfl (fun K hK=>?_) (AllReadyH.cons (o:=⟨some 12,_,_,_,_,_⟩) rfl (fun K hK=>?_) AllReadyH.nil))
     ·go_simp;clear hHeld;refine(aQ _ _ _ _).mono ?_;rintro e V202 ⟨rfl,hb202⟩;have hs203:=hb202.size;replace⟨k0,k1,k2⟩:=aR k0 k1 k2 hb202;replace HA:=zO HA hb202;replace HB:=zT HB hb202;clear hb202;refine hK.out _ _ ⟨k0,k1,k2⟩ (fun hHeld=>?_);clear hK K;(try simp only [nz]);refine wpAnyH_ready (rs:=[5,9]) (by kernel_rfl) (by simp) ?_;refine(AllReadyH.cons (o:=⟨some 8,_,_,_,_,_⟩) rfl (fun K hK=>?_) (AllReadyH.cons (o:=⟨some 12,_,_,_,_,_⟩) rfl (fun K hK=>?_) AllReadyH.nil))
      ·go_simp;clear hHeld;refine ah (fun V204 g204 hV hg=>?_);rw [←hg];have hbN:=zB hV;have hg204:V202.heap.size≤g204:=(by omega);have hl204:=zL hV hg;have HD1:Hid (V204.ownsRow w.heap.size 85 3 (.slice (some ⟨g204,0,none⟩) 1 1) 1 (D [aW 4])):=zW hV hg HB.size (by decide) rfl;have hs205:=hbN.size;replace⟨k0,k1,k2⟩:=aR k0 k1 k2 hbN;replace HA:=zO HA hbN;replace HB:=zT HB hbN;clear hV hg hbN;refine hK.out _ _ ⟨k0,k1,k2⟩ (fun hHeld=>?_);clear hK K;(try simp only [nz]);refine wpAnyH_ready (rs:=[6,9]) (by kernel_rfl) (by simp) ?_;refine(AllReadyH.cons (o:=⟨some 9,_,_,_,_,_⟩) rfl (fun K hK=>?_) (AllReadyH.cons (o:=⟨some 12,_,_,_,_,_⟩) rfl (fun K hK=>?_) AllReadyH.nil))
       ·go_simp;clear hHeld;refine(aw _ _ _ _ _ _ _ _ _).mono ?_;rintro e V206 ⟨rfl,hb206⟩;have hs207:=hb206.size;replace⟨k0,k1,k2⟩:=aR k0 k1 k2 hb206;replace HA:=zO HA hb206;replace HD1:=zO HD1 hb206;replace HB:=zT HB hb206;clear hb206;refine hK.out _ _ ⟨k0,k1,k2⟩ (fun hHeld=>?_);clear hK K;(try simp only [nz]);refine wpAnyH_ready (rs:=[7,9]) (by kernel_rfl) (by simp) ?_;refine(AllReadyH.cons (o:=⟨some 10,_,_,_,_,_⟩) rfl (fun K hK=>?_) (AllReadyH.cons (o:=⟨some 12,_,_,_,_,_⟩) rfl (fun K hK=>?_) AllReadyH.nil))
        ·go_simp;clear hHeld;have HBold:=HB.size;refine(bw _ _).mono ?_;rintro e V208 ⟨u208,rfl,ho208,hb208⟩;have hs209:=hb208.size;replace⟨k0,k1,k2⟩:=aR k0 k1 k2 hb208;replace HA:=zO HA hb208;replace HD1:=zO HD1 hb208;replace HB:=zT HB hb208;obtain⟨g210,c210,rfl,hg210,hl210⟩:=aP ho208 (by decide);have HE:=aa (aE ho208 (Nat.le_trans HBold zr));clear ho208 HBold;clear hb208;refine hK.out _ _ ⟨k0,k1,k2⟩ (fun hHeld=>?_);clear hK K;(try simp only [nz]);refine rs 9 12 (by kernel_rfl) rfl (fun K hK=>?_);go_simp;clear hHeld;refine ah (fun V211 g211 hV hg=>?_);rw [←hg];have hbN:=zB hV;have hg211:V208.heap.size≤g211:=(by omega);have hl211:=zL hV hg;have HL2:Hid (V211.ownsRow w.heap.size 82 3 (.slice (some ⟨g211,0,none⟩) 1 1) 1 (M [isM 0 0])):=zW hV hg HB.size (by decide) rfl;have hs212:=hbN.size;replace⟨k0,k1,k2⟩:=aR k0 k1 k2 hbN;replace⟨HA,HD1,HE⟩:=dt HA HD1 HE hbN;replace HB:=zT HB hbN;clear hV hg hbN;refine hK.out _ _ ⟨k0,k1,k2⟩ (fun hHeld=>?_);clear hK K;(try simp only [nz]);exact HK2 gA cA gL g201 c201 g204 g210 c210 g211 _ ⟨⟨k0,k1,k2⟩,HA.out,HD1.out,HE.out,HL2.out,HB,by omega,by omega,by omega,by omega,by omega,by omega,by omega,by omega,by omega,by omega⟩ hHeld
        ·go_simp;clear hHeld;refine ah (fun V208 g208 hV hg=>?_);rw [←hg];have hbN:=zB hV;have hg208:V206.heap.size≤g208:=(by omega);have hl208:=zL hV hg;have HL2:Hid (V208.ownsRow w.heap.size 82 3 (.slice (some ⟨g208,0,none⟩) 1 1) 1 (M [isM 0 0])):=zW hV hg HB.size (by decide) rfl;have hs209:=hbN.size;replace⟨k0,k1,k2⟩:=aR k0 k1 k2 hbN;replace HA:=zO HA hbN;replace HD1:=zO HD1 hbN;replace HB:=zT HB hbN;clear hV hg hbN;refine hK.out _ _ ⟨k0,k1,k2⟩ (fun hHeld=>?_);clear hK K;(try simp only [nz]);refine rs 7 10 (by kernel_rfl) rfl (fun K hK=>?_);go_simp;clear hHeld;have HBold:=HB.size;refine(bw _ _).mono ?_;rintro e V210 ⟨u210,rfl,ho210,hb210⟩;have hs211:=hb210.size;replace⟨k0,k1,k2⟩:=aR k0 k1 k2 hb210;replace⟨HA,HD1,HL2⟩:=dt HA HD1 HL2 hb210;replace HB:=zT HB hb210;obtain⟨g212,c212,rfl,hg212,hl212⟩:=aP ho210 (by decide);have HE:=aa (aE ho210 (Nat.le_trans HBold zr));clear ho210 HBold;clear hb210;refine hK.out _ _ ⟨k0,k1,k2⟩ (fun hHeld=>?_);clear hK K;(try simp only [nz]);exact HK2 gA cA gL g201 c201 g204 g212 c212 g208 _ ⟨⟨k0,k1,k2⟩,HA.out,HD1.out,HE.out,HL2.out,HB,by omega,by omega,by omega,by omega,by omega,by omega,by omega,by omega,by omega,by omega⟩ hHeld
       ·go_simp;clear hHeld;refine ah (fun V206 g206 hV hg=>?_);rw [←hg];have hbN:=zB hV;have hg206:V204.heap.size≤g206:=(by omega);have hl206:=zL hV hg;have HL2:Hid (V206.ownsRow w.heap.size 82 3 (.slice (some ⟨g206,0,none⟩) 1 1) 1 (M [isM 0 0])):=zW hV hg HB.size (by decide) rfl;have hs207:=hbN.size;replace⟨k0,k1,k2⟩:=aR k0 k1 k2 hbN;replace HA:=zO HA hbN;replace HD1:=zO HD1 hbN;replace HB:=zT HB hbN;clear hV hg hbN;refine hK.out _ _ ⟨k0,k1,k2⟩ (fun hHeld=>?_);clear hK K;(try simp only [nz]);refine rs 6 9 (by kernel_rfl) rfl (fun K hK=>?_);go_simp;clear hHeld;refine(aw _ _ _ _ _ _ _ _ _).mono ?_;rintro e V208 ⟨rfl,hb208⟩;have hs209:=hb208.size;replace⟨k0,k1,k2⟩:=aR k0 k1 k2 hb208;replace⟨HA,HD1,HL2⟩:=dt HA HD1 HL2 hb208;replace HB:=zT HB hb208;clear hb208;refine hK.out _ _ ⟨k0,k1,k2⟩ (fun hHeld=>?_);clear hK K;(try simp only [nz]);refine rs 7 10 (by kernel_rfl) rfl (fun K hK=>?_);go_simp;clear hHeld;have HBold:=HB.size;refine(bw _ _).mono ?_;rintro e V210 ⟨u210,rfl,ho210,hb210⟩;have hs211:=hb210.size;replace⟨k0,k1,k2⟩:=aR k0 k1 k2 hb210;replace⟨HA,HD1,HL2⟩:=dt HA HD1 HL2 hb210;replace HB:=zT HB hb210;obtain⟨g212,c212,rfl,hg212,hl212⟩:=aP ho210 (by decide);have HE:=aa (aE ho210 (Nat.le_trans HBold zr));clear ho210 HBold;clear hb210;refine hK.out _ _ ⟨k0,k1,k2⟩ (fun hHeld=>?_);clear hK K;(try simp only [nz]);exact HK2 gA cA gL g201 c201 g204 g212 c212 g206 _ ⟨⟨k0,k1,k2⟩,HA.out,HD1.out,HE.out,HL2.out,HB,by omega,by omega,by omega,by omega,by omega,by omega,by omega,by omega,by omega,by omega⟩ hHeld
      ·go_simp;clear hHeld;refine ah (fun V204 g204 hV hg=>?_);rw [←hg];have hbN:=zB hV;have hg204:V202.heap.size≤g204:=(by omega);have hl204:=zL hV hg;have HL2:Hid (V204.ownsRow w.heap.size 82 3 (.slice (some ⟨g204,0,none⟩) 1 1) 1 (M [isM 0 0])):=zW hV hg HB.size (by decide) rfl;have hs205:=hbN.size;replace⟨k0,k1,k2⟩:=aR k0 k1 k2 hbN;replace HA:=zO HA hbN;replace HB:=zT HB hbN;clear hV hg hbN;refine hK.out _ _ ⟨k0,k1,k2⟩ (fun hHeld=>?_);clear hK K;(try simp only [nz]);refine rs 5 8 (by kernel_rfl) rfl (fun K hK=>?_);go_simp;clear hHeld;refine ah (fun V206 g206 hV hg=>?_);rw [←hg];have hbN:=zB hV;have hg206:V204.heap.size≤g206:=(by omega);have hl206:=zL hV hg;have HD1:Hid (V206.ownsRow w.heap.size 85 3 (.slice (some ⟨g206,0,none⟩) 1 1) 1 (D [aW 4])):=zW hV hg HB.size (by decide) rfl;have hs207:=hbN.size;replace⟨k0,k1,k2⟩:=aR k0 k1 k2 hbN;replace HA:=zO HA hbN;replace HL2:=zO HL2 hbN;replace HB:=zT HB hbN;clear hV hg hbN;refine hK.out _ _ ⟨k0,k1,k2⟩ (fun hHeld=>?_);clear hK K;(try simp only [nz]);refine rs 6 9 (by kernel_rfl) rfl (fun K hK=>?_);go_simp;clear hHeld;refine(aw _ _ _ _ _ _ _ _ _).mono ?_;rintro e V208 ⟨rfl,hb208⟩;have hs209:=hb208.size;replace⟨k0,k1,k2⟩:=aR k0 k1 k2 hb208;replace⟨HA,HL2,HD1⟩:=dt HA HL2 HD1 hb208;replace HB:=zT HB hb208;clear hb208;refine hK.out _ _ ⟨k0,k1,k2⟩ (fun hHeld=>?_);clear hK K;(try simp only [nz]);refine rs 7 10 (by kernel_rfl) rfl (fun K hK=>?_);go_simp;clear hHeld;have HBold:=HB.size;refine(bw _ _).mono ?_;rintro e V210 ⟨u210,rfl,ho210,hb210⟩;have hs211:=hb210.size;replace⟨k0,k1,k2⟩:=aR k0 k1 k2 hb210;replace⟨HA,HL2,HD1⟩:=dt HA HL2 HD1 hb210;replace HB:=zT HB hb210;obtain⟨g212,c212,rfl,hg212,hl212⟩:=aP ho210 (by decide);have HE:=aa (aE ho210 (Nat.le_trans HBold zr));clear ho210 HBold;clear hb210;refine hK.out _ _ ⟨k0,k1,k2⟩ (fun hHeld=>?_);clear hK K;(try simp only [nz]);exact HK2 gA cA gL g201 c201 g206 g212 c212 g204 _ ⟨⟨k0,k1,k2⟩,HA.out,HD1.out,HE.out,HL2.out,HB,by omega,by omega,by omega,by omega,by omega,by omega,by omega,by omega,by omega,by omega⟩ hHeld
     ·go_simp;clear hHeld;refine ah (fun V202 g202 hV hg=>?_);rw [←hg];have hbN:=zB hV;have hg202:V201.heap.size≤g202:=(by omega);have hl202:=zL hV hg;have HL2:Hid (V202.ownsRow w.heap.size 82 3 (.slice (some ⟨g202,0,none⟩) 1 1) 1 (M [isM 0 0])):=zW hV hg HB.size (by decide) rfl;have hs203:=hbN.size;replace⟨k0,k1,k2⟩:=aR k0 k1 k2 hbN;replace HA:=zO HA hbN;replace HB:=zT HB hbN;clear hV hg hbN;refine hK.out _ _ ⟨k0,k1,k2⟩ (fun hHeld=>?_);clear hK K;(try simp only [nz]);refine rs 4 7 (by kernel_rfl) rfl (fun K hK=>?_);go_simp;clear hHeld;refine(aQ _ _ _ _).mono ?_;rintro e V204 ⟨rfl,hb204⟩;have hs205:=hb204.size;replace⟨k0,k1,k2⟩:=aR k0 k1 k2 hb204;replace HA:=zO HA hb204;replace HL2:=zO HL2 hb204;replace HB:=zT HB hb204;clear hb204;refine hK.out _ _ ⟨k0,k1,k2⟩ (fun hHeld=>?_);clear hK K;(try simp only [nz]);refine rs 5 8 (by kernel_rfl) rfl (fun K hK=>?_);go_simp;clear hHeld;refine ah (fun V206 g206 hV hg=>?_);rw [←hg];have hbN:=zB hV;have hg206:V204.heap.size≤g206:=(by omega);have hl206:=zL hV hg;have HD1:Hid (V206.ownsRow w.heap.size 85 3 (.slice (some ⟨g206,0,none⟩) 1 1) 1 (D [aW 4])):=zW hV hg HB.size (by decide) rfl;have hs207:=hbN.size;replace⟨k0,k1,k2⟩:=aR k0 k1 k2 hbN;replace HA:=zO HA hbN;replace HL2:=zO HL2 hbN;replace HB:=zT HB hbN;clear hV hg hbN;refine hK.out _ _ ⟨k0,k1,k2⟩ (fun hHeld=>?_);clear hK K;(try simp only [nz]);refine rs 6 9 (by kernel_rfl) rfl (fun K hK=>?_);go_simp;clear hHeld;refine(aw _ _ _ _ _ _ _ _ _).mono ?_;rintro e V208 ⟨rfl,hb208⟩;have hs209:=hb208.size;replace⟨k0,k1,k2⟩:=aR k0 k1 k2 hb208;replace⟨HA,HL2,HD1⟩:=dt HA HL2 HD1 hb208;replace HB:=zT HB hb208;clear hb208;refine hK.out _ _ ⟨k0,k1,k2⟩ (fun hHeld=>?_);clear hK K;(try simp only [nz]);refine rs 7 10 (by kernel_rfl) rfl (fun K hK=>?_);go_simp;clear hHeld;have HBold:=HB.size;refine(bw _ _).mono ?_;rintro e V210 ⟨u210,rfl,ho210,hb210⟩;have hs211:=hb210.size;replace⟨k0,k1,k2⟩:=aR k0 k1 k2 hb210;replace⟨HA,HL2,HD1⟩:=dt HA HL2 HD1 hb210;replace HB:=zT HB hb210;obtain⟨g212,c212,rfl,hg212,hl212⟩:=aP ho210 (by decide);have HE:=aa (aE ho210 (Nat.le_trans HBold zr));clear ho210 HBold;clear hb210;refine hK.out _ _ ⟨k0,k1,k2⟩ (fun hHeld=>?_);clear hK K;(try simp only [nz]);exact HK2 gA cA gL g201 c201 g206 g212 c212 g202 _ ⟨⟨k0,k1,k2⟩,HA.out,HD1.out,HE.out,HL2.out,HB,by omega,by omega,by omega,by omega,by omega,by omega,by omega,by omega,by omega,by omega⟩ hHeld
    ·go_simp;clear hHeld;refine ah (fun V201 g201 hV hg=>?_);rw [←hg];have hbN:=zB hV;have hg201:V200.heap.size≤g201:=(by omega);have hl201:=zL hV hg;have HL2:Hid (V201.ownsRow w.heap.size 82 3 (.slice (some ⟨g201,0,none⟩) 1 1) 1 (M [isM 0 0])):=zW hV hg HB.size (by decide) rfl;have hs202:=hbN.size;replace⟨k0,k1,k2⟩:=aR k0 k1 k2 hbN;replace HA:=zO HA hbN;replace HL1:=zO HL1 hbN;replace HB:=zT HB hbN;clear hV hg hbN;refine hK.out _ _ ⟨k0,k1,k2⟩ (fun hHeld=>?_);clear hK K;(try simp only [nz]);exact HK3 gA cA gL g201 _ ⟨⟨k0,k1,k2⟩,HA.out,HL1.out,HL2.out,HB,by omega,by omega,by omega,by omega,by omega,by omega⟩ hHeld
  ·intro gA cA gL gM V300 hF hHeld;obtain⟨⟨k0,k1,k2⟩,hHA,hHL1,hHL2,HB,ne0,ne1,ne2,ne3,ne4,ne5⟩:=hF;have HA:=aa hHA;have HL1:=aa hHL1;have HL2:=aa hHL2;have lHA:gA<V300.heap.size:=bB hHA rfl;have lHL1:gL<V300.heap.size:=bB hHL1 rfl;have lHL2:gM<V300.heap.size:=bB hHL2 rfl;have gHA:w.heap.size≤gA:=aB hHA _ rfl;have gHL1:w.heap.size≤gL:=aB hHL1 _ rfl;have gHL2:w.heap.size≤gM:=aB hHL2 _ rfl;clear hHA hHL1 hHL2;have lk:=am k0;have hsz:=HB.size;have hHeld:=hHeld;refine rs 3 6 (by kernel_rfl) rfl (fun K hK=>?_);clear hHeld;refine step_append_lies _ rfl (.tmp 3) (.tmp 5) 74 rfl w.heap.size 82 iM _ 3 24 Tryz.underlying74 hiM zM0 zM1 zM2 rfl (by decide) (.slice (some ⟨gA,0,none⟩) 2 cA) 2 _ rfl (ae HA) ⟨gL,0,none⟩ 1 1 _ rfl rfl (HL1.out.cells rfl) (cQ _) (by decide) (by decide) (by decide) HB.size _ rfl ?_;intro g301 c301 V301 ho301 hgr ha hl301;replace hgr:V300.grownBy V301 (some gA):=hgr;replace ha:some gA=some g301∨g301=V300.heap.size:=ha;have hs301:=hgr.size;have hge301:g301=gA∨g301=V300.heap.size:=by rcases ha with h | h;exact .inl (Option.some.inj h).symm;exact .inr h
   replace⟨k0,k1,k2⟩:=rW hgr k0 k1 k2 (by omega);replace HL2:=aa (bQ hgr HL2.out (by omega));replace HB:=HB.grown hgr HB.size (fun k hk=>by cases hk;omega);clear HA HL1;have HA:=aa ho301;clear ho301 hgr ha;refine hK.out _ _ ⟨k0,k1,k2⟩ (fun hHeld=>?_);clear hK K;(try simp only [nz]);refine rs 4 7 (by kernel_rfl) rfl (fun K hK=>?_);go_simp;clear hHeld;refine(aQ _ _ _ _).mono ?_;rintro e V302 ⟨rfl,hb302⟩;have hs303:=hb302.size;replace⟨k0,k1,k2⟩:=aR k0 k1 k2 hb302;replace HL2:=zO HL2 hb302;replace HA:=zO HA hb302;replace HB:=zT HB hb302;clear hb302;refine hK.out _ _ ⟨k0,k1,k2⟩ (fun hHeld=>?_);clear hK K;(try simp only [nz]);refine rs 5 8 (by kernel_rfl) rfl (fun K hK=>?_);go_simp;clear hHeld;refine ah (fun V304 g304 hV hg=>?_);rw [←hg];have hbN:=zB hV;have hg304:V302.heap.size≤g304:=(by omega);have hl304:=zL hV hg;have HD1:Hid (V304.ownsRow w.heap.size 85 3 (.slice (some ⟨g304,0,none⟩) 1 1) 1 (D [aW 4])):=zW hV hg HB.size (by decide) rfl;have hs305:=hbN.size;replace⟨k0,k1,k2⟩:=aR k0 k1 k2 hbN;replace HL2:=zO HL2 hbN;replace HA:=zO HA hbN;replace HB:=zT HB hbN;clear hV hg hbN;refine hK.out _ _ ⟨k0,k1,k2⟩ (fun hHeld=>?_);clear hK K;(try simp only [nz]);refine rs 6 9 (by kernel_rfl) rfl (fun K hK=>?_);go_simp;clear hHeld;refine(aw _ _ _ _ _ _ _ _ _).mono ?_;rintro e V306 ⟨rfl,hb306⟩;have hs307:=hb306.size;replace⟨k0,k1,k2⟩:=aR k0 k1 k2 hb306;replace⟨HL2,HA,HD1⟩:=dt HL2 HA HD1 hb306;replace HB:=zT HB hb306;clear hb306;refine hK.out _ _ ⟨k0,k1,k2⟩ (fun hHeld=>?_);clear hK K;(try simp only [nz]);refine rs 7 10 (by kernel_rfl) rfl (fun K hK=>?_);go_simp;clear hHeld;have HBold:=HB.size;refine(bw _ _).mono ?_;rintro e V308 ⟨u308,rfl,ho308,hb308⟩;have hs309:=hb308.size;replace⟨k0,k1,k2⟩:=aR k0 k1 k2 hb308;replace⟨HL2,HA,HD1⟩:=dt HL2 HA HD1 hb308;replace HB:=zT HB hb308;obtain⟨g310,c310,rfl,hg310,hl310⟩:=aP ho308 (by decide);have HE:=aa (aE ho308 (Nat.le_trans HBold zr));clear ho308 HBold;clear hb308;refine hK.out _ _ ⟨k0,k1,k2⟩ (fun hHeld=>?_);clear hK K;(try simp only [nz]);exact HK2 gA cA gL g301 c301 g304 g310 c310 gM _ ⟨⟨k0,k1,k2⟩,HA.out,HD1.out,HE.out,HL2.out,HB,by omega,by omega,by omega,by omega,by omega,by omega,by omega,by omega,by omega,by omega⟩ hHeld
 ·intro gA cA gL gB cB gD gE cE gM V400 hF hHeld;obtain⟨⟨k0,k1,k2⟩,hHA,hHD1,hHE,hHL2,HB,ne0,ne1,ne2,ne3,ne4,ne5,ne6,ne7,ne8,ne9⟩:=hF;have HA:=aa hHA;have HD1:=aa hHD1;have HE:=aa hHE;have HL2:=aa hHL2;have lHA:gB<V400.heap.size:=bB hHA rfl;have lHD1:gD<V400.heap.size:=bB hHD1 rfl;have lHE:gE<V400.heap.size:=bB hHE rfl;have lHL2:gM<V400.heap.size:=bB hHL2 rfl;have gHA:w.heap.size≤gB:=aB hHA _ rfl;have gHD1:w.heap.size≤gD:=aB hHD1 _ rfl;have gHE:w.heap.size≤gE:=aB hHE _ rfl;have gHL2:w.heap.size≤gM:=aB hHL2 _ rfl;clear hHA hHD1 hHE hHL2;have lk:=am k0;have hsz:=HB.size;refine rs 10 13 (by kernel_rfl) rfl (fun K hK=>?_);clear hHeld;refine step_append_lies _ rfl (.tmp 10) (.tmp 12) 74 rfl w.heap.size 82 iM _ 3 24 Tryz.underlying74 hiM zM0 zM1 zM2 rfl (by decide) (.slice (some ⟨gE,0,none⟩) 3 cE) 3 _ rfl (ae HE) ⟨gM,0,none⟩ 1 1 _ rfl rfl (HL2.out.cells rfl) (cQ _) (by decide) (by decide) (by decide) HB.size _ rfl ?_;intro g401 c401 V401 ho401 hgr ha hl401;replace hgr:V400.grownBy V401 (some gE):=hgr;replace ha:some gE=some g401∨g401=V400.heap.size:=ha;have hs401:=hgr.size;have hge401:g401=gE∨g401=V400.heap.size:=by rcases ha with h | h;exact .inl (Option.some.inj h).symm;exact .inr h
  replace⟨k0,k1,k2⟩:=rW hgr k0 k1 k2 (by omega);replace HA:=aa (bQ hgr HA.out (by omega));replace HD1:=aa (bQ hgr HD1.out (by omega));replace HB:=HB.grown hgr HB.size (fun k hk=>by cases hk;omega);clear HE HL2;have HE:=aa ho401;clear ho401 hgr ha;refine hK.out _ _ ⟨k0,k1,k2⟩ (fun hHeld=>?_);clear hK K;(try simp only [nz]);refine rs 11 14 (by kernel_rfl) rfl (fun K hK=>?_);go_simp;clear hHeld;refine(aQ _ _ _ _).mono ?_;rintro e V402 ⟨rfl,hb402⟩;have hs403:=hb402.size;replace⟨k0,k1,k2⟩:=aR k0 k1 k2 hb402;replace⟨HA,HD1,HE⟩:=dt HA HD1 HE hb402;replace HB:=zT HB hb402;clear hb402;refine hK.out _ _ ⟨k0,k1,k2⟩ (fun hHeld=>?_);clear hK K;(try simp only [nz]);refine rs 12 15 (by kernel_rfl) rfl (fun K hK=>?_);go_simp;clear hHeld;refine ah (fun V404 g404 hV hg=>?_);rw [←hg];have hbN:=zB hV;have hg404:V402.heap.size≤g404:=(by omega);have hl404:=zL hV hg;have HD2:Hid (V404.ownsRow w.heap.size 85 3 (.slice (some ⟨g404,0,none⟩) 1 1) 1 (D [aW 5])):=zW hV hg HB.size (by decide) rfl;have hs405:=hbN.size;replace⟨k0,k1,k2⟩:=aR k0 k1 k2 hbN;replace⟨HA,HD1,HE⟩:=dt HA HD1 HE hbN;replace HB:=zT HB hbN;clear hV hg hbN;refine hK.out _ _ ⟨k0,k1,k2⟩ (fun hHeld=>?_);clear hK K;(try simp only [nz]);refine rs 13 16 (by kernel_rfl) rfl (fun K hK=>?_);go_simp;clear hHeld;refine(aw _ _ _ _ _ _ _ _ _).mono ?_;rintro e V406 ⟨rfl,hb406⟩;have hs407:=hb406.size;replace⟨k0,k1,k2⟩:=aR k0 k1 k2 hb406;replace⟨HA,HD1,HE,HD2⟩:=fE HA HD1 HE HD2 hb406;replace HB:=zT HB hb406;clear hb406;refine hK.out _ _ ⟨k0,k1,k2⟩ (fun hHeld=>?_);clear hK K;(try simp only [nz]);refine rs 14 17 (by kernel_rfl) rfl (fun K hK=>?_);go_simp;clear hHeld;refine ah (fun V408 g408 hV hg=>?_);rw [←hg];have hbN:=zB hV;have hg408:V406.heap.size≤g408:=(by omega);have hl408:=zL hV hg;have HF:Hid (FR V408 w.heap.size (.slice (some ⟨g408,0,none⟩) 2 2) (tunnelFl)):=by
   rw [hV,hg];refine aa (FR.lit (lo:=[⟨⟨0,0,cv++ [isM 0 0],[aW 4]⟩,.slice (some ⟨gB,0,none⟩) 3 cB,.slice (some ⟨gD,0,none⟩) 1 1⟩,⟨⟨0,0,cP 2++ [isM 0 0],[aW 5]⟩,.slice (some ⟨g401,0,none⟩) 4 c401,.slice (some ⟨g404,0,none⟩) 1 1⟩]) rfl rfl HB.size (by decide) (fun x hx=>?_));simp only [List.mem_cons,List.not_mem_nil,or_false]at hx;rcases hx with rfl | rfl
   ·exact aS HA.out HD1.out (by simp [Value.ownBlock])
   ·exact aS HE.out HD2.out (by simp [Value.ownBlock])
  have hs409:=hbN.size;replace⟨k0,k1,k2⟩:=aR k0 k1 k2 hbN;replace⟨HA,HD1,HE,HD2⟩:=fE HA HD1 HE HD2 hbN;replace HB:=zT HB hbN;clear hV hg hbN;refine hK.out _ _ ⟨k0,k1,k2⟩ (fun hHeld=>?_);clear hK K;(try simp only [nz]);refine tq 15 0 rfl (by kernel_rfl) (fun _ _ _ h=>h) rfl ‹_› (by intro w h;go_simp <;>with_reducible rfl) ?_;simp only [nz];refine wpAnyH_done (by kernel_rfl) ?_ _;clear hHeld;go_wp2_with fail
  go_ret;exact⟨_,rfl,HF.out,HB⟩
theorem m5 (l:List Pr) (p:Pr→Bool) (v:Value) (f:Nat) (cs:Array Value) (w:World) (hF:dC w v l) (hT:PicksPr w f cs p) (hE:br f) (hl:l.length*40≤140737488355328):
  Calls Tryz.prog 52 #[v,.func (.func f) #[] cs] w fun e w'=>e= .returned (.int .i64 (idx p l))∧Below w.heap.size w w':=by
 have HF:=aa hF;have HT:=aa hT;have HEN:=aa hE;obtain⟨a,cap,rfl⟩:=hF.slice;clear hF hT hE;go_enter Tryz.func52,Tryz.ntmps52;go_wp2_with fail
 go_loopw [8] (fun i wr=>∃k:Nat,k≤l.length∧i= .int .i64 k∧Hid (∀j,j<k→p (l.getD j pr0)=false)∧Below w.heap.size w wr) (fun i _=>l.length-(intOf i).toNat)
 case atStart=>exact⟨0,by omega,rfl,aa (fun j h=>absurd h (by omega)),Below.refl _ _⟩
 case round=>
  obtain⟨k,hk,rfl,HALL,hbr⟩:=hrel;by_cases hlt:k<l.length
  ·obtain⟨b,off,cap',e1,hcap, -,g0,g1,g2,g3,g4⟩:=eZ (RowAt.below HF.out hbr zr) hlt;simp only [Value.slice.injEq,true_and]at e1;obtain⟨rfl,rfl⟩:=e1;have HST:Hid (∀W:World,Below w.heap.size w W→Calls Tryz.prog f (#[.agg #[.int .i64 (l.getD k pr0).i,.int .i64 (l.getD k pr0).s,.int .i64 (l.getD k pr0).m,.int .i64 (l.getD k pr0).p,.int .i64 (l.getD k pr0).c]]++cs) W fun e w'=>e= .returned (.bool (p (l.getD k pr0)))∧Below W.heap.size W w'):=fun W hW=>HT.out W _ hW;have HNX:Hid (p (l.getD k pr0)=false→∀j,j<k+1→p (l.getD j pr0)=false):=fun h j hj=>by
    by_cases e:j=k
    ·subst e;exact h
    ·exact HALL.out j (by omega)
   have HFD:Hid (p (l.getD k pr0)=true→idx p l=k):=fun h=>fu pr0 hlt HALL.out h;generalize p (l.getD k pr0)=R at*;generalize (l.getD k pr0).i=y0 at*;generalize (l.getD k pr0).s=y1 at*;generalize (l.getD k pr0).m=y2 at*;generalize (l.getD k pr0).p=y3 at*;generalize (l.getD k pr0).c=y4 at*;have q1:(0:Int)≤(k:Int):=(by omega);have q2:(k:Int)<(l.length:Int):=(by omega);clear HALL;go_wp2_with fail
   rw [ae HEN];refine(ae HST _ ?_).mono ?_
   ·first | exact hbr | exact hbr.drew | exact⟨hbr.os,hbr.tape,hbr.output,hbr.size,hbr.block⟩
   rintro e w1 ⟨rfl,hb1⟩;have HB1:Hid (Below w.heap.size w w1):=hbr.trans (hb1.mono hbr.size);clear hb1 hbr HST g0 g1 g2 g3 g4;cases R
   ·have HN:=aa (HNX.out rfl);clear HNX HFD;go_wp2_with fail
    go_roundw
    case rel=>exact⟨k+1,by omega,by go_num,HN,HB1.out⟩
    case measure=>simp [intOf];omega
   ·have HN:=aa (HFD.out rfl);clear HNX HFD;go_wp2_with fail
    go_ret;exact⟨ap HN.out.symm,HB1.out⟩
  ·have HN:Hid (idx p l= -1):=fg pr0 fun i hi=>HALL.out i (by omega);have HB1:=aa hbr;clear HALL hbr;go_wp2_with fail
   go_ret;exact⟨ap HN.out.symm,HB1.out⟩
theorem na (l:List Pr) (p:Pr→Bool) (v:Value) (f:Nat) (cs:Array Value) (w:World) (hF:dC w v l) (hT:PicksPr w f cs p) (hE:br f) (hl:l.length*40≤140737488355328):
  Calls Tryz.prog 22 #[v,.func (.func f) #[] cs] w fun e w'=>e= .returned (.bool (l.any p))∧Below w.heap.size w w':=by
 have HI:=aa (m5 l p v f cs w hF hT hE hl);have HA:=aa (dL p l);obtain⟨a,cap,rfl⟩:=hF.slice;clear hF hT hE;generalize idx p l=I at*;go_enter Tryz.func22,Tryz.ntmps22;go_wp2_with fail
 refine(ae HI).mono ?_;rintro e w1 ⟨rfl,hb1⟩;go_wp2_with fail
 go_ret;exact⟨aC HA.out,hb1⟩
theorem nD (l:List Sw) (p:Sw→Bool) (v:Value) (f:Nat) (cs:Array Value) (w:World) (hF:cZ w v l) (hT:gr w f cs p) (hE:br f) (hl:l.length*24≤140737488355328):
  Calls Tryz.prog 125 #[v,.func (.func f) #[] cs] w fun e w'=>e= .returned (.int .i64 (idx p l))∧Below w.heap.size w w':=by
 have HF:=aa hF;have HT:=aa hT;have HEN:=aa hE;obtain⟨a,cap,rfl⟩:=hF.slice;clear hF hT hE;go_enter Tryz.func125,Tryz.ntmps125;go_wp2_with fail
 go_loopw [8] (fun i wr=>∃k:Nat,k≤l.length∧i= .int .i64 k∧Hid (∀j,j<k→p (l.getD j sw0)=false)∧Below w.heap.size w wr) (fun i _=>l.length-(intOf i).toNat)
 case atStart=>exact⟨0,by omega,rfl,aa (fun j h=>absurd h (by omega)),Below.refl _ _⟩
 case round=>
  obtain⟨k,hk,rfl,HALL,hbr⟩:=hrel;by_cases hlt:k<l.length
  ·obtain⟨b,off,cap',e1,hcap, -,g0,g1,g2⟩:=iu (RowAt.below HF.out hbr zr) hlt;simp only [Value.slice.injEq,true_and]at e1;obtain⟨rfl,rfl⟩:=e1;have HST:Hid (∀W:World,Below w.heap.size w W→Calls Tryz.prog f (#[.agg #[.int .i64 (l.getD k sw0).i,.int .i64 (l.getD k sw0).t,.int .i64 (l.getD k sw0).g]]++cs) W fun e w'=>e= .returned (.bool (p (l.getD k sw0)))∧Below W.heap.size W w'):=fun W hW=>HT.out W _ hW;have HNX:Hid (p (l.getD k sw0)=false→∀j,j<k+1→p (l.getD j sw0)=false):=fun h j hj=>by
    by_cases e:j=k
    ·subst e;exact h
    ·exact HALL.out j (by omega)
   have HFD:Hid (p (l.getD k sw0)=true→idx p l=k):=fun h=>fu sw0 hlt HALL.out h;generalize p (l.getD k sw0)=R at*;generalize (l.getD k sw0).i=y0 at*;generalize (l.getD k sw0).t=y1 at*;generalize (l.getD k sw0).g=y2 at*;have q1:(0:Int)≤(k:Int):=(by omega);have q2:(k:Int)<(l.length:Int):=(by omega);clear HALL;go_wp2_with fail
   rw [ae HEN];refine(ae HST _ ?_).mono ?_
   ·first | exact hbr | exact hbr.drew | exact⟨hbr.os,hbr.tape,hbr.output,hbr.size,hbr.block⟩
   rintro e w1 ⟨rfl,hb1⟩;have HB1:Hid (Below w.heap.size w w1):=hbr.trans (hb1.mono hbr.size);clear hb1 hbr HST g0 g1 g2;cases R
   ·have HN:=aa (HNX.out rfl);clear HNX HFD;go_wp2_with fail
    go_roundw
    case rel=>exact⟨k+1,by omega,by go_num,HN,HB1.out⟩
    case measure=>simp [intOf];omega
   ·have HN:=aa (HFD.out rfl);clear HNX HFD;go_wp2_with fail
    go_ret;exact⟨ap HN.out.symm,HB1.out⟩
  ·have HN:Hid (idx p l= -1):=fg sw0 fun i hi=>HALL.out i (by omega);have HB1:=aa hbr;clear HALL hbr;go_wp2_with fail
   go_ret;exact⟨ap HN.out.symm,HB1.out⟩
theorem np (l:List Sw) (p:Sw→Bool) (v:Value) (f:Nat) (cs:Array Value) (w:World) (hF:cZ w v l) (hT:gr w f cs p) (hE:br f) (hl:l.length*24≤140737488355328):
  Calls Tryz.prog 136 #[v,.func (.func f) #[] cs] w fun e w'=>e= .returned (.bool (l.any p))∧Below w.heap.size w w':=by
 have HI:=aa (nD l p v f cs w hF hT hE hl);have HA:=aa (dL p l);obtain⟨a,cap,rfl⟩:=hF.slice;clear hF hT hE;generalize idx p l=I at*;go_enter Tryz.func136,Tryz.ntmps136;go_wp2_with fail
 refine(ae HI).mono ?_;rintro e w1 ⟨rfl,hb1⟩;go_wp2_with fail
 go_ret;exact⟨aC HA.out,hb1⟩
theorem pM:br 17:=fun args W=>by
 unfold callFunc;simp [Tryz.func17,Tryz.f17]
theorem ri:br 21:=fun args W=>by
 unfold callFunc;simp [Tryz.func21,Tryz.f21]
theorem gc:br 53:=fun args W=>by
 unfold callFunc;simp [Tryz.func53,Tryz.f53]
theorem jn:br 96:=fun args W=>by
 unfold callFunc;simp [Tryz.func96,Tryz.f96]
theorem iY:br 132:=fun args W=>by
 unfold callFunc;simp [Tryz.func132,Tryz.f132]
theorem nB:br 94:=fun args W=>by
 unfold callFunc;simp [Tryz.func94,Tryz.f94]
theorem nw:br 135:=fun args W=>by
 unfold callFunc;simp [Tryz.func135,Tryz.f135]
theorem lq:br 137:=fun args W=>by
 unfold callFunc;simp [Tryz.func137,Tryz.f137]
theorem oz:br 106:=fun args W=>by
 unfold callFunc;simp [Tryz.func106,Tryz.f106]
theorem oA (x:Pr) (ch:Int) (b:Nat) (w:World) (h:w.cell? ⟨b,0,none⟩=some (.int .i64 ch)):
  Calls Tryz.prog 17 #[.agg #[.int .i64 x.i,.int .i64 x.s,.int .i64 x.m,.int .i64 x.p,.int .i64 x.c],.pointer (some ⟨b,0,none⟩)] w fun e w'=>e= .returned (.bool (cl ch x))∧Below w.heap.size w w':=by
 have lh:=am h;have nh:b≠w.heap.size:=by omega
 go_enter Tryz.func17,Tryz.ntmps17;go_wp2
 all_goals go_ret
 all_goals exact⟨aC (by unfold cl;rw [Bool.eq_iff_iff] <;>simp_all),(Below.refl _ _).alloc zr _⟩
theorem m9 {ch:Int} {b:Nat} {w:World} (h:w.cell? ⟨b,0,none⟩=some (.int .i64 ch)):PicksPr w 17 #[.pointer (some ⟨b,0,none⟩)] (cl ch):=
 fun W x hW=>oA x ch b W (zC h hW)
theorem oP (x:Pr) (s:Int) (b:Nat) (w:World) (h:w.cell? ⟨b,0,none⟩=some (.int .i64 s)):
  Calls Tryz.prog 53 #[.agg #[.int .i64 x.i,.int .i64 x.s,.int .i64 x.m,.int .i64 x.p,.int .i64 x.c],.pointer (some ⟨b,0,none⟩)] w fun e w'=>e= .returned (.bool (cn s x))∧Below w.heap.size w w':=by
 have lh:=am h;have nh:b≠w.heap.size:=by omega
 go_enter Tryz.func53,Tryz.ntmps53;go_wp2
 all_goals go_ret
 all_goals exact⟨aC (by unfold cn;rw [Bool.eq_iff_iff] <;>simp_all),(Below.refl _ _).alloc zr _⟩
theorem eN {s:Int} {b:Nat} {w:World} (h:w.cell? ⟨b,0,none⟩=some (.int .i64 s)):PicksPr w 53 #[.pointer (some ⟨b,0,none⟩)] (cn s):=
 fun W x hW=>oP x s b W (zC h hW)
theorem mq (x:Pr) (i s:Int) (b:Nat) (w:World) (h:w.cell? ⟨b,0,none⟩=some (.int .i64 i)) (h1:w.cell? ⟨b,1,none⟩=some (.int .i64 s)):
  Calls Tryz.prog 94 #[.agg #[.int .i64 x.i,.int .i64 x.s,.int .i64 x.m,.int .i64 x.p,.int .i64 x.c],.pointer (some ⟨b,0,none⟩)] w fun e w'=>e= .returned (.bool (x.s==s&& !(x.i==i)))∧Below w.heap.size w w':=by
 have lh:=am h;have nh:b≠w.heap.size:=by omega
 go_enter Tryz.func94,Tryz.ntmps94;go_wp2
 all_goals go_ret
 all_goals exact⟨aC (by rw [Bool.eq_iff_iff] <;>simp_all),(Below.refl _ _).alloc zr _⟩
theorem kZ {i s:Int} {b:Nat} {w:World} (h:w.cell? ⟨b,0,none⟩=some (.int .i64 i)) (h1:w.cell? ⟨b,1,none⟩=some (.int .i64 s)):PicksPr w 94 #[.pointer (some ⟨b,0,none⟩)] (fun x=>x.s==s&& !(x.i==i)):=
 fun W x hW=>mq x i s b W (zC h hW) (zC h1 hW)
theorem mF (x:Sw) (s t:Int) (b c:Nat) (w:World) (h:w.cell? ⟨b,1,none⟩=some (.int .i64 s)) (h1:w.cell? ⟨c,0,none⟩=some (.int .i64 t)):
  Calls Tryz.prog 137 #[.agg #[.int .i64 x.i,.int .i64 x.t,.int .i64 x.g],.pointer (some ⟨b,0,none⟩),.pointer (some ⟨c,0,none⟩)] w fun e w'=>e= .returned (.bool (x.i==s&&x.t==t&& !(x.g==0)))∧Below w.heap.size w w':=by
 have lh:=am h;have nh:b≠w.heap.size:=by omega
 have lh1:=am h1;have nh1:c≠w.heap.size:=by omega
 go_enter Tryz.func137,Tryz.ntmps137;go_wp2
 all_goals go_ret
 all_goals exact⟨aC (by rw [Bool.eq_iff_iff] <;>simp_all),(Below.refl _ _).alloc zr _⟩
theorem jO {s t:Int} {b c:Nat} {w:World} (h:w.cell? ⟨b,1,none⟩=some (.int .i64 s)) (h1:w.cell? ⟨c,0,none⟩=some (.int .i64 t)):gr w 137 #[.pointer (some ⟨b,0,none⟩),.pointer (some ⟨c,0,none⟩)] (fun x=>x.i==s&&x.t==t&& !(x.g==0)):=
 fun W x hW=>mF x s t b c W (zC h hW) (zC h1 hW)
theorem nq (x:Ac) (s:Int) (inn:Bool) (b c:Nat) (w:World) (h:w.cell? ⟨b,0,none⟩=some (.int .i64 s)) (h1:w.cell? ⟨c,0,none⟩=some (.bool inn)):
  Calls Tryz.prog 106 #[.agg #[.int .i64 x.s,.int .i64 x.p,.bool x.n,.int .i64 x.src,.int .i64 x.sb,.int .i64 x.dst,.int .i64 x.db,.int .i64 x.o,.bool x.d],.pointer (some ⟨b,0,none⟩),.pointer (some ⟨c,0,none⟩)] w fun e w'=>e= .returned (.bool (x.s==s&&x.n==inn))∧Below w.heap.size w w':=by
 have lh:=am h;have nh:b≠w.heap.size:=by omega
 have lh1:=am h1;have nh1:c≠w.heap.size:=by omega
 go_enter Tryz.func106,Tryz.ntmps106;go_wp2
 all_goals go_ret
 all_goals exact⟨aC (by rw [Bool.eq_iff_iff] <;>simp_all),(Below.refl _ _).alloc zr _⟩
theorem lX {s:Int} {inn:Bool} {b c:Nat} {w:World} (h:w.cell? ⟨b,0,none⟩=some (.int .i64 s)) (h1:w.cell? ⟨c,0,none⟩=some (.bool inn)):nP w 106 #[.pointer (some ⟨b,0,none⟩),.pointer (some ⟨c,0,none⟩)] (fun x=>x.s==s&&x.n==inn):=
 fun W x hW=>nq x s inn b c W (zC h hW) (zC h1 hW)
theorem jH (x:Pr) (w:World):Calls Tryz.prog 96 #[.agg #[.int .i64 x.i,.int .i64 x.s,.int .i64 x.m,.int .i64 x.p,.int .i64 x.c]] w fun e w'=>e= .returned (.bool (bg x))∧Below w.heap.size w w':=by
 go_enter Tryz.func96,Tryz.ntmps96;go_wp2
 all_goals go_ret
 all_goals exact⟨aC (by unfold bg;rw [Bool.eq_iff_iff] <;>simp_all),(Below.refl _ _).alloc zr _⟩
theorem fO (w:World):PicksPr w 96 #[] bg:=fun W x _=>jH x W
theorem fB (x:Sw) (w:World):Calls Tryz.prog 23 #[.agg #[.int .i64 x.i,.int .i64 x.t,.int .i64 x.g]] w fun e w'=>∃b,e= .returned (.func (.func 53) #[] #[.pointer (some ⟨b,0,none⟩)])∧w'.cell? ⟨b,0,none⟩=some (.int .i64 x.i)∧Below w.heap.size w w':=by
 go_enter Tryz.func23,Tryz.ntmps23;go_wp2;go_ret;exact⟨_,rfl,aj w _ rfl _ _ _ _ rfl,ak _ _⟩
theorem jf (f g:Nat) (cf cg:Array Value) (w:World):Calls Tryz.prog 95 #[.func (.func f) #[] cf,.func (.func g) #[] cg] w fun e w'=>∃b c,e= .returned (.func (.func 132) #[] #[.pointer (some ⟨b,0,none⟩),.pointer (some ⟨c,0,none⟩)])∧w'.cell? ⟨b,0,none⟩=some (.func (.func f) #[] cf)∧w'.cell? ⟨c,0,none⟩=some (.func (.func g) #[] cg)∧Below w.heap.size w w':=by
 go_enter Tryz.func95,Tryz.ntmps95;go_wp2;go_ret;exact⟨_,_,rfl,aq (aj w _ rfl _ _ _ _ rfl) _,aj _ _ (by simp) _ _ _ _ rfl,((Below.refl _ _).alloc zr _).alloc (by simp) _⟩
theorem oH (x:Pr) (p q:Pr→Bool) (f g:Nat) (cf cg:Array Value) (b c:Nat) (w:World) (h:w.cell? ⟨b,0,none⟩=some (.func (.func f) #[] cf)) (h1:w.cell? ⟨c,0,none⟩=some (.func (.func g) #[] cg))
  (hf:PicksPr w f cf p) (hg:PicksPr w g cg q) (ef:br f) (eg:br g):
  Calls Tryz.prog 132 #[.agg #[.int .i64 x.i,.int .i64 x.s,.int .i64 x.m,.int .i64 x.p,.int .i64 x.c],.pointer (some ⟨b,0,none⟩),.pointer (some ⟨c,0,none⟩)] w fun e w'=>e= .returned (.bool (p x&&q x))∧Below w.heap.size w w':=by
 have HF:Hid (∀W:World,Below w.heap.size w W→Calls Tryz.prog f (#[.agg #[.int .i64 x.i,.int .i64 x.s,.int .i64 x.m,.int .i64 x.p,.int .i64 x.c]]++cf) W fun e w'=>e= .returned (.bool (p x))∧Below W.heap.size W w'):=fun W hW=>hf W x hW;have HG:Hid (∀W:World,Below w.heap.size w W→Calls Tryz.prog g (#[.agg #[.int .i64 x.i,.int .i64 x.s,.int .i64 x.m,.int .i64 x.p,.int .i64 x.c]]++cg) W fun e w'=>e= .returned (.bool (q x))∧Below W.heap.size W w'):=fun W hW=>hg W x hW;have EF:=aa ef;have EG:=aa eg;clear hf hg ef eg;have lh:=am h;have nh:b≠w.heap.size:=by omega
 have lh1:=am h1;have nh1:c≠w.heap.size:=by omega
 generalize p x=R at*;generalize q x=R2 at*;generalize x.i=y0 at*;generalize x.s=y1 at*;generalize x.m=y2 at*;generalize x.p=y3 at*;generalize x.c=y4 at*;go_enter Tryz.func132,Tryz.ntmps132;go_wp2_with fail
 obtain⟨W1,hW1⟩:∃W1,W1=w.alloc (.cells #[.int .i64 y0,.int .i64 y1,.int .i64 y2,.int .i64 y3,.int .i64 y4] 56):=⟨_,rfl⟩;have hbW:Below w.heap.size w W1:=by rw [hW1];exact ak _ _
 have d0:W1.cell? ⟨w.heap.size,0,none⟩=some (.int .i64 y0):=zN1 hW1 rfl;have d1:W1.cell? ⟨w.heap.size,1,none⟩=some (.int .i64 y1):=zN1 hW1 rfl;have d2:W1.cell? ⟨w.heap.size,2,none⟩=some (.int .i64 y2):=zN1 hW1 rfl;have d3:W1.cell? ⟨w.heap.size,3,none⟩=some (.int .i64 y3):=zN1 hW1 rfl;have d4:W1.cell? ⟨w.heap.size,4,none⟩=some (.int .i64 y4):=zN1 hW1 rfl;have k1:W1.cell? ⟨c,0,none⟩=some (.func (.func g) #[] cg):=by rw [hW1];exact aq h1 _
 rw [←hW1];clear hW1;rw [ae EF];refine(ae HF _ hbW).mono ?_;rintro e w1 ⟨rfl,hb1⟩;have hb01:=hbW.trans (hb1.mono hbW.size);replace⟨d0,d1,d2,d3,d4,k1⟩:=dy d0 d1 d2 d3 d4 k1 hb1;clear HF EF hb1 h h1 hbW;cases R
 ·go_wp2_with fail
  go_ret;exact⟨rfl,hb01⟩
 ·go_wp2_with fail
  rw [ae EG];refine(ae HG _ hb01).mono ?_;rintro e w2 ⟨rfl,hb2⟩;have hb02:=hb01.trans (hb2.mono hb01.size);go_wp2_with fail
  go_ret;exact⟨by simp,hb02⟩
theorem fT {w:World} {p q:Pr→Bool} {f g:Nat} {cf cg:Array Value} {b c:Nat} (h:w.cell? ⟨b,0,none⟩=some (.func (.func f) #[] cf)) (h1:w.cell? ⟨c,0,none⟩=some (.func (.func g) #[] cg))
  (hf:PicksPr w f cf p) (hg:PicksPr w g cg q) (ef:br f) (eg:br g):PicksPr w 132 #[.pointer (some ⟨b,0,none⟩),.pointer (some ⟨c,0,none⟩)] (fun x=>p x&&q x):=
 fun W x hW=>oH x p q f g cf cg b c W (zC h hW) (zC h1 hW) (fun W' y hW'=>hf W' y (hW.trans (hW'.mono hW.size))) (fun W' y hW'=>hg W' y (hW.trans (hW'.mono hW.size))) ef eg
theorem PicksPr.below {w w':World} {f:Nat} {cs:Array Value} {p:Pr→Bool} (h:PicksPr w f cs p) (hb:Below w.heap.size w w'):PicksPr w' f cs p:=fun W x hW=>h W x (hb.trans (hW.mono hb.size))
theorem li (x:Pr) (S:List Sw) (o:Option Addr) (cap:Nat) (t:Int) (b c:Nat) (w:World) (h:w.cell? ⟨b,0,none⟩=some (.slice o S.length cap)) (h1:w.cell? ⟨c,0,none⟩=some (.int .i64 t)) (hS:cZ w (.slice o S.length cap) S) (hl:S.length*24≤140737488355328):
  Calls Tryz.prog 135 #[.agg #[.int .i64 x.i,.int .i64 x.s,.int .i64 x.m,.int .i64 x.p,.int .i64 x.c],.pointer (some ⟨b,0,none⟩),.pointer (some ⟨c,0,none⟩)] w fun e w'=>e= .returned (.bool (eq S t x))∧Below w.heap.size w w':=by
 have HS:Hid (∀W:World,Below w.heap.size w W→∀pb,W.cell? ⟨pb,1,none⟩=some (.int .i64 x.s)→Calls Tryz.prog 136 #[.slice o S.length cap,.func (.func 137) #[] #[.pointer (some ⟨pb,0,none⟩),.pointer (some ⟨c,0,none⟩)]] W fun e w'=>e= .returned (.bool (eq S t x))∧Below W.heap.size W w'):=
  fun W hW pb hp=>np S _ _ _ _ W (RowAt.below hS hW zr) (jO hp (zC h1 hW)) lq hl
 have lh:=am h;have nh:b≠w.heap.size:=by omega
 clear hS;generalize eq S t x=R at*;generalize x.i=y0 at*;generalize x.s=y1 at*;generalize x.m=y2 at*;generalize x.p=y3 at*;generalize x.c=y4 at*;go_enter Tryz.func135,Tryz.ntmps135;go_wp2_with fail
 refine(ae HS _ (ak _ _) _ (aj w _ rfl _ _ _ _ rfl)).mono ?_;rintro e w1 ⟨rfl,hb1⟩;have hb01:=(ak w (.cells #[.int .i64 y0,.int .i64 y1,.int .i64 y2,.int .i64 y3,.int .i64 y4] 56)).trans (hb1.mono (ak w _).size);clear hb1 HS;go_wp2_with fail
 go_ret;exact⟨rfl,hb01⟩
theorem kw {w:World} {S:List Sw} {o:Option Addr} {cap:Nat} {t:Int} {b c:Nat} (h:w.cell? ⟨b,0,none⟩=some (.slice o S.length cap)) (h1:w.cell? ⟨c,0,none⟩=some (.int .i64 t)) (hS:cZ w (.slice o S.length cap) S) (hl:S.length*24≤140737488355328):
  PicksPr w 135 #[.pointer (some ⟨b,0,none⟩),.pointer (some ⟨c,0,none⟩)] (eq S t):=
 fun W x hW=>li x S o cap t b c W (zC h hW) (zC h1 hW) (RowAt.below hS hW zr) hl
theorem kt (so po ao:Option Addr) (sl sc pl pc al ac:Nat) (t:Int) (w:World):Calls Tryz.prog 107 #[.agg #[.slice so sl sc,.slice po pl pc,.slice ao al ac],.int .i64 t] w fun e w'=>∃b c,e= .returned (.func (.func 135) #[] #[.pointer (some ⟨b,0,none⟩),.pointer (some ⟨c,0,none⟩)])∧w'.cell? ⟨b,0,none⟩=some (.slice so sl sc)∧w'.cell? ⟨c,0,none⟩=some (.int .i64 t)∧Below w.heap.size w w':=by
 go_enter Tryz.func107,Tryz.ntmps107;go_wp2;go_ret;exact⟨_,_,rfl,aq (aj w _ rfl _ _ _ _ rfl) _,aj _ _ (by simp) _ _ _ _ rfl,((Below.refl _ _).alloc zr _).alloc (by simp) _⟩
theorem pF (x:Sw) (P:List Pr) (o:Option Addr) (cap:Nat) (b:Nat) (w:World) (h:w.cell? ⟨b,0,none⟩=some (.slice o P.length cap)) (hP:dC w (.slice o P.length cap) P) (hl:P.length*40≤140737488355328):
  Calls Tryz.prog 21 #[.agg #[.int .i64 x.i,.int .i64 x.t,.int .i64 x.g],.pointer (some ⟨b,0,none⟩)] w fun e w'=>e= .returned (.bool (P.any (cn x.i)))∧Below w.heap.size w w':=by
 have HS:Hid (∀W:World,Below w.heap.size w W→∀pb,W.cell? ⟨pb,0,none⟩=some (.int .i64 x.i)→Calls Tryz.prog 22 #[.slice o P.length cap,.func (.func 53) #[] #[.pointer (some ⟨pb,0,none⟩)]] W fun e w'=>e= .returned (.bool (P.any (cn x.i)))∧Below W.heap.size W w'):=
  fun W hW pb hp=>na P _ _ _ _ W (RowAt.below hP hW zr) (eN hp) gc hl
 have HI:=aa (fB x);have lh:=am h;have nh:b≠w.heap.size:=by omega
 clear hP;generalize P.any (cn x.i)=R at*;generalize x.i=y0 at*;generalize x.t=y1 at*;generalize x.g=y2 at*;go_enter Tryz.func21,Tryz.ntmps21;go_wp2_with fail
 obtain⟨W1,hW1⟩:∃W1,W1=w.alloc (.cells #[.int .i64 y0,.int .i64 y1,.int .i64 y2] 54):=⟨_,rfl⟩;have hbW:Below w.heap.size w W1:=by rw [hW1];exact ak _ _
 have d0:W1.cell? ⟨w.heap.size,0,none⟩=some (.int .i64 y0):=zN1 hW1 rfl;have d1:W1.cell? ⟨w.heap.size,1,none⟩=some (.int .i64 y1):=zN1 hW1 rfl;have d2:W1.cell? ⟨w.heap.size,2,none⟩=some (.int .i64 y2):=zN1 hW1 rfl;replace h:W1.cell? ⟨b,0,none⟩=some (.slice o P.length cap):=by rw [hW1];exact aq h _
 rw [←hW1];clear hW1;have HB:=hbW;clear hbW;have hs0_1:=HB.size;refine wp_region_held_drew (S:=(fun w'=>w'.cell? ⟨w.heap.size,0,none⟩=some (.int .i64 y0)∧w'.cell? ⟨w.heap.size,1,none⟩=some (.int .i64 y1)∧w'.cell? ⟨w.heap.size,2,none⟩=some (.int .i64 y2)∧w'.cell? ⟨b,0,none⟩=some (.slice o P.length cap))) (by kernel_rfl) ⟨d0,d1,d2,h⟩ (fun hHeld=>?_);have HDW:Below W1.heap.size W1 W1.drew:=(Below.refl _ _).drew;have hs1:=HDW.size;replace⟨d0,d1,d2,h⟩:=oj d0 d1 d2 h HDW;replace HB:=zT HB HDW;clear HDW;generalize W1.drew=V2 at*;refine sqA [(0,4),(1,5)] ?_;(iterate 2 (refine sqN rfl (by kernel_rfl) (fun _ _ _ h=>h) rfl ‹_› (by intro w h;go_simp <;>with_reducible rfl) ?_;simp only [nz]));refine sqZ ?_;refine rs 2 6 (by kernel_rfl) rfl (fun K hK=>?_);go_simp;clear hHeld;refine(ae HI _).mono ?_;rintro e V3 ⟨b1,rfl,hc1,hb3⟩;have hs4:=hb3.size;replace⟨d0,d1,d2,h⟩:=oj d0 d1 d2 h hb3;replace HB:=zT HB hb3;have hc:=hc1;clear hc1;clear hb3;refine hK.out _ _ ⟨d0,d1,d2,h⟩ (fun hHeld=>?_);clear hK K;(try simp only [nz]);refine rs 3 7 (by kernel_rfl) rfl (fun K hK=>?_);go_simp;clear hHeld;refine(ae HS _ HB _ hc).mono ?_;rintro e V5 ⟨rfl,hb5⟩;have hs6:=hb5.size;replace⟨d0,d1,d2,h,hc⟩:=bM d0 d1 d2 h hc hb5;replace HB:=zT HB hb5;clear hb5;refine hK.out _ _ ⟨d0,d1,d2,h⟩ (fun hHeld=>?_);clear hK K;(try simp only [nz]);refine tq 4 3 rfl (by kernel_rfl) (fun _ _ _ h=>h) rfl ‹_› (by intro w h;go_simp <;>with_reducible rfl) ?_;simp only [nz];refine wpAnyH_done (by kernel_rfl) ?_ _;clear hHeld;go_wp2_with fail
 go_ret;exact⟨rfl,HB⟩
theorem nj {w:World} {P:List Pr} {o:Option Addr} {cap:Nat} {b:Nat} (h:w.cell? ⟨b,0,none⟩=some (.slice o P.length cap)) (hP:dC w (.slice o P.length cap) P) (hl:P.length*40≤140737488355328):
  gr w 21 #[.pointer (some ⟨b,0,none⟩)] (fun s=>P.any (cn s.i)):=
 fun W x hW=>pF x P o cap b W (zC h hW) (RowAt.below hP hW zr) hl
end Go.Proofs.YthmblklaeeifiaaGreat
