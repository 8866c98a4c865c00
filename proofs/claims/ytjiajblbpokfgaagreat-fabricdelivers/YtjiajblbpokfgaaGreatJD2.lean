/- Texts joined: Ne, Nf, Ng, Nh, Ni, Xk, Xh0, Pf0, Fp, Fk, Fk2, Fr, Fc, Fc2, Fc3, Fn, Xa, Xb, Pp, Wb, Wc. -/
import Derived.Deep.MidRow
import Derived.Deep.RegionHeld3
import Derived.Deep.QuietTactic
import Derived.BigQuiet
import Derived.Laws.BitsLemmas
import Derived.Deep.RegionLaw
import Derived.Deep.AppendLies
import Derived.Laws.AppendOwnNone
import Derived.Test.YtjiajblbpokfgaaGreatJD1
namespace Go.Proofs.YtjiajblbpokfgaaGreat
open Go.RowKit
set_option linter.unusedVariables false
set_option maxRecDepth 100000
set_option maxHeartbeats 16000000
theorem comp_in {S:List Sw} {P:List Pr} {A:List Ac} {ch:Int} {g:Fl}:g∈cY S P A ch↔g∈tunnelFl∨(∃p,(p∈P∧p.c=ch)∧g∈bT P p)∨(∃s,(s∈S∧∃p,(p∈P∧p.c=ch)∧p.s=s.i)∧g∈bk S P A s ch):=by
 unfold cY;rw [List.mem_append,List.mem_append,List.mem_flatMap,List.mem_flatMap,or_assoc];have e1:(∃a,a∈P.filter (cm ch)∧g∈bT P a)↔∃p,(p∈P∧p.c=ch)∧g∈bT P p:=by simp [cm]
 have e2:(∃a,a∈S.filter (fun s=>(P.filter (cm ch)).any (bZ s.i))∧g∈bk S P A a ch)↔∃s,(s∈S∧∃p,(p∈P∧p.c=ch)∧p.s=s.i)∧g∈bk S P A s ch:=by simp [cm,bZ,and_assoc]
 rw [e1,e2]
theorem lL {R:List Ac} {s t n:Int} {g:Fl} (h:g∈bs R s t n):g=⟨t,0,[isM 8 s],[aT n]⟩∨∃i,i<R.length∧g=cV R s t n i:=by
 unfold bs at h;rcases List.mem_cons.1 h with h | h
 ·exact .inl h
 ·obtain⟨i,hi,e⟩:=List.mem_map.1 h;exact .inr ⟨i,List.mem_range.1 hi,e.symm⟩
theorem fS {R:List Ac} {s t n:Int} {g:Fl} (h:g∈bs R s t n):g.t=t:=by
 rcases lL h with rfl |⟨i,_,rfl⟩ <;>rfl
theorem kI {P:List Pr} {s:Sw} {ch:Int} {g:Fl} (h:g∈eP P s ch):(s.g≠0∧g=bD s.i s.g (60000+s.i) ch)∨∃q,q∈P∧q.s=s.i∧g=bD s.i q.p q.m ch:=by
 unfold eP at h;rcases List.mem_append.1 h with h | h
 ·by_cases hg:s.g=0
  ·rw [if_pos hg]at h;cases h
  ·rw [if_neg hg]at h;exact .inl ⟨hg,by simpa using h⟩
 ·obtain⟨q,hq,e⟩:=List.mem_map.1 h;have:=List.mem_filter.1 hq;exact .inr ⟨q,this.1,by simpa [bZ] using this.2,e.symm⟩
theorem fi {P:List Pr} {s:Sw} {g:Fl} (h:g∈bL P s):∃q,q∈P∧q.s=s.i∧q.c≠ -1∧g=⟨3,0,[isM 8 s.i,isM 1 q.m],ax q⟩:=by
 unfold bL at h;obtain⟨q,hq,e⟩:=List.mem_map.1 h;have:=List.mem_filter.1 hq;simp [bZ,aw]at this;exact⟨q,this.1,this.2.1,this.2.2,e.symm⟩
theorem fX {S:List Sw} {P:List Pr} {s:Sw} {g:Fl} (h:g∈bG S P s):s.g≠0∧(g=⟨3,1,aX s++ [⟨6,65534,0⟩],[]⟩∨∃q,q∈P∧cw S s.t q=true∧q.c≠ -1∧g=⟨3,0,aX s++ [isM 5 q.p],cK q++ax q⟩):=by
 unfold bG at h;by_cases hg:s.g=0
 ·rw [if_pos hg]at h;cases h
 ·rw [if_neg hg]at h;refine⟨hg,?_⟩;rcases List.mem_cons.1 h with h | h
  ·exact .inl h
  ·obtain⟨q,hq,e⟩:=List.mem_map.1 h;have:=List.mem_filter.1 hq;simp [aw]at this;exact .inr ⟨q,this.1,this.2.1,this.2.2,e.symm⟩
theorem iX {P:List Pr} {p:Pr} {g:Fl} (h:g∈bT P p):g=⟨0,0,bU p++cX,[⟨1,8,p.s⟩,aT 2]⟩∨g=⟨0,0,bU p++cW 1,[⟨1,8,p.s⟩,aT 1]⟩∨g=⟨1,1,[isM 0 p.i,isM 5 p.p],[]⟩∨g=⟨3,1,[isM 0 p.i,isM 1 p.m],[]⟩∨
  g=⟨3,0,[isM 0 p.i,isM 1 65535],(P.filter (cn p)).flatMap ax⟩∨g=⟨5,0,[isM 8 p.s,isM 9 p.i],[⟨5,0,p.i⟩]⟩:=by
 simpa [bT] using h
theorem fk {S:List Sw} {P:List Pr} {A:List Ac} {s:Sw} {ch:Int} {g:Fl} (h:g∈bk S P A s ch):g∈eP P s ch∨g∈bs (aH (aP A s.i true)) s.i 2 3∨g∈bL P s∨g∈bG S P s∨g∈bs (aH (aP A s.i false)) s.i 4 5:=by
 unfold bk at h;simp only [List.mem_append]at h;rcases h with(((h | h) | h) | h) | h
 ·exact .inl h
 ·exact .inr (.inl h)
 ·exact .inr (.inr (.inl h))
 ·exact .inr (.inr (.inr (.inl h)))
 ·exact .inr (.inr (.inr (.inr h)))
theorem eK {F:List Int} {t:Int} {g:Fl} (h:bF F t g=true):g.t=t∧bn F g.ms=true:=by
 unfold bF at h;rw [Bool.and_eq_true]at h;exact⟨by simpa using h.1,h.2⟩
section
variable {S:List Sw} {P:List Pr} {A:List Ac} {ch:Int} {g:Fl}
theorem Bk (h:g∈cY S P A ch) (ht:g.t=0):g=⟨0,0,cX++ [isM 0 0],[aT 4]⟩∨g=⟨0,0,cW 2++ [isM 0 0],[aT 5]⟩∨∃p,(p∈P∧p.c=ch)∧(g=⟨0,0,bU p++cX,[⟨1,8,p.s⟩,aT 2]⟩∨g=⟨0,0,bU p++cW 1,[⟨1,8,p.s⟩,aT 1]⟩):=by
 rcases comp_in.1 h with h |⟨p,hp,h⟩ |⟨s,hs,h⟩
 ·simp [tunnelFl]at h;rcases h with h | h
  ·exact .inl h
  ·exact .inr (.inl h)
 ·rcases iX h with rfl | rfl | rfl | rfl | rfl | rfl
  ·exact .inr (.inr ⟨p,hp,.inl rfl⟩)
  ·exact .inr (.inr ⟨p,hp,.inr rfl⟩)
  all_goals exact absurd ht (by simp)
 ·exfalso;rcases fk h with h | h | h | h | h
  ·rcases kI h with⟨_,rfl⟩ |⟨q,_,_,rfl⟩ <;>exact absurd ht (by simp [bD])
  ·rw [fS h]at ht;exact absurd ht (by decide)
  ·obtain⟨q,_,_,_,rfl⟩:=fi h;exact absurd ht (by simp)
  ·rcases(fX h).2 with rfl |⟨q,_,_,_,rfl⟩ <;>exact absurd ht (by simp)
  ·rw [fS h]at ht;exact absurd ht (by decide)
theorem BP (h:g∈cY S P A ch) (ht:g.t=1):(∃p,(p∈P∧p.c=ch)∧g=⟨1,1,[isM 0 p.i,isM 5 p.p],[]⟩)∨∃s,s∈S∧((s.g≠0∧g=bD s.i s.g (60000+s.i) ch)∨∃q,q∈P∧q.s=s.i∧g=bD s.i q.p q.m ch):=by
 rcases comp_in.1 h with h |⟨p,hp,h⟩ |⟨s,hs,h⟩
 ·simp [tunnelFl]at h;rcases h with rfl | rfl <;>exact absurd ht (by simp)
 ·rcases iX h with rfl | rfl | rfl | rfl | rfl | rfl
  ·exact absurd ht (by simp)
  ·exact absurd ht (by simp)
  ·exact .inl ⟨p,hp,rfl⟩
  all_goals exact absurd ht (by simp)
 ·rcases fk h with h | h | h | h | h
  ·exact .inr ⟨s,hs.1,kI h⟩
  ·rw [fS h]at ht;exact absurd ht (by decide)
  ·obtain⟨q,_,_,_,rfl⟩:=fi h;exact absurd ht (by simp)
  ·rcases(fX h).2 with rfl |⟨q,_,_,_,rfl⟩ <;>exact absurd ht (by simp)
  ·rw [fS h]at ht;exact absurd ht (by decide)
theorem BK (h:g∈cY S P A ch) (ht:g.t=2):∃s,s∈S∧g∈bs (aH (aP A s.i true)) s.i 2 3:=by
 rcases comp_in.1 h with h |⟨p,hp,h⟩ |⟨s,hs,h⟩
 ·simp [tunnelFl]at h;rcases h with rfl | rfl <;>exact absurd ht (by simp)
 ·rcases iX h with rfl | rfl | rfl | rfl | rfl | rfl <;>exact absurd ht (by simp)
 ·rcases fk h with h | h | h | h | h
  ·rcases kI h with⟨_,rfl⟩ |⟨q,_,_,rfl⟩ <;>exact absurd ht (by simp [bD])
  ·exact⟨s,hs.1,h⟩
  ·obtain⟨q,_,_,_,rfl⟩:=fi h;exact absurd ht (by simp)
  ·rcases(fX h).2 with rfl |⟨q,_,_,_,rfl⟩ <;>exact absurd ht (by simp)
  ·rw [fS h]at ht;exact absurd ht (by decide)
theorem BL (h:g∈cY S P A ch) (ht:g.t=3):(∃p,(p∈P∧p.c=ch)∧(g=⟨3,1,[isM 0 p.i,isM 1 p.m],[]⟩∨g=⟨3,0,[isM 0 p.i,isM 1 65535],(P.filter (cn p)).flatMap ax⟩))∨∃s,s∈S∧(g∈bL P s∨g∈bG S P s):=by
 rcases comp_in.1 h with h |⟨p,hp,h⟩ |⟨s,hs,h⟩
 ·simp [tunnelFl]at h;rcases h with rfl | rfl <;>exact absurd ht (by simp)
 ·rcases iX h with rfl | rfl | rfl | rfl | rfl | rfl
  ·exact absurd ht (by simp)
  ·exact absurd ht (by simp)
  ·exact absurd ht (by simp)
  ·exact .inl ⟨p,hp,.inl rfl⟩
  ·exact .inl ⟨p,hp,.inr rfl⟩
  ·exact absurd ht (by simp)
 ·rcases fk h with h | h | h | h | h
  ·rcases kI h with⟨_,rfl⟩ |⟨q,_,_,rfl⟩ <;>exact absurd ht (by simp [bD])
  ·rw [fS h]at ht;exact absurd ht (by decide)
  ·exact .inr ⟨s,hs.1,.inl h⟩
  ·exact .inr ⟨s,hs.1,.inr h⟩
  ·rw [fS h]at ht;exact absurd ht (by decide)
theorem BD (h:g∈cY S P A ch) (ht:g.t=4):∃s,(s∈S∧∃p,(p∈P∧p.c=ch)∧p.s=s.i)∧g∈bs (aH (aP A s.i false)) s.i 4 5:=by
 rcases comp_in.1 h with h |⟨p,hp,h⟩ |⟨s,hs,h⟩
 ·simp [tunnelFl]at h;rcases h with rfl | rfl <;>exact absurd ht (by simp)
 ·rcases iX h with rfl | rfl | rfl | rfl | rfl | rfl <;>exact absurd ht (by simp)
 ·rcases fk h with h | h | h | h | h
  ·rcases kI h with⟨_,rfl⟩ |⟨q,_,_,rfl⟩ <;>exact absurd ht (by simp [bD])
  ·rw [fS h]at ht;exact absurd ht (by decide)
  ·obtain⟨q,_,_,_,rfl⟩:=fi h;exact absurd ht (by simp)
  ·rcases(fX h).2 with rfl |⟨q,_,_,_,rfl⟩ <;>exact absurd ht (by simp)
  ·exact⟨s,hs,h⟩
theorem BI (h:g∈cY S P A ch) (ht:g.t=5):∃p,(p∈P∧p.c=ch)∧g=⟨5,0,[isM 8 p.s,isM 9 p.i],[⟨5,0,p.i⟩]⟩:=by
 rcases comp_in.1 h with h |⟨p,hp,h⟩ |⟨s,hs,h⟩
 ·simp [tunnelFl]at h;rcases h with rfl | rfl <;>exact absurd ht (by simp)
 ·rcases iX h with rfl | rfl | rfl | rfl | rfl | rfl
  ·exact absurd ht (by simp)
  ·exact absurd ht (by simp)
  ·exact absurd ht (by simp)
  ·exact absurd ht (by simp)
  ·exact absurd ht (by simp)
  ·exact⟨p,hp,rfl⟩
 ·exfalso;rcases fk h with h | h | h | h | h
  ·rcases kI h with⟨_,rfl⟩ |⟨q,_,_,rfl⟩ <;>exact absurd ht (by simp [bD])
  ·rw [fS h]at ht;exact absurd ht (by decide)
  ·obtain⟨q,_,_,_,rfl⟩:=fi h;exact absurd ht (by simp)
  ·rcases(fX h).2 with rfl |⟨q,_,_,_,rfl⟩ <;>exact absurd ht (by simp)
  ·rw [fS h]at ht;exact absurd ht (by decide)
end
def bN (A:List Ac) (net:Int) (inn:Bool) (a b o:Int):Bool:=
 match dH ((aP A net inn).filter (qg a b o))with
 | none=>true
 | some r=> !r.d
theorem oI {S:List Sw} {A:List Ac} {fs:List Fl} {T n:Int} {inn:Bool} (hA:bE S A=true) (hT:T≤7) {i d sc k a b t o u:Int} {out:List Sn} {net:Int}
  (hF:WF (pkF i d sc k a b t o net u)) (hin:∀g∈bs (aH (aP A net inn)) net T n,g∈fs) (hout:∀g∈fs,g.t=T→∃s:Int,g∈bs (aH (aP A s inn)) s T n) (m:Nat):
  eY fs (m+1) ⟨pkF i d sc k a b t o net u,T,out⟩=eY fs m ⟨pkF i d sc k a b t o net u,if bN A net inn a b o=true then n else 8,out⟩:=by
 have hR:∀r∈aH (aP A net inn),((0≤r.sb∧r.sb≤16)∧0≤r.db∧r.db≤16)∧bH r.src r.sb=true∧bH r.dst r.db=true:=fun r hr=>by
  have hr':r∈A:=(List.mem_filter.1 ((rO _ _).1 hr)).1;have h2:=((gK hA).2 r hr').2.1;rw [Bool.and_eq_true]at h2;exact⟨pM hA r hr',h2.1,h2.2⟩
 have hfit:∀j,j<(aH (aP A net inn)).length→bn (pkF i d sc k a b t o net u) (cV (aH (aP A net inn)) net T n j).ms=qg a b o ((aH (aP A net inn)).getD j ac0):=fun j hj=>by
  have h:=hR _ (fL (d:=ac0) hj);simp only [cV];rw [vu hF h.1.1.1 h.1.1.2 h.1.2.1 h.1.2.2 h.2.1 h.2.2,aB hF,aV];simp
 have hnet:∀g∈fs,bF (pkF i d sc k a b t o net u) T g=true→g=⟨T,0,[isM 8 net],[aT n]⟩∨∃j,j<(aH (aP A net inn)).length∧g=cV (aH (aP A net inn)) net T n j∧qg a b o ((aH (aP A net inn)).getD j ac0)=true:=fun g hg hf=>by
  obtain⟨s,hs⟩:=hout g hg (eK hf).1;have hz:=(eK hf).2;have e:s=net:=by
   rcases lL hs with rfl |⟨j,hj,rfl⟩
   ·rw [aB hF]at hz;simp at hz;exact hz.1.symm
   ·simp only [cV]at hz;rw [gi,aB hF]at hz;simp at hz;exact hz.2.1.symm
  subst e;rcases lL hs with h |⟨j,hj,rfl⟩
  ·exact .inl h
  ·rw [hfit j hj]at hz;exact .inr ⟨j,hj,rfl,hz⟩
 unfold bN;rw [←qZ];generalize hRR:aH (aP A net inn)=R at*;cases hfd:R.find? (qg a b o)with
 | none=>
  simp only [if_true];have hno:=List.find?_eq_none.1 hfd;refine cL (f:=⟨T,0,[isM 8 net],[aT n]⟩) hT (hin _ (by simp [bs])) ?_ ?_
  ·unfold bF;rw [aB hF,aV];simp
  ·intro g hg hf;rcases hnet g hg hf with rfl |⟨j,hj,rfl,hj2⟩
   ·exact .inr rfl
   ·exact absurd hj2 (by simpa using hno _ (fL hj))
 | some r=>
  obtain⟨hr,L,R',e,hL⟩:=List.find?_eq_some_iff_append.1 hfd;have hlen:L.length<R.length:=by rw [e];simp
  have hget:R.getD L.length ac0=r:=by rw [e];simp
  have hstep:(cV R net T n L.length).ds.foldl step ⟨pkF i d sc k a b t o net u,8,out⟩=⟨pkF i d sc k a b t o net u,if(!r.d)=true then n else 8,out⟩:=by
   simp only [cV,hget];cases r.d <;>simp [step,aT]
  rw [←hstep];refine cL (f:=cV R net T n L.length) hT (hin _ ?_) ?_ ?_
  ·unfold bs;exact List.mem_cons_of_mem _ (List.mem_map.2 ⟨_,List.mem_range.2 hlen,rfl⟩)
  ·unfold bF;rw [hfit _ hlen,hget,hr];simp [cV]
  ·intro g hg hf;rcases hnet g hg hf with rfl |⟨j,hj,rfl,hj2⟩
   ·refine .inl ?_;simp only [cV];omega
   ·rcases Nat.lt_trichotomy j L.length with h | h | h
    ·exfalso;have hm:R.getD j ac0∈L:=by
      rw [e,List.getD_eq_getElem?_getD,List.getElem?_append_left h,List.getElem?_eq_getElem h];exact List.getElem_mem h
     have:=hL _ hm;rw [hj2]at this;exact absurd this (by decide)
    ·subst h;exact .inr rfl
    ·refine .inl ?_;simp only [cV];omega
theorem gl {i d s k a b t o n u:Int} (hF:WF (pkF i d s k a b t o n u)) (p:Pr) (l:List Mt):bn (pkF i d s k a b t o n u) (bU p++l)=((i==p.i&&(n==0&&(u==0&&(s==p.m&&a==p.p))))&&bn (pkF i d s k a b t o n u) l):=by
 rw [gi];congr 1;unfold bU;rw [aB hF,aB hF,aB hF,aB hF,aB hF,aV];simp
theorem iw {i d s k a b t o n u:Int} (hF:WF (pkF i d s k a b t o n u)) (l:List Mt):bn (pkF i d s k a b t o n u) (cX++l)=((k==3&&decide (t≤255))&&bn (pkF i d s k a b t o n u) l):=by
 rw [gi];congr 1;unfold cX;rw [aB hF,ws hF,aV];simp
theorem ik {i d s k a b t o n u:Int} (hF:WF (pkF i d s k a b t o n u)) (x:Int) (l:List Mt):bn (pkF i d s k a b t o n u) (cW x++l)=((k==x&&(t==0&&o==0))&&bn (pkF i d s k a b t o n u) l):=by
 rw [gi];congr 1;unfold cW;rw [aB hF,aB hF,aB hF,aV];simp
def gB (P:List Pr) (A:List Ac) (ch k a b o n u:Int):Bool:=P.any (fun p=>p.c==ch&&(p.s==n&&p.i==u))&&(k==2|| k==3&&bN A n false a b o)
section
variable {S:List Sw} {P:List Pr} {A:List Ac} {ch:Int} {fs:List Fl}
theorem uz (hfs:∀g,g∈fs↔g∈cY S P A ch) {i d sc k a b t o n u:Int} (hF:WF (pkF i d sc k a b t o n u)) (m:Nat):
  (eY fs (m+2) ⟨pkF i d sc k a b t o n u,5,[]⟩).out=if P.any (fun p=>p.c==ch&&(p.s==n&&p.i==u))=true then [⟨5,u,pkF i d sc k a b t o n u⟩]else []:=by
 have hfit:∀p:Pr,bn (pkF i d sc k a b t o n u) [isM 8 p.s,isM 9 p.i]=(n==p.s&&u==p.i):=fun p=>by
  rw [aB hF,aB hF,aV];simp
 by_cases h:P.any (fun p=>p.c==ch&&(p.s==n&&p.i==u))=true
 ·rw [if_pos h];rw [List.any_eq_true]at h;obtain⟨p,hp,h⟩:=h;simp at h;obtain⟨h1,h2,h3⟩:=h;rw [cL (f:=⟨5,0,[isM 8 p.s,isM 9 p.i],[⟨5,0,p.i⟩]⟩) (by simp) ((hfs _).2 (comp_in.2 (.inr (.inl ⟨p,⟨hp,h1⟩,by simp [bT]⟩)))) (by unfold bF;rw [hfit];simp [h2,h3]) ?_]
  ·simp [step,eY,h3]
  ·intro g hg hf;obtain⟨q,hq,rfl⟩:=BI ((hfs g).1 hg) (eK hf).1;have:=(eK hf).2;rw [hfit]at this;simp at this;refine .inr ?_;rw [←this.2,h3]
 ·rw [if_neg h];refine gt (by omega) (by simp) fun g hg=>?_;cases hf:bF (pkF i d sc k a b t o n u) 5 g with
  | false=>rfl
  | true=>
   exfalso;obtain⟨q,hq,rfl⟩:=BI ((hfs g).1 hg) (eK hf).1;have:=(eK hf).2;rw [hfit]at this;simp at this;exact h (List.any_eq_true.2 ⟨q,hq.1,by simp [hq.2,this.1,this.2]⟩)
theorem mV (hm:may S P A=true) (hfs:∀g,g∈fs↔g∈cY S P A ch) {d sc k a b t o n u:Int} (hF:WF (pkF 0 d sc k a b t o n u)) (hk:k=1∨k=2∨k=3) (ht:t≤255) (hb:k≠3→t=0∧o=0):
  ran fs (pkF 0 d sc k a b t o n u)=if gB P A ch k a b o n u=true then [⟨5,u,pkF 0 d sc k a b t o n u⟩]else []:=by
 have hm':=hm;unfold may at hm';rw [Bool.and_eq_true,Bool.and_eq_true]at hm';obtain⟨⟨hS,hP⟩,hA⟩:=hm';have hpr:=(bI hS hP).2;have h0:∀g∈fs,bF (pkF 0 d sc k a b t o n u) 0 g=true→(g=⟨0,0,cX++ [isM 0 0],[aT 4]⟩∧k=3)∨(g=⟨0,0,cW 2++ [isM 0 0],[aT 5]⟩∧k=2):=fun g hg hf=>by
  have hz:=(eK hf).2;rcases Bk ((hfs g).1 hg) (eK hf).1 with rfl | rfl |⟨p,hp,rfl | rfl⟩
  ·rw [iw hF]at hz;simp at hz;exact .inl ⟨rfl,hz.1.1⟩
  ·rw [ik hF]at hz;simp at hz;exact .inr ⟨rfl,hz.1.1⟩
  ·rw [gl hF]at hz;simp at hz;have:=(hpr p hp.1).1;omega
  ·rw [gl hF]at hz;simp at hz;have:=(hpr p hp.1).1;omega
 unfold ran gB;rcases hk with rfl | rfl | rfl
 ·rw [gt (by decide) (by simp)]
  ·simp
  ·intro g hg;cases hf:bF (pkF 0 d sc 1 a b t o n u) 0 g with
   | false=>rfl
   | true=>rcases h0 g hg hf with⟨_,h⟩ |⟨_,h⟩ <;>exact absurd h (by decide)
 ·obtain⟨rfl,rfl⟩:=hb (by decide);rw [cL (n:=7) (f:=⟨0,0,cW 2++ [isM 0 0],[aT 5]⟩) (by simp) ((hfs _).2 (comp_in.2 (.inl (by simp [tunnelFl])))) (by unfold bF;rw [ik hF,aB hF,aV];simp) (fun g hg hf=>?_)]
  ·rw [show([aT 5]:List Do).foldl step ⟨pkF 0 d sc 2 a b 0 0 n u,8,[]⟩=⟨pkF 0 d sc 2 a b 0 0 n u,5,[]⟩ by simp [step,aT]];rw [uz hfs hF 5];simp
  ·rcases h0 g hg hf with⟨_,h⟩ |⟨rfl,h⟩
   ·exact absurd h (by decide)
   ·exact .inr rfl
 ·rw [cL (n:=7) (f:=⟨0,0,cX++ [isM 0 0],[aT 4]⟩) (by simp) ((hfs _).2 (comp_in.2 (.inl (by simp [tunnelFl])))) (by unfold bF;rw [iw hF,aB hF,aV];simp [ht]) (fun g hg hf=>?_)]
  ·rw [show([aT 4]:List Do).foldl step ⟨pkF 0 d sc 3 a b t o n u,8,[]⟩=⟨pkF 0 d sc 3 a b t o n u,4,[]⟩ by simp [step,aT]];by_cases hl:∃s,(s∈S∧∃p,(p∈P∧p.c=ch)∧p.s=s.i)∧s.i=n
   ·obtain⟨s,hs,rfl⟩:=hl;rw [oI (n:=5) (inn:=false) hA (by decide) hF (fun g hg=>(hfs g).2 (comp_in.2 (.inr (.inr ⟨s,hs,by simp [bk,hg]⟩)))) (fun g hg ht=>by obtain⟨s',_,h⟩:=BD ((hfs g).1 hg) ht;exact⟨s'.i,h⟩) 6];by_cases ha:bN A s.i false a b o=true
    ·rw [if_pos ha,uz hfs hF 4];simp [ha]
    ·rw [if_neg ha,cQ _ _ (by simp)];simp [ha]
   ·rw [gt (by decide) (by simp)]
    ·rw [if_neg];intro h;rw [Bool.and_eq_true]at h;obtain⟨p,hp,hq⟩:=List.any_eq_true.1 h.1;simp at hq;obtain⟨s,hs,e⟩:=lO hP hp;exact hl ⟨s,⟨hs,p,⟨hp,hq.1⟩,e.symm⟩,by rw [e];exact hq.2.1⟩
    ·intro g hg;cases hf:bF (pkF 0 d sc 3 a b t o n u) 4 g with
     | false=>rfl
     | true=>
      exfalso;obtain⟨s,hs,h⟩:=BD ((hfs g).1 hg) (eK hf).1;have hz:=(eK hf).2;refine hl ⟨s,hs,?_⟩;rcases lL h with rfl |⟨j,hj,rfl⟩
      ·rw [aB hF]at hz;simp at hz;exact hz.1.symm
      ·simp only [cV]at hz;rw [gi,aB hF]at hz;simp at hz;exact hz.2.1.symm
  ·rcases h0 g hg hf with⟨rfl,h⟩ |⟨_,h⟩
   ·exact .inr rfl
   ·exact absurd h (by decide)
end
structure Gl where
 n:Int
 u:Int
 c:Int
 f:List Int
def gh (i:Int) (g:Gl):Sn:=⟨6,g.c,i::(g.f++ [g.n,g.u])⟩
def dz (S:List Sw) (id:Int):Sw:=(S.find? (fun s=>s.i==id)).getD sw0
def kf (P:List Pr) (s:Sw) (id ch m ip b:Int):List Gl:=
 ((if s.g≠0∧b=s.g then [60000+s.i]else [])++(P.filter (fun q=>q.s==s.i&&(!(q.i==id)&&q.p==b))).map (fun q=>q.m)).map fun mac=>⟨s.i,id,ch,[m,mac,2,b,ip,0,0]⟩
def brG (s:Sw) (f:List Int) (q:Pr):Gl:=⟨s.i,q.i,q.c,f⟩
def rtG (a b t o:Int) (q:Pr):Gl:=⟨q.s,q.i,q.c,[q.m,60000+q.s,3,a,b,t-1,o]⟩
def brB (s:Sw) (id d:Int) (q:Pr):Bool:=aw q&&((q.s==s.i&& !(q.i==id))&&(d==65535|| d==q.m))
def rtB (S:List Sw) (s:Sw) (d b t:Int) (q:Pr):Bool:=aw q&&(decide (s.g≠0∧d=60000+s.i∧1<t)&&(cw S s.t q&&q.p==b))
def lE (S:List Sw) (P:List Pr) (s:Sw) (id d sc a b t o:Int):List Gl:=
 (P.filter (brB s id d)).map (brG s [d,sc,3,a,b,t,o])++(P.filter (rtB S s d b t)).map (rtG a b t o)
def led (S:List Sw) (P:List Pr) (A:List Ac) (ch id d sc k a b t o:Int):List Gl:=
 match P.find? (fun p=>p.i==id)with
 | none=>[]
 | some p=>if p.c=ch∧sc=p.m∧a=p.p then
   (if k=1 then kf P (dz S p.s) id ch p.m p.p b else if k=3∧bN A (dz S p.s).i true a b o=true then lE S P (dz S p.s) id d sc a b t o else [])
  else []
theorem jZ {S:List Sw} {P:List Pr} (hP:aL S P=true) {p:Pr} (hp:p∈P):dz S p.s∈S∧(dz S p.s).i=p.s:=by
 obtain⟨s,hs,e⟩:=lO hP hp;unfold dz;cases h:S.find? (fun s=>s.i==p.s)with
 | none=>exact absurd (List.find?_eq_none.1 h s hs) (by simp [e])
 | some x=>exact⟨List.mem_of_find?_eq_some h,by simpa using List.find?_some h⟩
theorem jx {P:List Pr} (hp:P.Pairwise (fun a b=>a.i≠b.i)) {f:Pr→Bool} {q:Pr} (hq:q∈P) (hf:f q=true) (hu:∀x∈P,f x=true→x=q):P.filter f= [q]:=by
 induction P with
 | nil=>cases hq
 | cons x r ih=>
  have hp':=List.pairwise_cons.1 hp;rcases List.mem_cons.1 hq with rfl | hq'
  ·rw [List.filter_cons_of_pos hf];congr 1;rw [List.filter_eq_nil_iff];intro y hy hfy;have:=hu y (List.mem_cons_of_mem _ hy) hfy;exact hp'.1 y hy (by rw [this])
  ·cases hx:f x with
   | true=>
    have:=hu x (by simp) hx;exact absurd (by rw [this]) (hp'.1 q hq')
   | false=>
    rw [List.filter_cons_of_neg (by simp [hx])];exact ih hp'.2 hq' (fun y hy=>hu y (List.mem_cons_of_mem _ hy))
theorem bB {P:List Pr} {f:Pr→Bool} (h:∀x∈P,f x=false):P.filter f= []:=by
 rw [List.filter_eq_nil_iff];intro x hx;simp [h x hx]
theorem my (i d sc k a b t o n:Int) (l:List Pr):∀(u:Int) (out:List Sn),∃u',(l.flatMap ax).foldl step ⟨pkF i d sc k a b t o n u,8,out⟩=⟨pkF i d sc k a b t o n u',8,out++l.map fun q=>⟨6,q.c,pkF i d sc k a b t o n q.i⟩⟩:=by
 induction l with
 | nil=>intro u out;exact⟨u,by simp⟩
 | cons q r ih=>
  intro u out;obtain⟨u',e⟩:=ih q.i (out++ [⟨6,q.c,pkF i d sc k a b t o n q.i⟩]);refine⟨u',?_⟩;rw [List.flatMap_cons,List.foldl_append];rw [show(ax q).foldl step ⟨pkF i d sc k a b t o n u,8,out⟩=⟨pkF i d sc k a b t o n q.i,8,out++ [⟨6,q.c,pkF i d sc k a b t o n q.i⟩]⟩ by simp [ax,step,doF]];rw [e];simp
theorem rW (i d sc k a b t o n u:Int) (ht:0<t) (q:Pr) (out:List Sn):(cK q++ax q).foldl step ⟨pkF i d sc k a b t o n u,8,out⟩=⟨pkF i q.m (60000+q.s) k a b (t-1) o q.s q.i,8,out++ [⟨6,q.c,pkF i q.m (60000+q.s) k a b (t-1) o q.s q.i⟩]⟩:=by
 simp [cK,ax,step,doF,ht]
theorem kT (i d sc k a b t o n u ip mac ch:Int) (out:List Sn):(gD ip mac ch).foldl step ⟨pkF i d sc k a b t o n u,8,out⟩=⟨pkF i sc mac 2 ip a t o n i,8,out++ [⟨6,ch,pkF i sc mac 2 ip a t o n i⟩]⟩:=by
 simp [gD,step,doF]
section
variable {S:List Sw} {P:List Pr} {A:List Ac} {ch:Int} {fs:List Fl}
theorem wZ (hP:∀p∈P,jF p) (hfs:∀g,g∈fs↔g∈cY S P A ch) {i d sc k a b t o n u:Int} (hi:1≤i) (hF:WF (pkF i d sc k a b t o n u)) {g:Fl} (hg:g∈fs) (hf:bF (pkF i d sc k a b t o n u) 0 g=true):
  ∃p,(p∈P∧p.c=ch)∧(i=p.i∧sc=p.m∧a=p.p)∧((k=3∧g=⟨0,0,bU p++cX,[⟨1,8,p.s⟩,aT 2]⟩)∨(k=1∧g=⟨0,0,bU p++cW 1,[⟨1,8,p.s⟩,aT 1]⟩)):=by
 have hz:=(eK hf).2;rcases Bk ((hfs g).1 hg) (eK hf).1 with rfl | rfl |⟨p,hp,rfl | rfl⟩
 ·exfalso;rw [iw hF,aB hF]at hz;simp at hz;omega
 ·exfalso;rw [ik hF,aB hF]at hz;simp at hz;omega
 ·have h2:=iw hF [];rw [List.append_nil,aV]at h2;rw [gl hF,h2]at hz;simp at hz;exact⟨p,hp,⟨hz.1.1,hz.1.2.2.2.1,hz.1.2.2.2.2⟩,.inl ⟨hz.2.1,rfl⟩⟩
 ·have h2:=ik hF 1 [];rw [List.append_nil,aV]at h2;rw [gl hF,h2]at hz;simp at hz;exact⟨p,hp,⟨hz.1.1,hz.1.2.2.2.1,hz.1.2.2.2.2⟩,.inr ⟨hz.2.1,rfl⟩⟩
theorem lY (hP:∀p∈P,jF p) (hfs:∀g,g∈fs↔g∈cY S P A ch) {i d sc k a b t o n u:Int} (hi:1≤i) (hF:WF (pkF i d sc k a b t o n u)) (h:∀p∈P,p.c=ch→i=p.i→sc=p.m→a=p.p→k≠3∧k≠1):ran fs (pkF i d sc k a b t o n u)= []:=by
 unfold ran;refine gt (by decide) (by simp) fun g hg=>?_;cases hf:bF (pkF i d sc k a b t o n u) 0 g with
 | false=>rfl
 | true=>
  exfalso;obtain⟨p,hp,he,hk⟩:=wZ hP hfs hi hF hg hf;have:=h p hp.1 hp.2 he.1 he.2.1 he.2.2;rcases hk with⟨hk,_⟩ |⟨hk,_⟩
  ·exact this.1 hk
  ·exact this.2 hk
theorem zl (hS:aW S=true) (hP:aL S P=true) (hfs:∀g,g∈fs↔g∈cY S P A ch) {p:Pr} (hp:p∈P) (hc:p.c=ch) {s:Sw} (hs:s∈S) (hsi:s.i=p.s) {d b:Int} (hF:WF (pkF p.i d p.m 1 p.p b 0 0 0 0)) (hF2:WF (pkF p.i d p.m 1 p.p b 0 0 s.i 0)):
  ran fs (pkF p.i d p.m 1 p.p b 0 0 0 0)=(kf P s p.i ch p.m p.p b).map (gh p.i):=by
 have hin:∀q∈P,jF q:=(bI hS hP).2;have hp1:=(hin p hp).1;unfold ran;rw [cL (n:=7) (f:=⟨0,0,bU p++cW 1,[⟨1,8,p.s⟩,aT 1]⟩) (by simp) ((hfs _).2 (comp_in.2 (.inr (.inl ⟨p,⟨hp,hc⟩,by simp [bT]⟩)))) ?_ ?_]
 rotate_left
 ·have h2:=ik hF 1 [];rw [List.append_nil,aV]at h2;unfold bF;rw [gl hF,h2];simp
 ·intro g hg hf;obtain⟨q,hq,he,hk⟩:=wZ hin hfs (by omega) hF hg hf;obtain rfl:=cI hP hp hq.1 he.1;rcases hk with⟨hk,_⟩ |⟨_,rfl⟩
  ·exact absurd hk (by decide)
  ·exact .inr rfl
 rw [show([⟨1,8,p.s⟩,aT 1]:List Do).foldl step ⟨pkF p.i d p.m 1 p.p b 0 0 0 0,8,[]⟩=⟨pkF p.i d p.m 1 p.p b 0 0 s.i 0,1,[]⟩ by simp [step,aT,doF,hsi]];have hfa:∀x ip mac:Int,bn (pkF p.i d p.m 1 p.p b 0 0 s.i 0) (bD x ip mac ch).ms=(s.i==x&&b==ip):=fun x ip mac=>by
  simp only [bD];rw [aB hF2,aB hF2,aV];simp
 have hfi:∀q:Pr,bn (pkF p.i d p.m 1 p.p b 0 0 s.i 0) [isM 0 q.i,isM 5 q.p]=(p.i==q.i&&b==q.p):=fun q=>by
  rw [aB hF2,aB hF2,aV];simp
 have hall:∀g∈fs,bF (pkF p.i d p.m 1 p.p b 0 0 s.i 0) 1 g=true→(b=p.p∧g=⟨1,1,[isM 0 p.i,isM 5 p.p],[]⟩)∨((s.g≠0∧b=s.g)∧g=bD s.i s.g (60000+s.i) ch)∨∃q,(q∈P∧q.s=s.i∧b=q.p)∧g=bD s.i q.p q.m ch:=fun g hg hf=>by
  have hz:=(eK hf).2;rcases BP ((hfs g).1 hg) (eK hf).1 with⟨q,hq,rfl⟩ |⟨x,hx,⟨hx0,rfl⟩ |⟨q,hq,hqs,rfl⟩⟩
  ·rw [hfi]at hz;simp at hz;obtain rfl:=cI hP hp hq.1 hz.1;exact .inl ⟨hz.2,rfl⟩
  ·rw [hfa]at hz;simp at hz;obtain rfl:=iO hS hs hx hz.1;exact .inr (.inl ⟨⟨hx0,hz.2⟩,rfl⟩)
  ·rw [hfa]at hz;simp at hz;exact .inr (.inr ⟨q,⟨hq,by rw [hqs,hz.1],hz.2⟩,by rw [hz.1]⟩)
 have hsw:∀g,g∈eP P s ch→g∈fs:=fun g hg=>(hfs g).2 (comp_in.2 (.inr (.inr ⟨s,⟨hs,p,⟨hp,hc⟩,hsi.symm⟩,by simp [bk,hg]⟩)));have htn:tn S p.s=s.t:=by rw [←hsi];exact uq hS hs
 by_cases hbp:b=p.p
 ·rw [cL (n:=6) (f:=⟨1,1,[isM 0 p.i,isM 5 p.p],[]⟩) (by simp) ((hfs _).2 (comp_in.2 (.inr (.inl ⟨p,⟨hp,hc⟩,by simp [bT]⟩)))) (by unfold bF;rw [hfi];simp [hbp]) ?_]
  ·rw [List.foldl_nil,cQ _ _ (by simp)];unfold kf;rw [if_neg (fun h=>lH hS hP hs hp htn (by rw [←h.2];exact hbp)),bB]
   ·rfl
   ·intro q hq;cases hx:(q.s==s.i&&(!(q.i==p.i)&&q.p==b))with
    | false=>rfl
    | true=>
     simp at hx;obtain rfl:=iQ hS hP hq hp (by rw [hx.1,hsi]) (by rw [hx.2.2,hbp]);exact absurd rfl hx.2.1
  ·intro g hg hf;rcases hall g hg hf with⟨_,rfl⟩ |⟨_,rfl⟩ |⟨q,_,rfl⟩
   ·exact .inr rfl
   ·exact .inl (by simp [bD])
   ·exact .inl (by simp [bD])
 ·by_cases hg:s.g≠0∧b=s.g
  ·rw [cL (n:=6) (f:=bD s.i s.g (60000+s.i) ch) (by simp) (hsw _ (by simp [eP,hg.1])) (by unfold bF;rw [hfa];simp [bD,hg.2]) ?_]
   ·rw [show(bD s.i s.g (60000+s.i) ch).ds=gD s.g (60000+s.i) ch from rfl,kT,cQ _ _ (by simp)];unfold kf;rw [if_pos hg,bB]
    ·simp [gh,hg.2]
    ·intro q hq;cases hx:(q.s==s.i&&(!(q.i==p.i)&&q.p==b))with
     | false=>rfl
     | true=>
      simp at hx;exact absurd (by rw [hx.2.2,hg.2]) (lH hS hP hs hq (by rw [hx.1,hsi];exact htn))
   ·intro x hx hf;rcases hall x hx hf with⟨h,_⟩ |⟨_,rfl⟩ |⟨q,hq,rfl⟩
    ·exact absurd h hbp
    ·exact .inr rfl
    ·exact absurd (by rw [←hg.2,hq.2.2]) (lH hS hP hs hq.1 (by rw [hq.2.1,hsi];exact htn))
  ·unfold kf;rw [if_neg hg,List.nil_append];by_cases hq:∃q∈P,q.s=s.i∧b=q.p
   ·obtain⟨q,hq,hqs,hqb⟩:=hq;have hne:q.i≠p.i:=fun e=>by
     obtain rfl:=cI hP hq hp e;exact hbp hqb
    rw [jx (mq hP) hq (by simp [hqs,hqb,hne]) (fun x hx hx2=>by simp at hx2;exact iQ hS hP hx hq (by rw [hx2.1,hqs]) (by rw [hx2.2.2,hqb]))];rw [cL (n:=6) (f:=bD s.i q.p q.m ch) (by simp) (hsw _ ?_) (by unfold bF;rw [hfa];simp [bD,hqb]) ?_]
    ·rw [show(bD s.i q.p q.m ch).ds=gD q.p q.m ch from rfl,kT,cQ _ _ (by simp)];simp [gh,hqb]
    ·unfold eP;refine List.mem_append_right _ (List.mem_map.2 ⟨q,List.mem_filter.2 ⟨hq,by simp [bZ,hqs]⟩,rfl⟩)
    ·intro x hx hf;rcases hall x hx hf with⟨h,_⟩ |⟨h,rfl⟩ |⟨y,hy,rfl⟩
     ·exact absurd h hbp
     ·exact absurd h hg
     ·obtain rfl:=iQ hS hP hy.1 hq (by rw [hy.2.1,hqs]) (by rw [←hy.2.2,hqb]);exact .inr rfl
   ·rw [bB,gt (by decide) (by simp)]
    ·rfl
    ·intro g hg';cases hf:bF (pkF p.i d p.m 1 p.p b 0 0 s.i 0) 1 g with
     | false=>rfl
     | true=>
      exfalso;rcases hall g hg' hf with⟨h,_⟩ |⟨h,rfl⟩ |⟨y,hy,rfl⟩
      ·exact hbp h
      ·exact hg h
      ·exact hq ⟨y,hy.1,hy.2.1,hy.2.2⟩
    ·intro q hq';cases hx:(q.s==s.i&&(!(q.i==p.i)&&q.p==b))with
     | false=>rfl
     | true=>
      simp at hx;exact absurd ⟨q,hq',hx.1,hx.2.2.symm⟩ hq
end
section
variable {S:List Sw} {P:List Pr} {A:List Ac} {ch:Int} {fs:List Fl}
theorem iV (hS:aW S=true) {q:Pr} {t:Int} (h:cw S t q=true):tn S q.s=t:=by
 unfold cw at h;obtain⟨s,hs,e⟩:=List.any_eq_true.1 h;simp at e;rw [←e.1.1,uq hS hs];exact e.1.2
theorem Bl (hS:aW S=true) (hP:aL S P=true) (hfs:∀g,g∈fs↔g∈cY S P A ch) {p:Pr} (hp:p∈P) {s:Sw} (hs:s∈S) {d sc a b t o:Int} (hF:WF (pkF p.i d sc 3 a b t o s.i 0)) {g:Fl} (hg:g∈fs) (hf:bF (pkF p.i d sc 3 a b t o s.i 0) 3 g=true):
  (d=p.m∧g=⟨3,1,[isM 0 p.i,isM 1 p.m],[]⟩)∨(d=65535∧g=⟨3,0,[isM 0 p.i,isM 1 65535],(P.filter (cn p)).flatMap ax⟩)∨
  (∃q,(q∈P∧q.s=s.i∧q.c≠ -1)∧d=q.m∧g=⟨3,0,[isM 8 s.i,isM 1 q.m],ax q⟩)∨((s.g≠0∧d=60000+s.i∧t≤1)∧g=⟨3,1,aX s++ [⟨6,65534,0⟩],[]⟩)∨
  (∃q,(q∈P∧cw S s.t q=true∧q.c≠ -1)∧(s.g≠0∧d=60000+s.i∧b=q.p)∧g=⟨3,0,aX s++ [isM 5 q.p],cK q++ax q⟩):=by
 have hz:=(eK hf).2;rcases BL ((hfs g).1 hg) (eK hf).1 with⟨q,hq,rfl | rfl⟩ |⟨x,hx,h | h⟩
 ·simp only at hz;rw [aB hF,aB hF,aV]at hz;simp at hz;obtain rfl:=cI hP hp hq.1 hz.1;exact .inl ⟨hz.2,rfl⟩
 ·simp only at hz;rw [aB hF,aB hF,aV]at hz;simp at hz;obtain rfl:=cI hP hp hq.1 hz.1;exact .inr (.inl ⟨hz.2,rfl⟩)
 ·obtain⟨q,hq,hqs,hqc,rfl⟩:=fi h;simp only at hz;rw [aB hF,aB hF,aV]at hz;simp at hz;exact .inr (.inr (.inl ⟨q,⟨hq,by rw [hqs,hz.1],hqc⟩,hz.2,by rw [hz.1]⟩))
 ·obtain⟨hx0,rfl |⟨q,hq,hqr,hqc,rfl⟩⟩:=fX h
  ·simp only [aX,List.cons_append,List.nil_append]at hz;rw [aB hF,aB hF,nj hF,aV]at hz;simp at hz;obtain rfl:=iO hS hs hx hz.1;exact .inr (.inr (.inr (.inl ⟨⟨hx0,hz.2.1,hz.2.2⟩,rfl⟩)))
  ·simp only [aX,List.cons_append,List.nil_append]at hz;rw [aB hF,aB hF,aB hF,aV]at hz;simp at hz;obtain rfl:=iO hS hs hx hz.1;exact .inr (.inr (.inr (.inr ⟨q,⟨hq,hqr,hqc⟩,⟨hx0,hz.2.1,hz.2.2⟩,rfl⟩)))
theorem ww (hS:aW S=true) (hP:aL S P=true) (hfs:∀g,g∈fs↔g∈cY S P A ch) {p:Pr} (hp:p∈P) (hc:p.c=ch) {s:Sw} (hs:s∈S) (hsi:s.i=p.s) {d sc a b t o:Int} (hF:WF (pkF p.i d sc 3 a b t o s.i 0)) (m:Nat):
  (eY fs (m+2) ⟨pkF p.i d sc 3 a b t o s.i 0,3,[]⟩).out=(lE S P s p.i d sc a b t o).map (gh p.i):=by
 have hin:∀q∈P,jF q:=(bI hS hP).2;have hpi:=hin p hp;have hsin:=(dE hS).2 s hs;have hall:=fun g hg hf=>Bl (g:=g) hS hP hfs hp hs hF hg hf;have hport:∀g,g∈bT P p→g∈fs:=fun g hg=>(hfs g).2 (comp_in.2 (.inr (.inl ⟨p,⟨hp,hc⟩,hg⟩)));have hsw:∀g,g∈bL P s∨g∈bG S P s→g∈fs:=fun g hg=>(hfs g).2 (comp_in.2 (.inr (.inr ⟨s,⟨hs,p,⟨hp,hc⟩,hsi.symm⟩,by rcases hg with hg | hg <;>simp [bk,hg]⟩)));have htt:=hF.bd 6;simp at htt;unfold lE;by_cases hd:d=65535
 ·subst hd;have h2:P.filter (rtB S s 65535 b t)= []:=bB fun q hq=>by
   have:¬(s.g≠0∧(65535:Int)=60000+s.i∧1<t):=fun h=>(by omega);simp only [rtB,decide_eq_false this];simp
  have h1:P.filter (brB s p.i 65535)=P.filter (cn p):=by
   refine List.filter_congr fun q hq=>?_;unfold brB cn;rw [hsi];simp [Bool.and_comm]
  rw [h1,h2,List.map_nil,List.append_nil];rw [cL (n:=m+1) (f:=⟨3,0,[isM 0 p.i,isM 1 65535],(P.filter (cn p)).flatMap ax⟩) (by simp) (hport _ (by simp [bT])) (by unfold bF;rw [aB hF,aB hF,aV];simp) ?_]
  ·obtain⟨u',e⟩:=my p.i 65535 sc 3 a b t o s.i (P.filter (cn p)) 0 [];rw [e,cQ _ _ (by simp)];simp [gh,brG,List.map_map,Function.comp_def]
  ·intro g hg hf;rcases hall g hg hf with⟨h,_⟩ |⟨_,rfl⟩ |⟨q,hq,h,_⟩ |⟨h,_⟩ |⟨q,_,h,_⟩
   ·have:=hpi.2.2.1;omega
   ·exact .inr rfl
   ·have:=(hin q hq.1).2.2.1;omega
   ·omega
   ·omega
 ·by_cases hm:d=p.m
  ·subst hm;have h1:P.filter (brB s p.i p.m)= []:=bB fun q hq=>by
    cases hx:brB s p.i p.m q with
    | false=>rfl
    | true=>
     unfold brB at hx;simp at hx;rcases hx.2.2 with h | h
     ·exact absurd h hd
     ·obtain rfl:=me hP hp hq (by rw [hx.2.1.1,hsi]) h;exact absurd rfl hx.2.1.2
   have h2:P.filter (rtB S s p.m b t)= []:=bB fun q hq=>by
    have:¬(s.g≠0∧p.m=60000+s.i∧1<t):=fun h=>by have:=hpi.2.2.1;omega
    simp only [rtB,decide_eq_false this];simp
   rw [h1,h2];rw [cL (n:=m+1) (f:=⟨3,1,[isM 0 p.i,isM 1 p.m],[]⟩) (by simp) (hport _ (by simp [bT])) (by unfold bF;rw [aB hF,aB hF,aV];simp) ?_]
   ·rw [List.foldl_nil,cQ _ _ (by simp)];rfl
   ·intro g hg hf;rcases hall g hg hf with⟨h,rfl⟩ |⟨h,_⟩ |⟨q,hq,h,rfl⟩ |⟨h,rfl⟩ |⟨q,_,h,rfl⟩
    ·exact .inr rfl
    ·exact absurd h hd
    ·exact .inl (by simp)
    ·exact .inr rfl
    ·exact .inl (by simp)
  ·by_cases hr:s.g≠0∧d=60000+s.i
   ·obtain⟨hr0,hr1⟩:=hr;have h1:P.filter (brB s p.i d)= []:=bB fun q hq=>by
     cases hx:brB s p.i d q with
     | false=>rfl
     | true=>
      unfold brB at hx;simp at hx;rcases hx.2.2 with h | h
      ·exact absurd h hd
      ·have:=(hin q hq).2.2.1;omega
    rw [h1,List.map_nil,List.nil_append];by_cases ht:t≤1
    ·have h2:P.filter (rtB S s d b t)= []:=bB fun q hq=>by
      have:¬(s.g≠0∧d=60000+s.i∧1<t):=fun h=>(by omega);simp only [rtB,decide_eq_false this];simp
     rw [h2];rw [cL (n:=m+1) (f:=⟨3,1,aX s++ [⟨6,65534,0⟩],[]⟩) (by simp) (hsw _ (.inr (by simp [bG,hr0]))) (by unfold bF;simp only [aX,List.cons_append,List.nil_append];rw [aB hF,aB hF,nj hF,aV];simp [hr1,ht]) ?_]
     ·rw [List.foldl_nil,cQ _ _ (by simp)];rfl
     ·intro g hg hf;rcases hall g hg hf with⟨h,rfl⟩ |⟨h,_⟩ |⟨q,hq,h,rfl⟩ |⟨h,rfl⟩ |⟨q,_,h,rfl⟩
      ·exact .inr rfl
      ·exact absurd h hd
      ·exact .inl (by simp)
      ·exact .inr rfl
      ·exact .inl (by simp)
    ·have hdec:(s.g≠0∧d=60000+s.i∧1<t):=⟨hr0,hr1,by omega⟩;by_cases hq:∃q∈P,cw S s.t q=true∧q.c≠ -1∧b=q.p
     ·obtain⟨q,hq,hqr,hqc,hqb⟩:=hq;have hone:P.filter (rtB S s d b t)= [q]:=jx (mq hP) hq (by simp only [rtB,decide_eq_true hdec];simp [aw,hqc,hqr,hqb]) (fun x hx hx2=>by
       unfold rtB at hx2;simp at hx2;exact iQ hS hP hx hq (by rw [iV hS hx2.2.2.1,iV hS hqr]) (by rw [hx2.2.2.2,hqb]))
      rw [hone];rw [cL (n:=m+1) (f:=⟨3,0,aX s++ [isM 5 q.p],cK q++ax q⟩) (by simp) (hsw _ (.inr ?_)) (by unfold bF;simp only [aX,List.cons_append,List.nil_append];rw [aB hF,aB hF,aB hF,aV];simp [hr1,hqb]) ?_]
      ·rw [rW _ _ _ _ _ _ _ _ _ _ (by omega),cQ _ _ (by simp)];simp [gh,rtG]
      ·unfold bG;rw [if_neg hr0];exact List.mem_cons_of_mem _ (List.mem_map.2 ⟨q,List.mem_filter.2 ⟨hq,by simp [hqr,aw,hqc]⟩,rfl⟩)
      ·intro g hg hf;rcases hall g hg hf with⟨h,rfl⟩ |⟨h,_⟩ |⟨x,hx,h,rfl⟩ |⟨h,rfl⟩ |⟨x,hx,h,rfl⟩
       ·exact absurd h hm
       ·exact absurd h hd
       ·have:=(hin x hx.1).2.2.1;omega
       ·omega
       ·obtain rfl:=iQ hS hP hx.1 hq (by rw [iV hS hx.2.1,iV hS hqr]) (by rw [←h.2.2,hqb]);exact .inr rfl
     ·have h2:P.filter (rtB S s d b t)= []:=bB fun q hq'=>by
       cases hx:rtB S s d b t q with
       | false=>rfl
       | true=>
        unfold rtB at hx;simp [aw]at hx;exact absurd ⟨q,hq',hx.2.2.1,hx.1,hx.2.2.2.symm⟩ hq
      rw [h2,gt (by omega) (by simp)]
      ·rfl
      ·intro g hg;cases hf:bF (pkF p.i d sc 3 a b t o s.i 0) 3 g with
       | false=>rfl
       | true=>
        exfalso;rcases hall g hg hf with⟨h,rfl⟩ |⟨h,_⟩ |⟨x,hx,h,rfl⟩ |⟨h,rfl⟩ |⟨x,hx,h,rfl⟩
        ·exact hm h
        ·exact hd h
        ·have:=(hin x hx.1).2.2.1;omega
        ·omega
        ·exact hq ⟨x,hx.1,hx.2.1,hx.2.2,h.2.2⟩
   ·have h2:P.filter (rtB S s d b t)= []:=bB fun q hq=>by
     have:¬(s.g≠0∧d=60000+s.i∧1<t):=fun h=>hr ⟨h.1,h.2.1⟩;simp only [rtB,decide_eq_false this];simp
    rw [h2,List.map_nil,List.append_nil];by_cases hq:∃q∈P,q.s=s.i∧q.c≠ -1∧d=q.m
    ·obtain⟨q,hq,hqs,hqc,hqm⟩:=hq;have hne:q.i≠p.i:=fun e=>by
      obtain rfl:=cI hP hq hp e;exact hm hqm
     have hone:P.filter (brB s p.i d)= [q]:=jx (mq hP) hq (by unfold brB;simp [aw,hqc,hqs,hne,hqm]) (fun x hx hx2=>by
      unfold brB at hx2;simp at hx2;rcases hx2.2.2 with h | h
      ·exact absurd h hd
      ·exact me hP hx hq (by rw [hx2.2.1.1,hqs]) (by rw [←h,hqm]))
     rw [hone];rw [cL (n:=m+1) (f:=⟨3,0,[isM 8 s.i,isM 1 q.m],ax q⟩) (by simp) (hsw _ (.inl ?_)) (by unfold bF;rw [aB hF,aB hF,aV];simp [hqm]) ?_]
     ·obtain⟨u',e⟩:=my p.i d sc 3 a b t o s.i [q] 0 [];simp only [List.flatMap_cons,List.flatMap_nil,List.append_nil]at e;rw [e,cQ _ _ (by simp)];simp [gh,brG]
     ·unfold bL;exact List.mem_map.2 ⟨q,List.mem_filter.2 ⟨hq,by simp [bZ,hqs,aw,hqc]⟩,rfl⟩
     ·intro g hg hf;rcases hall g hg hf with⟨h,rfl⟩ |⟨h,_⟩ |⟨x,hx,h,rfl⟩ |⟨h,rfl⟩ |⟨x,hx,h,rfl⟩
      ·exact absurd h hm
      ·exact absurd h hd
      ·obtain rfl:=me hP hx.1 hq (by rw [hx.2.1,hqs]) (by rw [←h,hqm]);exact .inr rfl
      ·exact absurd ⟨h.1,h.2.1⟩ hr
      ·exact absurd ⟨h.1,h.2.1⟩ hr
    ·have h1:P.filter (brB s p.i d)= []:=bB fun q hq'=>by
      cases hx:brB s p.i d q with
      | false=>rfl
      | true=>
       unfold brB at hx;simp [aw]at hx;rcases hx.2.2 with h | h
       ·exact absurd h hd
       ·exact absurd ⟨q,hq',hx.2.1.1,hx.1,h⟩ hq
     rw [h1,gt (by omega) (by simp)]
     ·rfl
     ·intro g hg;cases hf:bF (pkF p.i d sc 3 a b t o s.i 0) 3 g with
      | false=>rfl
      | true=>
       exfalso;rcases hall g hg hf with⟨h,rfl⟩ |⟨h,_⟩ |⟨x,hx,h,rfl⟩ |⟨h,rfl⟩ |⟨x,hx,h,rfl⟩
       ·exact hm h
       ·exact hd h
       ·exact hq ⟨x,hx.1,hx.2.1,hx.2.2,h⟩
       ·exact hr ⟨h.1,h.2.1⟩
       ·exact hr ⟨h.1,h.2.1⟩
theorem yz (hS:aW S=true) (hP:aL S P=true) (hA:bE S A=true) (hfs:∀g,g∈fs↔g∈cY S P A ch) {p:Pr} (hp:p∈P) (hc:p.c=ch) {s:Sw} (hs:s∈S) (hsi:s.i=p.s) {d b t o:Int} (ht:t≤255) (hF:WF (pkF p.i d p.m 3 p.p b t o 0 0)) (hF2:WF (pkF p.i d p.m 3 p.p b t o s.i 0)):
  ran fs (pkF p.i d p.m 3 p.p b t o 0 0)=if bN A s.i true p.p b o=true then(lE S P s p.i d p.m p.p b t o).map (gh p.i)else []:=by
 have hin:∀q∈P,jF q:=(bI hS hP).2;have hp1:=(hin p hp).1;unfold ran;rw [cL (n:=7) (f:=⟨0,0,bU p++cX,[⟨1,8,p.s⟩,aT 2]⟩) (by simp) ((hfs _).2 (comp_in.2 (.inr (.inl ⟨p,⟨hp,hc⟩,by simp [bT]⟩)))) ?_ ?_]
 rotate_left
 ·have h2:=iw hF [];rw [List.append_nil,aV]at h2;unfold bF;rw [gl hF,h2];simp [ht]
 ·intro g hg hf;obtain⟨q,hq,he,hk⟩:=wZ hin hfs (by omega) hF hg hf;obtain rfl:=cI hP hp hq.1 he.1;rcases hk with⟨_,rfl⟩ |⟨hk,_⟩
  ·exact .inr rfl
  ·exact absurd hk (by decide)
 rw [show([⟨1,8,p.s⟩,aT 2]:List Do).foldl step ⟨pkF p.i d p.m 3 p.p b t o 0 0,8,[]⟩=⟨pkF p.i d p.m 3 p.p b t o s.i 0,2,[]⟩ by simp [step,aT,doF,hsi]];rw [oI (n:=3) (inn:=true) hA (by decide) hF2 (fun g hg=>(hfs g).2 (comp_in.2 (.inr (.inr ⟨s,⟨hs,p,⟨hp,hc⟩,hsi.symm⟩,by simp [bk,hg]⟩)))) (fun g hg ht=>by obtain⟨s',_,h⟩:=BK ((hfs g).1 hg) ht;exact⟨s'.i,h⟩) 6];by_cases ha:bN A s.i true p.p b o=true
 ·rw [if_pos ha,if_pos ha];exact ww hS hP hfs hp hc hs hsi hF2 4
 ·rw [if_neg ha,if_neg ha,cQ _ _ (by simp)]
theorem qy (hm:may S P A=true) (hfs:∀g,g∈fs↔g∈cY S P A ch) {i d sc k a b t o:Int} (hi:1≤i) (hF:WF (pkF i d sc k a b t o 0 0)) (hk:k=1∨k=2∨k=3) (ht:t≤255) (hb:k≠3→t=0∧o=0):
  ran fs (pkF i d sc k a b t o 0 0)=(led S P A ch i d sc k a b t o).map (gh i):=by
 have hm':=hm;unfold may at hm';rw [Bool.and_eq_true,Bool.and_eq_true]at hm';obtain⟨⟨hS,hP⟩,hA⟩:=hm';have hin:∀q∈P,jF q:=(bI hS hP).2;unfold led;cases hfd:P.find? (fun p=>p.i==i)with
 | none=>
  refine lY hin hfs hi hF fun p hp _ e=>?_;exact absurd (List.find?_eq_none.1 hfd p hp) (by simp [e])
 | some p=>
  have hp:=List.mem_of_find?_eq_some hfd;obtain rfl:p.i=i:=(by simpa using List.find?_some hfd);simp only;obtain⟨hs,hsi⟩:=jZ hP hp;generalize dz S p.s=s at hs hsi;by_cases hc:p.c=ch∧sc=p.m∧a=p.p
  ·rw [if_pos hc];obtain⟨hc,rfl,rfl⟩:=hc;have hsw:=(dE hS).2 s hs;have hF2:WF (pkF p.i d p.m k p.p b t o s.i 0):=hF.set 8 s.i (by simp [ap];omega);rcases hk with rfl | rfl | rfl
   ·obtain⟨rfl,rfl⟩:=hb (by decide);rw [if_pos rfl];exact zl hS hP hfs hp hc hs hsi hF hF2
   ·rw [if_neg (by decide),if_neg (by simp)];exact lY hin hfs hi hF fun p hp _ e _ _=>by decide
   ·rw [if_neg (by decide),yz hS hP hA hfs hp hc hs hsi ht hF hF2];by_cases ha:bN A s.i true p.p b o=true
    ·rw [if_pos ha,if_pos ⟨rfl,ha⟩]
    ·rw [if_neg ha,if_neg (fun h=>ha h.2)];rfl
  ·rw [if_neg hc];refine lY hin hfs hi hF fun q hq h1 e h2 h3=>?_;obtain rfl:=cI hP hp hq e;exact absurd ⟨h1,h2,h3⟩ hc
end
theorem eD {w w':World} {b o B:Nat} {cs:List Value} (h:w.rangeAt b o cs) (hb:Below B w w') (hB:b<B):w'.rangeAt b o cs:=fun j v hj=>(hb.cell (p:=⟨b,o+j,none⟩) hB).trans (h j v hj)
theorem oJ (w:World) (cs:List Value) (t:TypeId):(w.alloc (.cells cs.toArray t)).rangeAt w.heap.size 0 cs:=fun j v hj=>by
 rw [Nat.zero_add];exact aj w _ rfl _ _ _ _ (by simpa using hj)
def Box (w:World) (b:Nat) (cs:List Value):Prop:=(b<w.heap.size∧w.rangeAt b 0 cs)∧∀j,j<cs.length→w.frozen? ⟨b,j,none⟩=false
theorem Box.lt {w:World} {b:Nat} {cs:List Value} (h:Box w b cs):b<w.heap.size:=h.1.1
theorem Box.range {w:World} {b:Nat} {cs:List Value} (h:Box w b cs):w.rangeAt b 0 cs:=h.1.2
theorem Box.cell {w:World} {b:Nat} {cs:List Value} (h:Box w b cs) (j:Nat) (v:Value) (hj:cs[j]? =some v):w.cell? ⟨b,j,none⟩=some v:=by
 have:=h.1.2 j v hj
 rwa [Nat.zero_add]at this
theorem Box.below {w w':World} {b:Nat} {cs:List Value} (h:Box w b cs) (hb:Below w.heap.size w w'):Box w' b cs:=
 ⟨⟨Nat.lt_of_lt_of_le h.1.1 hb.size,eD h.1.2 hb h.1.1⟩,fun j hj=>(hb.frozen (p:=⟨b,j,none⟩) h.1.1).trans (h.2 j hj)⟩
theorem Box.new (w:World) (cs:List Value) (t:TypeId):Box (w.alloc (.cells cs.toArray t)) w.heap.size cs:=
 ⟨⟨by simp,oJ w cs t⟩,fun j hj=>fy w _ rfl _ _ _⟩
theorem Box.alloc {w:World} {b:Nat} {cs:List Value} (h:Box w b cs) (o:Obj):Box (w.alloc o) b cs:=h.below ((Below.refl _ _).alloc zr _)
theorem Box.there {w:World} {b:Nat} {cs:List Value} (h:Box w b cs):w.there b 0 cs.length:=fun j hj=>by
 rw [Nat.zero_add];refine⟨?_,h.2 j hj⟩;rw [h.cell j _ (List.getElem?_eq_getElem hj)];rfl
theorem Box.fit {w:World} {b:Nat} {cs:List Value} (h:Box w b cs) (n:Nat) (hn:cs.length=n):w.there b 0 n:=hn ▸ h.there
theorem fu {cs:List Value} (h:cs.all (fun u=>u.oneCell')=true):cs.toArray.all (·.oneCell')=true:=all_oneCell_toArray (du h)
theorem dm (b:Nat):∀(vs:List Value) (o:Nat) (w:World),(w.setCells b o vs).heap.size=w.heap.size
 | [],o,w=>rfl
 | v::vs,o,w=>by
  show((w.setCell ⟨b,o,none⟩ v).setCells b (o+1) vs).heap.size=_;rw [dm b vs];simp
theorem bj (b:Nat) {B:Nat} (hB:B≤b) {a:World}:∀(vs:List Value) (o:Nat) {w:World},Below B a w→Below B a (w.setCells b o vs)
 | [],o,w,h=>h
 | v::vs,o,w,h=>bj b hB vs (o+1) (w:=w.setCell ⟨b,o,none⟩ v) (h.setCell hB _)
theorem dw (b:Nat):∀(vs:List Value) (o:Nat) (w:World) (x:Addr),(w.setCells b o vs).frozen? x=w.frozen? x
 | [],o,w,x=>rfl
 | v::vs,o,w,x=>by
  show((w.setCell ⟨b,o,none⟩ v).setCells b (o+1) vs).frozen? x=_;rw [dw b vs];simp
theorem Box.set {w:World} {b:Nat} {cs:List Value} (h:Box w b cs) (vs:List Value) (hl:vs.length=cs.length):Box (w.setCells b 0 vs) b vs:=
 ⟨⟨by rw [dm];exact h.1.1,World.rangeAt_setCells_same w b 0 vs (by rw [hl];exact h.there)⟩,fun j hj=>by rw [dw];exact h.2 j (by omega)⟩
theorem Box.set_far {w:World} {b b':Nat} {cs:List Value} (h:Box w b cs) (hne:b≠b') (o:Nat) (vs:List Value):Box (w.setCells b' o vs) b cs:=
 ⟨⟨by rw [dm];exact h.1.1,World.rangeAt_setCells_apart h.1.2 b' o vs (.inl hne)⟩,fun j hj=>by rw [dw];exact h.2 j hj⟩
section
variable {P:Program} {fn:Func} {tmps:Array Value} {w:World} {b:Nat} {cs:List Value} {ty:TypeId} {d:TypeDesc} {p q r:Tmp}
theorem dC (h:fn.results= #[.cell p ty,.tmp q]) (hp:tmps.getD p undef= .pointer (some ⟨b,0,none⟩)) (hc:w.rangeAt b 0 cs) (hu:P.underlying ty=some d) (hd:d.isRow=true) (hi:(P.info? ty).map (·.size)=some cs.length):
  (results fn tmps).run P w= .ok (.tuple #[.agg cs.toArray,tmps.getD q undef]) w:=by
 have:=run_loadVar_mid (P:=P) w b 0 ty cs d hc hu hd hi;rw [Array.getD_eq_getD_getElem?]at hp;simp only [results,h];simp [asAddr,this,hp]
end
def Bw (X:Nat→Prop) (w w':World):Prop:=w.heap.size≤w'.heap.size∧∀k,¬X k→k<w.heap.size→w'.heap[k]? =w.heap[k]?
def Kept (X:Nat→Prop) (w:World) (F:World→Prop):Prop:=∀w',Bw X w w'→F w'
theorem Kept.here {X:Nat→Prop} {w:World} {F:World→Prop} (h:Kept X w F):F w:=h w ⟨Nat.le_refl _,fun _ _ _=>rfl⟩
theorem Kept.on {X X':Nat→Prop} {w w':World} {F:World→Prop} (h:Kept X w F) (hk:Bw X w w') (hX:∀k,X' k→X k∨w.heap.size≤k):Kept X' w' F:=fun w2 h2=>
 h w2 ⟨Nat.le_trans hk.1 h2.1,fun k h0 h1=>(h2.2 k (fun hx=>by rcases hX k hx with h | h;exact h0 h;omega) (Nat.lt_of_lt_of_le h1 hk.1)).trans (hk.2 k h0 h1)⟩
theorem Kept.below {X:Nat→Prop} {w w':World} {F:World→Prop} (h:Kept X w F) (hb:Below w.heap.size w w'):Kept X w' F:=h.on ⟨hb.size,fun k _ h1=>hb.block k h1⟩ fun _ h=>.inl h
theorem Kept.but {X X':Nat→Prop} {w:World} {F:World→Prop} (h:Kept X w F) (hX:∀k,X' k→X k∨w.heap.size≤k):Kept X' w F:=h.on ⟨Nat.le_refl _,fun _ _ _=>rfl⟩ hX
theorem Kept.grown {X X':Nat→Prop} {w w':World} {F:World→Prop} {row:Option Nat} (h:Kept X w F) (hg:w.grownBy w' row) (hr:∀g,row=some g→X g) (hX:∀k,X' k→X k∨w.heap.size≤k):Kept X' w' F:=h.on ⟨hg.size,fun k h0 h1=>hg.block k h1 (fun e=>h0 (hr k e.symm))⟩ hX
theorem io (b:Nat):∀(vs:List Value) (o:Nat) (w:World) (k:Nat),k≠b→(w.setCells b o vs).heap[k]? =w.heap[k]?
 | [],o,w,k,_=>rfl
 | v::vs,o,w,k,h=>by
  show((w.setCell ⟨b,o,none⟩ v).setCells b (o+1) vs).heap[k]? =_;rw [io b vs _ _ k h];unfold World.setCell;simp only;rw [Array.getElem?_modify,if_neg (Ne.symm h)]
theorem Kept.set {X:Nat→Prop} {w:World} {F:World→Prop} (h:Kept X w F) {b:Nat} (hb:X b) (o:Nat) (vs:List Value):Kept X (w.setCells b o vs) F:=
 h.on ⟨by rw [dm];exact Nat.le_refl _,fun k h0 _=>io b vs o w k (fun e=>h0 (e ▸ hb))⟩ fun _ h=>.inl h
theorem wS {X:Nat→Prop} {w:World} {B e sz n:Nat} {u:Value} {xs:List Value} (h:w.ownsRow B e sz u n xs) (hX:∀g,u.ownBlock=some g→¬X g):Kept X w fun w'=>w'.ownsRow B e sz u n xs:=fun w' hk=>by
 refine⟨h.1,?_⟩;rcases h.2 with hn |⟨g,cap,cur,rfl,hb,hgg,rest⟩
 ·exact .inl hn
 ·exact .inr ⟨g,cap,cur,rfl,hb,(hk.2 g (hX g rfl) (dD h rfl)).trans hgg,rest⟩
theorem ei {w w':World} {b:Nat} (h:w'.heap[b]? =w.heap[b]?) (o:Nat):w'.cell? ⟨b,o,none⟩=w.cell? ⟨b,o,none⟩:=by
 unfold World.cell?;simp only [h]
theorem dF {α:Type} {C:α→List Value} {sz:Nat} {w:World} {v:Value} {l:List α} (d:α) (h:RowAt C sz w v l) {k:Nat} (hk:k<l.length):∃b off cap,v= .slice (some ⟨b,off,none⟩) l.length cap∧l.length≤cap∧w.rangeAt b (off+k*sz) (C (l.getD k d)):=by
 obtain⟨a,cap,rfl,hn,h0 |⟨b,off,rfl,hc,hx⟩⟩:=h
 ·omega
 ·refine⟨b,off,cap,rfl,hc,fun j u hj=>?_⟩;have e:l[k]? =some (l.getD k d):=by rw [List.getD_eq_getElem?_getD,List.getElem?_eq_getElem hk];rfl
  exact hx k _ e j u hj
theorem mu:(Tryz.prog.info? 26).map (·.size)=some 3:=by kernel_rfl
theorem jt (g0 g1 g2 g3 g4 g5 g6 g7 g8 g9:Int) (body:ByteArray) (w:World) (hb:body.size≤maxLen):
  Calls Tryz.prog 101 #[pkt g0 g1 g2 g3 g4 g5 g6 g7 g8 g9 body] w fun e w'=>e= .returned (.tuple #[if aQ g1 g2 g3 g4 g5 g6 g7 body.size=0 then fr g1 g2 g3 g4 g5 g6 g7 body else fr 0 0 0 0 0 0 0 ⟨#[]⟩,.int .i64 (aQ g1 g2 g3 g4 g5 g6 g7 body.size)])∧Below w.heap.size w w':=by
 have H1:=aa (fun W=>iH g1 g2 g3 g4 g5 g6 g7 body W hb);generalize aQ g1 g2 g3 g4 g5 g6 g7 body.size=E at*;go_enter Tryz.func101,Tryz.ntmps101;go_wp2_with fail
 obtain⟨W0,hW0⟩:∃W0,W0=((w.alloc (.cells #[.int .i64 g0,.int .i64 g1,.int .i64 g2,.int .i64 g3,.int .i64 g4,.int .i64 g5,.int .i64 g6,.int .i64 g7,.int .i64 g8,.int .i64 g9,.string body] 78)).alloc (.cells #[.int .i64 0,.int .i64 0,.int .i64 0,.int .i64 0,.int .i64 0,.int .i64 0,.int .i64 0,.string ⟨#[]⟩] 28)).alloc (.cells #[.int .i64 g1,.int .i64 g2,.int .i64 g3,.int .i64 g4,.int .i64 g5,.int .i64 g6,.int .i64 g7,.string body] 28):=⟨_,rfl⟩;have k0:Below w.heap.size w W0:=by rw [hW0];exact(((Below.refl _ w).alloc zr _).alloc (by simp) _).alloc (by simp;omega) _
 have hz0:W0.heap.size=w.heap.size+1+1+1:=by rw [hW0];simp
 have r0:W0.cell? ⟨w.heap.size+1,0,none⟩=some (.int .i64 0):=by rw [hW0];exact au (aj _ _ (by simp) _ _ _ _ rfl) _
 have r1:W0.cell? ⟨w.heap.size+1,1,none⟩=some (.int .i64 0):=by rw [hW0];exact au (aj _ _ (by simp) _ _ _ _ rfl) _
 have r2:W0.cell? ⟨w.heap.size+1,2,none⟩=some (.int .i64 0):=by rw [hW0];exact au (aj _ _ (by simp) _ _ _ _ rfl) _
 have r3:W0.cell? ⟨w.heap.size+1,3,none⟩=some (.int .i64 0):=by rw [hW0];exact au (aj _ _ (by simp) _ _ _ _ rfl) _
 have r4:W0.cell? ⟨w.heap.size+1,4,none⟩=some (.int .i64 0):=by rw [hW0];exact au (aj _ _ (by simp) _ _ _ _ rfl) _
 have r5:W0.cell? ⟨w.heap.size+1,5,none⟩=some (.int .i64 0):=by rw [hW0];exact au (aj _ _ (by simp) _ _ _ _ rfl) _
 have r6:W0.cell? ⟨w.heap.size+1,6,none⟩=some (.int .i64 0):=by rw [hW0];exact au (aj _ _ (by simp) _ _ _ _ rfl) _
 have r7:W0.cell? ⟨w.heap.size+1,7,none⟩=some (.string ⟨#[]⟩):=by rw [hW0];exact au (aj _ _ (by simp) _ _ _ _ rfl) _
 have f0:W0.cell? ⟨w.heap.size+1+1,0,none⟩=some (.int .i64 g1):=by rw [hW0];exact aj _ _ (by simp) _ _ _ _ rfl
 have f1:W0.cell? ⟨w.heap.size+1+1,1,none⟩=some (.int .i64 g2):=by rw [hW0];exact aj _ _ (by simp) _ _ _ _ rfl
 have f2:W0.cell? ⟨w.heap.size+1+1,2,none⟩=some (.int .i64 g3):=by rw [hW0];exact aj _ _ (by simp) _ _ _ _ rfl
 have f3:W0.cell? ⟨w.heap.size+1+1,3,none⟩=some (.int .i64 g4):=by rw [hW0];exact aj _ _ (by simp) _ _ _ _ rfl
 have f4:W0.cell? ⟨w.heap.size+1+1,4,none⟩=some (.int .i64 g5):=by rw [hW0];exact aj _ _ (by simp) _ _ _ _ rfl
 have f5:W0.cell? ⟨w.heap.size+1+1,5,none⟩=some (.int .i64 g6):=by rw [hW0];exact aj _ _ (by simp) _ _ _ _ rfl
 have f6:W0.cell? ⟨w.heap.size+1+1,6,none⟩=some (.int .i64 g7):=by rw [hW0];exact aj _ _ (by simp) _ _ _ _ rfl
 have f7:W0.cell? ⟨w.heap.size+1+1,7,none⟩=some (.string body):=by rw [hW0];exact aj _ _ (by simp) _ _ _ _ rfl
 have z:∀j,W0.frozen? ⟨w.heap.size+1,j,none⟩=false:=fun j=>by rw [hW0];exact tM (by simp) (fy _ _ (by simp) _ _ _) _
 rw [←hW0];clear hW0;refine(ag H1 _).mono ?_;rintro e w1 ⟨rfl,hb1⟩;have k1:=k0.trans (hb1.mono k0.size);replace⟨r0,r1,r2,r3,r4,r5,r6,r7,f0,f1,f2,f3,f4,f5⟩:=uC r0 r1 r2 r3 r4 r5 r6 r7 f0 f1 f2 f3 f4 f5 hb1;replace f6:=zC f6 hb1;replace f7:=zC f7 hb1;replace z:∀j,w1.frozen? ⟨w.heap.size+1,j,none⟩=false:=fun j=>(hb1.frozen (p:=⟨w.heap.size+1,j,none⟩) (by show w.heap.size+1<W0.heap.size;omega)).trans (z j);clear hb1 k0 H1 hz0;by_cases hE:¬E=0
 ·clear f0 f1 f2 f3 f4 f5 f6 f7;go_wp2_with fail
  have hS:((((((((w1.setCell ⟨w.heap.size+1,0,none⟩ (.int .i64 0)).setCell ⟨w.heap.size+1,1,none⟩ (.int .i64 0)).setCell ⟨w.heap.size+1,2,none⟩ (.int .i64 0)).setCell ⟨w.heap.size+1,3,none⟩ (.int .i64 0)).setCell ⟨w.heap.size+1,4,none⟩ (.int .i64 0)).setCell ⟨w.heap.size+1,5,none⟩ (.int .i64 0)).setCell ⟨w.heap.size+1,6,none⟩ (.int .i64 0)).setCell ⟨w.heap.size+1,7,none⟩ (.string ⟨#[]⟩))=w1.setCells (w.heap.size+1) 0 [Value.int .i64 0,.int .i64 0,.int .i64 0,.int .i64 0,.int .i64 0,.int .i64 0,.int .i64 0,.string ⟨#[]⟩]:=rfl;have HB:Hid (Below w.heap.size w ((((((((w1.setCell ⟨w.heap.size+1,0,none⟩ (.int .i64 0)).setCell ⟨w.heap.size+1,1,none⟩ (.int .i64 0)).setCell ⟨w.heap.size+1,2,none⟩ (.int .i64 0)).setCell ⟨w.heap.size+1,3,none⟩ (.int .i64 0)).setCell ⟨w.heap.size+1,4,none⟩ (.int .i64 0)).setCell ⟨w.heap.size+1,5,none⟩ (.int .i64 0)).setCell ⟨w.heap.size+1,6,none⟩ (.int .i64 0)).setCell ⟨w.heap.size+1,7,none⟩ (.string ⟨#[]⟩))):=by rw [hS];exact jz (Nat.le_succ _) _ _ _ (k1)
  have HI:Hid (∀j,j<8→(w1.cell? ⟨w.heap.size+1,j,none⟩).isSome=true):=fun j hj=>by
   have hc:j=0∨j=1∨j=2∨j=3∨j=4∨j=5∨j=6∨j=7:=(by omega);rcases hc with rfl | rfl | rfl | rfl | rfl | rfl | rfl | rfl
   ·rw [r0];rfl
   ·rw [r1];rfl
   ·rw [r2];rfl
   ·rw [r3];rfl
   ·rw [r4];rfl
   ·rw [r5];rfl
   ·rw [r6];rfl
   ·rw [r7];rfl
  have u0:((((((((w1.setCell ⟨w.heap.size+1,0,none⟩ (.int .i64 0)).setCell ⟨w.heap.size+1,1,none⟩ (.int .i64 0)).setCell ⟨w.heap.size+1,2,none⟩ (.int .i64 0)).setCell ⟨w.heap.size+1,3,none⟩ (.int .i64 0)).setCell ⟨w.heap.size+1,4,none⟩ (.int .i64 0)).setCell ⟨w.heap.size+1,5,none⟩ (.int .i64 0)).setCell ⟨w.heap.size+1,6,none⟩ (.int .i64 0)).setCell ⟨w.heap.size+1,7,none⟩ (.string ⟨#[]⟩)).cell? ⟨w.heap.size+1,0,none⟩=some (.int .i64 0):=by rw [hS];exact cz (vs:=[Value.int .i64 0,.int .i64 0,.int .i64 0,.int .i64 0,.int .i64 0,.int .i64 0,.int .i64 0,.string ⟨#[]⟩]) HI.out rfl
  have u1:((((((((w1.setCell ⟨w.heap.size+1,0,none⟩ (.int .i64 0)).setCell ⟨w.heap.size+1,1,none⟩ (.int .i64 0)).setCell ⟨w.heap.size+1,2,none⟩ (.int .i64 0)).setCell ⟨w.heap.size+1,3,none⟩ (.int .i64 0)).setCell ⟨w.heap.size+1,4,none⟩ (.int .i64 0)).setCell ⟨w.heap.size+1,5,none⟩ (.int .i64 0)).setCell ⟨w.heap.size+1,6,none⟩ (.int .i64 0)).setCell ⟨w.heap.size+1,7,none⟩ (.string ⟨#[]⟩)).cell? ⟨w.heap.size+1,1,none⟩=some (.int .i64 0):=by rw [hS];exact cz (vs:=[Value.int .i64 0,.int .i64 0,.int .i64 0,.int .i64 0,.int .i64 0,.int .i64 0,.int .i64 0,.string ⟨#[]⟩]) HI.out rfl
  have u2:((((((((w1.setCell ⟨w.heap.size+1,0,none⟩ (.int .i64 0)).setCell ⟨w.heap.size+1,1,none⟩ (.int .i64 0)).setCell ⟨w.heap.size+1,2,none⟩ (.int .i64 0)).setCell ⟨w.heap.size+1,3,none⟩ (.int .i64 0)).setCell ⟨w.heap.size+1,4,none⟩ (.int .i64 0)).setCell ⟨w.heap.size+1,5,none⟩ (.int .i64 0)).setCell ⟨w.heap.size+1,6,none⟩ (.int .i64 0)).setCell ⟨w.heap.size+1,7,none⟩ (.string ⟨#[]⟩)).cell? ⟨w.heap.size+1,2,none⟩=some (.int .i64 0):=by rw [hS];exact cz (vs:=[Value.int .i64 0,.int .i64 0,.int .i64 0,.int .i64 0,.int .i64 0,.int .i64 0,.int .i64 0,.string ⟨#[]⟩]) HI.out rfl
  have u3:((((((((w1.setCell ⟨w.heap.size+1,0,none⟩ (.int .i64 0)).setCell ⟨w.heap.size+1,1,none⟩ (.int .i64 0)).setCell ⟨w.heap.size+1,2,none⟩ (.int .i64 0)).setCell ⟨w.heap.size+1,3,none⟩ (.int .i64 0)).setCell ⟨w.heap.size+1,4,none⟩ (.int .i64 0)).setCell ⟨w.heap.size+1,5,none⟩ (.int .i64 0)).setCell ⟨w.heap.size+1,6,none⟩ (.int .i64 0)).setCell ⟨w.heap.size+1,7,none⟩ (.string ⟨#[]⟩)).cell? ⟨w.heap.size+1,3,none⟩=some (.int .i64 0):=by rw [hS];exact cz (vs:=[Value.int .i64 0,.int .i64 0,.int .i64 0,.int .i64 0,.int .i64 0,.int .i64 0,.int .i64 0,.string ⟨#[]⟩]) HI.out rfl
  have u4:((((((((w1.setCell ⟨w.heap.size+1,0,none⟩ (.int .i64 0)).setCell ⟨w.heap.size+1,1,none⟩ (.int .i64 0)).setCell ⟨w.heap.size+1,2,none⟩ (.int .i64 0)).setCell ⟨w.heap.size+1,3,none⟩ (.int .i64 0)).setCell ⟨w.heap.size+1,4,none⟩ (.int .i64 0)).setCell ⟨w.heap.size+1,5,none⟩ (.int .i64 0)).setCell ⟨w.heap.size+1,6,none⟩ (.int .i64 0)).setCell ⟨w.heap.size+1,7,none⟩ (.string ⟨#[]⟩)).cell? ⟨w.heap.size+1,4,none⟩=some (.int .i64 0):=by rw [hS];exact cz (vs:=[Value.int .i64 0,.int .i64 0,.int .i64 0,.int .i64 0,.int .i64 0,.int .i64 0,.int .i64 0,.string ⟨#[]⟩]) HI.out rfl
  have u5:((((((((w1.setCell ⟨w.heap.size+1,0,none⟩ (.int .i64 0)).setCell ⟨w.heap.size+1,1,none⟩ (.int .i64 0)).setCell ⟨w.heap.size+1,2,none⟩ (.int .i64 0)).setCell ⟨w.heap.size+1,3,none⟩ (.int .i64 0)).setCell ⟨w.heap.size+1,4,none⟩ (.int .i64 0)).setCell ⟨w.heap.size+1,5,none⟩ (.int .i64 0)).setCell ⟨w.heap.size+1,6,none⟩ (.int .i64 0)).setCell ⟨w.heap.size+1,7,none⟩ (.string ⟨#[]⟩)).cell? ⟨w.heap.size+1,5,none⟩=some (.int .i64 0):=by rw [hS];exact cz (vs:=[Value.int .i64 0,.int .i64 0,.int .i64 0,.int .i64 0,.int .i64 0,.int .i64 0,.int .i64 0,.string ⟨#[]⟩]) HI.out rfl
  have u6:((((((((w1.setCell ⟨w.heap.size+1,0,none⟩ (.int .i64 0)).setCell ⟨w.heap.size+1,1,none⟩ (.int .i64 0)).setCell ⟨w.heap.size+1,2,none⟩ (.int .i64 0)).setCell ⟨w.heap.size+1,3,none⟩ (.int .i64 0)).setCell ⟨w.heap.size+1,4,none⟩ (.int .i64 0)).setCell ⟨w.heap.size+1,5,none⟩ (.int .i64 0)).setCell ⟨w.heap.size+1,6,none⟩ (.int .i64 0)).setCell ⟨w.heap.size+1,7,none⟩ (.string ⟨#[]⟩)).cell? ⟨w.heap.size+1,6,none⟩=some (.int .i64 0):=by rw [hS];exact cz (vs:=[Value.int .i64 0,.int .i64 0,.int .i64 0,.int .i64 0,.int .i64 0,.int .i64 0,.int .i64 0,.string ⟨#[]⟩]) HI.out rfl
  have u7:((((((((w1.setCell ⟨w.heap.size+1,0,none⟩ (.int .i64 0)).setCell ⟨w.heap.size+1,1,none⟩ (.int .i64 0)).setCell ⟨w.heap.size+1,2,none⟩ (.int .i64 0)).setCell ⟨w.heap.size+1,3,none⟩ (.int .i64 0)).setCell ⟨w.heap.size+1,4,none⟩ (.int .i64 0)).setCell ⟨w.heap.size+1,5,none⟩ (.int .i64 0)).setCell ⟨w.heap.size+1,6,none⟩ (.int .i64 0)).setCell ⟨w.heap.size+1,7,none⟩ (.string ⟨#[]⟩)).cell? ⟨w.heap.size+1,7,none⟩=some (.string ⟨#[]⟩):=by rw [hS];exact cz (vs:=[Value.int .i64 0,.int .i64 0,.int .i64 0,.int .i64 0,.int .i64 0,.int .i64 0,.int .i64 0,.string ⟨#[]⟩]) HI.out rfl
  refine bodyPost_ret (v:=.tuple #[.agg #[.int .i64 0,.int .i64 0,.int .i64 0,.int .i64 0,.int .i64 0,.int .i64 0,.int .i64 0,.string ⟨#[]⟩],.int .i64 E]) ?_ rfl ⟨by first | rfl | rw [if_neg hE],HB.out⟩;clear HB HI hS r0 r1 r2 r3 r4 r5 r6 r7;generalize ((((((((w1.setCell ⟨w.heap.size+1,0,none⟩ (.int .i64 0)).setCell ⟨w.heap.size+1,1,none⟩ (.int .i64 0)).setCell ⟨w.heap.size+1,2,none⟩ (.int .i64 0)).setCell ⟨w.heap.size+1,3,none⟩ (.int .i64 0)).setCell ⟨w.heap.size+1,4,none⟩ (.int .i64 0)).setCell ⟨w.heap.size+1,5,none⟩ (.int .i64 0)).setCell ⟨w.heap.size+1,6,none⟩ (.int .i64 0)).setCell ⟨w.heap.size+1,7,none⟩ (.string ⟨#[]⟩))=W at*;simp [results,Tryz.results101,go_sem,u0,u1,u2,u3,u4,u5,u6,u7]
 ·have hE0:E=0:=(by omega);subst hE0;clear hE;go_wp2_with fail
  have hS:((((((((w1.setCell ⟨w.heap.size+1,0,none⟩ (.int .i64 g1)).setCell ⟨w.heap.size+1,1,none⟩ (.int .i64 g2)).setCell ⟨w.heap.size+1,2,none⟩ (.int .i64 g3)).setCell ⟨w.heap.size+1,3,none⟩ (.int .i64 g4)).setCell ⟨w.heap.size+1,4,none⟩ (.int .i64 g5)).setCell ⟨w.heap.size+1,5,none⟩ (.int .i64 g6)).setCell ⟨w.heap.size+1,6,none⟩ (.int .i64 g7)).setCell ⟨w.heap.size+1,7,none⟩ (.string body))=w1.setCells (w.heap.size+1) 0 [Value.int .i64 g1,.int .i64 g2,.int .i64 g3,.int .i64 g4,.int .i64 g5,.int .i64 g6,.int .i64 g7,.string body]:=rfl;have HB:Hid (Below w.heap.size w ((((((((w1.setCell ⟨w.heap.size+1,0,none⟩ (.int .i64 g1)).setCell ⟨w.heap.size+1,1,none⟩ (.int .i64 g2)).setCell ⟨w.heap.size+1,2,none⟩ (.int .i64 g3)).setCell ⟨w.heap.size+1,3,none⟩ (.int .i64 g4)).setCell ⟨w.heap.size+1,4,none⟩ (.int .i64 g5)).setCell ⟨w.heap.size+1,5,none⟩ (.int .i64 g6)).setCell ⟨w.heap.size+1,6,none⟩ (.int .i64 g7)).setCell ⟨w.heap.size+1,7,none⟩ (.string body))):=by rw [hS];exact jz (Nat.le_succ _) _ _ _ (k1)
  have HI:Hid (∀j,j<8→(w1.cell? ⟨w.heap.size+1,j,none⟩).isSome=true):=fun j hj=>by
   have hc:j=0∨j=1∨j=2∨j=3∨j=4∨j=5∨j=6∨j=7:=(by omega);rcases hc with rfl | rfl | rfl | rfl | rfl | rfl | rfl | rfl
   ·rw [r0];rfl
   ·rw [r1];rfl
   ·rw [r2];rfl
   ·rw [r3];rfl
   ·rw [r4];rfl
   ·rw [r5];rfl
   ·rw [r6];rfl
   ·rw [r7];rfl
  have u0:((((((((w1.setCell ⟨w.heap.size+1,0,none⟩ (.int .i64 g1)).setCell ⟨w.heap.size+1,1,none⟩ (.int .i64 g2)).setCell ⟨w.heap.size+1,2,none⟩ (.int .i64 g3)).setCell ⟨w.heap.size+1,3,none⟩ (.int .i64 g4)).setCell ⟨w.heap.size+1,4,none⟩ (.int .i64 g5)).setCell ⟨w.heap.size+1,5,none⟩ (.int .i64 g6)).setCell ⟨w.heap.size+1,6,none⟩ (.int .i64 g7)).setCell ⟨w.heap.size+1,7,none⟩ (.string body)).cell? ⟨w.heap.size+1,0,none⟩=some (.int .i64 g1):=by rw [hS];exact cz (vs:=[Value.int .i64 g1,.int .i64 g2,.int .i64 g3,.int .i64 g4,.int .i64 g5,.int .i64 g6,.int .i64 g7,.string body]) HI.out rfl
  have u1:((((((((w1.setCell ⟨w.heap.size+1,0,none⟩ (.int .i64 g1)).setCell ⟨w.heap.size+1,1,none⟩ (.int .i64 g2)).setCell ⟨w.heap.size+1,2,none⟩ (.int .i64 g3)).setCell ⟨w.heap.size+1,3,none⟩ (.int .i64 g4)).setCell ⟨w.heap.size+1,4,none⟩ (.int .i64 g5)).setCell ⟨w.heap.size+1,5,none⟩ (.int .i64 g6)).setCell ⟨w.heap.size+1,6,none⟩ (.int .i64 g7)).setCell ⟨w.heap.size+1,7,none⟩ (.string body)).cell? ⟨w.heap.size+1,1,none⟩=some (.int .i64 g2):=by rw [hS];exact cz (vs:=[Value.int .i64 g1,.int .i64 g2,.int .i64 g3,.int .i64 g4,.int .i64 g5,.int .i64 g6,.int .i64 g7,.string body]) HI.out rfl
  have u2:((((((((w1.setCell ⟨w.heap.size+1,0,none⟩ (.int .i64 g1)).setCell ⟨w.heap.size+1,1,none⟩ (.int .i64 g2)).setCell ⟨w.heap.size+1,2,none⟩ (.int .i64 g3)).setCell ⟨w.heap.size+1,3,none⟩ (.int .i64 g4)).setCell ⟨w.heap.size+1,4,none⟩ (.int .i64 g5)).setCell ⟨w.heap.size+1,5,none⟩ (.int .i64 g6)).setCell ⟨w.heap.size+1,6,none⟩ (.int .i64 g7)).setCell ⟨w.heap.size+1,7,none⟩ (.string body)).cell? ⟨w.heap.size+1,2,none⟩=some (.int .i64 g3):=by rw [hS];exact cz (vs:=[Value.int .i64 g1,.int .i64 g2,.int .i64 g3,.int .i64 g4,.int .i64 g5,.int .i64 g6,.int .i64 g7,.string body]) HI.out rfl
  have u3:((((((((w1.setCell ⟨w.heap.size+1,0,none⟩ (.int .i64 g1)).setCell ⟨w.heap.size+1,1,none⟩ (.int .i64 g2)).setCell ⟨w.heap.size+1,2,none⟩ (.int .i64 g3)).setCell ⟨w.heap.size+1,3,none⟩ (.int .i64 g4)).setCell ⟨w.heap.size+1,4,none⟩ (.int .i64 g5)).setCell ⟨w.heap.size+1,5,none⟩ (.int .i64 g6)).setCell ⟨w.heap.size+1,6,none⟩ (.int .i64 g7)).setCell ⟨w.heap.size+1,7,none⟩ (.string body)).cell? ⟨w.heap.size+1,3,none⟩=some (.int .i64 g4):=by rw [hS];exact cz (vs:=[Value.int .i64 g1,.int .i64 g2,.int .i64 g3,.int .i64 g4,.int .i64 g5,.int .i64 g6,.int .i64 g7,.string body]) HI.out rfl
  have u4:((((((((w1.setCell ⟨w.heap.size+1,0,none⟩ (.int .i64 g1)).setCell ⟨w.heap.size+1,1,none⟩ (.int .i64 g2)).setCell ⟨w.heap.size+1,2,none⟩ (.int .i64 g3)).setCell ⟨w.heap.size+1,3,none⟩ (.int .i64 g4)).setCell ⟨w.heap.size+1,4,none⟩ (.int .i64 g5)).setCell ⟨w.heap.size+1,5,none⟩ (.int .i64 g6)).setCell ⟨w.heap.size+1,6,none⟩ (.int .i64 g7)).setCell ⟨w.heap.size+1,7,none⟩ (.string body)).cell? ⟨w.heap.size+1,4,none⟩=some (.int .i64 g5):=by rw [hS];exact cz (vs:=[Value.int .i64 g1,.int .i64 g2,.int .i64 g3,.int .i64 g4,.int .i64 g5,.int .i64 g6,.int .i64 g7,.string body]) HI.out rfl
  have u5:((((((((w1.setCell ⟨w.heap.size+1,0,none⟩ (.int .i64 g1)).setCell ⟨w.heap.size+1,1,none⟩ (.int .i64 g2)).setCell ⟨w.heap.size+1,2,none⟩ (.int .i64 g3)).setCell ⟨w.heap.size+1,3,none⟩ (.int .i64 g4)).setCell ⟨w.heap.size+1,4,none⟩ (.int .i64 g5)).setCell ⟨w.heap.size+1,5,none⟩ (.int .i64 g6)).setCell ⟨w.heap.size+1,6,none⟩ (.int .i64 g7)).setCell ⟨w.heap.size+1,7,none⟩ (.string body)).cell? ⟨w.heap.size+1,5,none⟩=some (.int .i64 g6):=by rw [hS];exact cz (vs:=[Value.int .i64 g1,.int .i64 g2,.int .i64 g3,.int .i64 g4,.int .i64 g5,.int .i64 g6,.int .i64 g7,.string body]) HI.out rfl
  have u6:((((((((w1.setCell ⟨w.heap.size+1,0,none⟩ (.int .i64 g1)).setCell ⟨w.heap.size+1,1,none⟩ (.int .i64 g2)).setCell ⟨w.heap.size+1,2,none⟩ (.int .i64 g3)).setCell ⟨w.heap.size+1,3,none⟩ (.int .i64 g4)).setCell ⟨w.heap.size+1,4,none⟩ (.int .i64 g5)).setCell ⟨w.heap.size+1,5,none⟩ (.int .i64 g6)).setCell ⟨w.heap.size+1,6,none⟩ (.int .i64 g7)).setCell ⟨w.heap.size+1,7,none⟩ (.string body)).cell? ⟨w.heap.size+1,6,none⟩=some (.int .i64 g7):=by rw [hS];exact cz (vs:=[Value.int .i64 g1,.int .i64 g2,.int .i64 g3,.int .i64 g4,.int .i64 g5,.int .i64 g6,.int .i64 g7,.string body]) HI.out rfl
  have u7:((((((((w1.setCell ⟨w.heap.size+1,0,none⟩ (.int .i64 g1)).setCell ⟨w.heap.size+1,1,none⟩ (.int .i64 g2)).setCell ⟨w.heap.size+1,2,none⟩ (.int .i64 g3)).setCell ⟨w.heap.size+1,3,none⟩ (.int .i64 g4)).setCell ⟨w.heap.size+1,4,none⟩ (.int .i64 g5)).setCell ⟨w.heap.size+1,5,none⟩ (.int .i64 g6)).setCell ⟨w.heap.size+1,6,none⟩ (.int .i64 g7)).setCell ⟨w.heap.size+1,7,none⟩ (.string body)).cell? ⟨w.heap.size+1,7,none⟩=some (.string body):=by rw [hS];exact cz (vs:=[Value.int .i64 g1,.int .i64 g2,.int .i64 g3,.int .i64 g4,.int .i64 g5,.int .i64 g6,.int .i64 g7,.string body]) HI.out rfl
  refine bodyPost_ret (v:=.tuple #[.agg #[.int .i64 g1,.int .i64 g2,.int .i64 g3,.int .i64 g4,.int .i64 g5,.int .i64 g6,.int .i64 g7,.string body],.int .i64 0]) ?_ rfl ⟨rfl,HB.out⟩;clear HB HI hS r0 r1 r2 r3 r4 r5 r6 r7;generalize ((((((((w1.setCell ⟨w.heap.size+1,0,none⟩ (.int .i64 g1)).setCell ⟨w.heap.size+1,1,none⟩ (.int .i64 g2)).setCell ⟨w.heap.size+1,2,none⟩ (.int .i64 g3)).setCell ⟨w.heap.size+1,3,none⟩ (.int .i64 g4)).setCell ⟨w.heap.size+1,4,none⟩ (.int .i64 g5)).setCell ⟨w.heap.size+1,5,none⟩ (.int .i64 g6)).setCell ⟨w.heap.size+1,6,none⟩ (.int .i64 g7)).setCell ⟨w.heap.size+1,7,none⟩ (.string body))=W at*;simp [results,Tryz.results101,go_sem,u0,u1,u2,u3,u4,u5,u6,u7]
theorem aE (n:Int) (w:World):
  Calls Tryz.prog 98 #[.int .i64 n] w fun e w'=>e= .returned (.bool (ap n))∧w'=w:=by
 go_enter Tryz.func98,Tryz.ntmps98;go_wp2
 all_goals go_ret
 all_goals refine⟨aq ?_,rfl⟩
 all_goals (unfold ap;rw [Bool.eq_iff_iff];simp_all;try omega)
set_option maxRecDepth 100000 in
theorem eG (f0 f1 f2 f3 f4 f5 f6 f7 f8 f9:Int) (body:ByteArray) (w:World) (hb:body.size≤maxLen):
  Calls Tryz.prog 51 #[pkt f0 f1 f2 f3 f4 f5 f6 f7 f8 f9 body] w fun e w'=>e= .returned (.int .i64 (bV [f0,f1,f2,f3,f4,f5,f6,f7,f8,f9] body.size))∧Below w.heap.size w w':=by
 unfold maxLen at hb;have i0:∀w:World,(Instr.index 76 (.agg #[.int .i64 f0,.int .i64 f1,.int .i64 f2,.int .i64 f3,.int .i64 f4,.int .i64 f5,.int .i64 f6,.int .i64 f7,.int .i64 f8,.int .i64 f9]) (.int .i64 0)).run Tryz.prog w= .ok (.int .i64 f0) w:=fun _=>by kernel_rfl
 have i1:∀w:World,(Instr.index 76 (.agg #[.int .i64 f0,.int .i64 f1,.int .i64 f2,.int .i64 f3,.int .i64 f4,.int .i64 f5,.int .i64 f6,.int .i64 f7,.int .i64 f8,.int .i64 f9]) (.int .i64 1)).run Tryz.prog w= .ok (.int .i64 f1) w:=fun _=>by kernel_rfl
 have i2:∀w:World,(Instr.index 76 (.agg #[.int .i64 f0,.int .i64 f1,.int .i64 f2,.int .i64 f3,.int .i64 f4,.int .i64 f5,.int .i64 f6,.int .i64 f7,.int .i64 f8,.int .i64 f9]) (.int .i64 2)).run Tryz.prog w= .ok (.int .i64 f2) w:=fun _=>by kernel_rfl
 have i3:∀w:World,(Instr.index 76 (.agg #[.int .i64 f0,.int .i64 f1,.int .i64 f2,.int .i64 f3,.int .i64 f4,.int .i64 f5,.int .i64 f6,.int .i64 f7,.int .i64 f8,.int .i64 f9]) (.int .i64 3)).run Tryz.prog w= .ok (.int .i64 f3) w:=fun _=>by kernel_rfl
 have i4:∀w:World,(Instr.index 76 (.agg #[.int .i64 f0,.int .i64 f1,.int .i64 f2,.int .i64 f3,.int .i64 f4,.int .i64 f5,.int .i64 f6,.int .i64 f7,.int .i64 f8,.int .i64 f9]) (.int .i64 4)).run Tryz.prog w= .ok (.int .i64 f4) w:=fun _=>by kernel_rfl
 have i5:∀w:World,(Instr.index 76 (.agg #[.int .i64 f0,.int .i64 f1,.int .i64 f2,.int .i64 f3,.int .i64 f4,.int .i64 f5,.int .i64 f6,.int .i64 f7,.int .i64 f8,.int .i64 f9]) (.int .i64 5)).run Tryz.prog w= .ok (.int .i64 f5) w:=fun _=>by kernel_rfl
 have i6:∀w:World,(Instr.index 76 (.agg #[.int .i64 f0,.int .i64 f1,.int .i64 f2,.int .i64 f3,.int .i64 f4,.int .i64 f5,.int .i64 f6,.int .i64 f7,.int .i64 f8,.int .i64 f9]) (.int .i64 6)).run Tryz.prog w= .ok (.int .i64 f6) w:=fun _=>by kernel_rfl
 have i7:∀w:World,(Instr.index 76 (.agg #[.int .i64 f0,.int .i64 f1,.int .i64 f2,.int .i64 f3,.int .i64 f4,.int .i64 f5,.int .i64 f6,.int .i64 f7,.int .i64 f8,.int .i64 f9]) (.int .i64 7)).run Tryz.prog w= .ok (.int .i64 f7) w:=fun _=>by kernel_rfl
 have i8:∀w:World,(Instr.index 76 (.agg #[.int .i64 f0,.int .i64 f1,.int .i64 f2,.int .i64 f3,.int .i64 f4,.int .i64 f5,.int .i64 f6,.int .i64 f7,.int .i64 f8,.int .i64 f9]) (.int .i64 8)).run Tryz.prog w= .ok (.int .i64 f8) w:=fun _=>by kernel_rfl
 have i9:∀w:World,(Instr.index 76 (.agg #[.int .i64 f0,.int .i64 f1,.int .i64 f2,.int .i64 f3,.int .i64 f4,.int .i64 f5,.int .i64 f6,.int .i64 f7,.int .i64 f8,.int .i64 f9]) (.int .i64 9)).run Tryz.prog w= .ok (.int .i64 f9) w:=fun _=>by kernel_rfl
 have HF:Hid (bV [f0,f1,f2,f3,f4,f5,f6,f7,f8,f9] body.size=if([f0,f1,f2,f3,f4,f5,f6,f7,f8,f9]:List Int).all ap then(if 40<body.size then 1 else 0)else 2):=rfl;generalize bV [f0,f1,f2,f3,f4,f5,f6,f7,f8,f9] body.size=R at HF⊢;go_enter Tryz.func51,Tryz.ntmps51;go_wp2_with fail
 obtain⟨w1,hw1⟩:∃w1,w1=w.alloc (.cells #[.int .i64 f0,.int .i64 f1,.int .i64 f2,.int .i64 f3,.int .i64 f4,.int .i64 f5,.int .i64 f6,.int .i64 f7,.int .i64 f8,.int .i64 f9,.string body] 78):=⟨_,rfl⟩;have hbel:Below w.heap.size w w1:=by rw [hw1];exact(Below.refl _ _).alloc zr _
 have hc10:w1.cell? ⟨w.heap.size,10,none⟩=some (.string body):=by rw [hw1];simp
 rw [←hw1];clear hw1;go_loop [7] (fun i=>∃k:Nat,k≤10∧i= .int .i64 k∧Hid ((([f0,f1,f2,f3,f4,f5,f6,f7,f8,f9]:List Int).take k).all ap=true)) (fun i=>10-(intOf i).toNat)
 case atStart=>exact⟨0,by omega,rfl,rfl⟩
 case round=>
  obtain⟨k,hk,rfl,HA⟩:=hrel;have hk5:k=0∨k=1∨k=2∨k=3∨k=4∨k=5∨k=6∨k=7∨k=8∨k=9∨k=10:=(by omega);rcases hk5 with rfl | rfl | rfl | rfl | rfl | rfl | rfl | rfl | rfl | rfl | rfl
  ·by_cases hx:ap f0=true
   ·go_wp2_with (go_at_call 98;refine(aE _ _).mono ?_;rintro e w' ⟨rfl,rfl⟩)
    go_round
    case rel=>exact⟨1,by omega,rfl,aa (by simp [hx])⟩
    case measure=>simp [intOf]
   ·have hx':ap f0=false:=(by simpa using hx);clear hx;go_wp2_with (go_at_call 98;refine(aE _ _).mono ?_;rintro e w' ⟨rfl,rfl⟩)
    go_ret;exact⟨ah (by rw [HF.out];simp [hx']),hbel⟩
  ·by_cases hx:ap f1=true
   ·go_wp2_with (go_at_call 98;refine(aE _ _).mono ?_;rintro e w' ⟨rfl,rfl⟩)
    go_round
    case rel=>exact⟨2,by omega,rfl,aa (by have:=HA.out;simp at this⊢;simp [this,hx])⟩
    case measure=>simp [intOf]
   ·have hx':ap f1=false:=(by simpa using hx);clear hx;go_wp2_with (go_at_call 98;refine(aE _ _).mono ?_;rintro e w' ⟨rfl,rfl⟩)
    go_ret;exact⟨ah (by rw [HF.out];simp [hx']),hbel⟩
  ·by_cases hx:ap f2=true
   ·go_wp2_with (go_at_call 98;refine(aE _ _).mono ?_;rintro e w' ⟨rfl,rfl⟩)
    go_round
    case rel=>exact⟨3,by omega,rfl,aa (by have:=HA.out;simp at this⊢;simp [this,hx])⟩
    case measure=>simp [intOf]
   ·have hx':ap f2=false:=(by simpa using hx);clear hx;go_wp2_with (go_at_call 98;refine(aE _ _).mono ?_;rintro e w' ⟨rfl,rfl⟩)
    go_ret;exact⟨ah (by rw [HF.out];simp [hx']),hbel⟩
  ·by_cases hx:ap f3=true
   ·go_wp2_with (go_at_call 98;refine(aE _ _).mono ?_;rintro e w' ⟨rfl,rfl⟩)
    go_round
    case rel=>exact⟨4,by omega,rfl,aa (by have:=HA.out;simp at this⊢;simp [this,hx])⟩
    case measure=>simp [intOf]
   ·have hx':ap f3=false:=(by simpa using hx);clear hx;go_wp2_with (go_at_call 98;refine(aE _ _).mono ?_;rintro e w' ⟨rfl,rfl⟩)
    go_ret;exact⟨ah (by rw [HF.out];simp [hx']),hbel⟩
  ·by_cases hx:ap f4=true
   ·go_wp2_with (go_at_call 98;refine(aE _ _).mono ?_;rintro e w' ⟨rfl,rfl⟩)
    go_round
    case rel=>exact⟨5,by omega,rfl,aa (by have:=HA.out;simp at this⊢;simp [this,hx])⟩
    case measure=>simp [intOf]
   ·have hx':ap f4=false:=(by simpa using hx);clear hx;go_wp2_with (go_at_call 98;refine(aE _ _).mono ?_;rintro e w' ⟨rfl,rfl⟩)
    go_ret;exact⟨ah (by rw [HF.out];simp [hx']),hbel⟩
  ·by_cases hx:ap f5=true
   ·go_wp2_with (go_at_call 98;refine(aE _ _).mono ?_;rintro e w' ⟨rfl,rfl⟩)
    go_round
    case rel=>exact⟨6,by omega,rfl,aa (by have:=HA.out;simp at this⊢;simp [this,hx])⟩
    case measure=>simp [intOf]
   ·have hx':ap f5=false:=(by simpa using hx);clear hx;go_wp2_with (go_at_call 98;refine(aE _ _).mono ?_;rintro e w' ⟨rfl,rfl⟩)
    go_ret;exact⟨ah (by rw [HF.out];simp [hx']),hbel⟩
  ·by_cases hx:ap f6=true
   ·go_wp2_with (go_at_call 98;refine(aE _ _).mono ?_;rintro e w' ⟨rfl,rfl⟩)
    go_round
    case rel=>exact⟨7,by omega,rfl,aa (by have:=HA.out;simp at this⊢;simp [this,hx])⟩
    case measure=>simp [intOf]
   ·have hx':ap f6=false:=(by simpa using hx);clear hx;go_wp2_with (go_at_call 98;refine(aE _ _).mono ?_;rintro e w' ⟨rfl,rfl⟩)
    go_ret;exact⟨ah (by rw [HF.out];simp [hx']),hbel⟩
  ·by_cases hx:ap f7=true
   ·go_wp2_with (go_at_call 98;refine(aE _ _).mono ?_;rintro e w' ⟨rfl,rfl⟩)
    go_round
    case rel=>exact⟨8,by omega,rfl,aa (by have:=HA.out;simp at this⊢;simp [this,hx])⟩
    case measure=>simp [intOf]
   ·have hx':ap f7=false:=(by simpa using hx);clear hx;go_wp2_with (go_at_call 98;refine(aE _ _).mono ?_;rintro e w' ⟨rfl,rfl⟩)
    go_ret;exact⟨ah (by rw [HF.out];simp [hx']),hbel⟩
  ·by_cases hx:ap f8=true
   ·go_wp2_with (go_at_call 98;refine(aE _ _).mono ?_;rintro e w' ⟨rfl,rfl⟩)
    go_round
    case rel=>exact⟨9,by omega,rfl,aa (by have:=HA.out;simp at this⊢;simp [this,hx])⟩
    case measure=>simp [intOf]
   ·have hx':ap f8=false:=(by simpa using hx);clear hx;go_wp2_with (go_at_call 98;refine(aE _ _).mono ?_;rintro e w' ⟨rfl,rfl⟩)
    go_ret;exact⟨ah (by rw [HF.out];simp [hx']),hbel⟩
  ·by_cases hx:ap f9=true
   ·go_wp2_with (go_at_call 98;refine(aE _ _).mono ?_;rintro e w' ⟨rfl,rfl⟩)
    go_round
    case rel=>exact⟨10,by omega,rfl,aa (by have:=HA.out;simp at this⊢;simp [this,hx])⟩
    case measure=>simp [intOf]
   ·have hx':ap f9=false:=(by simpa using hx);clear hx;go_wp2_with (go_at_call 98;refine(aE _ _).mono ?_;rintro e w' ⟨rfl,rfl⟩)
    go_ret;exact⟨ah (by rw [HF.out];simp [hx']),hbel⟩
  ·have HL:=aa (show([f0,f1,f2,f3,f4,f5,f6,f7,f8,f9]:List Int).all ap=true from by simpa using HA.out);by_cases h40:40<body.size
   ·go_wp2_with fail
    go_ret;exact⟨ah (by rw [HF.out,HL.out,if_pos rfl,if_pos h40]),hbel⟩
   ·go_wp2_with fail
    go_ret;exact⟨ah (by rw [HF.out,HL.out,if_pos rfl,if_neg h40]),hbel⟩
theorem jQ (n:Int) (w:World):
  Calls Tryz.prog 194 #[.int .i64 n] w fun e w'=>e= .returned (.bool (ii n))∧w'=w:=by
 go_enter Tryz.func194,Tryz.ntmps194;go_wp2
 all_goals go_ret
 all_goals refine⟨aq ?_,rfl⟩
 all_goals (unfold ii;rw [Bool.eq_iff_iff];simp_all;try omega)
theorem sC (kind a n dK:Int) (w:World):
  Calls Tryz.prog 195 #[.agg #[.int .i64 kind,.int .i64 a,.int .i64 n],.int .i64 dK] w fun e w'=>e= .returned (.bool (eF kind a n dK true))∧Below w.heap.size w w':=by
 have HI:=aa jQ;have HJ:=aa aE;have hcase:kind=1∨kind=2∨kind=3∨kind=4∨kind=5∨kind=6∨(¬kind=1∧¬kind=2∧¬kind=3∧¬kind=4∧¬kind=5∧¬kind=6):=by omega
 rcases hcase with rfl | rfl | rfl | rfl | rfl | rfl |⟨h1,h2,h3,h4,h5,h6⟩
 all_goals
  go_enter Tryz.func195,Tryz.ntmps195;go_wp2_with (first |(go_at_call 194;refine(ag HI _ _).mono ?_;rintro e w' ⟨rfl,rfl⟩) |(go_at_call 98;refine(ag HJ _ _).mono ?_;rintro e w' ⟨rfl,rfl⟩))
  all_goals go_ret
  all_goals refine⟨aq ?_,(Below.refl _ _).alloc zr _⟩
  all_goals (unfold eF;simp_all [ii,ap];try (first |(intros;omega) |(rw [Bool.eq_iff_iff];simp;omega)))
theorem qf (x y:BitVec 64):x&&& ~~~y=0#64↔x&&& y=x:=by
 constructor
 ·intro h;apply BitVec.eq_of_getLsbD_eq;intro i hi;have:=congrArg (fun z=>BitVec.getLsbD z i) h;simp [hi]at this;simp [hi];exact this
 ·intro h;apply BitVec.eq_of_getLsbD_eq;intro i hi;have:=congrArg (fun z=>BitVec.getLsbD z i) h;simp [hi]at this;simp [hi];exact this
theorem gr (a:Nat) (h:a≤65535):(BitVec.ofInt 64 (a:Int)).toNat=a:=by
 simp;omega
theorem qM (v m:Int) (hv:ap v=true) (hm:ap m=true):(bits .andNot .i64 v m==0)=(mk v m==v):=by
 unfold ap at hv hm;simp at hv hm;obtain⟨a,rfl⟩:=Int.eq_ofNat_of_zero_le hv.1;obtain⟨b,rfl⟩:=Int.eq_ofNat_of_zero_le hm.1;have ha:=gr a (by omega);have hb:=gr b (by omega);show(IntKind.i64.wrap ((BitVec.ofInt 64 (a:Int)&&& ~~~BitVec.ofInt 64 (b:Int)).toNat:Int)==0)=_;generalize BitVec.ofInt 64 (a:Int)=X at ha⊢;generalize BitVec.ofInt 64 (b:Int)=Y at hb⊢;have hle:(X&&& ~~~Y).toNat≤a:=by rw [BitVec.toNat_and,ha];exact Nat.and_le_left
 rw [ba _ (by omega) (by omega)];have e1:(X&&& ~~~Y).toNat=0↔(X&&& Y).toNat=X.toNat:=by
  have h:=qf X Y;rw [←BitVec.toNat_inj, ←BitVec.toNat_inj]at h;simpa using h
 rw [BitVec.toNat_and (x:=X) (y:=Y),ha,hb]at e1;unfold mk;rw [Bool.eq_iff_iff,beq_iff_eq,beq_iff_eq,Int.toNat_natCast,Int.toNat_natCast];constructor
 ·intro h;rw [e1.1 (by exact_mod_cast h)]
 ·intro h;rw [e1.2 (by exact_mod_cast h)];rfl
theorem qS (f m v:Int) (w:World):
  Calls Tryz.prog 159 #[.agg #[.int .i64 f,.int .i64 m,.int .i64 v]] w fun e w'=>e= .returned (.bool (aZ ⟨f,m,v⟩))∧Below w.heap.size w w':=by
 have HI:=aa jQ;have HJ:=aa aE;have HR:Hid (aZ ⟨f,m,v⟩=(ii f&&ap m&&ap v&&(mk v m==v))):=rfl;generalize aZ ⟨f,m,v⟩=R at HR⊢;go_enter Tryz.func159,Tryz.ntmps159;go_wp2_with (first |(go_at_call 194;refine(ag HI _ _).mono ?_;rintro e w' ⟨rfl,rfl⟩) |(go_at_call 98;refine(ag HJ _ _).mono ?_;rintro e w' ⟨rfl,rfl⟩))
 all_goals go_ret
 all_goals refine⟨aq ?_,(Below.refl _ _).alloc zr _⟩
 all_goals (rw [HR.out];try simp_all)
 all_goals (apply qM <;>assumption)
theorem qj (f m v:Int) (w:World):
  Calls Tryz.prog 158 #[.agg #[.int .i64 f,.int .i64 m,.int .i64 v]] w fun e w'=>e= .returned (.bool (!aZ ⟨f,m,v⟩))∧Below w.heap.size w w':=by
 have HI:=aa (qS f m v);generalize aZ ⟨f,m,v⟩=R at HI⊢;go_enter Tryz.func158,Tryz.ntmps158;go_wp2_with fail
 refine(ag HI _).mono ?_;rintro e w1 ⟨rfl,hb1⟩;go_wp2_with fail
 go_ret;exact⟨rfl,by simpa using (by first | exact hb1 | exact((Below.refl _ _).alloc zr _).trans (hb1.mono (by simp)))⟩
theorem qd (v:Value) (ms:List Mt) (w:World) (hM:MsAt w v ms) (hl:ms.length≤12):
  Calls Tryz.prog 193 #[v,.func (.func 158) #[] #[]] w fun e w'=>∃r:Int,e= .returned (.int .i64 r)∧decide (0≤r)= !ms.all aZ∧Below w.heap.size w w':=by
 obtain⟨a,cap,rfl,hn,hL⟩:=hM;go_enter Tryz.func193,Tryz.ntmps193;go_wp2_with fail
 go_loopw [8] (fun i wr=>∃k:Nat,k≤ms.length∧i= .int .i64 k∧(∀j,j<k→aZ (ms.getD j mt0)=true)∧Below w.heap.size w wr) (fun i _=>ms.length-(intOf i).toNat)
 case atStart=>exact⟨0,by omega,rfl,fun j h=>absurd h (by omega),Below.refl _ _⟩
 case round=>
  obtain⟨k,hk,rfl,hall,hbel⟩:=hrel;have HALL:=aa hall;clear hall;by_cases hlt:k<ms.length
  ·obtain⟨b,off,rfl,hcap,hcell⟩:∃b off,a=some ⟨b,off,none⟩∧ms.length≤cap∧∀i,i<ms.length→w.cell? ⟨b,off+i*3,none⟩=some (.int .i64 (ms.getD i mt0).f)∧w.cell? ⟨b,off+i*3+1,none⟩=some (.int .i64 (ms.getD i mt0).m)∧w.cell? ⟨b,off+i*3+2,none⟩=some (.int .i64 (ms.getD i mt0).v):=by
    rcases hL with h0 | h
    ·omega
    ·exact h
   obtain⟨g0,g1,g2⟩:=hcell k hlt;have m0':=ae g0 hbel zr;have m1':=ae g1 hbel zr;have m2':=ae g2 hbel zr;have hsz:=hbel.size;have HX:Hid (aZ (ms.getD k mt0)=true→∀x,x<k+1→aZ (ms.getD x mt0)=true):=fun h x hx=>by
    by_cases e:x=k
    ·subst e;exact h
    ·exact HALL.out x (by omega)
   have HF:Hid (aZ (ms.getD k mt0)=false→ms.all aZ=false):=fun h=>by
    rw [List.all_eq_false];exact⟨ms[k],List.getElem_mem hlt,by simpa [List.getD,List.getElem?_eq_getElem hlt] using h⟩
   have HC:Hid (∀W:World,Calls Tryz.prog 158 #[.agg #[.int .i64 (ms.getD k mt0).f,.int .i64 (ms.getD k mt0).m,.int .i64 (ms.getD k mt0).v]] W fun e w'=>e= .returned (.bool (!aZ (ms.getD k mt0)))∧Below W.heap.size W w'):=fun W=>qj _ _ _ W;clear g0 g1 g2 hcell hL HALL;generalize (ms.getD k mt0)=M at*;by_cases hx:aZ M=true
   ·have HR:=aa (HX.out hx);rw [hx]at HC;clear HX HF hx;go_wp2_with fail
    refine(ag HC _).mono ?_;rintro e w1 ⟨rfl,hb1⟩;have hb2:=hbel.trans (hb1.mono hsz);go_wp2_with fail
    go_roundw
    case rel=>exact⟨k+1,by omega,by go_num,HR.out,hb2⟩
    case measure=>simp [intOf];omega
   ·have hx':aZ M=false:=(by simpa using hx);have HR:=aa (HF.out hx');rw [hx']at HC;clear HX HF hx hx';go_wp2_with fail
    refine(ag HC _).mono ?_;rintro e w1 ⟨rfl,hb1⟩;have hb2:=hbel.trans (hb1.mono hsz);go_wp2_with fail
    go_ret;exact⟨_,rfl,by rw [HR.out];simp,hb2⟩
  ·have HR:Hid (ms.all aZ=true):=by
    refine aa ?_;rw [List.all_eq_true];intro x hx;obtain⟨i,hi,rfl⟩:=List.getElem_of_mem hx;have:=HALL.out i (by omega);simpa [List.getD,List.getElem?_eq_getElem hi] using this
   clear hL HALL;go_wp2_with fail
   go_ret;exact⟨_,rfl,by rw [HR.out];simp,hbel⟩
theorem mn (v:Value) (ms:List Mt) (w:World) (hM:MsAt w v ms) (hl:ms.length≤12):
  Calls Tryz.prog 157 #[v,.func (.func 158) #[] #[]] w fun e w'=>e= .returned (.bool (!ms.all aZ))∧Below w.heap.size w w':=by
 have HM:=aa hM;obtain⟨a,cap,rfl,hn,hL⟩:=hM;clear hL;go_enter Tryz.func157,Tryz.ntmps157;go_wp2_with fail
 refine(qd _ ms _ HM.out hl).mono ?_;rintro e w1 ⟨r,rfl,hr,hb1⟩;have HRR:=aa hr;clear hr;go_wp2_with fail
 go_ret;exact⟨aq HRR.out,hb1⟩
theorem vL (f:Fl) (mv v:Value) (w:World) (hD:DsAt w v f.ds) (hl:f.ds.length≤100):
  Calls Tryz.prog 160 #[.agg #[.int .i64 f.t,.int .i64 f.p,mv,v]] w fun e w'=>e= .returned (.bool ((List.range f.ds.length).all (doB f.t f.ds)))∧Below w.heap.size w w':=by
 have HDS:=aa hD;obtain⟨a,cap,rfl,hn,hL⟩:=hD;clear hL;go_enter Tryz.func160,Tryz.ntmps160;go_wp2_with fail
 obtain⟨W1,hW1⟩:∃W1,W1=w.alloc (.cells #[.int .i64 f.t,.int .i64 f.p,mv,.slice a f.ds.length cap] 135):=⟨_,rfl⟩;have q0:W1.cell? ⟨w.heap.size,0,none⟩=some (.int .i64 f.t):=by rw [hW1];simp
 have q3:W1.cell? ⟨w.heap.size,3,none⟩=some (.slice a f.ds.length cap):=by rw [hW1];simp
 have hbW:Below w.heap.size w W1:=by rw [hW1];exact(Below.refl _ _).alloc zr _
 have HD1:=aa (HDS.out.below hbW zr);have hz1:w.heap.size<W1.heap.size:=by rw [hW1];simp
 rw [←hW1];clear hW1 HDS;go_loopw [8] (fun i wr=>∃k:Nat,k≤f.ds.length∧i= .int .i64 k∧(∀j,j<k→doB f.t f.ds j=true)∧Below W1.heap.size W1 wr) (fun i _=>f.ds.length-(intOf i).toNat)
 case atStart=>exact⟨0,by omega,rfl,fun j h=>absurd h (by omega),Below.refl _ _⟩
 case round=>
  obtain⟨k,hk,rfl,hall,hbel⟩:=hrel;have HALL:=aa hall;clear hall;have hbel1:Below w.heap.size w wr:=hbW.trans (hbel.mono hbW.size);have c0:=ae q0 hbel zr;have c3:=ae q3 hbel zr;have hszr:=hbel.size;have hszw:w.heap.size<wr.heap.size:=(by omega);by_cases hlt:k<f.ds.length
  ·obtain⟨a',cap',hv,hn',hL⟩:=HD1.out;simp only [Value.slice.injEq]at hv;obtain⟨rfl,_,rfl⟩:=hv;obtain⟨b,off,rfl,hcap,hcell⟩:∃b off,a=some ⟨b,off,none⟩∧f.ds.length≤cap∧∀i,i<f.ds.length→W1.cell? ⟨b,off+i*3,none⟩=some (.int .i64 (f.ds.getD i do0).k)∧W1.cell? ⟨b,off+i*3+1,none⟩=some (.int .i64 (f.ds.getD i do0).a)∧W1.cell? ⟨b,off+i*3+2,none⟩=some (.int .i64 (f.ds.getD i do0).n):=by
    rcases hL with h0 | h
    ·omega
    ·exact h
   obtain⟨g0,g1,g2⟩:=hcell k hlt;have m0':=ae g0 hbel zr;have m1':=ae g1 hbel zr;have m2':=ae g2 hbel zr;have hbb:=bw m0';have HX:Hid (doB f.t f.ds k=true→∀x,x<k+1→doB f.t f.ds x=true):=fun h x hx=>by
    by_cases e:x=k
    ·subst e;exact h
    ·exact HALL.out x (by omega)
   have HF:Hid (doB f.t f.ds k=false→(List.range f.ds.length).all (doB f.t f.ds)=false):=fun h=>by
    rw [List.all_eq_false];exact⟨k,List.mem_range.2 hlt,by simpa using h⟩
   have HD:Hid (doB f.t f.ds k=eF (f.ds.getD k do0).k (f.ds.getD k do0).a (f.ds.getD k do0).n f.t ((k:Int)+1==(f.ds.length:Int))):=rfl;clear g0 g1 g2 hcell hL HALL HD1 hn';generalize (f.ds.getD k do0).k=dk at*;generalize (f.ds.getD k do0).a=da at*;generalize (f.ds.getD k do0).n=dn at*;have HT:Hid (∀last,eF dk da dn f.t last=(eF dk da dn f.t true&&(!(dk==4)|| last))):=fun last=>by
    unfold eF;by_cases e:dk=4
    ·subst e;simp
    ·simp [e]
   have HC:=aa (sC dk da dn f.t);generalize eF dk da dn f.t true=R at HC HT;have hbA:Below wr.heap.size wr (wr.alloc (.cells #[.int .i64 dk,.int .i64 da,.int .i64 dn] 115)):=(Below.refl _ _).alloc zr _;have k0:(wr.alloc (.cells #[.int .i64 dk,.int .i64 da,.int .i64 dn] 115)).cell? ⟨wr.heap.size,0,none⟩=some (.int .i64 dk):=(by simp);have k3:=ae c3 hbA zr;have HK0:=aa k0;have HK3:=aa k3;clear k0 k3;have hwl:IntKind.i64.wrap ((f.ds.length:Int)-1)=(f.ds.length:Int)-1:=ba _ (by omega) (by omega);go_wp2_with fail
   refine(ag HC _).mono ?_;rintro e w1 ⟨rfl,hb1⟩;have n0:=ae HK0.out hb1 zr;have n3:=ae HK3.out hb1 zr;have hbA2:=hbA.trans (hb1.mono hbA.size);have hbN:Below W1.heap.size W1 w1:=hbel.trans (hbA2.mono hszr);have hbN1:Below w.heap.size w w1:=hbel1.trans (hbA2.mono (by omega));clear HK0 HK3 hb1 hbA hbA2 HC c0 c3 m0' m1' m2' q0 q3;by_cases hR:R=true
   ·subst hR;by_cases e4:dk=4
    ·by_cases el:k+1=f.ds.length
     ·have HRR:=aa (HX.out (by rw [HD.out,HT.out];simp;omega));have hne:((k:Int) != (f.ds.length:Int)-1)=false:=by simp;omega
      clear HX HF HD HT;go_wp2_with fail
      go_roundw
      case rel=>exact⟨k+1,by omega,by go_num,HRR.out,hbN⟩
      case measure=>simp [intOf];omega
     ·have HRR:=aa (HF.out (by rw [HD.out,HT.out];simp [e4];omega));have hne:((k:Int) != (f.ds.length:Int)-1)=true:=by simp;omega
      clear HX HF HD HT;go_wp2_with fail
      go_ret;exact⟨aq HRR.out.symm,hbN1⟩
    ·have HRR:=aa (HX.out (by rw [HD.out,HT.out];simp [e4]));clear HX HF HD HT;go_wp2_with fail
     go_roundw
     case rel=>exact⟨k+1,by omega,by go_num,HRR.out,hbN⟩
     case measure=>simp [intOf];omega
   ·have hR':R=false:=(by simpa using hR);subst hR';have HRR:=aa (HF.out (by rw [HD.out,HT.out];simp));clear HX HF HD HT hR;go_wp2_with fail
    go_ret;exact⟨aq HRR.out.symm,hbN1⟩
  ·have HR:Hid ((List.range f.ds.length).all (doB f.t f.ds)=true):=by
    refine aa ?_;rw [List.all_eq_true];intro j hj;exact HALL.out j (by have:=List.mem_range.1 hj;omega)
   clear HALL;go_wp2_with fail
   go_ret;exact⟨aq HR.out.symm,hbel1⟩
theorem nR (f:Fl) (mv dv:Value) (w:World) (hM:MsAt w mv f.ms) (hD:DsAt w dv f.ds):
  Calls Tryz.prog 99 #[.agg #[.int .i64 f.t,.int .i64 f.p,mv,dv]] w fun e w'=>e= .returned (.int .i64 (aI f))∧Below w.heap.size w w':=by
 have HMS:=aa hM;have HDS:=aa hD;obtain⟨ma,mcap,rfl,hmn,hmL⟩:=hM;obtain⟨da,dcap,rfl,hdn,hdL⟩:=hD;clear hmL hdL;have hA:∀o:Obj,Below w.heap.size w (w.alloc o):=fun o=>(Below.refl _ _).alloc zr o;by_cases s1:12<f.ms.length
 ·have HV:Hid (aI f=1):=gI (.inl s1);go_enter Tryz.func99,Tryz.ntmps99;go_wp2_with fail
  go_ret;exact⟨ah HV.out.symm,hA _⟩
 ·by_cases s2:100<f.ds.length
  ·have HV:Hid (aI f=1):=gI (.inr s2);go_enter Tryz.func99,Tryz.ntmps99;go_wp2_with fail
   go_ret;exact⟨ah HV.out.symm,hA _⟩
  ·have hns:¬(12<f.ms.length∨100<f.ds.length):=(by omega);by_cases s3:(fC f.t&&iz f.p)=true
   ·obtain⟨s4,s5⟩:fC f.t=true∧iz f.p=true:=(by simpa using s3);have t0:0≤f.t∧f.t≤7:=(by simpa [fC] using s4);have t1:0≤f.p∧f.p≤2000:=(by simpa [iz] using s5);have a1:decide (f.t<0)=false:=by simp;omega
    have a2:decide (8≤f.t)=false:=by simp;omega
    have a3:decide (f.p<0)=false:=by simp;omega
    have a4:decide (2000<f.p)=false:=by simp;omega
    clear s4 s5;have HW:Hid (∀o:Obj,MsAt (w.alloc o) (.slice ma f.ms.length mcap) f.ms):=fun o=>HMS.out.below (hA o) zr;go_enter Tryz.func99,Tryz.ntmps99;go_wp2_with fail
    obtain⟨W1,hW1⟩:∃W1,W1=w.alloc (.cells #[.int .i64 f.t,.int .i64 f.p,.slice ma f.ms.length mcap,.slice da f.ds.length dcap] 135):=⟨_,rfl⟩;have q0:W1.cell? ⟨w.heap.size,0,none⟩=some (.int .i64 f.t):=by rw [hW1];simp
    have q1:W1.cell? ⟨w.heap.size,1,none⟩=some (.int .i64 f.p):=by rw [hW1];simp
    have q2:W1.cell? ⟨w.heap.size,2,none⟩=some (.slice ma f.ms.length mcap):=by rw [hW1];simp
    have q3:W1.cell? ⟨w.heap.size,3,none⟩=some (.slice da f.ds.length dcap):=by rw [hW1];simp
    have hbW:Below w.heap.size w W1:=by rw [hW1];exact hA _
    rw [←hW1];clear hW1 HW;have HM1:=aa (HMS.out.below hbW zr);have HD1:=aa (HDS.out.below hbW zr);clear HMS HDS hA;refine(mn _ f.ms _ HM1.out (by omega)).mono ?_;rintro e w1 ⟨rfl,hb1⟩;have HD2:=aa (HD1.out.below hb1 zr);have r0:=ae q0 hb1 zr;have r1:=ae q1 hb1 zr;have r2:=ae q2 hb1 zr;have r3:=ae q3 hb1 zr;have hbel:=hbW.trans (hb1.mono hbW.size);clear q0 q1 q2 q3 HM1 HD1 hb1 hbW;have hs1:=hbel.size;by_cases sm:f.ms.all aZ=true
    ·rw [sm];have HC:=aa (vL f (.slice ma f.ms.length mcap) _ w1 HD2.out (by omega));have HV:Hid (aI f=if(List.range f.ds.length).all (doB f.t f.ds)=false then 4 else 0):=by
      show _=_;unfold aI;rw [if_neg hns,if_neg (by simp [s3]),if_neg (by simp [sm])]
     clear HD2 s3 sm;generalize (List.range f.ds.length).all (doB f.t f.ds)=R at HC HV;go_wp2_with fail
     refine(ag HC).mono ?_;rintro e w2 ⟨rfl,hb2⟩;have hbel2:=hbel.trans (hb2.mono hs1);clear r0 r1 r2 r3;cases R
     ·go_wp2_with fail
      go_ret;exact⟨ah (by rw [HV.out];rfl),hbel2⟩
     ·go_wp2_with fail
      go_ret;exact⟨ah (by rw [HV.out];rfl),hbel2⟩
    ·have sm':f.ms.all aZ=false:=(by simpa using sm);rw [sm'];have HV:Hid (aI f=4):=by
      show _=_;unfold aI;rw [if_neg hns,if_neg (by simp [s3]),if_pos sm']
     clear HD2 s3 sm sm';go_wp2_with fail
     go_ret;exact⟨ah HV.out.symm,hbel⟩
   ·have s3':(fC f.t&&iz f.p)=false:=(by simpa using s3);have HV:Hid (aI f=2):=nX hns s3';have hcase:f.t<0∨8≤f.t∨f.p<0∨2000<f.p:=by simp [fC,iz]at s3';omega
    go_enter Tryz.func99,Tryz.ntmps99;go_wp2_with fail
    all_goals first |(exfalso;omega) |(go_ret;exact⟨ah HV.out.symm,hA _⟩)
theorem jq (v:Value) (fs:List Fl) (w:World) (hF:FsAt w v fs) (hm:fs.length≤140737488355328):
  Calls Tryz.prog 52 #[v] w fun e w'=>e= .returned (.int .i64 (bh fs))∧Below w.heap.size w w':=by
 obtain⟨a,cap,rfl,hn,hL⟩:=hF;by_cases h5:5000<fs.length
 ·have HR:Hid (bh fs=1):=by show _=_;unfold bh;rw [if_pos h5]
  clear hL;go_enter Tryz.func52,Tryz.ntmps52;go_wp2_with fail
  go_ret;exact⟨ah HR.out.symm,Below.refl _ _⟩
 ·have HR:Hid (bh fs=dN fs):=by show _=_;unfold bh;rw [if_neg h5]
  go_enter Tryz.func52,Tryz.ntmps52;go_wp2_with fail
  go_loopw [11] (fun i wr=>∃k:Nat,k≤fs.length∧i= .int .i64 k∧(∀j,j<k→aI (fs.getD j fl0)=0)∧Below w.heap.size w wr) (fun i _=>fs.length-(intOf i).toNat)
  case atStart=>exact⟨0,by omega,rfl,fun j h=>absurd h (by omega),Below.refl _ _⟩
  case round=>
   obtain⟨k,hk,rfl,hall,hbel⟩:=hrel;have HALL:=aa hall;clear hall;by_cases hlt:k<fs.length
   ·obtain⟨b,off,rfl,hcap,hcell⟩:∃b off,a=some ⟨b,off,none⟩∧fs.length≤cap∧∀i,i<fs.length→FlAt w b (off+i*4) (fs.getD i fl0):=by
     rcases hL with h0 | h
     ·omega
     ·exact h
    have hf:=(hcell k hlt).below hbel zr;have HA:Hid (aI (fs.getD k fl0)=0→∀j,j<k+1→aI (fs.getD j fl0)=0):=fun h j hj=>by
     by_cases e:j=k
     ·subst e;exact h
     ·exact HALL.out j (by omega)
    have HB:Hid (aI (fs.getD k fl0)≠0→bh fs=aI (fs.getD k fl0)):=fun h=>by rw [HR.out];exact Ao fs k hlt HALL.out h
    clear hL hcell HALL HR;generalize fs.getD k fl0=f at*;obtain⟨f0,f1,mv,dv,f2,f3,hms,hds⟩:=hf;have HMS:=aa hms;have HDS:=aa hds;obtain⟨ma,mcap,rfl,hmn,hmL⟩:=hms;obtain⟨da,dcap,rfl,hdn,hdL⟩:=hds;clear hmL hdL;have hsz:=hbel.size;have hA:∀o:Obj,Below wr.heap.size wr (wr.alloc o):=fun o=>(Below.refl _ _).alloc zr o;have HC:Hid (∀o:Obj,Calls Tryz.prog 99 #[.agg #[.int .i64 f.t,.int .i64 f.p,.slice ma f.ms.length mcap,.slice da f.ds.length dcap]] (wr.alloc o) fun e w'=>e= .returned (.int .i64 (aI f))∧Below wr.heap.size wr w'):=fun o=>
     (nR f _ _ (wr.alloc o) (HMS.out.below (hA o) zr) (HDS.out.below (hA o) zr)).mono fun e w' ⟨he,hb⟩=>⟨he,(hA o).trans (hb.mono (hA o).size)⟩
    clear HMS HDS hA;generalize aI f=R at*;go_wp2_with fail
    refine(ag HC _).mono ?_;rintro e w1 ⟨rfl,hb1⟩;have hbel2:=hbel.trans (hb1.mono hsz);clear HC f0 f1 f2 f3 hb1;by_cases hz:R=0
    ·have HV:=aa (HA.out hz);clear HA HB;go_wp2_with fail
     go_roundw
     case rel=>exact⟨k+1,by omega,by go_num,HV.out,hbel2⟩
     case measure=>simp [intOf];omega
    ·have HV:=aa (HB.out hz);clear HA HB;go_wp2_with fail
     go_ret;exact⟨ah HV.out.symm,hbel2⟩
   ·have HV:Hid (bh fs=0):=by show _=_;rw [HR.out];exact tE fs (fun j hj=>HALL.out j (by omega))
    clear HALL hL HR;go_wp2_with fail
    go_ret;exact⟨ah HV.out.symm,hbel⟩
theorem xB (v m:Int) (hv:0≤v∧v≤65535) (hm:ap m=true):bits .and .i64 v m=mk v m:=by
 unfold ap at hm;simp at hm;obtain⟨a,rfl⟩:=Int.eq_ofNat_of_zero_le hv.1;obtain⟨b,rfl⟩:=Int.eq_ofNat_of_zero_le hm.1;have ha:=gr a (by omega);have hb:=gr b (by omega);show IntKind.i64.wrap ((BitVec.ofInt 64 (a:Int)&&& BitVec.ofInt 64 (b:Int)).toNat:Int)=_;rw [BitVec.toNat_and,ha,hb];have hle:a&&& b≤a:=Nat.and_le_left;rw [ba _ (by omega) (by omega)];unfold mk;rw [Int.toNat_natCast,Int.toNat_natCast]
theorem tV (w:World) (t:TypeId) (f0 f1 f2 f3 f4 f5 f6 f7 f8 f9:Int):∀i,i<10→(w.alloc (.cells #[.int .i64 f0,.int .i64 f1,.int .i64 f2,.int .i64 f3,.int .i64 f4,.int .i64 f5,.int .i64 f6,.int .i64 f7,.int .i64 f8,.int .i64 f9] t)).cell? ⟨w.heap.size,i,none⟩=some (.int .i64 (([f0,f1,f2,f3,f4,f5,f6,f7,f8,f9]:List Int).getD i 0)):=by
 intro i hi;have hc:i=0∨i=1∨i=2∨i=3∨i=4∨i=5∨i=6∨i=7∨i=8∨i=9:=by omega
 rcases hc with rfl | rfl | rfl | rfl | rfl | rfl | rfl | rfl | rfl | rfl <;>simp
theorem vB {F:List Int} {ms:List Mt} (h:∀j,j<ms.length→(mk (F.getD (ms.getD j mt0).f.toNat 0) (ms.getD j mt0).m==(ms.getD j mt0).v)=true):bn F ms=true:=by
 unfold bn;rw [List.all_eq_true];intro x hx;obtain⟨i,hi,rfl⟩:=List.getElem_of_mem hx;have:=h i hi;simpa [List.getD,List.getElem?_eq_getElem hi] using this
theorem uO {F:List Int} {ms:List Mt} (j:Nat) (hj:j<ms.length) (h:(mk (F.getD (ms.getD j mt0).f.toNat 0) (ms.getD j mt0).m==(ms.getD j mt0).v)=false):bn F ms=false:=by
 unfold bn;rw [List.all_eq_false];exact⟨ms[j],List.getElem_mem hj,by simpa [List.getD,List.getElem?_eq_getElem hj] using h⟩
theorem yv (f0 f1 f2 f3 f4 f5 f6 f7 f8 f9:Int) (v:Value) (ms:List Mt) (w:World) (hF:WF [f0,f1,f2,f3,f4,f5,f6,f7,f8,f9]) (hM:MsAt w v ms) (hl:ms.length≤12) (hm:∀j,j<ms.length→aZ (ms.getD j mt0)=true):
  Calls Tryz.prog 100 #[v,.agg #[.int .i64 f0,.int .i64 f1,.int .i64 f2,.int .i64 f3,.int .i64 f4,.int .i64 f5,.int .i64 f6,.int .i64 f7,.int .i64 f8,.int .i64 f9]] w fun e w'=>e= .returned (.bool (bn [f0,f1,f2,f3,f4,f5,f6,f7,f8,f9] ms))∧Below w.heap.size w w':=by
 have HM:=aa hM;have HMB:=aa hm;have HF:=aa hF;have HCL:=aa (tV w 76 f0 f1 f2 f3 f4 f5 f6 f7 f8 f9);obtain⟨a,cap,rfl,hn,hL⟩:=hM;clear hL hm hF;obtain⟨F,hFd⟩:∃F:List Int,F= [f0,f1,f2,f3,f4,f5,f6,f7,f8,f9]:=⟨_,rfl⟩;have HFD:=aa hFd;rw [←hFd]at HF HCL⊢;clear hFd;go_enter Tryz.func100,Tryz.ntmps100;go_wp2_with fail
 obtain⟨W1,hW1⟩:∃W1,W1=w.alloc (.cells #[.int .i64 f0,.int .i64 f1,.int .i64 f2,.int .i64 f3,.int .i64 f4,.int .i64 f5,.int .i64 f6,.int .i64 f7,.int .i64 f8,.int .i64 f9] 76):=⟨_,rfl⟩;have hbW:Below w.heap.size w W1:=by rw [hW1];exact(Below.refl _ _).alloc zr _
 rw [←hW1]at HCL;have HM1:=aa (HM.out.below hbW zr);have hz1:w.heap.size<W1.heap.size:=by rw [hW1];simp
 rw [←hW1];clear hW1 HM;go_loopw [9] (fun i wr=>∃k:Nat,k≤ms.length∧i= .int .i64 k∧(∀j,j<k→(mk (F.getD (ms.getD j mt0).f.toNat 0) (ms.getD j mt0).m==(ms.getD j mt0).v)=true)∧Below W1.heap.size W1 wr) (fun i _=>ms.length-(intOf i).toNat)
 case atStart=>exact⟨0,by omega,rfl,fun j h=>absurd h (by omega),Below.refl _ _⟩
 case round=>
  obtain⟨k,hk,rfl,hall,hbel⟩:=hrel;have HALL:=aa hall;clear hall;have hbel1:Below w.heap.size w wr:=hbW.trans (hbel.mono hbW.size);have hszr:=hbel.size;have hszw:w.heap.size<wr.heap.size:=(by omega);by_cases hlt:k<ms.length
  ·obtain⟨a',cap',hv,hn',hL⟩:=HM1.out;simp only [Value.slice.injEq]at hv;obtain⟨rfl,_,rfl⟩:=hv;obtain⟨b,off,rfl,hcap,hcell⟩:∃b off,a=some ⟨b,off,none⟩∧ms.length≤cap∧∀i,i<ms.length→W1.cell? ⟨b,off+i*3,none⟩=some (.int .i64 (ms.getD i mt0).f)∧W1.cell? ⟨b,off+i*3+1,none⟩=some (.int .i64 (ms.getD i mt0).m)∧W1.cell? ⟨b,off+i*3+2,none⟩=some (.int .i64 (ms.getD i mt0).v):=by
    rcases hL with h0 | h
    ·omega
    ·exact h
   obtain⟨g0,g1,g2⟩:=hcell k hlt;have m0':=ae g0 hbel zr;have m1':=ae g1 hbel zr;have m2':=ae g2 hbel zr;have hMk:=HMB.out k hlt;have HT:Hid ((mk (F.getD (ms.getD k mt0).f.toNat 0) (ms.getD k mt0).m==(ms.getD k mt0).v)=true→∀x,x<k+1→(mk (F.getD (ms.getD x mt0).f.toNat 0) (ms.getD x mt0).m==(ms.getD x mt0).v)=true):=fun h x hx=>by
    by_cases e:x=k
    ·subst e;exact h
    ·exact HALL.out x (by omega)
   have HN:Hid ((mk (F.getD (ms.getD k mt0).f.toNat 0) (ms.getD k mt0).m==(ms.getD k mt0).v)=false→bn F ms=false):=fun h=>uO k hlt h;clear g0 g1 g2 hcell hL HALL HM1 hn';generalize ms.getD k mt0=M at*;obtain⟨mf,mm,mv⟩:=M;simp only at m0' m1' m2' HT HN;simp only [aZ,ii,Bool.and_eq_true,decide_eq_true_eq]at hMk;obtain⟨⟨⟨⟨f0',f1'⟩,w1⟩,w2⟩,_⟩:=hMk;obtain⟨q,rfl⟩:=Int.eq_ofNat_of_zero_le f0';rw [Int.toNat_natCast]at HT HN;have hq:q<10:=(by omega);have cq:=ae (HCL.out q hq) hbel zr;have hbw:=xB _ mm (HF.out.bd q) w1;have hqz:=HF.out.bd q;generalize F.getD q 0=x at*;have hqi:¬((10:Int)≤(q:Int)):=(by omega);by_cases hx:mk x mm=mv
   ·have HR:=aa (HT.out (by simpa using hx));have hne:(mk x mm != mv)=false:=(by simpa using hx);clear HT HN;go_wp2_with fail
    go_quiet (fail);go_wp2;go_roundw
    case rel=>exact⟨k+1,by omega,by go_num,HR.out,below_drewN (hbel.alloc hszr _) _⟩
    case measure=>simp [intOf];omega
   ·have HR:=aa (HN.out (by simpa using hx));have hne:(mk x mm != mv)=true:=(by simpa using hx);clear HT HN;go_wp2_with fail
    go_quiet (fail);go_wp2;go_ret;exact⟨aq HR.out.symm,below_drewN (hbel1.alloc (by omega) _) _⟩
  ·have HR:=aa (vB (F:=F) (ms:=ms) (fun j hj=>HALL.out j (by omega)));clear HALL;go_wp2_with fail
   go_ret;exact⟨aq HR.out.symm,hbel1⟩
theorem uI {w:World} {fs:List Fl} {a:Option Addr} {n cap k:Nat} (hF:FsAt w (.slice a n cap) fs) (hk:k<fs.length):∃b off,a=some ⟨b,off,none⟩∧n=fs.length∧fs.length≤cap∧∀i,i<fs.length→FlAt w b (off+i*4) (fs.getD i fl0):=by
 obtain⟨a',cap',hv,hn,h0 |⟨b,off,h1,h2,h3⟩⟩:=hF
 ·omega
 ·simp only [Value.slice.injEq]at hv;obtain⟨rfl,rfl,rfl⟩:=hv;exact⟨b,off,h1,rfl,h2,h3⟩
theorem wI (f0 f1 f2 f3 f4 f5 f6 f7 f8 f9:Int) (v:Value) (fs:List Fl) (t:Int) (w0 w:World) (hF:WF [f0,f1,f2,f3,f4,f5,f6,f7,f8,f9]) (hL0:FsAt w0 v fs) (hb0:Below w0.heap.size w0 w) (hz:bh fs=0) (hl:fs.length≤5000):
  Calls Tryz.prog 53 #[v,.int .i64 t,.agg #[.int .i64 f0,.int .i64 f1,.int .i64 f2,.int .i64 f3,.int .i64 f4,.int .i64 f5,.int .i64 f6,.int .i64 f7,.int .i64 f8,.int .i64 f9]] w fun e w'=>∃u,e= .returned u∧DsAt w0 u (iZ fs (aY fs [f0,f1,f2,f3,f4,f5,f6,f7,f8,f9] t fs.length))∧Below w.heap.size w w':=by
 have HL0:=aa hL0;have HB0:=aa hb0;have hL:=hL0.below hb0 zr;have HL:=aa hL;clear hL0;have HZ:=aa hz;have HF:=aa hF;obtain⟨a,cap,rfl,hn,_⟩:=hL;clear hz hF;obtain⟨F,hFd⟩:∃F:List Int,F= [f0,f1,f2,f3,f4,f5,f6,f7,f8,f9]:=⟨_,rfl⟩;have HFD:=aa hFd;rw [←hFd]at HF⊢;clear hFd;have HFT:Hid (∀(u:Value) (ms:List Mt) (W:World),MsAt W u ms→ms.length≤12→(∀j,j<ms.length→aZ (ms.getD j mt0)=true)→Calls Tryz.prog 100 #[u,.agg #[.int .i64 f0,.int .i64 f1,.int .i64 f2,.int .i64 f3,.int .i64 f4,.int .i64 f5,.int .i64 f6,.int .i64 f7,.int .i64 f8,.int .i64 f9]] W fun e w'=>e= .returned (.bool (bn F ms))∧Below W.heap.size W w'):=fun u ms W h1 h2 h3=>by
  have:=yv f0 f1 f2 f3 f4 f5 f6 f7 f8 f9 u ms W (by rw [←HFD.out];exact HF.out) h1 h2 h3;rw [HFD.out];exact this
 go_enter Tryz.func53,Tryz.ntmps53;go_wp2_with fail
 obtain⟨W1,hW1⟩:∃W1,W1=w.alloc (.cells #[.int .i64 f0,.int .i64 f1,.int .i64 f2,.int .i64 f3,.int .i64 f4,.int .i64 f5,.int .i64 f6,.int .i64 f7,.int .i64 f8,.int .i64 f9] 76):=⟨_,rfl⟩;have hbW:Below w.heap.size w W1:=by rw [hW1];exact(Below.refl _ _).alloc zr _
 have c0:W1.cell? ⟨w.heap.size,0,none⟩=some (.int .i64 f0):=by rw [hW1];simp
 have c1:W1.cell? ⟨w.heap.size,1,none⟩=some (.int .i64 f1):=by rw [hW1];simp
 have c2:W1.cell? ⟨w.heap.size,2,none⟩=some (.int .i64 f2):=by rw [hW1];simp
 have c3:W1.cell? ⟨w.heap.size,3,none⟩=some (.int .i64 f3):=by rw [hW1];simp
 have c4:W1.cell? ⟨w.heap.size,4,none⟩=some (.int .i64 f4):=by rw [hW1];simp
 have c5:W1.cell? ⟨w.heap.size,5,none⟩=some (.int .i64 f5):=by rw [hW1];simp
 have c6:W1.cell? ⟨w.heap.size,6,none⟩=some (.int .i64 f6):=by rw [hW1];simp
 have c7:W1.cell? ⟨w.heap.size,7,none⟩=some (.int .i64 f7):=by rw [hW1];simp
 have c8:W1.cell? ⟨w.heap.size,8,none⟩=some (.int .i64 f8):=by rw [hW1];simp
 have c9:W1.cell? ⟨w.heap.size,9,none⟩=some (.int .i64 f9):=by rw [hW1];simp
 have HL1:=aa (HL.out.below hbW zr);have hz1:w.heap.size<W1.heap.size:=by rw [hW1];simp
 rw [←hW1];clear hW1 HL;go_loopw [7,12] (fun o i wr=>∃k:Nat,k≤fs.length∧i= .int .i64 k∧o= .int .i64 (aY fs F t k)∧Below W1.heap.size W1 wr) (fun _ i _=>fs.length-(intOf i).toNat)
 case atStart=>exact⟨0,by omega,rfl,rfl,Below.refl _ _⟩
 case round=>
  obtain⟨k,hk,rfl,rfl,hbel⟩:=hrel;have hbel1:Below w.heap.size w wr:=hbW.trans (hbel.mono hbW.size);have hszr:=hbel.size;have hszw:w.heap.size<wr.heap.size:=(by omega);by_cases hlt:k<fs.length
  ·obtain⟨b,off,rfl,_,hcap,hcell⟩:=uI HL1.out hlt;have e0:=ae c0 hbel zr;have e1:=ae c1 hbel zr;have e2:=ae c2 hbel zr;have e3:=ae c3 hbel zr;have e4:=ae c4 hbel zr;have e5:=ae c5 hbel zr;have e6:=ae c6 hbel zr;have e7:=ae c7 hbel zr;have e8:=ae c8 hbel zr;have e9:=ae c9 hbel zr;have hf:=(hcell k hlt).below hbel zr;have hbb:=bw hf.1;have hbi:=kH fs F t k;have HOK:=aa (lM HZ.out hlt);have HB:Hid (aY fs F t (k+1)=if bF F t (fs.getD k fl0)=true∧(aY fs F t k<0∨(fs.getD (aY fs F t k).toNat fl0).p<(fs.getD k fl0).p)then(k:Int)else aY fs F t k):=rfl;have HBC:Hid (∀j:Nat,aY fs F t k=j→wr.cell? ⟨b,off+j*4+1,none⟩=some (.int .i64 (fs.getD j fl0).p)):=fun j hj=>(((hcell j (by omega)).below hbel zr).2.1);generalize aY fs F t k=B at*;generalize fs.getD k fl0=f at*;clear hcell HL1;obtain⟨p0,p1,mv,dv,p2,p3,hms,hds⟩:=hf;have HMS:=aa hms;obtain⟨ma,mcap,rfl,hmn,hmL⟩:=hms;obtain⟨da,dcap,rfl,hdn,hdL⟩:=hds;clear hmL hdL hdn hmn;have hA:∀o:Obj,Below wr.heap.size wr (wr.alloc o):=fun o=>(Below.refl _ _).alloc zr o;by_cases ht:f.t=t
   ·have HC:Hid (∀o:Obj,Calls Tryz.prog 100 #[.slice ma f.ms.length mcap,.agg #[.int .i64 f0,.int .i64 f1,.int .i64 f2,.int .i64 f3,.int .i64 f4,.int .i64 f5,.int .i64 f6,.int .i64 f7,.int .i64 f8,.int .i64 f9]] (wr.alloc o) fun e w'=>e= .returned (.bool (bn F f.ms))∧Below (wr.alloc o).heap.size (wr.alloc o) w'):=fun o=>HFT.out _ f.ms _ (HMS.out.below (hA o) zr) HOK.out.2.1 HOK.out.2.2.2.2.2.2.2.1;have HFB:Hid (bF F t f=bn F f.ms):=by show _=_;unfold bF;simp [ht]
    clear HMS;generalize bn F f.ms=R at*;go_wp2_with fail
    refine(ag HC _).mono ?_;rintro e w1 ⟨rfl,hb1⟩;have k1:(wr.alloc (.cells #[.int .i64 t,.int .i64 f.p,.slice ma f.ms.length mcap,.slice da f.ds.length dcap] 135)).cell? ⟨wr.heap.size,1,none⟩=some (.int .i64 f.p):=(by simp);have k1':=ae k1 hb1 zr;have hbA2:Below wr.heap.size wr w1:=(hA _).trans (hb1.mono (hA _).size);have hbN:Below W1.heap.size W1 w1:=hbel.trans (hbA2.mono hszr);have HBC2:Hid (∀j:Nat,B=j→w1.cell? ⟨b,off+j*4+1,none⟩=some (.int .i64 (fs.getD j fl0).p)):=fun j hj=>ae (HBC.out j hj) hbA2 zr;have hsz1:=hbN.size;clear k1 hb1 hbA2 HBC HC p0 p1 p2 p3 hA e0 e1 e2 e3 e4 e5 e6 e7 e8 e9;cases R
    ·have HR:Hid (aY fs F t (k+1)=B):=by show _=_;rw [HB.out,HFB.out];simp
     clear HB HFB HBC2;go_wp2_with fail
     go_roundw
     case rel=>exact⟨k+1,by omega,by go_num,by rw [HR.out],hbN⟩
     case measure=>simp [intOf];omega
    ·by_cases hB:B<0
     ·have HR:Hid (aY fs F t (k+1)=k):=by show _=_;rw [HB.out,HFB.out,if_pos ⟨rfl,.inl hB⟩]
      clear HB HFB HBC2;go_wp2_with fail
      go_quiet (fail);go_wp2;go_roundw
      case rel=>exact⟨k+1,by omega,by go_num,by rw [HR.out],below_drewN hbN _⟩
      case measure=>simp [intOf];omega
     ·obtain⟨j,rfl⟩:=Int.eq_ofNat_of_zero_le (show 0≤B by omega);have cj:=HBC2.out j rfl;have hjk:(j:Int)<fs.length:=(by omega);have HB2:Hid (aY fs F t (k+1)=if(fs.getD j fl0).p<f.p then(k:Int)else j):=by
       show _=_;rw [HB.out,HFB.out];simp only [true_and,Int.toNat_natCast];by_cases hc:(fs.getD j fl0).p<f.p
       ·rw [if_pos (.inr hc),if_pos hc]
       ·rw [if_neg (by omega),if_neg hc]
      clear HB HFB HBC2;generalize (fs.getD j fl0).p=P at*;by_cases hp:P<f.p
      ·have HR:Hid (aY fs F t (k+1)=k):=by show _=_;rw [HB2.out,if_pos hp]
       clear HB2;go_wp2_with fail
       go_quiet (fail);go_wp2;go_roundw
       case rel=>exact⟨k+1,by omega,by go_num,by rw [HR.out],below_drewN hbN _⟩
       case measure=>simp [intOf];omega
      ·have HR:Hid (aY fs F t (k+1)=j):=by show _=_;rw [HB2.out,if_neg hp]
       clear HB2;go_wp2_with fail
       go_quiet (fail);go_wp2;go_roundw
       case rel=>exact⟨k+1,by omega,by go_num,by rw [HR.out],below_drewN hbN _⟩
       case measure=>simp [intOf];omega
   ·have HR:Hid (aY fs F t (k+1)=B):=by
     show _=_;have:bF F t f=false:=by unfold bF;simp [ht]
     rw [HB.out,this];simp
    clear HB HBC HMS HOK;go_wp2_with fail
    go_roundw
    case rel=>exact⟨k+1,by omega,by go_num,by rw [HR.out],hbel.alloc hszr _⟩
    case measure=>simp [intOf];omega
  ·have hbi:=kH fs F t k;have hkl:k=fs.length:=(by omega);subst hkl;by_cases hB:aY fs F t fs.length<0
   ·have HD:Hid (iZ fs (aY fs F t fs.length)= []):=by show _=_;unfold iZ;rw [if_pos hB]
    obtain⟨B,hBd⟩:∃B,B=aY fs F t fs.length:=⟨_,rfl⟩;rw [←hBd];rw [←hBd]at hB;clear hBd hbi;go_wp2_with fail
    go_ret;exact⟨_,rfl,by rw [HD.out];exact⟨none,0,rfl,fun _=>rfl,.inl rfl⟩,hbel1⟩
   ·obtain⟨j,hj⟩:=Int.eq_ofNat_of_zero_le (show 0≤aY fs F t fs.length by omega);have HD:Hid (iZ fs (aY fs F t fs.length)=(fs.getD j fl0).ds):=by show _=_;unfold iZ;rw [if_neg hB,hj,Int.toNat_natCast]
    have hjl:j<fs.length:=(by omega);obtain⟨b,off,rfl,_,hcap,hcell⟩:=uI HL0.out hjl;have hf:=hcell j hjl;have hb0r:Below w0.heap.size w0 wr:=HB0.out.trans (hbel1.mono HB0.out.size);rw [hj];clear hbi hB hj hcell HL1 HL0;generalize fs.getD j fl0=f at*;obtain⟨p0,p1,mv,dv,p2,p3',hms,hds⟩:=hf;have p3:=ae p3' hb0r zr;have HDS:=aa hds;obtain⟨da,dcap,rfl,hdn,hdL⟩:=hds;clear hdL hms p0 p1 p2 hdn p3' hb0r;go_wp2_with fail
    go_ret;exact⟨_,rfl,by rw [HD.out];exact HDS.out,hbel1⟩
theorem ni (f0 f1 f2 f3 f4 f5 f6 f7 f8 f9:Int) (q:Nat) (n:Int) (w:World) (hq:q<10):
  Calls Tryz.prog 54 #[.agg #[.int .i64 f0,.int .i64 f1,.int .i64 f2,.int .i64 f3,.int .i64 f4,.int .i64 f5,.int .i64 f6,.int .i64 f7,.int .i64 f8,.int .i64 f9],.agg #[.int .i64 1,.int .i64 q,.int .i64 n]] w fun e w'=>∃g0 g1 g2 g3 g4 g5 g6 g7 g8 g9:Int,e= .returned (.agg #[.int .i64 g0,.int .i64 g1,.int .i64 g2,.int .i64 g3,.int .i64 g4,.int .i64 g5,.int .i64 g6,.int .i64 g7,.int .i64 g8,.int .i64 g9])∧[g0,g1,g2,g3,g4,g5,g6,g7,g8,g9]=([f0,f1,f2,f3,f4,f5,f6,f7,f8,f9]:List Int).set q (n)∧Below w.heap.size w w':=by
 obtain⟨L,hL⟩:∃L,L=([f0,f1,f2,f3,f4,f5,f6,f7,f8,f9]:List Int).set q (n):=⟨_,rfl⟩;rw [←hL];have HL:=aa hL;clear hL;have hc:q=0∨q=1∨q=2∨q=3∨q=4∨q=5∨q=6∨q=7∨q=8∨q=9:=by omega
 rcases hc with rfl | rfl | rfl | rfl | rfl | rfl | rfl | rfl | rfl | rfl
 ·go_enter Tryz.func54,Tryz.ntmps54;go_wp2_with fail
  refine bodyPost_ret (v:=.agg #[.int .i64 n,.int .i64 f1,.int .i64 f2,.int .i64 f3,.int .i64 f4,.int .i64 f5,.int .i64 f6,.int .i64 f7,.int .i64 f8,.int .i64 f9]) ?_ rfl ⟨n,f1,f2,f3,f4,f5,f6,f7,f8,f9,rfl,by rw [HL.out];rfl,(((Below.refl _ _).alloc zr _).alloc (by simp) _).alloc (by simp;omega) _⟩;simp [results,Tryz.results54,go_sem]
 ·go_enter Tryz.func54,Tryz.ntmps54;go_wp2_with fail
  refine bodyPost_ret (v:=.agg #[.int .i64 f0,.int .i64 n,.int .i64 f2,.int .i64 f3,.int .i64 f4,.int .i64 f5,.int .i64 f6,.int .i64 f7,.int .i64 f8,.int .i64 f9]) ?_ rfl ⟨f0,n,f2,f3,f4,f5,f6,f7,f8,f9,rfl,by rw [HL.out];rfl,(((Below.refl _ _).alloc zr _).alloc (by simp) _).alloc (by simp;omega) _⟩;simp [results,Tryz.results54,go_sem]
 ·go_enter Tryz.func54,Tryz.ntmps54;go_wp2_with fail
  refine bodyPost_ret (v:=.agg #[.int .i64 f0,.int .i64 f1,.int .i64 n,.int .i64 f3,.int .i64 f4,.int .i64 f5,.int .i64 f6,.int .i64 f7,.int .i64 f8,.int .i64 f9]) ?_ rfl ⟨f0,f1,n,f3,f4,f5,f6,f7,f8,f9,rfl,by rw [HL.out];rfl,(((Below.refl _ _).alloc zr _).alloc (by simp) _).alloc (by simp;omega) _⟩;simp [results,Tryz.results54,go_sem]
 ·go_enter Tryz.func54,Tryz.ntmps54;go_wp2_with fail
  refine bodyPost_ret (v:=.agg #[.int .i64 f0,.int .i64 f1,.int .i64 f2,.int .i64 n,.int .i64 f4,.int .i64 f5,.int .i64 f6,.int .i64 f7,.int .i64 f8,.int .i64 f9]) ?_ rfl ⟨f0,f1,f2,n,f4,f5,f6,f7,f8,f9,rfl,by rw [HL.out];rfl,(((Below.refl _ _).alloc zr _).alloc (by simp) _).alloc (by simp;omega) _⟩;simp [results,Tryz.results54,go_sem]
 ·go_enter Tryz.func54,Tryz.ntmps54;go_wp2_with fail
  refine bodyPost_ret (v:=.agg #[.int .i64 f0,.int .i64 f1,.int .i64 f2,.int .i64 f3,.int .i64 n,.int .i64 f5,.int .i64 f6,.int .i64 f7,.int .i64 f8,.int .i64 f9]) ?_ rfl ⟨f0,f1,f2,f3,n,f5,f6,f7,f8,f9,rfl,by rw [HL.out];rfl,(((Below.refl _ _).alloc zr _).alloc (by simp) _).alloc (by simp;omega) _⟩;simp [results,Tryz.results54,go_sem]
 ·go_enter Tryz.func54,Tryz.ntmps54;go_wp2_with fail
  refine bodyPost_ret (v:=.agg #[.int .i64 f0,.int .i64 f1,.int .i64 f2,.int .i64 f3,.int .i64 f4,.int .i64 n,.int .i64 f6,.int .i64 f7,.int .i64 f8,.int .i64 f9]) ?_ rfl ⟨f0,f1,f2,f3,f4,n,f6,f7,f8,f9,rfl,by rw [HL.out];rfl,(((Below.refl _ _).alloc zr _).alloc (by simp) _).alloc (by simp;omega) _⟩;simp [results,Tryz.results54,go_sem]
 ·go_enter Tryz.func54,Tryz.ntmps54;go_wp2_with fail
  refine bodyPost_ret (v:=.agg #[.int .i64 f0,.int .i64 f1,.int .i64 f2,.int .i64 f3,.int .i64 f4,.int .i64 f5,.int .i64 n,.int .i64 f7,.int .i64 f8,.int .i64 f9]) ?_ rfl ⟨f0,f1,f2,f3,f4,f5,n,f7,f8,f9,rfl,by rw [HL.out];rfl,(((Below.refl _ _).alloc zr _).alloc (by simp) _).alloc (by simp;omega) _⟩;simp [results,Tryz.results54,go_sem]
 ·go_enter Tryz.func54,Tryz.ntmps54;go_wp2_with fail
  refine bodyPost_ret (v:=.agg #[.int .i64 f0,.int .i64 f1,.int .i64 f2,.int .i64 f3,.int .i64 f4,.int .i64 f5,.int .i64 f6,.int .i64 n,.int .i64 f8,.int .i64 f9]) ?_ rfl ⟨f0,f1,f2,f3,f4,f5,f6,n,f8,f9,rfl,by rw [HL.out];rfl,(((Below.refl _ _).alloc zr _).alloc (by simp) _).alloc (by simp;omega) _⟩;simp [results,Tryz.results54,go_sem]
 ·go_enter Tryz.func54,Tryz.ntmps54;go_wp2_with fail
  refine bodyPost_ret (v:=.agg #[.int .i64 f0,.int .i64 f1,.int .i64 f2,.int .i64 f3,.int .i64 f4,.int .i64 f5,.int .i64 f6,.int .i64 f7,.int .i64 n,.int .i64 f9]) ?_ rfl ⟨f0,f1,f2,f3,f4,f5,f6,f7,n,f9,rfl,by rw [HL.out];rfl,(((Below.refl _ _).alloc zr _).alloc (by simp) _).alloc (by simp;omega) _⟩;simp [results,Tryz.results54,go_sem]
 ·go_enter Tryz.func54,Tryz.ntmps54;go_wp2_with fail
  refine bodyPost_ret (v:=.agg #[.int .i64 f0,.int .i64 f1,.int .i64 f2,.int .i64 f3,.int .i64 f4,.int .i64 f5,.int .i64 f6,.int .i64 f7,.int .i64 f8,.int .i64 n]) ?_ rfl ⟨f0,f1,f2,f3,f4,f5,f6,f7,f8,n,rfl,by rw [HL.out];rfl,(((Below.refl _ _).alloc zr _).alloc (by simp) _).alloc (by simp;omega) _⟩;simp [results,Tryz.results54,go_sem]
theorem lr (f0 f1 f2 f3 f4 f5 f6 f7 f8 f9:Int) (q:Nat) (m:Nat) (w:World) (hq:q<10) (hm:m<10):
  Calls Tryz.prog 54 #[.agg #[.int .i64 f0,.int .i64 f1,.int .i64 f2,.int .i64 f3,.int .i64 f4,.int .i64 f5,.int .i64 f6,.int .i64 f7,.int .i64 f8,.int .i64 f9],.agg #[.int .i64 2,.int .i64 q,.int .i64 m]] w fun e w'=>∃g0 g1 g2 g3 g4 g5 g6 g7 g8 g9:Int,e= .returned (.agg #[.int .i64 g0,.int .i64 g1,.int .i64 g2,.int .i64 g3,.int .i64 g4,.int .i64 g5,.int .i64 g6,.int .i64 g7,.int .i64 g8,.int .i64 g9])∧[g0,g1,g2,g3,g4,g5,g6,g7,g8,g9]=([f0,f1,f2,f3,f4,f5,f6,f7,f8,f9]:List Int).set q (([f0,f1,f2,f3,f4,f5,f6,f7,f8,f9]:List Int).getD m 0)∧Below w.heap.size w w':=by
 have hcm:=tV w 76 f0 f1 f2 f3 f4 f5 f6 f7 f8 f9 m hm;have HX:=aa (rfl:([f0,f1,f2,f3,f4,f5,f6,f7,f8,f9]:List Int).getD m 0=([f0,f1,f2,f3,f4,f5,f6,f7,f8,f9]:List Int).getD m 0);obtain⟨x,hx⟩:∃x,x=([f0,f1,f2,f3,f4,f5,f6,f7,f8,f9]:List Int).getD m 0:=⟨_,rfl⟩;rw [←hx]at hcm;replace HX:=aa hx.symm;clear hx;have hmi:(m:Int)<10:=by omega
 have hxm:∀h,(([.int .i64 f0,.int .i64 f1,.int .i64 f2,.int .i64 f3,.int .i64 f4,.int .i64 f5,.int .i64 f6,.int .i64 f7,.int .i64 f8,.int .i64 f9]:List Value)[m]'h)= .int .i64 x:=fun h=>by
  have h2:=HX.out;clear hcm HX hmi;have hc:m=0∨m=1∨m=2∨m=3∨m=4∨m=5∨m=6∨m=7∨m=8∨m=9:=(by omega);rcases hc with rfl | rfl | rfl | rfl | rfl | rfl | rfl | rfl | rfl | rfl
  all_goals (rw [←h2];rfl)
 obtain⟨L,hL⟩:∃L,L=([f0,f1,f2,f3,f4,f5,f6,f7,f8,f9]:List Int).set q (([f0,f1,f2,f3,f4,f5,f6,f7,f8,f9]:List Int).getD m 0):=⟨_,rfl⟩;rw [←hL];have HL:=aa hL;clear hL;have hc:q=0∨q=1∨q=2∨q=3∨q=4∨q=5∨q=6∨q=7∨q=8∨q=9:=by omega
 rcases hc with rfl | rfl | rfl | rfl | rfl | rfl | rfl | rfl | rfl | rfl
 ·go_enter Tryz.func54,Tryz.ntmps54;go_wp2_with fail
  go_region
  all_goals go_wp2
  refine bodyPost_ret (v:=.agg #[.int .i64 x,.int .i64 f1,.int .i64 f2,.int .i64 f3,.int .i64 f4,.int .i64 f5,.int .i64 f6,.int .i64 f7,.int .i64 f8,.int .i64 f9]) ?_ rfl ⟨x,f1,f2,f3,f4,f5,f6,f7,f8,f9,rfl,by rw [HL.out,HX.out];rfl,((((Below.refl _ _).alloc zr _).alloc (by simp) _).alloc (by simp;omega) _).drew⟩;simp [results,Tryz.results54,go_sem]
 ·go_enter Tryz.func54,Tryz.ntmps54;go_wp2_with fail
  go_region
  all_goals go_wp2
  refine bodyPost_ret (v:=.agg #[.int .i64 f0,.int .i64 x,.int .i64 f2,.int .i64 f3,.int .i64 f4,.int .i64 f5,.int .i64 f6,.int .i64 f7,.int .i64 f8,.int .i64 f9]) ?_ rfl ⟨f0,x,f2,f3,f4,f5,f6,f7,f8,f9,rfl,by rw [HL.out,HX.out];rfl,((((Below.refl _ _).alloc zr _).alloc (by simp) _).alloc (by simp;omega) _).drew⟩;simp [results,Tryz.results54,go_sem]
 ·go_enter Tryz.func54,Tryz.ntmps54;go_wp2_with fail
  go_region
  all_goals go_wp2
  refine bodyPost_ret (v:=.agg #[.int .i64 f0,.int .i64 f1,.int .i64 x,.int .i64 f3,.int .i64 f4,.int .i64 f5,.int .i64 f6,.int .i64 f7,.int .i64 f8,.int .i64 f9]) ?_ rfl ⟨f0,f1,x,f3,f4,f5,f6,f7,f8,f9,rfl,by rw [HL.out,HX.out];rfl,((((Below.refl _ _).alloc zr _).alloc (by simp) _).alloc (by simp;omega) _).drew⟩;simp [results,Tryz.results54,go_sem]
 ·go_enter Tryz.func54,Tryz.ntmps54;go_wp2_with fail
  go_region
  all_goals go_wp2
  refine bodyPost_ret (v:=.agg #[.int .i64 f0,.int .i64 f1,.int .i64 f2,.int .i64 x,.int .i64 f4,.int .i64 f5,.int .i64 f6,.int .i64 f7,.int .i64 f8,.int .i64 f9]) ?_ rfl ⟨f0,f1,f2,x,f4,f5,f6,f7,f8,f9,rfl,by rw [HL.out,HX.out];rfl,((((Below.refl _ _).alloc zr _).alloc (by simp) _).alloc (by simp;omega) _).drew⟩;simp [results,Tryz.results54,go_sem]
 ·go_enter Tryz.func54,Tryz.ntmps54;go_wp2_with fail
  go_region
  all_goals go_wp2
  refine bodyPost_ret (v:=.agg #[.int .i64 f0,.int .i64 f1,.int .i64 f2,.int .i64 f3,.int .i64 x,.int .i64 f5,.int .i64 f6,.int .i64 f7,.int .i64 f8,.int .i64 f9]) ?_ rfl ⟨f0,f1,f2,f3,x,f5,f6,f7,f8,f9,rfl,by rw [HL.out,HX.out];rfl,((((Below.refl _ _).alloc zr _).alloc (by simp) _).alloc (by simp;omega) _).drew⟩;simp [results,Tryz.results54,go_sem]
 ·go_enter Tryz.func54,Tryz.ntmps54;go_wp2_with fail
  go_region
  all_goals go_wp2
  refine bodyPost_ret (v:=.agg #[.int .i64 f0,.int .i64 f1,.int .i64 f2,.int .i64 f3,.int .i64 f4,.int .i64 x,.int .i64 f6,.int .i64 f7,.int .i64 f8,.int .i64 f9]) ?_ rfl ⟨f0,f1,f2,f3,f4,x,f6,f7,f8,f9,rfl,by rw [HL.out,HX.out];rfl,((((Below.refl _ _).alloc zr _).alloc (by simp) _).alloc (by simp;omega) _).drew⟩;simp [results,Tryz.results54,go_sem]
 ·go_enter Tryz.func54,Tryz.ntmps54;go_wp2_with fail
  go_region
  all_goals go_wp2
  refine bodyPost_ret (v:=.agg #[.int .i64 f0,.int .i64 f1,.int .i64 f2,.int .i64 f3,.int .i64 f4,.int .i64 f5,.int .i64 x,.int .i64 f7,.int .i64 f8,.int .i64 f9]) ?_ rfl ⟨f0,f1,f2,f3,f4,f5,x,f7,f8,f9,rfl,by rw [HL.out,HX.out];rfl,((((Below.refl _ _).alloc zr _).alloc (by simp) _).alloc (by simp;omega) _).drew⟩;simp [results,Tryz.results54,go_sem]
 ·go_enter Tryz.func54,Tryz.ntmps54;go_wp2_with fail
  go_region
  all_goals go_wp2
  refine bodyPost_ret (v:=.agg #[.int .i64 f0,.int .i64 f1,.int .i64 f2,.int .i64 f3,.int .i64 f4,.int .i64 f5,.int .i64 f6,.int .i64 x,.int .i64 f8,.int .i64 f9]) ?_ rfl ⟨f0,f1,f2,f3,f4,f5,f6,x,f8,f9,rfl,by rw [HL.out,HX.out];rfl,((((Below.refl _ _).alloc zr _).alloc (by simp) _).alloc (by simp;omega) _).drew⟩;simp [results,Tryz.results54,go_sem]
 ·go_enter Tryz.func54,Tryz.ntmps54;go_wp2_with fail
  go_region
  all_goals go_wp2
  refine bodyPost_ret (v:=.agg #[.int .i64 f0,.int .i64 f1,.int .i64 f2,.int .i64 f3,.int .i64 f4,.int .i64 f5,.int .i64 f6,.int .i64 f7,.int .i64 x,.int .i64 f9]) ?_ rfl ⟨f0,f1,f2,f3,f4,f5,f6,f7,x,f9,rfl,by rw [HL.out,HX.out];rfl,((((Below.refl _ _).alloc zr _).alloc (by simp) _).alloc (by simp;omega) _).drew⟩;simp [results,Tryz.results54,go_sem]
 ·go_enter Tryz.func54,Tryz.ntmps54;go_wp2_with fail
  go_region
  all_goals go_wp2
  refine bodyPost_ret (v:=.agg #[.int .i64 f0,.int .i64 f1,.int .i64 f2,.int .i64 f3,.int .i64 f4,.int .i64 f5,.int .i64 f6,.int .i64 f7,.int .i64 f8,.int .i64 x]) ?_ rfl ⟨f0,f1,f2,f3,f4,f5,f6,f7,f8,x,rfl,by rw [HL.out,HX.out];rfl,((((Below.refl _ _).alloc zr _).alloc (by simp) _).alloc (by simp;omega) _).drew⟩;simp [results,Tryz.results54,go_sem]
theorem lF (f0 f1 f2 f3 f4 f5 f6 f7 f8 f9:Int) (q:Nat) (n:Int) (w:World) (hq:q<10) (hb:∀i,0≤([f0,f1,f2,f3,f4,f5,f6,f7,f8,f9]:List Int).getD i 0∧([f0,f1,f2,f3,f4,f5,f6,f7,f8,f9]:List Int).getD i 0≤65535):
  Calls Tryz.prog 54 #[.agg #[.int .i64 f0,.int .i64 f1,.int .i64 f2,.int .i64 f3,.int .i64 f4,.int .i64 f5,.int .i64 f6,.int .i64 f7,.int .i64 f8,.int .i64 f9],.agg #[.int .i64 3,.int .i64 q,.int .i64 n]] w fun e w'=>∃g0 g1 g2 g3 g4 g5 g6 g7 g8 g9:Int,e= .returned (.agg #[.int .i64 g0,.int .i64 g1,.int .i64 g2,.int .i64 g3,.int .i64 g4,.int .i64 g5,.int .i64 g6,.int .i64 g7,.int .i64 g8,.int .i64 g9])∧[g0,g1,g2,g3,g4,g5,g6,g7,g8,g9]=([f0,f1,f2,f3,f4,f5,f6,f7,f8,f9]:List Int).set q (if 0<([f0,f1,f2,f3,f4,f5,f6,f7,f8,f9]:List Int).getD q 0 then([f0,f1,f2,f3,f4,f5,f6,f7,f8,f9]:List Int).getD q 0-1 else 0)∧Below w.heap.size w w':=by
 obtain⟨L,hL⟩:∃L,L=([f0,f1,f2,f3,f4,f5,f6,f7,f8,f9]:List Int).set q (if 0<([f0,f1,f2,f3,f4,f5,f6,f7,f8,f9]:List Int).getD q 0 then([f0,f1,f2,f3,f4,f5,f6,f7,f8,f9]:List Int).getD q 0-1 else 0):=⟨_,rfl⟩;rw [←hL];have HL:=aa hL;clear hL;have hc:q=0∨q=1∨q=2∨q=3∨q=4∨q=5∨q=6∨q=7∨q=8∨q=9:=by omega
 rcases hc with rfl | rfl | rfl | rfl | rfl | rfl | rfl | rfl | rfl | rfl
 ·have hq0:=hb 0;simp at hq0;by_cases h0:0<f0
  ·have hw:IntKind.i64.wrap (f0-1)=f0-1:=ba _ (by omega) (by omega);have hmx:max (f0-1) 0=f0-1:=(by omega);go_enter Tryz.func54,Tryz.ntmps54;go_wp2_with fail
   go_region
   all_goals go_wp2
   refine bodyPost_ret (v:=.agg #[.int .i64 (f0-1),.int .i64 (f1),.int .i64 (f2),.int .i64 (f3),.int .i64 (f4),.int .i64 (f5),.int .i64 (f6),.int .i64 (f7),.int .i64 (f8),.int .i64 (f9)]) ?_ rfl ⟨f0-1,f1,f2,f3,f4,f5,f6,f7,f8,f9,rfl,by rw [HL.out];simp [h0],((((Below.refl _ _).alloc zr _).alloc (by simp) _).alloc (by simp;omega) _).drew⟩;simp [results,Tryz.results54,go_sem]
  ·have he:f0=0:=(by omega);subst he;go_enter Tryz.func54,Tryz.ntmps54;go_wp2_with fail
   go_region
   all_goals go_wp2
   refine bodyPost_ret (v:=.agg #[.int .i64 (0),.int .i64 (f1),.int .i64 (f2),.int .i64 (f3),.int .i64 (f4),.int .i64 (f5),.int .i64 (f6),.int .i64 (f7),.int .i64 (f8),.int .i64 (f9)]) ?_ rfl ⟨0,f1,f2,f3,f4,f5,f6,f7,f8,f9,rfl,by rw [HL.out];simp,((((Below.refl _ _).alloc zr _).alloc (by simp) _).alloc (by simp;omega) _).drew⟩;simp [results,Tryz.results54,go_sem]
 ·have hq0:=hb 1;simp at hq0;by_cases h0:0<f1
  ·have hw:IntKind.i64.wrap (f1-1)=f1-1:=ba _ (by omega) (by omega);have hmx:max (f1-1) 0=f1-1:=(by omega);go_enter Tryz.func54,Tryz.ntmps54;go_wp2_with fail
   go_region
   all_goals go_wp2
   refine bodyPost_ret (v:=.agg #[.int .i64 (f0),.int .i64 (f1-1),.int .i64 (f2),.int .i64 (f3),.int .i64 (f4),.int .i64 (f5),.int .i64 (f6),.int .i64 (f7),.int .i64 (f8),.int .i64 (f9)]) ?_ rfl ⟨f0,f1-1,f2,f3,f4,f5,f6,f7,f8,f9,rfl,by rw [HL.out];simp [h0],((((Below.refl _ _).alloc zr _).alloc (by simp) _).alloc (by simp;omega) _).drew⟩;simp [results,Tryz.results54,go_sem]
  ·have he:f1=0:=(by omega);subst he;go_enter Tryz.func54,Tryz.ntmps54;go_wp2_with fail
   go_region
   all_goals go_wp2
   refine bodyPost_ret (v:=.agg #[.int .i64 (f0),.int .i64 (0),.int .i64 (f2),.int .i64 (f3),.int .i64 (f4),.int .i64 (f5),.int .i64 (f6),.int .i64 (f7),.int .i64 (f8),.int .i64 (f9)]) ?_ rfl ⟨f0,0,f2,f3,f4,f5,f6,f7,f8,f9,rfl,by rw [HL.out];simp,((((Below.refl _ _).alloc zr _).alloc (by simp) _).alloc (by simp;omega) _).drew⟩;simp [results,Tryz.results54,go_sem]
 ·have hq0:=hb 2;simp at hq0;by_cases h0:0<f2
  ·have hw:IntKind.i64.wrap (f2-1)=f2-1:=ba _ (by omega) (by omega);have hmx:max (f2-1) 0=f2-1:=(by omega);go_enter Tryz.func54,Tryz.ntmps54;go_wp2_with fail
   go_region
   all_goals go_wp2
   refine bodyPost_ret (v:=.agg #[.int .i64 (f0),.int .i64 (f1),.int .i64 (f2-1),.int .i64 (f3),.int .i64 (f4),.int .i64 (f5),.int .i64 (f6),.int .i64 (f7),.int .i64 (f8),.int .i64 (f9)]) ?_ rfl ⟨f0,f1,f2-1,f3,f4,f5,f6,f7,f8,f9,rfl,by rw [HL.out];simp [h0],((((Below.refl _ _).alloc zr _).alloc (by simp) _).alloc (by simp;omega) _).drew⟩;simp [results,Tryz.results54,go_sem]
  ·have he:f2=0:=(by omega);subst he;go_enter Tryz.func54,Tryz.ntmps54;go_wp2_with fail
   go_region
   all_goals go_wp2
   refine bodyPost_ret (v:=.agg #[.int .i64 (f0),.int .i64 (f1),.int .i64 (0),.int .i64 (f3),.int .i64 (f4),.int .i64 (f5),.int .i64 (f6),.int .i64 (f7),.int .i64 (f8),.int .i64 (f9)]) ?_ rfl ⟨f0,f1,0,f3,f4,f5,f6,f7,f8,f9,rfl,by rw [HL.out];simp,((((Below.refl _ _).alloc zr _).alloc (by simp) _).alloc (by simp;omega) _).drew⟩;simp [results,Tryz.results54,go_sem]
 ·have hq0:=hb 3;simp at hq0;by_cases h0:0<f3
  ·have hw:IntKind.i64.wrap (f3-1)=f3-1:=ba _ (by omega) (by omega);have hmx:max (f3-1) 0=f3-1:=(by omega);go_enter Tryz.func54,Tryz.ntmps54;go_wp2_with fail
   go_region
   all_goals go_wp2
   refine bodyPost_ret (v:=.agg #[.int .i64 (f0),.int .i64 (f1),.int .i64 (f2),.int .i64 (f3-1),.int .i64 (f4),.int .i64 (f5),.int .i64 (f6),.int .i64 (f7),.int .i64 (f8),.int .i64 (f9)]) ?_ rfl ⟨f0,f1,f2,f3-1,f4,f5,f6,f7,f8,f9,rfl,by rw [HL.out];simp [h0],((((Below.refl _ _).alloc zr _).alloc (by simp) _).alloc (by simp;omega) _).drew⟩;simp [results,Tryz.results54,go_sem]
  ·have he:f3=0:=(by omega);subst he;go_enter Tryz.func54,Tryz.ntmps54;go_wp2_with fail
   go_region
   all_goals go_wp2
   refine bodyPost_ret (v:=.agg #[.int .i64 (f0),.int .i64 (f1),.int .i64 (f2),.int .i64 (0),.int .i64 (f4),.int .i64 (f5),.int .i64 (f6),.int .i64 (f7),.int .i64 (f8),.int .i64 (f9)]) ?_ rfl ⟨f0,f1,f2,0,f4,f5,f6,f7,f8,f9,rfl,by rw [HL.out];simp,((((Below.refl _ _).alloc zr _).alloc (by simp) _).alloc (by simp;omega) _).drew⟩;simp [results,Tryz.results54,go_sem]
 ·have hq0:=hb 4;simp at hq0;by_cases h0:0<f4
  ·have hw:IntKind.i64.wrap (f4-1)=f4-1:=ba _ (by omega) (by omega);have hmx:max (f4-1) 0=f4-1:=(by omega);go_enter Tryz.func54,Tryz.ntmps54;go_wp2_with fail
   go_region
   all_goals go_wp2
   refine bodyPost_ret (v:=.agg #[.int .i64 (f0),.int .i64 (f1),.int .i64 (f2),.int .i64 (f3),.int .i64 (f4-1),.int .i64 (f5),.int .i64 (f6),.int .i64 (f7),.int .i64 (f8),.int .i64 (f9)]) ?_ rfl ⟨f0,f1,f2,f3,f4-1,f5,f6,f7,f8,f9,rfl,by rw [HL.out];simp [h0],((((Below.refl _ _).alloc zr _).alloc (by simp) _).alloc (by simp;omega) _).drew⟩;simp [results,Tryz.results54,go_sem]
  ·have he:f4=0:=(by omega);subst he;go_enter Tryz.func54,Tryz.ntmps54;go_wp2_with fail
   go_region
   all_goals go_wp2
   refine bodyPost_ret (v:=.agg #[.int .i64 (f0),.int .i64 (f1),.int .i64 (f2),.int .i64 (f3),.int .i64 (0),.int .i64 (f5),.int .i64 (f6),.int .i64 (f7),.int .i64 (f8),.int .i64 (f9)]) ?_ rfl ⟨f0,f1,f2,f3,0,f5,f6,f7,f8,f9,rfl,by rw [HL.out];simp,((((Below.refl _ _).alloc zr _).alloc (by simp) _).alloc (by simp;omega) _).drew⟩;simp [results,Tryz.results54,go_sem]
 ·have hq0:=hb 5;simp at hq0;by_cases h0:0<f5
  ·have hw:IntKind.i64.wrap (f5-1)=f5-1:=ba _ (by omega) (by omega);have hmx:max (f5-1) 0=f5-1:=(by omega);go_enter Tryz.func54,Tryz.ntmps54;go_wp2_with fail
   go_region
   all_goals go_wp2
   refine bodyPost_ret (v:=.agg #[.int .i64 (f0),.int .i64 (f1),.int .i64 (f2),.int .i64 (f3),.int .i64 (f4),.int .i64 (f5-1),.int .i64 (f6),.int .i64 (f7),.int .i64 (f8),.int .i64 (f9)]) ?_ rfl ⟨f0,f1,f2,f3,f4,f5-1,f6,f7,f8,f9,rfl,by rw [HL.out];simp [h0],((((Below.refl _ _).alloc zr _).alloc (by simp) _).alloc (by simp;omega) _).drew⟩;simp [results,Tryz.results54,go_sem]
  ·have he:f5=0:=(by omega);subst he;go_enter Tryz.func54,Tryz.ntmps54;go_wp2_with fail
   go_region
   all_goals go_wp2
   refine bodyPost_ret (v:=.agg #[.int .i64 (f0),.int .i64 (f1),.int .i64 (f2),.int .i64 (f3),.int .i64 (f4),.int .i64 (0),.int .i64 (f6),.int .i64 (f7),.int .i64 (f8),.int .i64 (f9)]) ?_ rfl ⟨f0,f1,f2,f3,f4,0,f6,f7,f8,f9,rfl,by rw [HL.out];simp,((((Below.refl _ _).alloc zr _).alloc (by simp) _).alloc (by simp;omega) _).drew⟩;simp [results,Tryz.results54,go_sem]
 ·have hq0:=hb 6;simp at hq0;by_cases h0:0<f6
  ·have hw:IntKind.i64.wrap (f6-1)=f6-1:=ba _ (by omega) (by omega);have hmx:max (f6-1) 0=f6-1:=(by omega);go_enter Tryz.func54,Tryz.ntmps54;go_wp2_with fail
   go_region
   all_goals go_wp2
   refine bodyPost_ret (v:=.agg #[.int .i64 (f0),.int .i64 (f1),.int .i64 (f2),.int .i64 (f3),.int .i64 (f4),.int .i64 (f5),.int .i64 (f6-1),.int .i64 (f7),.int .i64 (f8),.int .i64 (f9)]) ?_ rfl ⟨f0,f1,f2,f3,f4,f5,f6-1,f7,f8,f9,rfl,by rw [HL.out];simp [h0],((((Below.refl _ _).alloc zr _).alloc (by simp) _).alloc (by simp;omega) _).drew⟩;simp [results,Tryz.results54,go_sem]
  ·have he:f6=0:=(by omega);subst he;go_enter Tryz.func54,Tryz.ntmps54;go_wp2_with fail
   go_region
   all_goals go_wp2
   refine bodyPost_ret (v:=.agg #[.int .i64 (f0),.int .i64 (f1),.int .i64 (f2),.int .i64 (f3),.int .i64 (f4),.int .i64 (f5),.int .i64 (0),.int .i64 (f7),.int .i64 (f8),.int .i64 (f9)]) ?_ rfl ⟨f0,f1,f2,f3,f4,f5,0,f7,f8,f9,rfl,by rw [HL.out];simp,((((Below.refl _ _).alloc zr _).alloc (by simp) _).alloc (by simp;omega) _).drew⟩;simp [results,Tryz.results54,go_sem]
 ·have hq0:=hb 7;simp at hq0;by_cases h0:0<f7
  ·have hw:IntKind.i64.wrap (f7-1)=f7-1:=ba _ (by omega) (by omega);have hmx:max (f7-1) 0=f7-1:=(by omega);go_enter Tryz.func54,Tryz.ntmps54;go_wp2_with fail
   go_region
   all_goals go_wp2
   refine bodyPost_ret (v:=.agg #[.int .i64 (f0),.int .i64 (f1),.int .i64 (f2),.int .i64 (f3),.int .i64 (f4),.int .i64 (f5),.int .i64 (f6),.int .i64 (f7-1),.int .i64 (f8),.int .i64 (f9)]) ?_ rfl ⟨f0,f1,f2,f3,f4,f5,f6,f7-1,f8,f9,rfl,by rw [HL.out];simp [h0],((((Below.refl _ _).alloc zr _).alloc (by simp) _).alloc (by simp;omega) _).drew⟩;simp [results,Tryz.results54,go_sem]
  ·have he:f7=0:=(by omega);subst he;go_enter Tryz.func54,Tryz.ntmps54;go_wp2_with fail
   go_region
   all_goals go_wp2
   refine bodyPost_ret (v:=.agg #[.int .i64 (f0),.int .i64 (f1),.int .i64 (f2),.int .i64 (f3),.int .i64 (f4),.int .i64 (f5),.int .i64 (f6),.int .i64 (0),.int .i64 (f8),.int .i64 (f9)]) ?_ rfl ⟨f0,f1,f2,f3,f4,f5,f6,0,f8,f9,rfl,by rw [HL.out];simp,((((Below.refl _ _).alloc zr _).alloc (by simp) _).alloc (by simp;omega) _).drew⟩;simp [results,Tryz.results54,go_sem]
 ·have hq0:=hb 8;simp at hq0;by_cases h0:0<f8
  ·have hw:IntKind.i64.wrap (f8-1)=f8-1:=ba _ (by omega) (by omega);have hmx:max (f8-1) 0=f8-1:=(by omega);go_enter Tryz.func54,Tryz.ntmps54;go_wp2_with fail
   go_region
   all_goals go_wp2
   refine bodyPost_ret (v:=.agg #[.int .i64 (f0),.int .i64 (f1),.int .i64 (f2),.int .i64 (f3),.int .i64 (f4),.int .i64 (f5),.int .i64 (f6),.int .i64 (f7),.int .i64 (f8-1),.int .i64 (f9)]) ?_ rfl ⟨f0,f1,f2,f3,f4,f5,f6,f7,f8-1,f9,rfl,by rw [HL.out];simp [h0],((((Below.refl _ _).alloc zr _).alloc (by simp) _).alloc (by simp;omega) _).drew⟩;simp [results,Tryz.results54,go_sem]
  ·have he:f8=0:=(by omega);subst he;go_enter Tryz.func54,Tryz.ntmps54;go_wp2_with fail
   go_region
   all_goals go_wp2
   refine bodyPost_ret (v:=.agg #[.int .i64 (f0),.int .i64 (f1),.int .i64 (f2),.int .i64 (f3),.int .i64 (f4),.int .i64 (f5),.int .i64 (f6),.int .i64 (f7),.int .i64 (0),.int .i64 (f9)]) ?_ rfl ⟨f0,f1,f2,f3,f4,f5,f6,f7,0,f9,rfl,by rw [HL.out];simp,((((Below.refl _ _).alloc zr _).alloc (by simp) _).alloc (by simp;omega) _).drew⟩;simp [results,Tryz.results54,go_sem]
 ·have hq0:=hb 9;simp at hq0;by_cases h0:0<f9
  ·have hw:IntKind.i64.wrap (f9-1)=f9-1:=ba _ (by omega) (by omega);have hmx:max (f9-1) 0=f9-1:=(by omega);go_enter Tryz.func54,Tryz.ntmps54;go_wp2_with fail
   go_region
   all_goals go_wp2
   refine bodyPost_ret (v:=.agg #[.int .i64 (f0),.int .i64 (f1),.int .i64 (f2),.int .i64 (f3),.int .i64 (f4),.int .i64 (f5),.int .i64 (f6),.int .i64 (f7),.int .i64 (f8),.int .i64 (f9-1)]) ?_ rfl ⟨f0,f1,f2,f3,f4,f5,f6,f7,f8,f9-1,rfl,by rw [HL.out];simp [h0],((((Below.refl _ _).alloc zr _).alloc (by simp) _).alloc (by simp;omega) _).drew⟩;simp [results,Tryz.results54,go_sem]
  ·have he:f9=0:=(by omega);subst he;go_enter Tryz.func54,Tryz.ntmps54;go_wp2_with fail
   go_region
   all_goals go_wp2
   refine bodyPost_ret (v:=.agg #[.int .i64 (f0),.int .i64 (f1),.int .i64 (f2),.int .i64 (f3),.int .i64 (f4),.int .i64 (f5),.int .i64 (f6),.int .i64 (f7),.int .i64 (f8),.int .i64 (0)]) ?_ rfl ⟨f0,f1,f2,f3,f4,f5,f6,f7,f8,0,rfl,by rw [HL.out];simp,((((Below.refl _ _).alloc zr _).alloc (by simp) _).alloc (by simp;omega) _).drew⟩;simp [results,Tryz.results54,go_sem]
theorem xU:(Tryz.prog.info? 85).map (fun i=>(i.zero,i.size,i.bytes))=some (some (.agg #[.int .i64 0,.int .i64 0,.int .i64 0,.int .i64 0,.int .i64 0,.int .i64 0,.int .i64 0,.int .i64 0,.int .i64 0,.int .i64 0,.int .i64 0,.int .i64 0,.string ByteArray.empty]),13,112):=by kernel_rfl
theorem kC {F:List Int} {n:Nat} (h:bV F n=0):F.all ap=true∧n≤40:=by
 unfold bV at h;split at h
 ·rename_i h1;split at h
  ·omega
  ·exact⟨h1,by omega⟩
 ·omega
theorem AC {F:List Int} (h:F.length=10):∃f0 f1 f2 f3 f4 f5 f6 f7 f8 f9,F= [f0,f1,f2,f3,f4,f5,f6,f7,f8,f9]:=by
 match F,h with
 | [f0,f1,f2,f3,f4,f5,f6,f7,f8,f9],_=>exact⟨f0,f1,f2,f3,f4,f5,f6,f7,f8,f9,rfl⟩
def PkF (w:World) (b:Nat) (F:List Int) (body:ByteArray):Prop:=PkAt w b F body∧∀i,w.frozen? ⟨b,i,none⟩=false
theorem PkF.below {w w':World} {b B:Nat} {F:List Int} {body:ByteArray} (h:PkF w b F body) (hb:Below B w w') (hB:b<B):PkF w' b F body:=
 ⟨h.1.below hb hB,fun i=>(hb.frozen (p:=⟨b,i,none⟩) hB).trans (h.2 i)⟩
theorem PkF.cells {w:World} {b:Nat} {body:ByteArray} {f0 f1 f2 f3 f4 f5 f6 f7 f8 f9:Int} (h:PkF w b [f0,f1,f2,f3,f4,f5,f6,f7,f8,f9] body):w.cell? ⟨b,0,none⟩=some (.int .i64 f0)∧w.cell? ⟨b,1,none⟩=some (.int .i64 f1)∧w.cell? ⟨b,2,none⟩=some (.int .i64 f2)∧w.cell? ⟨b,3,none⟩=some (.int .i64 f3)∧w.cell? ⟨b,4,none⟩=some (.int .i64 f4)∧w.cell? ⟨b,5,none⟩=some (.int .i64 f5)∧w.cell? ⟨b,6,none⟩=some (.int .i64 f6)∧w.cell? ⟨b,7,none⟩=some (.int .i64 f7)∧w.cell? ⟨b,8,none⟩=some (.int .i64 f8)∧w.cell? ⟨b,9,none⟩=some (.int .i64 f9)∧w.cell? ⟨b,10,none⟩=some (.string body):=
 ⟨h.1.2.1 0 (by omega),h.1.2.1 1 (by omega),h.1.2.1 2 (by omega),h.1.2.1 3 (by omega),h.1.2.1 4 (by omega),h.1.2.1 5 (by omega),h.1.2.1 6 (by omega),h.1.2.1 7 (by omega),h.1.2.1 8 (by omega),h.1.2.1 9 (by omega),h.1.2.2⟩
theorem sj {w w':World} {B e size n:Nat} {v:Value} {xs:List Value} (h:w.ownsRow B e size v n xs) (hb:Below w.heap.size w w'):w'.ownsRow B e size v n xs:=by
 refine h.kept (w':=w') (row:=none) ⟨hb.os,hb.tape,hb.output,hb.size,fun k hk _=>hb.block k hk⟩ ?_;cases v.ownBlock
 ·exact .inl rfl
 ·exact .inr (by simp)
theorem rX (b j:Nat):(⟨b,0,none⟩:Addr).add j=⟨b,j,none⟩:=by by_cases h:j=0 <;>simp [Addr.add,h]
theorem yK (w:World) (t:TypeId) (dk dn f0 f1 f2 f3 f4 f5 f6 f7 f8 f9:Int) (body:ByteArray):∀j u,(S body [⟨dk,dn,[f0,f1,f2,f3,f4,f5,f6,f7,f8,f9]⟩])[j]? =some u→(w.alloc (.cells #[.int .i64 dk,.int .i64 dn,.int .i64 f0,.int .i64 f1,.int .i64 f2,.int .i64 f3,.int .i64 f4,.int .i64 f5,.int .i64 f6,.int .i64 f7,.int .i64 f8,.int .i64 f9,.string body] t)).cell? ((⟨w.heap.size,0,none⟩:Addr).add j)=some u:=by
 intro j u hj;have hl:j<13:=by
  rcases Nat.lt_or_ge j 13 with h | h
  ·exact h
  ·rw [List.getElem?_eq_none (by simpa [S] using h)]at hj;simp at hj
 have hc:j=0∨j=1∨j=2∨j=3∨j=4∨j=5∨j=6∨j=7∨j=8∨j=9∨j=10∨j=11∨j=12:=by omega
 rcases hc with rfl | rfl | rfl | rfl | rfl | rfl | rfl | rfl | rfl | rfl | rfl | rfl | rfl
 all_goals (simp [S]at hj;subst hj;simp [Addr.add])
theorem AB (body:ByteArray) (l:List Sn):∀u∈S body l,u.oneCell'=true:=by
 intro u hu;simp only [S,List.mem_flatMap]at hu;obtain⟨x,_,hu⟩:=hu;simp only [List.mem_cons,List.not_mem_nil,or_false]at hu;rcases hu with rfl | rfl | rfl | rfl | rfl | rfl | rfl | rfl | rfl | rfl | rfl | rfl | rfl
 all_goals rfl
theorem PkF.set1 {w:World} {b i:Nat} {F:List Int} {body:ByteArray} (h:PkF w b F body) (x:Int) (hi:i<10):PkF (w.setCell ⟨b,i,none⟩ (.int .i64 x)) b (F.set i x) body:=by
 obtain⟨⟨hl,hc,hbd⟩,hf⟩:=h;refine⟨⟨by simp [hl],fun j hj=>?_,?_⟩,fun j=>by rw [World.frozen?_setCell];exact hf j⟩
 ·by_cases e:j=i
  ·subst e;rw [World.cell?_setCell_same _ _ _ (hc j hj)];simp [List.getD,hl,hj]
  ·rw [World.cell?_setCell_other _ _ _ _ (by simp),hc j hj];have e':¬i=j:=fun h=>e h.symm;simp [List.getD,e']
 ·rw [World.cell?_setCell_other _ _ _ _ (by simp)];exact hbd
def set10 (w:World) (b:Nat) (g0 g1 g2 g3 g4 g5 g6 g7 g8 g9:Int):World:=
 (((((((((w.setCell ⟨b,0,none⟩ (.int .i64 g0)).setCell ⟨b,1,none⟩ (.int .i64 g1)).setCell ⟨b,2,none⟩ (.int .i64 g2)).setCell ⟨b,3,none⟩ (.int .i64 g3)).setCell ⟨b,4,none⟩ (.int .i64 g4)).setCell ⟨b,5,none⟩ (.int .i64 g5)).setCell ⟨b,6,none⟩ (.int .i64 g6)).setCell ⟨b,7,none⟩ (.int .i64 g7)).setCell ⟨b,8,none⟩ (.int .i64 g8)).setCell ⟨b,9,none⟩ (.int .i64 g9)
theorem PkF.set10 {w:World} {b:Nat} {f0 f1 f2 f3 f4 f5 f6 f7 f8 f9:Int} {body:ByteArray} (h:PkF w b [f0,f1,f2,f3,f4,f5,f6,f7,f8,f9] body) (g0 g1 g2 g3 g4 g5 g6 g7 g8 g9:Int):PkF (set10 w b g0 g1 g2 g3 g4 g5 g6 g7 g8 g9) b [g0,g1,g2,g3,g4,g5,g6,g7,g8,g9] body:=
 (((((((((h.set1 g0 (i:=0) (by omega)).set1 g1 (i:=1) (by omega)).set1 g2 (i:=2) (by omega)).set1 g3 (i:=3) (by omega)).set1 g4 (i:=4) (by omega)).set1 g5 (i:=5) (by omega)).set1 g6 (i:=6) (by omega)).set1 g7 (i:=7) (by omega)).set1 g8 (i:=8) (by omega)).set1 g9 (i:=9) (by omega)
theorem iy {w:World} {b:Nat} (g0 g1 g2 g3 g4 g5 g6 g7 g8 g9:Int) {B:Nat} (hb:B≤b) {a:World} (h:Below B a w):Below B a (set10 w b g0 g1 g2 g3 g4 g5 g6 g7 g8 g9):=
 (((((((((h.setCell hb _).setCell hb _).setCell hb _).setCell hb _).setCell hb _).setCell hb _).setCell hb _).setCell hb _).setCell hb _).setCell hb _
theorem nC {w:World} {B e size n:Nat} {v:Value} {xs:List Value} (h:w.ownsRow B e size v n xs) {a:Addr} (ha:a.block<B) (u:Value):(w.setCell a u).ownsRow B e size v n xs:=by
 obtain⟨h0,h |⟨g,cap,cur,h1,h2,h3,h4⟩⟩:=h
 ·exact⟨h0,.inl h⟩
 ·exact⟨h0,.inr ⟨g,cap,cur,h1,h2,(Below.heap_setCell w a u g (by omega)).trans h3,h4⟩⟩
theorem kB {w:World} {b:Nat} (g0 g1 g2 g3 g4 g5 g6 g7 g8 g9:Int) {B e size n:Nat} {v:Value} {xs:List Value} (h:w.ownsRow B e size v n xs) (hb:b<B):(set10 w b g0 g1 g2 g3 g4 g5 g6 g7 g8 g9).ownsRow B e size v n xs:=
 nC (nC (nC (nC (nC (nC (nC (nC (nC (nC h hb _) hb _) hb _) hb _) hb _) hb _) hb _) hb _) hb _) hb _
theorem jn (w:World) (b:Nat) (g0 g1 g2 g3 g4 g5 g6 g7 g8 g9:Int):(set10 w b g0 g1 g2 g3 g4 g5 g6 g7 g8 g9).heap.size=w.heap.size:=by simp [set10]
theorem ki {w w':World} {row:Option Nat} {B:Nat} (hg:w.grownBy w' row) (hB:B≤w.heap.size) (hr:∀k,row=some k→B≤k):Below B w w':=(Below.refl B w).grown hg hB hr
theorem yX (f0 f1 f2 f3 f4 f5 f6 f7 f8 f9:Int) (body:ByteArray) (v:Value) (fs:List Fl) (w:World) (hL:FsAt w v fs) (hz:bh fs=0) (hp:bV [f0,f1,f2,f3,f4,f5,f6,f7,f8,f9] body.size=0) (hm:fs.length≤5000):
  Calls Tryz.prog 27 #[v,pkt f0 f1 f2 f3 f4 f5 f6 f7 f8 f9 body] w fun e w'=>∃u,e= .returned (.tuple #[u,.int .i64 0])∧w'.ownsRow w.heap.size 85 13 u (ran fs [f0,f1,f2,f3,f4,f5,f6,f7,f8,f9]).length (S body (ran fs [f0,f1,f2,f3,f4,f5,f6,f7,f8,f9]))∧Below w.heap.size w w':=by
 obtain⟨i0,hi,hz0,hz1,hz2⟩:=info_parts xU;obtain⟨hall,hbs⟩:=kC hp;have HWF:Hid (WF [f0,f1,f2,f3,f4,f5,f6,f7,f8,f9]):=iU rfl hall;have HL:=aa hL;have HZ:=aa hz;have HP:=aa hp;have hbm:body.size≤maxLen:=by unfold maxLen;omega
 obtain⟨a,cap,rfl,hn,_⟩:=hL;obtain⟨RES,hRES⟩:∃R,R=ran fs [f0,f1,f2,f3,f4,f5,f6,f7,f8,f9]:=⟨_,rfl⟩;rw [←hRES];have HRES:=aa hRES;clear hRES hall hz hp;go_enter Tryz.func27,Tryz.ntmps27;go_wp2_with fail
 obtain⟨W0,hW0⟩:∃W0,W0=w.alloc (.cells #[.int .i64 f0,.int .i64 f1,.int .i64 f2,.int .i64 f3,.int .i64 f4,.int .i64 f5,.int .i64 f6,.int .i64 f7,.int .i64 f8,.int .i64 f9,.string body] 78):=⟨_,rfl⟩;have c0:W0.cell? ⟨w.heap.size,0,none⟩=some (.int .i64 f0):=by rw [hW0];simp
 have c1:W0.cell? ⟨w.heap.size,1,none⟩=some (.int .i64 f1):=by rw [hW0];simp
 have c2:W0.cell? ⟨w.heap.size,2,none⟩=some (.int .i64 f2):=by rw [hW0];simp
 have c3:W0.cell? ⟨w.heap.size,3,none⟩=some (.int .i64 f3):=by rw [hW0];simp
 have c4:W0.cell? ⟨w.heap.size,4,none⟩=some (.int .i64 f4):=by rw [hW0];simp
 have c5:W0.cell? ⟨w.heap.size,5,none⟩=some (.int .i64 f5):=by rw [hW0];simp
 have c6:W0.cell? ⟨w.heap.size,6,none⟩=some (.int .i64 f6):=by rw [hW0];simp
 have c7:W0.cell? ⟨w.heap.size,7,none⟩=some (.int .i64 f7):=by rw [hW0];simp
 have c8:W0.cell? ⟨w.heap.size,8,none⟩=some (.int .i64 f8):=by rw [hW0];simp
 have c9:W0.cell? ⟨w.heap.size,9,none⟩=some (.int .i64 f9):=by rw [hW0];simp
 have cb:W0.cell? ⟨w.heap.size,10,none⟩=some (.string body):=by rw [hW0];simp
 have hfr0:∀i,W0.frozen? ⟨w.heap.size,i,none⟩=false:=fun i=>by rw [hW0];simp
 have hb0:Below w.heap.size w W0:=by rw [hW0];exact(Below.refl _ _).alloc zr _
 have hz0':w.heap.size<W0.heap.size:=by rw [hW0];simp
 rw [←hW0];clear hW0;have HFR0:=aa hfr0;clear hfr0;refine(jq _ fs _ (HL.out.below hb0 zr) (by omega)).mono ?_;rintro e w1 ⟨rfl,hb1⟩;rw [HZ.out];replace c0:=ae c0 hb1 zr;replace c1:=ae c1 hb1 zr;replace c2:=ae c2 hb1 zr;replace c3:=ae c3 hb1 zr;replace c4:=ae c4 hb1 zr;replace c5:=ae c5 hb1 zr;replace c6:=ae c6 hb1 zr;replace c7:=ae c7 hb1 zr;replace c8:=ae c8 hb1 zr;replace c9:=ae c9 hb1 zr;replace cb:=ae cb hb1 zr;go_wp2_with fail
 refine(eG f0 f1 f2 f3 f4 f5 f6 f7 f8 f9 body _ hbm).mono ?_;rintro e w2 ⟨rfl,hb2⟩;rw [HP.out];replace c0:=ae c0 hb2 zr;replace c1:=ae c1 hb2 zr;replace c2:=ae c2 hb2 zr;replace c3:=ae c3 hb2 zr;replace c4:=ae c4 hb2 zr;replace c5:=ae c5 hb2 zr;replace c6:=ae c6 hb2 zr;replace c7:=ae c7 hb2 zr;replace c8:=ae c8 hb2 zr;replace c9:=ae c9 hb2 zr;replace cb:=ae cb hb2 zr;have hb12:Below W0.heap.size W0 w2:=hb1.trans (hb2.mono hb1.size);have HFR:Hid (∀i,w2.frozen? ⟨w.heap.size,i,none⟩=false):=fun i=>(hb12.frozen (p:=⟨w.heap.size,i,none⟩) hz0').trans (HFR0.out i);have hb02:Below w.heap.size w w2:=hb0.trans (hb12.mono hb0.size);have hs2:w.heap.size<w2.heap.size:=Nat.lt_of_lt_of_le hz0' hb12.size;clear hb1 hb2 hb12 hb0 hz0' HFR0 W0 w1;have HPK:Hid (PkF w2 w.heap.size [f0,f1,f2,f3,f4,f5,f6,f7,f8,f9] body):=aa ⟨⟨rfl,fun i hi=>by
   have hc:i=0∨i=1∨i=2∨i=3∨i=4∨i=5∨i=6∨i=7∨i=8∨i=9:=(by omega);rcases hc with rfl | rfl | rfl | rfl | rfl | rfl | rfl | rfl | rfl | rfl
   all_goals assumption,cb⟩,HFR.out⟩
 clear c0 c1 c2 c3 c4 c5 c6 c7 c8 c9 cb HFR HP;obtain⟨F0,hF0⟩:∃F0:List Int,F0= [f0,f1,f2,f3,f4,f5,f6,f7,f8,f9]:=⟨_,rfl⟩;rw [←hF0]at HPK HWF HRES;clear hF0;go_wp2_with fail
 go_loopw [8,9] (fun o t wr=>∃(j:Nat) (s:St),Hid (WF s.F)∧(j:Int)≤s.t∧s.t≤8∧s.out.length≤100*j∧t= .int .i64 s.t∧Hid (eY fs (8-j) s=eY fs 8 ⟨F0,0,[]⟩)∧Hid (PkF wr w.heap.size s.F body)∧Hid (wr.ownsRow (w.heap.size+1) 85 13 o s.out.length (S body s.out))∧Below w.heap.size w wr∧w.heap.size<wr.heap.size) (fun _ t _=>8-(intOf t).toNat)
 case atStart=>exact⟨0,⟨F0,0,[]⟩,HWF,by simp,by simp,by simp,rfl,aa rfl,HPK,aa (World.ownsRow_nil _ _ _ _),hb02,hs2⟩
 case round=>
  clear HPK hb02 hs2 HWF;obtain⟨j,s,HWF,hj1,ht8,hol,rfl,HRN,HPK,HOW,hbel,hsz⟩:=hrel;obtain⟨SF,st,so⟩:=s;simp only at HWF hj1 ht8 hol HRN HPK HOW;by_cases ht:st<8
  ·obtain⟨f0,f1,f2,f3,f4,f5,f6,f7,f8,f9,rfl⟩:=AC HWF.out.1;have htd:decide (st<8)=true:=(by simpa using ht);have HTB:Hid (eY fs (8-j) ⟨[f0,f1,f2,f3,f4,f5,f6,f7,f8,f9],st,so⟩=eY fs (8-(j+1)) (dK fs ⟨[f0,f1,f2,f3,f4,f5,f6,f7,f8,f9],st,so⟩)):=by
    show _=_;have e:8-j=(8-(j+1))+1:=(by omega);rw [e];show(if 7<st then _ else _)=_;rw [if_neg (by omega)]
   obtain⟨c0,c1,c2,c3,c4,c5,c6,c7,c8,c9,cb⟩:=HPK.out.cells;obtain⟨oo,oc,rfl,hoc,hog⟩:∃oo oc,u8= .slice oo so.length oc∧so.length≤oc∧(0<so.length→∃g,oo=some ⟨g,0,none⟩):=by
    obtain⟨_,⟨rfl,h0⟩ |⟨g,cap,cur,rfl,_,_,hc,_⟩⟩:=HOW.out
    ·exact⟨none,0,by rw [h0],by omega,fun h=>absurd h (by omega)⟩
    ·exact⟨_,cap,rfl,hc,fun _=>⟨g,rfl⟩⟩
   go_wp2_with fail
   refine(wI f0 f1 f2 f3 f4 f5 f6 f7 f8 f9 _ fs st w wr HWF.out HL.out hbel HZ.out hm).mono ?_;rintro e w1 ⟨u,rfl,hds,hb1⟩;have HPK1:=aa (HPK.out.below hb1 hsz);have HOW1:=aa (sj HOW.out hb1);have hbel1:=hbel.trans (hb1.mono hbel.size);have hsz1:=Nat.lt_of_lt_of_le hsz hb1.size;clear HPK HOW hb1 c0 c1 c2 c3 c4 c5 c6 c7 c8 c9 cb hbel hsz;obtain⟨ds,hdsd⟩:∃ds,ds=iZ fs (aY fs [f0,f1,f2,f3,f4,f5,f6,f7,f8,f9] st fs.length):=⟨_,rfl⟩;have HTD:Hid (dK fs ⟨[f0,f1,f2,f3,f4,f5,f6,f7,f8,f9],st,so⟩=stepTo ⟨[f0,f1,f2,f3,f4,f5,f6,f7,f8,f9],8,so⟩ ds ds.length):=by show _=_;rw [hdsd];rfl
   have HDB:Hid (ds.length≤100∧∀k,k<ds.length→doB st ds k=true):=by
    have hbi:=dJ fs [f0,f1,f2,f3,f4,f5,f6,f7,f8,f9] st fs.length;rw [hdsd];unfold iZ;rcases hbi with⟨hb,_⟩ |⟨i,hb,_,hi,hf,_⟩
    ·rw [hb];exact aa ⟨by simp,fun k hk=>by simp at hk⟩
    ·rw [hb,if_neg (by omega),Int.toNat_natCast];have hk:=lM HZ.out hi;have hft:(fs.getD i fl0).t=st:=by
      unfold bF at hf;simp only [Bool.and_eq_true,beq_iff_eq]at hf;exact hf.1
     exact aa ⟨hk.2.2.1,by rw [←hft];exact hk.2.2.2.2.2.2.2.2⟩
   rw [←hdsd]at hds;clear hdsd;have HDS:=aa hds;obtain⟨da,dcap,rfl,hdn,_⟩:=hds;have hdl:=HDB.out.1;have HOK:Hid (∀k,k≤ds.length→Ok st (100*j+k) (stepTo ⟨[f0,f1,f2,f3,f4,f5,f6,f7,f8,f9],8,so⟩ ds k)):=fun k hk=>Ok.stepTo ⟨HWF.out,by simp;omega,by simp,by simp;omega⟩ HDB.out.2 k hk;go_wp2_with fail
   rename World=>W1
   go_loopw [8,9,32] (fun o t i wq=>∃(k:Nat),k≤ds.length∧i= .int .i64 k∧t= .int .i64 (stepTo ⟨[f0,f1,f2,f3,f4,f5,f6,f7,f8,f9],8,so⟩ ds k).t∧Hid (PkF wq w.heap.size (stepTo ⟨[f0,f1,f2,f3,f4,f5,f6,f7,f8,f9],8,so⟩ ds k).F body)∧Hid (wq.ownsRow (w.heap.size+1) 85 13 o (stepTo ⟨[f0,f1,f2,f3,f4,f5,f6,f7,f8,f9],8,so⟩ ds k).out.length (S body (stepTo ⟨[f0,f1,f2,f3,f4,f5,f6,f7,f8,f9],8,so⟩ ds k).out))∧Below w.heap.size w wq∧w.heap.size<wq.heap.size) (fun _ _ i _=>ds.length-(intOf i).toNat)
   case atStart=>exact⟨0,by omega,rfl,rfl,HPK1,HOW1,hbel1,hsz1⟩
   case round=>
    clear HPK1 HOW1 hbel1 hsz1;obtain⟨k,hk,rfl,rfl,HPK,HOW,hbel,hsz⟩:=hrel;by_cases hlt:k<ds.length
    ·have HSTEP:Hid (stepTo ⟨[f0,f1,f2,f3,f4,f5,f6,f7,f8,f9],8,so⟩ ds (k+1)=step (stepTo ⟨[f0,f1,f2,f3,f4,f5,f6,f7,f8,f9],8,so⟩ ds k) (ds.getD k do0)):=rfl;have HOKk:=aa (HOK.out k (by omega));have hpd:=kN (HDB.out.2 k hlt);obtain⟨db,doff,rfl,hdc,hcell⟩:∃b off,da=some ⟨b,off,none⟩∧ds.length≤dcap∧∀i,i<ds.length→w.cell? ⟨b,off+i*3,none⟩=some (.int .i64 (ds.getD i do0).k)∧w.cell? ⟨b,off+i*3+1,none⟩=some (.int .i64 (ds.getD i do0).a)∧w.cell? ⟨b,off+i*3+2,none⟩=some (.int .i64 (ds.getD i do0).n):=by
      obtain⟨a',cap',hv,hn',hL⟩:=HDS.out;simp only [Value.slice.injEq]at hv;obtain⟨rfl,_,rfl⟩:=hv;rcases hL with h0 | h
      ·omega
      ·exact h
     obtain⟨g0,g1,g2⟩:=hcell k hlt;have m0:=ae g0 hbel zr;have m1:=ae g1 hbel zr;have m2:=ae g2 hbel zr;clear g0 g1 g2 hcell;generalize stepTo ⟨[f0,f1,f2,f3,f4,f5,f6,f7,f8,f9],8,so⟩ ds k=s0 at*;generalize ds.getD k do0=d at*;obtain⟨dk,dA,dn⟩:=d;obtain⟨SF,st1,so1⟩:=s0;simp only at hpd m0 m1 m2 HPK HOW;obtain⟨hw0,_,hw8,hwo⟩:=HOKk.out;simp only at hw0 hw8 hwo;have HW0:=aa hw0;obtain⟨p0,p1,p2,p3,p4,p5,p6,p7,p8,p9,rfl⟩:=AC hw0.1;clear hw0;obtain⟨c0,c1,c2,c3,c4,c5,c6,c7,c8,c9,cb⟩:=HPK.out.cells;obtain⟨oo,oc,rfl,hoc,hog⟩:∃oo oc,u8= .slice oo so1.length oc∧so1.length≤oc∧(0<so1.length→∃g,oo=some ⟨g,0,none⟩):=by
      obtain⟨_,⟨rfl,h0⟩ |⟨g,cap,cur,rfl,_,_,hc,_⟩⟩:=HOW.out
      ·exact⟨none,0,by rw [h0],by omega,fun h=>absurd h (by omega)⟩
      ·exact⟨_,cap,rfl,hc,fun _=>⟨g,rfl⟩⟩
     have hA:∀o:Obj,Below wr.heap.size wr (wr.alloc o):=fun o=>(Below.refl _ _).alloc zr o;rcases hpd with⟨rfl,a0,a1,hn1⟩ |⟨rfl,a0,a1,n0,n1⟩ |⟨rfl,a0,a1⟩ |⟨rfl,n0,n1⟩ |⟨rfl,hn1⟩ |⟨rfl,n0,n1⟩
     ·obtain⟨q,rfl⟩:=Int.eq_ofNat_of_zero_le a0;have HS1:Hid (stepTo ⟨[f0,f1,f2,f3,f4,f5,f6,f7,f8,f9],8,so⟩ ds (k+1)=⟨([p0,p1,p2,p3,p4,p5,p6,p7,p8,p9]:List Int).set q (dn),st1,so1⟩):=by show _=_;rw [HSTEP.out];unfold step doF;simp
      go_wp2_with fail
      refine(ni p0 p1 p2 p3 p4 p5 p6 p7 p8 p9 q dn _ (by omega)).mono ?_;rintro e w3 ⟨g0,g1,g2,g3,g4,g5,g6,g7,g8,g9,rfl,hG,hb3⟩;have HG:=aa hG;clear hG HSTEP;have hb3':Below wr.heap.size wr w3:=(hA _).trans (hb3.mono (hA _).size);have HPK3:=aa (HPK.out.below hb3' hsz);have HOW3:=aa (sj HOW.out hb3');obtain⟨c0,c1,c2,c3,c4,c5,c6,c7,c8,c9,cb⟩:=HPK3.out.cells;have z0:=HPK3.out.2 0;have z1:=HPK3.out.2 1;have z2:=HPK3.out.2 2;have z3:=HPK3.out.2 3;have z4:=HPK3.out.2 4;have z5:=HPK3.out.2 5;have z6:=HPK3.out.2 6;have z7:=HPK3.out.2 7;have z8:=HPK3.out.2 8;have z9:=HPK3.out.2 9;have HPK4:=aa (HPK3.out.set10 g0 g1 g2 g3 g4 g5 g6 g7 g8 g9);rw [HG.out]at HPK4;have HOW4:=aa (kB g0 g1 g2 g3 g4 g5 g6 g7 g8 g9 HOW3.out (Nat.lt_succ_self _));have hbel4:=iy g0 g1 g2 g3 g4 g5 g6 g7 g8 g9 zr (hbel.trans (hb3'.mono hbel.size));have hsz4:w.heap.size<(set10 w3 w.heap.size g0 g1 g2 g3 g4 g5 g6 g7 g8 g9).heap.size:=by rw [jn];have:=hb3'.size;omega
      have HW4:Hid (set10 w3 w.heap.size g0 g1 g2 g3 g4 g5 g6 g7 g8 g9=(((((((((w3.setCell ⟨w.heap.size,0,none⟩ (.int .i64 g0)).setCell ⟨w.heap.size,1,none⟩ (.int .i64 g1)).setCell ⟨w.heap.size,2,none⟩ (.int .i64 g2)).setCell ⟨w.heap.size,3,none⟩ (.int .i64 g3)).setCell ⟨w.heap.size,4,none⟩ (.int .i64 g4)).setCell ⟨w.heap.size,5,none⟩ (.int .i64 g5)).setCell ⟨w.heap.size,6,none⟩ (.int .i64 g6)).setCell ⟨w.heap.size,7,none⟩ (.int .i64 g7)).setCell ⟨w.heap.size,8,none⟩ (.int .i64 g8)).setCell ⟨w.heap.size,9,none⟩ (.int .i64 g9)):=rfl;generalize set10 w3 w.heap.size g0 g1 g2 g3 g4 g5 g6 g7 g8 g9=w4 at*;go_wp2_with fail
      rw [←HW4.out];go_roundw
      case rel=>exact⟨k+1,by omega,by go_num,by rw [HS1.out],by rw [HS1.out];exact HPK4,by rw [HS1.out];exact HOW4,hbel4,hsz4⟩
      case measure=>simp [intOf];omega
     ·obtain⟨q,rfl⟩:=Int.eq_ofNat_of_zero_le a0;obtain⟨m,rfl⟩:=Int.eq_ofNat_of_zero_le n0;have HS1:Hid (stepTo ⟨[f0,f1,f2,f3,f4,f5,f6,f7,f8,f9],8,so⟩ ds (k+1)=⟨([p0,p1,p2,p3,p4,p5,p6,p7,p8,p9]:List Int).set q (([p0,p1,p2,p3,p4,p5,p6,p7,p8,p9]:List Int).getD m 0),st1,so1⟩):=by show _=_;rw [HSTEP.out];unfold step doF;simp
      go_wp2_with fail
      refine(lr p0 p1 p2 p3 p4 p5 p6 p7 p8 p9 q m _ (by omega) (by omega)).mono ?_;rintro e w3 ⟨g0,g1,g2,g3,g4,g5,g6,g7,g8,g9,rfl,hG,hb3⟩;have HG:=aa hG;clear hG HSTEP;have hb3':Below wr.heap.size wr w3:=(hA _).trans (hb3.mono (hA _).size);have HPK3:=aa (HPK.out.below hb3' hsz);have HOW3:=aa (sj HOW.out hb3');obtain⟨c0,c1,c2,c3,c4,c5,c6,c7,c8,c9,cb⟩:=HPK3.out.cells;have z0:=HPK3.out.2 0;have z1:=HPK3.out.2 1;have z2:=HPK3.out.2 2;have z3:=HPK3.out.2 3;have z4:=HPK3.out.2 4;have z5:=HPK3.out.2 5;have z6:=HPK3.out.2 6;have z7:=HPK3.out.2 7;have z8:=HPK3.out.2 8;have z9:=HPK3.out.2 9;have HPK4:=aa (HPK3.out.set10 g0 g1 g2 g3 g4 g5 g6 g7 g8 g9);rw [HG.out]at HPK4;have HOW4:=aa (kB g0 g1 g2 g3 g4 g5 g6 g7 g8 g9 HOW3.out (Nat.lt_succ_self _));have hbel4:=iy g0 g1 g2 g3 g4 g5 g6 g7 g8 g9 zr (hbel.trans (hb3'.mono hbel.size));have hsz4:w.heap.size<(set10 w3 w.heap.size g0 g1 g2 g3 g4 g5 g6 g7 g8 g9).heap.size:=by rw [jn];have:=hb3'.size;omega
      have HW4:Hid (set10 w3 w.heap.size g0 g1 g2 g3 g4 g5 g6 g7 g8 g9=(((((((((w3.setCell ⟨w.heap.size,0,none⟩ (.int .i64 g0)).setCell ⟨w.heap.size,1,none⟩ (.int .i64 g1)).setCell ⟨w.heap.size,2,none⟩ (.int .i64 g2)).setCell ⟨w.heap.size,3,none⟩ (.int .i64 g3)).setCell ⟨w.heap.size,4,none⟩ (.int .i64 g4)).setCell ⟨w.heap.size,5,none⟩ (.int .i64 g5)).setCell ⟨w.heap.size,6,none⟩ (.int .i64 g6)).setCell ⟨w.heap.size,7,none⟩ (.int .i64 g7)).setCell ⟨w.heap.size,8,none⟩ (.int .i64 g8)).setCell ⟨w.heap.size,9,none⟩ (.int .i64 g9)):=rfl;generalize set10 w3 w.heap.size g0 g1 g2 g3 g4 g5 g6 g7 g8 g9=w4 at*;go_wp2_with fail
      rw [←HW4.out];go_roundw
      case rel=>exact⟨k+1,by omega,by go_num,by rw [HS1.out],by rw [HS1.out];exact HPK4,by rw [HS1.out];exact HOW4,hbel4,hsz4⟩
      case measure=>simp [intOf];omega
     ·obtain⟨q,rfl⟩:=Int.eq_ofNat_of_zero_le a0;have HS1:Hid (stepTo ⟨[f0,f1,f2,f3,f4,f5,f6,f7,f8,f9],8,so⟩ ds (k+1)=⟨([p0,p1,p2,p3,p4,p5,p6,p7,p8,p9]:List Int).set q (if 0<([p0,p1,p2,p3,p4,p5,p6,p7,p8,p9]:List Int).getD q 0 then([p0,p1,p2,p3,p4,p5,p6,p7,p8,p9]:List Int).getD q 0-1 else 0),st1,so1⟩):=by show _=_;rw [HSTEP.out];unfold step doF;simp
      go_wp2_with fail
      refine(lF p0 p1 p2 p3 p4 p5 p6 p7 p8 p9 q dn _ (by omega) (fun i=>HW0.out.bd i)).mono ?_;rintro e w3 ⟨g0,g1,g2,g3,g4,g5,g6,g7,g8,g9,rfl,hG,hb3⟩;have HG:=aa hG;clear hG HSTEP;have hb3':Below wr.heap.size wr w3:=(hA _).trans (hb3.mono (hA _).size);have HPK3:=aa (HPK.out.below hb3' hsz);have HOW3:=aa (sj HOW.out hb3');obtain⟨c0,c1,c2,c3,c4,c5,c6,c7,c8,c9,cb⟩:=HPK3.out.cells;have z0:=HPK3.out.2 0;have z1:=HPK3.out.2 1;have z2:=HPK3.out.2 2;have z3:=HPK3.out.2 3;have z4:=HPK3.out.2 4;have z5:=HPK3.out.2 5;have z6:=HPK3.out.2 6;have z7:=HPK3.out.2 7;have z8:=HPK3.out.2 8;have z9:=HPK3.out.2 9;have HPK4:=aa (HPK3.out.set10 g0 g1 g2 g3 g4 g5 g6 g7 g8 g9);rw [HG.out]at HPK4;have HOW4:=aa (kB g0 g1 g2 g3 g4 g5 g6 g7 g8 g9 HOW3.out (Nat.lt_succ_self _));have hbel4:=iy g0 g1 g2 g3 g4 g5 g6 g7 g8 g9 zr (hbel.trans (hb3'.mono hbel.size));have hsz4:w.heap.size<(set10 w3 w.heap.size g0 g1 g2 g3 g4 g5 g6 g7 g8 g9).heap.size:=by rw [jn];have:=hb3'.size;omega
      have HW4:Hid (set10 w3 w.heap.size g0 g1 g2 g3 g4 g5 g6 g7 g8 g9=(((((((((w3.setCell ⟨w.heap.size,0,none⟩ (.int .i64 g0)).setCell ⟨w.heap.size,1,none⟩ (.int .i64 g1)).setCell ⟨w.heap.size,2,none⟩ (.int .i64 g2)).setCell ⟨w.heap.size,3,none⟩ (.int .i64 g3)).setCell ⟨w.heap.size,4,none⟩ (.int .i64 g4)).setCell ⟨w.heap.size,5,none⟩ (.int .i64 g5)).setCell ⟨w.heap.size,6,none⟩ (.int .i64 g6)).setCell ⟨w.heap.size,7,none⟩ (.int .i64 g7)).setCell ⟨w.heap.size,8,none⟩ (.int .i64 g8)).setCell ⟨w.heap.size,9,none⟩ (.int .i64 g9)):=rfl;generalize set10 w3 w.heap.size g0 g1 g2 g3 g4 g5 g6 g7 g8 g9=w4 at*;go_wp2_with fail
      rw [←HW4.out];go_roundw
      case rel=>exact⟨k+1,by omega,by go_num,by rw [HS1.out],by rw [HS1.out];exact HPK4,by rw [HS1.out];exact HOW4,hbel4,hsz4⟩
      case measure=>simp [intOf];omega
     ·have HS1:Hid (stepTo ⟨[f0,f1,f2,f3,f4,f5,f6,f7,f8,f9],8,so⟩ ds (k+1)=⟨[p0,p1,p2,p3,p4,p5,p6,p7,p8,p9],dn,so1⟩):=by show _=_;rw [HSTEP.out];unfold step;simp
      go_wp2_with fail
      go_roundw
      case rel=>exact⟨k+1,by omega,by go_num,by rw [HS1.out],by rw [HS1.out];exact aa (HPK.out.below (hA _) hsz),by rw [HS1.out];exact aa (sj HOW.out (hA _)),hbel.trans ((hA _).mono hbel.size),by simp;omega⟩
      case measure=>simp [intOf];omega
     ·have HS1:Hid (stepTo ⟨[f0,f1,f2,f3,f4,f5,f6,f7,f8,f9],8,so⟩ ds (k+1)=⟨[p0,p1,p2,p3,p4,p5,p6,p7,p8,p9],st1,so1++ [⟨5,dn,[p0,p1,p2,p3,p4,p5,p6,p7,p8,p9]⟩]⟩):=by show _=_;rw [HSTEP.out];unfold step;simp
      obtain⟨W2,hW2⟩:∃W2,W2=wr.alloc (.cells #[.int .i64 5,.int .i64 dA,.int .i64 dn] 115):=⟨_,rfl⟩;obtain⟨W3,hW3⟩:∃W3,W3=W2.alloc (.cells #[.int .i64 5,.int .i64 dn,.int .i64 p0,.int .i64 p1,.int .i64 p2,.int .i64 p3,.int .i64 p4,.int .i64 p5,.int .i64 p6,.int .i64 p7,.int .i64 p8,.int .i64 p9,.string body] 85):=⟨_,rfl⟩;have hb3:Below wr.heap.size wr W3:=by rw [hW3,hW2];exact(hA _).alloc (by simp) _
      have hsz3:wr.heap.size<W3.heap.size:=by rw [hW3,hW2];simp;omega
      have HOW3:=aa (sj HOW.out hb3);have HPK3:=aa (HPK.out.below hb3 hsz);have HNW:=aa (yK W2 85 5 dn p0 p1 p2 p3 p4 p5 p6 p7 p8 p9 body);have eW2:W2.heap.size=wr.heap.size+1:=by rw [hW2];simp
      rw [←hW3,eW2]at HNW;have HW3:Hid ((wr.alloc (.cells #[.int .i64 5,.int .i64 dA,.int .i64 dn] 115)).alloc (.cells #[.int .i64 5,.int .i64 dn,.int .i64 p0,.int .i64 p1,.int .i64 p2,.int .i64 p3,.int .i64 p4,.int .i64 p5,.int .i64 p6,.int .i64 p7,.int .i64 p8,.int .i64 p9,.string body] 85)=W3):=by show _=_;rw [hW3,hW2]
      clear hW2 hW3 HPK HOW HSTEP;go_wp2_with (at_builtin;rw [HW3.out];refine wpList_append_own _ rfl _ _ 81 rfl (w.heap.size+1) 85 i0 _ 13 112 Tryz.underlying81 hi hz0 hz1 hz2 rfl (by decide) _ _ _ rfl (ag HOW3) ⟨wr.heap.size+1,0,none⟩ 1 1 (S body [⟨5,dn,[p0,p1,p2,p3,p4,p5,p6,p7,p8,p9]⟩]) rfl rfl ?a1 ?a2 ?a3 ?a4 ?a5 ?_)
      case a1=>exact fun j u hj=>by have:=HNW.out j u hj;rwa [rX]at this
      case a2=>exact AB _ _
      case a3=>unfold maxLen;omega
      case a4=>omega
      case a5=>omega
      intro v4 w4 ho4 hg4 _;have hb4:Below (w.heap.size+1) W3 w4:=ki hg4 (by omega) (aS HOW3.out);have HPK4:=aa (HPK3.out.below hb4 (by omega));have hbel4:Below w.heap.size w w4:=(hbel.trans (hb3.mono hbel.size)).trans (hb4.mono (Nat.le_succ _));have hsz4:=hb4.size;have HOW4:Hid (w4.ownsRow (w.heap.size+1) 85 13 v4 (so1++([⟨5,dn,[p0,p1,p2,p3,p4,p5,p6,p7,p8,p9]⟩]:List Sn)).length (S body (so1++([⟨5,dn,[p0,p1,p2,p3,p4,p5,p6,p7,p8,p9]⟩]:List Sn)))):=by
       refine aa ?_;rw [rl,List.length_append];exact ho4
      obtain⟨vo4,vc4,rfl⟩:∃a c,v4= .slice a (so1.length+1) c:=by
       obtain⟨_,⟨rfl,h0⟩ |⟨g,cap,cur,rfl,_⟩⟩:=ho4
       ·omega
       ·exact⟨_,_,rfl⟩
      clear ho4 hg4 HOW3 HPK3 hb3 hb4 HNW HW3 m0 m1 m2 c0 c1 c2 c3 c4 c5 c6 c7 c8 c9 cb;go_wp2_with fail
      go_roundw
      case rel=>exact⟨k+1,by omega,by go_num,by rw [HS1.out],by rw [HS1.out];exact HPK4,by rw [HS1.out];exact HOW4,hbel4,by omega⟩
      case measure=>simp [intOf];omega
     ·have HS1:Hid (stepTo ⟨[f0,f1,f2,f3,f4,f5,f6,f7,f8,f9],8,so⟩ ds (k+1)=⟨[p0,p1,p2,p3,p4,p5,p6,p7,p8,p9],st1,so1++ [⟨6,dn,[p0,p1,p2,p3,p4,p5,p6,p7,p8,p9]⟩]⟩):=by show _=_;rw [HSTEP.out];unfold step;simp
      obtain⟨W2,hW2⟩:∃W2,W2=wr.alloc (.cells #[.int .i64 6,.int .i64 dA,.int .i64 dn] 115):=⟨_,rfl⟩;obtain⟨W3,hW3⟩:∃W3,W3=W2.alloc (.cells #[.int .i64 6,.int .i64 dn,.int .i64 p0,.int .i64 p1,.int .i64 p2,.int .i64 p3,.int .i64 p4,.int .i64 p5,.int .i64 p6,.int .i64 p7,.int .i64 p8,.int .i64 p9,.string body] 85):=⟨_,rfl⟩;have hb3:Below wr.heap.size wr W3:=by rw [hW3,hW2];exact(hA _).alloc (by simp) _
      have hsz3:wr.heap.size<W3.heap.size:=by rw [hW3,hW2];simp;omega
      have HOW3:=aa (sj HOW.out hb3);have HPK3:=aa (HPK.out.below hb3 hsz);have HNW:=aa (yK W2 85 6 dn p0 p1 p2 p3 p4 p5 p6 p7 p8 p9 body);have eW2:W2.heap.size=wr.heap.size+1:=by rw [hW2];simp
      rw [←hW3,eW2]at HNW;have HW3:Hid ((wr.alloc (.cells #[.int .i64 6,.int .i64 dA,.int .i64 dn] 115)).alloc (.cells #[.int .i64 6,.int .i64 dn,.int .i64 p0,.int .i64 p1,.int .i64 p2,.int .i64 p3,.int .i64 p4,.int .i64 p5,.int .i64 p6,.int .i64 p7,.int .i64 p8,.int .i64 p9,.string body] 85)=W3):=by show _=_;rw [hW3,hW2]
      clear hW2 hW3 HPK HOW HSTEP;go_wp2_with (at_builtin;rw [HW3.out];refine wpList_append_own _ rfl _ _ 81 rfl (w.heap.size+1) 85 i0 _ 13 112 Tryz.underlying81 hi hz0 hz1 hz2 rfl (by decide) _ _ _ rfl (ag HOW3) ⟨wr.heap.size+1,0,none⟩ 1 1 (S body [⟨6,dn,[p0,p1,p2,p3,p4,p5,p6,p7,p8,p9]⟩]) rfl rfl ?a1 ?a2 ?a3 ?a4 ?a5 ?_)
      case a1=>exact fun j u hj=>by have:=HNW.out j u hj;rwa [rX]at this
      case a2=>exact AB _ _
      case a3=>unfold maxLen;omega
      case a4=>omega
      case a5=>omega
      intro v4 w4 ho4 hg4 _;have hb4:Below (w.heap.size+1) W3 w4:=ki hg4 (by omega) (aS HOW3.out);have HPK4:=aa (HPK3.out.below hb4 (by omega));have hbel4:Below w.heap.size w w4:=(hbel.trans (hb3.mono hbel.size)).trans (hb4.mono (Nat.le_succ _));have hsz4:=hb4.size;have HOW4:Hid (w4.ownsRow (w.heap.size+1) 85 13 v4 (so1++([⟨6,dn,[p0,p1,p2,p3,p4,p5,p6,p7,p8,p9]⟩]:List Sn)).length (S body (so1++([⟨6,dn,[p0,p1,p2,p3,p4,p5,p6,p7,p8,p9]⟩]:List Sn)))):=by
       refine aa ?_;rw [rl,List.length_append];exact ho4
      obtain⟨vo4,vc4,rfl⟩:∃a c,v4= .slice a (so1.length+1) c:=by
       obtain⟨_,⟨rfl,h0⟩ |⟨g,cap,cur,rfl,_⟩⟩:=ho4
       ·omega
       ·exact⟨_,_,rfl⟩
      clear ho4 hg4 HOW3 HPK3 hb3 hb4 HNW HW3 m0 m1 m2 c0 c1 c2 c3 c4 c5 c6 c7 c8 c9 cb;go_wp2_with fail
      go_roundw
      case rel=>exact⟨k+1,by omega,by go_num,by rw [HS1.out],by rw [HS1.out];exact HPK4,by rw [HS1.out];exact HOW4,hbel4,by omega⟩
      case measure=>simp [intOf];omega
    ·have hkl:k=ds.length:=(by omega);subst hkl;have hok:=HOK.out ds.length zr;rw [←HTD.out]at hok HPK HOW;rw [←HTD.out];rw [HTB.out]at HRN;clear HOK HTD HTB HDS HDB;generalize dK fs ⟨[f0,f1,f2,f3,f4,f5,f6,f7,f8,f9],st,so⟩=s1 at*;obtain⟨hw0,hw7,hw8,hwo⟩:=hok;have HW0:=aa hw0;clear hw0;go_wp2_with fail
     go_roundw
     case rel=>exact⟨j+1,s1,HW0,by omega,hw8,by omega,rfl,HRN,HPK,HOW,hbel,hsz⟩
     case measure=>simp [intOf];omega
  ·have htd:decide (st<8)=false:=(by simpa using ht);have HEND:Hid (so=RES):=by
    show _=_;have h1:=HRN.out;rw [cQ fs _ (by show 7<st;omega)]at h1;rw [HRES.out];unfold ran;rw [←h1]
   go_wp2_with fail
   go_ret2;exact⟨_,rfl,by rw [←HEND.out];exact aA HOW.out (Nat.le_succ _),hbel⟩
structure Ar where
 n:Int
 f:List Int
def ar0:Ar:=⟨0,[]⟩
def snz:Sn:=⟨0,0,[]⟩
def arC (body:ByteArray) (x:Ar):List Value:=[.int .i64 x.n,.int .i64 (x.f.getD 0 0),.int .i64 (x.f.getD 1 0),.int .i64 (x.f.getD 2 0),.int .i64 (x.f.getD 3 0),.int .i64 (x.f.getD 4 0),.int .i64 (x.f.getD 5 0),.int .i64 (x.f.getD 6 0),.string body]
def AR (body:ByteArray) (l:List Ar):List Value:=l.flatMap (arC body)
def snC (body:ByteArray) (x:Sn):List Value:=[.int .i64 x.k,.int .i64 x.n,.int .i64 (x.F.getD 0 0),.int .i64 (x.F.getD 1 0),.int .i64 (x.F.getD 2 0),.int .i64 (x.F.getD 3 0),.int .i64 (x.F.getD 4 0),.int .i64 (x.F.getD 5 0),.int .i64 (x.F.getD 6 0),.int .i64 (x.F.getD 7 0),.int .i64 (x.F.getD 8 0),.int .i64 (x.F.getD 9 0),.string body]
def ff (F:List Int) (n:Nat):Int:=aQ (F.getD 1 0) (F.getD 2 0) (F.getD 3 0) (F.getD 4 0) (F.getD 5 0) (F.getD 6 0) (F.getD 7 0) n
def BQ (F:List Int):List Int:=[F.getD 1 0,F.getD 2 0,F.getD 3 0,F.getD 4 0,F.getD 5 0,F.getD 6 0,F.getD 7 0]
def AV (s:Sn):Ar:=⟨s.n,BQ s.F⟩
def n9 (s:Sn):Bool:=s.k==5
def j7 (n:Nat) (s:Sn):Bool:=n9 s&& !(ff s.F n==0)
def jb (l:List Sn):List Ar:=(l.filter n9).map AV
def atE (n:Nat) (l:List Sn):Int:=match l.find? (j7 n)with
 | none=>0
 | some s=>ff s.F n
def atL (n:Nat) (l:List Sn):List Ar:=if atE n l=0 then jb l else []
theorem mW {α:Type} (C:α→List Value) (sz:Nat) (hC:∀x,(C x).length=sz) (d:α):∀(l:List α) (i j:Nat),i<l.length→j<sz→(l.flatMap C)[i*sz+j]? =(C (l.getD i d))[j]?
 | [],i,j,hi,_=>by simp at hi
 | x::r,0,j,_,hj=>by
  rw [List.flatMap_cons,Nat.zero_mul,Nat.zero_add,List.getElem?_append_left (by rw [hC];exact hj)];rfl
 | x::r,i+1,j,hi,hj=>by
  rw [List.flatMap_cons,List.getElem?_append_right (by rw [hC,Nat.succ_mul];omega),hC,List.getD_cons_succ, ←mW C sz hC d r i j (by simpa using hi) hj];congr 1;rw [Nat.succ_mul];omega
theorem oG {α:Type} {C:α→List Value} {sz:Nat} (hC:∀x,(C x).length=sz) (d:α) {w:World} {B g cap e:Nat} {l:List α} (h:w.ownsRow B e sz (.slice (some ⟨g,0,none⟩) l.length cap) l.length (l.flatMap C)) {i:Nat} (hi:i<l.length):w.rangeAt g (i*sz) (C (l.getD i d)):=fun j v hj=>by
 have hjs:j<sz:=by
  have:=(List.getElem?_eq_some_iff.1 hj).1
  rwa [hC]at this
 have hl:i*sz+j<l.length*sz:=by
  have:(i+1)*sz≤l.length*sz:=Nat.mul_le_mul_right _ hi;rw [Nat.succ_mul]at this;omega
 rw [h.cellAt _ hl,mW C sz hC d l i j hi hjs];exact hj
theorem eh {w:World} {B e sz n:Nat} {u:Value} {xs:List Value} (h:w.ownsRow B e sz u n xs):∃oo oc,u= .slice oo n oc∧n≤oc∧(0<n→∃g,oo=some ⟨g,0,none⟩∧B≤g∧g<w.heap.size):=by
 have h':=h;obtain⟨_,⟨rfl,h0⟩ |⟨g,cap,cur,rfl,hB,_,hc,_⟩⟩:=h
 ·exact⟨none,0,by rw [h0],by omega,fun h=>absurd h (by omega)⟩
 ·exact⟨_,cap,rfl,hc,fun _=>⟨g,rfl,hB,dD h' rfl⟩⟩
theorem eq {α:Type} (d:α) {l:List α} {k:Nat} (h:k<l.length):l.take (k+1)=l.take k++ [l.getD k d]:=by
 rw [List.take_succ_eq_append_getElem h];congr 2;simp [List.getD,List.getElem?_eq_getElem h]
theorem uN {l:List Sn} {k:Nat} (h:k<l.length):jb (l.take (k+1))=jb (l.take k)++(if n9 (l.getD k snz)=true then [AV (l.getD k snz)]else []):=by
 unfold jb;rw [eq snz h,List.filter_append,List.map_append];congr 1;generalize l.getD k snz=x;cases hx:n9 x <;>simp [hx]
theorem wK {n:Nat} {l:List Sn} {k:Nat} (h:k<l.length) (h0:(l.take k).find? (j7 n)=none) (h1:j7 n (l.getD k snz)=false):(l.take (k+1)).find? (j7 n)=none:=by
 rw [eq snz h,List.find?_append,h0];generalize l.getD k snz=x at*;simp [h1]
theorem AO {n:Nat} {l:List Sn} {k:Nat} (h:k<l.length) (h0:(l.take k).find? (j7 n)=none) (h1:j7 n (l.getD k snz)=true):atE n l=ff (l.getD k snz).F n∧atE n l≠0:=by
 have e0:l=l.take k++l.getD k snz::l.drop (k+1):=by
  rw [←List.singleton_append, ←List.append_assoc, ←eq snz h,List.take_append_drop]
 have e:(l.take k++l.getD k snz::l.drop (k+1)).find? (j7 n)=some (l.getD k snz):=by
  rw [List.find?_append,h0,List.find?_cons_of_pos h1];rfl
 rw [←e0]at e;unfold atE;rw [e];refine⟨rfl,fun h=>?_⟩;simp only at h;unfold j7 at h1;rw [h]at h1;simp at h1
theorem tS (l:List Sn):(jb l).length≤l.length:=by
 unfold jb;rw [List.length_map];exact List.length_filter_le _ _
theorem yC:(Tryz.prog.info? 58).map (fun i=>(i.zero,i.size,i.bytes))=some (some (.agg #[.int .i64 0,.int .i64 0,.int .i64 0,.int .i64 0,.int .i64 0,.int .i64 0,.int .i64 0,.int .i64 0,.string ByteArray.empty]),9,80):=by kernel_rfl
theorem iu:(Tryz.prog.info? 85).map (·.size)=some 13:=by kernel_rfl
theorem lf (sv:Value) (l:List Sn) (body:ByteArray) (B:Nat) (w:World) (hL:w.ownsRow B 85 13 sv l.length (S body l)) (hb:body.size≤maxLen) (hl:l.length≤1000000):
  Calls Tryz.prog 55 #[sv] w fun e w'=>∃u,e= .returned (.tuple #[u,.int .i64 (atE body.size l)])∧w'.ownsRow w.heap.size 58 9 u (atL body.size l).length (AR body (atL body.size l))∧Below w.heap.size w w':=by
 obtain⟨i0,hi,hz0,hz1,hz2⟩:=info_parts yC;have HL:=aa hL;obtain⟨o,c,rfl,hc,hg⟩:=eh hL;clear hL;go_enter Tryz.func55,Tryz.ntmps55;go_wp2_with fail
 go_loopw [4,11] (fun u i wr=>∃k:Nat,k≤l.length∧i= .int .i64 k∧Hid (wr.ownsRow w.heap.size 58 9 u (jb (l.take k)).length (AR body (jb (l.take k))))∧Hid ((l.take k).find? (j7 body.size)=none)∧Below w.heap.size w wr) (fun _ i _=>l.length-(intOf i).toNat)
 case atStart=>exact⟨0,by omega,rfl,aa (by simpa [jb,AR] using World.ownsRow_nil w w.heap.size 58 9),aa rfl,Below.refl _ _⟩
 case round=>
  obtain⟨k,hk,rfl,HO,HBAD,hbr⟩:=hrel;by_cases hlt:k<l.length
  ·obtain⟨g,rfl,hgB,hgw⟩:=hg (by omega);have R0:=aa (eD (oG (C:=snC body) (fun _=>rfl) snz HL.out hlt) hbr hgw);have HN:=aa (uN hlt);have HB1:=aa (wK (n:=body.size) hlt HBAD.out);have HB2:=aa (AO (n:=body.size) hlt HBAD.out);have hlen:(jb (l.take k)).length≤k:=Nat.le_trans (tS _) (by rw [List.length_take];omega);obtain⟨oo,oc,rfl⟩:=az HO.out;obtain⟨N,hN⟩:∃N,N=(jb (l.take k)).length:=⟨_,rfl⟩;rw [←hN]at HO hlen⊢;have HNN:=aa hN;clear hN HBAD;generalize l.getD k snz=x at*;have q1:(0:Int)≤(k:Int):=(by omega);have q2:(k:Int)<(l.length:Int):=(by omega);have HFR:=aa (fun W=>jt (x.F.getD 0 0) (x.F.getD 1 0) (x.F.getD 2 0) (x.F.getD 3 0) (x.F.getD 4 0) (x.F.getD 5 0) (x.F.getD 6 0) (x.F.getD 7 0) (x.F.getD 8 0) (x.F.getD 9 0) body W hb);have HCX:Hid (arC body (AV x)= [.int .i64 x.n,.int .i64 (x.F.getD 1 0),.int .i64 (x.F.getD 2 0),.int .i64 (x.F.getD 3 0),.int .i64 (x.F.getD 4 0),.int .i64 (x.F.getD 5 0),.int .i64 (x.F.getD 6 0),.int .i64 (x.F.getD 7 0),.string body]):=rfl;have HK:Hid (n9 x=(x.k==5)):=rfl;have HE:Hid (j7 body.size x=(n9 x&& !(aQ (x.F.getD 1 0) (x.F.getD 2 0) (x.F.getD 3 0) (x.F.getD 4 0) (x.F.getD 5 0) (x.F.getD 6 0) (x.F.getD 7 0) body.size==0))):=rfl;have HE2:Hid (ff x.F body.size=aQ (x.F.getD 1 0) (x.F.getD 2 0) (x.F.getD 3 0) (x.F.getD 4 0) (x.F.getD 5 0) (x.F.getD 6 0) (x.F.getD 7 0) body.size):=rfl;have HXC:Hid (snC body x= [.int .i64 x.k,.int .i64 x.n,.int .i64 (x.F.getD 0 0),.int .i64 (x.F.getD 1 0),.int .i64 (x.F.getD 2 0),.int .i64 (x.F.getD 3 0),.int .i64 (x.F.getD 4 0),.int .i64 (x.F.getD 5 0),.int .i64 (x.F.getD 6 0),.int .i64 (x.F.getD 7 0),.int .i64 (x.F.getD 8 0),.int .i64 (x.F.getD 9 0),.string body]):=rfl;rw [HXC.out]at R0;generalize aQ (x.F.getD 1 0) (x.F.getD 2 0) (x.F.getD 3 0) (x.F.getD 4 0) (x.F.getD 5 0) (x.F.getD 6 0) (x.F.getD 7 0) body.size=E at*;generalize x.F.getD 0 0=y0 at*;generalize x.F.getD 1 0=y1 at*;generalize x.F.getD 2 0=y2 at*;generalize x.F.getD 3 0=y3 at*;generalize x.F.getD 4 0=y4 at*;generalize x.F.getD 5 0=y5 at*;generalize x.F.getD 6 0=y6 at*;generalize x.F.getD 7 0=y7 at*;generalize x.F.getD 8 0=y8 at*;generalize x.F.getD 9 0=y9 at*;generalize x.n=xn at*;generalize x.k=xk at*;by_cases h5:xk=5
   ·subst h5;have hx5:n9 x=true:=by rw [HK.out];rfl
    rw [hx5]at HE HN;obtain⟨W1,hW1⟩:∃W1,W1=wr.alloc (.cells #[.int .i64 5,.int .i64 xn,.int .i64 y0,.int .i64 y1,.int .i64 y2,.int .i64 y3,.int .i64 y4,.int .i64 y5,.int .i64 y6,.int .i64 y7,.int .i64 y8,.int .i64 y9,.string body] 85):=⟨_,rfl⟩;have hb1:Below wr.heap.size wr W1:=by rw [hW1];exact(Below.refl _ _).alloc zr _
    have d1:W1.cell? ⟨wr.heap.size,1,none⟩=some (.int .i64 xn):=zN1 hW1 rfl;go_wp2_with (refine wpList_load_mid rfl 85 (.tmp 13) rfl g (k*13) ?_ _ _ R0.out Tryz.underlying85 rfl iu ?_; · rfl)
    rw [←hW1];clear hW1;refine(ag HFR _).mono ?_;rintro e w2 ⟨rfl,hb2⟩;replace d1:=zC d1 hb2;have hb12:Below wr.heap.size wr w2:=hb1.trans (hb2.mono hb1.size);have HO1:=aa (ar HO.out hb12);have hB2:=hbr.trans (hb12.mono hbr.size);have hs2:=hB2.size;clear HO hb1 hb2 hbr HFR R0;have hwr:=am d1;by_cases hE:E=0
    ·subst hE;rw [if_pos rfl];obtain⟨W3,hW3⟩:∃W3,W3=(w2.alloc (.cells #[.int .i64 y1,.int .i64 y2,.int .i64 y3,.int .i64 y4,.int .i64 y5,.int .i64 y6,.int .i64 y7,.string body] 28)).alloc (.cells #[.int .i64 xn,.int .i64 y1,.int .i64 y2,.int .i64 y3,.int .i64 y4,.int .i64 y5,.int .i64 y6,.int .i64 y7,.string body] 58):=⟨_,rfl⟩;have hb3:Below w2.heap.size w2 W3:=by rw [hW3];exact((Below.refl _ _).alloc zr _).alloc (by simp) _
     have NEWS:Hid (∀j u,[.int .i64 xn,.int .i64 y1,.int .i64 y2,.int .i64 y3,.int .i64 y4,.int .i64 y5,.int .i64 y6,.int .i64 y7,.string body][j]? =some u→W3.cell? ((⟨w2.heap.size+1,0,none⟩:Addr).add j)=some u):=by
      rw [hW3];have:=oJ (w2.alloc (.cells #[.int .i64 y1,.int .i64 y2,.int .i64 y3,.int .i64 y4,.int .i64 y5,.int .i64 y6,.int .i64 y7,.string body] 28)) [.int .i64 xn,.int .i64 y1,.int .i64 y2,.int .i64 y3,.int .i64 y4,.int .i64 y5,.int .i64 y6,.int .i64 y7,.string body] 58;refine aa (fun j u hj=>?_);have h:=this j u hj;rw [Nat.zero_add]at h;rw [rX];simpa using h
     have HO2:=aa (ar HO1.out hb3);have hs3:w.heap.size≤W3.heap.size:=Nat.le_trans hs2 hb3.size;have HW3:Hid ((w2.alloc (.cells #[.int .i64 y1,.int .i64 y2,.int .i64 y3,.int .i64 y4,.int .i64 y5,.int .i64 y6,.int .i64 y7,.string body] 28)).alloc (.cells #[.int .i64 xn,.int .i64 y1,.int .i64 y2,.int .i64 y3,.int .i64 y4,.int .i64 y5,.int .i64 y6,.int .i64 y7,.string body] 58)=W3):=hW3.symm;clear hW3;go_wp2_with (at_builtin;rw [ag HW3];refine wpList_append_own _ rfl _ _ 29 rfl w.heap.size 58 i0 _ 9 80 Tryz.underlying29 hi hz0 hz1 hz2 rfl (by decide) _ _ _ rfl (ag HO2) ⟨w2.heap.size+1,0,none⟩ 1 1 [.int .i64 xn,.int .i64 y1,.int .i64 y2,.int .i64 y3,.int .i64 y4,.int .i64 y5,.int .i64 y6,.int .i64 y7,.string body] rfl rfl (ag NEWS) (du rfl) ?a1 ?a2 ?a3 ?_)
     case a1=>unfold maxLen;omega
     case a2=>omega
     case a3=>exact hs3
     intro v4 w4 ho4 hg4 _;have hb4:Below w.heap.size w w4:=(hB2.trans (hb3.mono hs2)).grown hg4 hs3 (aS HO2.out);have HE4:Hid (w4.ownsRow w.heap.size 58 9 v4 (jb (l.take (k+1))).length (AR body (jb (l.take (k+1))))):=by
      refine aa ?_;rw [HN.out,if_pos trivial,List.length_append, ←HNN.out];unfold AR;rw [List.flatMap_append];simp only [List.flatMap_cons,List.flatMap_nil,List.append_nil,HCX.out,List.length_singleton];exact ho4
     have HBD:Hid ((l.take (k+1)).find? (j7 body.size)=none):=HB1.out (by rw [HE.out];rfl);clear ho4 hg4 HO2 NEWS HO1 HW3 hb3 HN HB1 HB2 HE HCX HXC HK d1;go_wp2_with fail
     go_roundw
     case rel=>exact⟨k+1,by omega,by go_num,HE4,HBD,hb4⟩
     case measure=>simp [intOf];omega
    ·rw [if_neg hE];have hEb:(E != 0)=true:=(by simpa using hE);have hEE:=HB2.out (by rw [HE.out];simpa using hE);have HE1:Hid (atE body.size l=E):=hEE.1.trans HE2.out;have HE3:Hid (atL body.size l= []):=by unfold atL;rw [if_neg hEE.2];exact aa rfl
     clear hEE;go_wp2_with fail
     rw [HE1.out,HE3.out];go_ret2;exact⟨_,rfl,World.ownsRow_nil _ _ _ _,hB2.alloc hs2 _⟩
   ·have h5b:(xk != 5)=true:=(by simpa using h5);have hx5:n9 x=false:=by rw [HK.out];simpa using h5
    rw [hx5]at HE HN;obtain⟨W1,hW1⟩:∃W1,W1=wr.alloc (.cells #[.int .i64 xk,.int .i64 xn,.int .i64 y0,.int .i64 y1,.int .i64 y2,.int .i64 y3,.int .i64 y4,.int .i64 y5,.int .i64 y6,.int .i64 y7,.int .i64 y8,.int .i64 y9,.string body] 85):=⟨_,rfl⟩;have hb1:Below wr.heap.size wr W1:=by rw [hW1];exact(Below.refl _ _).alloc zr _
    have HE4:Hid (W1.ownsRow w.heap.size 58 9 (.slice oo N oc) (jb (l.take (k+1))).length (AR body (jb (l.take (k+1))))):=by
     refine aa ?_;rw [HN.out,if_neg (by simp),List.append_nil, ←HNN.out];exact ar HO.out hb1
    have HBD:Hid ((l.take (k+1)).find? (j7 body.size)=none):=HB1.out (by rw [HE.out];rfl);go_wp2_with (refine wpList_load_mid rfl 85 (.tmp 13) rfl g (k*13) ?_ _ _ R0.out Tryz.underlying85 rfl iu ?_; · rfl)
    rw [←hW1];go_roundw
    case rel=>exact⟨k+1,by omega,by go_num,HE4,HBD,hbr.trans (hb1.mono hbr.size)⟩
    case measure=>simp [intOf];omega
  ·have hke:k=l.length:=(by omega);subst hke;rw [List.take_length]at HO HBAD;have hE0:atE body.size l=0:=by unfold atE;rw [HBAD.out]
   have hA0:atL body.size l=jb l:=by unfold atL;rw [if_pos hE0]
   have HE0:=aa hE0;have HA0:=aa hA0;clear hE0 hA0;obtain⟨oo,oc,rfl⟩:=az HO.out;have hkk:¬((l.length:Int)<(l.length:Int)):=(by omega);go_wp2_with fail
   rw [HE0.out,HA0.out];go_ret2;exact⟨_,rfl,HO.out,hbr⟩
def pkE (dst src kind ips ipd ttl port:Int) (n:Nat) (i net t:Int):Int:=
 if aQ dst src kind ips ipd ttl port n=0 then bV [i,dst,src,kind,ips,ipd,ttl,port,net,t] n else aQ dst src kind ips ipd ttl port n
abbrev pkZ:Value:=pkt 0 0 0 0 0 0 0 0 0 0 ⟨#[]⟩
theorem gv:(Tryz.prog.info? 78).map (·.size)=some 11:=by kernel_rfl
theorem Ad:(Tryz.prog.info? 28).map (·.size)=some 8:=by kernel_rfl
theorem kW (dst src kind ips ipd ttl port:Int) (body:ByteArray) (i net t:Int) (w:World) (hb:body.size≤maxLen):
  Calls Tryz.prog 26 #[fr dst src kind ips ipd ttl port body,.int .i64 i,.int .i64 net,.int .i64 t] w fun e w'=>e= .returned (.tuple #[if pkE dst src kind ips ipd ttl port body.size i net t=0 then pkt i dst src kind ips ipd ttl port net t body else pkZ,.int .i64 (pkE dst src kind ips ipd ttl port body.size i net t)])∧Below w.heap.size w w':=by
 have HE:Hid (pkE dst src kind ips ipd ttl port body.size i net t=if aQ dst src kind ips ipd ttl port body.size=0 then bV [i,dst,src,kind,ips,ipd,ttl,port,net,t] body.size else aQ dst src kind ips ipd ttl port body.size):=rfl;generalize pkE dst src kind ips ipd ttl port body.size i net t=E at*;have H1:=aa (fun W=>iH dst src kind ips ipd ttl port body W hb);have H2:=aa (fun W=>eG i dst src kind ips ipd ttl port net t body W hb);generalize aQ dst src kind ips ipd ttl port body.size=G at*;generalize bV [i,dst,src,kind,ips,ipd,ttl,port,net,t] body.size=K at*;obtain⟨W0,hW0⟩:∃W0,W0=(w.alloc (.cells #[.int .i64 dst,.int .i64 src,.int .i64 kind,.int .i64 ips,.int .i64 ipd,.int .i64 ttl,.int .i64 port,.string body] 28)).alloc (.cells #[.int .i64 0,.int .i64 0,.int .i64 0,.int .i64 0,.int .i64 0,.int .i64 0,.int .i64 0,.int .i64 0,.int .i64 0,.int .i64 0,.string ⟨#[]⟩] 78):=⟨_,rfl⟩;have kb:Below w.heap.size w W0:=by rw [hW0];exact((Below.refl _ w).alloc zr _).alloc (by simp) _
 have HBF:Hid (Box W0 w.heap.size [.int .i64 dst,.int .i64 src,.int .i64 kind,.int .i64 ips,.int .i64 ipd,.int .i64 ttl,.int .i64 port,.string body]):=by rw [hW0];exact aa ((Box.new w [.int .i64 dst,.int .i64 src,.int .i64 kind,.int .i64 ips,.int .i64 ipd,.int .i64 ttl,.int .i64 port,.string body] 28).alloc _)
 have HBP:Hid (Box W0 (w.heap.size+1) [.int .i64 0,.int .i64 0,.int .i64 0,.int .i64 0,.int .i64 0,.int .i64 0,.int .i64 0,.int .i64 0,.int .i64 0,.int .i64 0,.string ⟨#[]⟩]):=by rw [hW0];have h:=Box.new (w.alloc (.cells #[.int .i64 dst,.int .i64 src,.int .i64 kind,.int .i64 ips,.int .i64 ipd,.int .i64 ttl,.int .i64 port,.string body] 28)) [.int .i64 0,.int .i64 0,.int .i64 0,.int .i64 0,.int .i64 0,.int .i64 0,.int .i64 0,.int .i64 0,.int .i64 0,.int .i64 0,.string ⟨#[]⟩] 78;exact aa (by simpa using h)
 have HW0:=aa hW0.symm;clear hW0;go_enter Tryz.func26,Tryz.ntmps26;go_wp2_with (first | rw [HW0.out] |(refine wpList_load_mid rfl 28 (.tmp 4) rfl w.heap.size 0 rfl _ _ HBF.out.range Tryz.underlying28 rfl Ad ?_))
 clear HW0;refine(ag H1 _).mono ?_;rintro e w1 ⟨rfl,hb1⟩;replace HBF:=aa (HBF.out.below hb1);replace HBP:=aa (HBP.out.below hb1);replace kb:=kb.trans (hb1.mono kb.size);have l1:=HBP.out.lt;clear hb1 H1;by_cases hG:¬G=0
 ·have hE:E=G:=(by rw [HE.out,if_neg hG]);subst hE;clear HE H2 HBF;obtain⟨V1,hV1⟩:∃V1,V1=w1.setCells (w.heap.size+1) 0 [.int .i64 0,.int .i64 0,.int .i64 0,.int .i64 0,.int .i64 0,.int .i64 0,.int .i64 0,.int .i64 0,.int .i64 0,.int .i64 0,.string ⟨#[]⟩]:=⟨_,rfl⟩;have HN:Hid (Box V1 (w.heap.size+1) [.int .i64 0,.int .i64 0,.int .i64 0,.int .i64 0,.int .i64 0,.int .i64 0,.int .i64 0,.int .i64 0,.int .i64 0,.int .i64 0,.string ⟨#[]⟩]):=by rw [hV1];exact aa (HBP.out.set [.int .i64 0,.int .i64 0,.int .i64 0,.int .i64 0,.int .i64 0,.int .i64 0,.int .i64 0,.int .i64 0,.int .i64 0,.int .i64 0,.string ⟨#[]⟩] rfl)
  have kz:Below w.heap.size w V1:=by rw [hV1];exact bj _ (by omega) _ _ kb
  have HV:Hid (w1.setCells (w.heap.size+1) 0 [.int .i64 0,.int .i64 0,.int .i64 0,.int .i64 0,.int .i64 0,.int .i64 0,.int .i64 0,.int .i64 0,.int .i64 0,.int .i64 0,.string ⟨#[]⟩]=V1):=hV1.symm;have HFT:=aa (HBP.out.fit 11 rfl);clear hV1 HBP;go_wp2_with (first |(refine wpList_store_mid rfl 78 (.tmp 8) (.tmp 18) rfl (w.heap.size+1) 0 (List.toArray [.int .i64 0,.int .i64 0,.int .i64 0,.int .i64 0,.int .i64 0,.int .i64 0,.int .i64 0,.int .i64 0,.int .i64 0,.int .i64 0,.string ⟨#[]⟩]) rfl rfl HFT.out gv (fu rfl) ?_;rw [HV.out]))
  refine bodyPost_ret (v:=.tuple #[.agg #[.int .i64 0,.int .i64 0,.int .i64 0,.int .i64 0,.int .i64 0,.int .i64 0,.int .i64 0,.int .i64 0,.int .i64 0,.int .i64 0,.string ⟨#[]⟩],.int .i64 E]) ?_ rfl ⟨by first | rfl | rw [if_neg (by assumption)],kz⟩;exact dC (cs:=[.int .i64 0,.int .i64 0,.int .i64 0,.int .i64 0,.int .i64 0,.int .i64 0,.int .i64 0,.int .i64 0,.int .i64 0,.int .i64 0,.string ⟨#[]⟩]) Tryz.results26 rfl HN.out.range Tryz.underlying78 rfl gv
 ·have hG0:G=0:=(by omega);have hE:E=K:=(by rw [HE.out,if_pos hG0]);subst hE;subst hG0;clear HE hG;have c0:=HBF.out.cell 0 _ rfl;have c1:=HBF.out.cell 1 _ rfl;have c2:=HBF.out.cell 2 _ rfl;have c3:=HBF.out.cell 3 _ rfl;have c4:=HBF.out.cell 4 _ rfl;have c5:=HBF.out.cell 5 _ rfl;have c6:=HBF.out.cell 6 _ rfl;have c7:=HBF.out.cell 7 _ rfl;have hq1:w.heap.size<w1.heap.size:=(by omega);have hq2:¬w.heap.size=w1.heap.size:=(by omega);go_wp2_with fail
  obtain⟨W2,hW2⟩:∃W2,W2=(w1.alloc (.cells #[.int .i64 i,.int .i64 dst,.int .i64 src,.int .i64 kind,.int .i64 ips,.int .i64 ipd,.int .i64 ttl,.int .i64 port,.int .i64 net,.int .i64 t] 76)).alloc (.cells #[.int .i64 i,.int .i64 dst,.int .i64 src,.int .i64 kind,.int .i64 ips,.int .i64 ipd,.int .i64 ttl,.int .i64 port,.int .i64 net,.int .i64 t,.string body] 78):=⟨_,rfl⟩;have hb2:Below w1.heap.size w1 W2:=by rw [hW2];exact((Below.refl _ w1).alloc zr _).alloc (by simp) _
  have HBK:Hid (Box W2 (w1.heap.size+1) [.int .i64 i,.int .i64 dst,.int .i64 src,.int .i64 kind,.int .i64 ips,.int .i64 ipd,.int .i64 ttl,.int .i64 port,.int .i64 net,.int .i64 t,.string body]):=by rw [hW2];have h:=Box.new (w1.alloc (.cells #[.int .i64 i,.int .i64 dst,.int .i64 src,.int .i64 kind,.int .i64 ips,.int .i64 ipd,.int .i64 ttl,.int .i64 port,.int .i64 net,.int .i64 t] 76)) [.int .i64 i,.int .i64 dst,.int .i64 src,.int .i64 kind,.int .i64 ips,.int .i64 ipd,.int .i64 ttl,.int .i64 port,.int .i64 net,.int .i64 t,.string body] 78;exact aa (by simpa using h)
  rw [←hW2];clear hW2 c0 c1 c2 c3 c4 c5 c6 c7 HBF;refine(ag H2 _).mono ?_;rintro e w3 ⟨rfl,hb3⟩;replace HBP:=aa ((HBP.out.below hb2).below hb3);replace HBK:=aa (HBK.out.below hb3);replace kb:=(kb.trans (hb2.mono kb.size)).trans (hb3.mono (Nat.le_trans kb.size hb2.size));clear hb2 hb3 H2;by_cases hK:¬E=0
  ·obtain⟨V3,hV3⟩:∃V3,V3=w3.setCells (w.heap.size+1) 0 [.int .i64 0,.int .i64 0,.int .i64 0,.int .i64 0,.int .i64 0,.int .i64 0,.int .i64 0,.int .i64 0,.int .i64 0,.int .i64 0,.string ⟨#[]⟩]:=⟨_,rfl⟩;have HN:Hid (Box V3 (w.heap.size+1) [.int .i64 0,.int .i64 0,.int .i64 0,.int .i64 0,.int .i64 0,.int .i64 0,.int .i64 0,.int .i64 0,.int .i64 0,.int .i64 0,.string ⟨#[]⟩]):=by rw [hV3];exact aa (HBP.out.set [.int .i64 0,.int .i64 0,.int .i64 0,.int .i64 0,.int .i64 0,.int .i64 0,.int .i64 0,.int .i64 0,.int .i64 0,.int .i64 0,.string ⟨#[]⟩] rfl)
   have kz:Below w.heap.size w V3:=by rw [hV3];exact bj _ (by omega) _ _ kb
   have HV:Hid (w3.setCells (w.heap.size+1) 0 [.int .i64 0,.int .i64 0,.int .i64 0,.int .i64 0,.int .i64 0,.int .i64 0,.int .i64 0,.int .i64 0,.int .i64 0,.int .i64 0,.string ⟨#[]⟩]=V3):=hV3.symm;have HFT:=aa (HBP.out.fit 11 rfl);clear hV3 HBP;go_wp2_with (first |(refine wpList_store_mid rfl 78 (.tmp 8) (.tmp 46) rfl (w.heap.size+1) 0 (List.toArray [.int .i64 0,.int .i64 0,.int .i64 0,.int .i64 0,.int .i64 0,.int .i64 0,.int .i64 0,.int .i64 0,.int .i64 0,.int .i64 0,.string ⟨#[]⟩]) rfl rfl HFT.out gv (fu rfl) ?_;rw [HV.out]))
   refine bodyPost_ret (v:=.tuple #[.agg #[.int .i64 0,.int .i64 0,.int .i64 0,.int .i64 0,.int .i64 0,.int .i64 0,.int .i64 0,.int .i64 0,.int .i64 0,.int .i64 0,.string ⟨#[]⟩],.int .i64 E]) ?_ rfl ⟨by first | rfl | rw [if_neg (by assumption)],kz⟩;exact dC (cs:=[.int .i64 0,.int .i64 0,.int .i64 0,.int .i64 0,.int .i64 0,.int .i64 0,.int .i64 0,.int .i64 0,.int .i64 0,.int .i64 0,.string ⟨#[]⟩]) Tryz.results26 rfl HN.out.range Tryz.underlying78 rfl gv
  ·have hK0:E=0:=(by omega);subst hK0;clear hK;obtain⟨V3,hV3⟩:∃V3,V3=w3.setCells (w.heap.size+1) 0 [.int .i64 i,.int .i64 dst,.int .i64 src,.int .i64 kind,.int .i64 ips,.int .i64 ipd,.int .i64 ttl,.int .i64 port,.int .i64 net,.int .i64 t,.string body]:=⟨_,rfl⟩;have HN:Hid (Box V3 (w.heap.size+1) [.int .i64 i,.int .i64 dst,.int .i64 src,.int .i64 kind,.int .i64 ips,.int .i64 ipd,.int .i64 ttl,.int .i64 port,.int .i64 net,.int .i64 t,.string body]):=by rw [hV3];exact aa (HBP.out.set [.int .i64 i,.int .i64 dst,.int .i64 src,.int .i64 kind,.int .i64 ips,.int .i64 ipd,.int .i64 ttl,.int .i64 port,.int .i64 net,.int .i64 t,.string body] rfl)
   have kz:Below w.heap.size w V3:=by rw [hV3];exact bj _ (by omega) _ _ kb
   have HV:Hid (w3.setCells (w.heap.size+1) 0 [.int .i64 i,.int .i64 dst,.int .i64 src,.int .i64 kind,.int .i64 ips,.int .i64 ipd,.int .i64 ttl,.int .i64 port,.int .i64 net,.int .i64 t,.string body]=V3):=hV3.symm;have HFT:=aa (HBP.out.fit 11 rfl);clear hV3 HBP;go_wp2_with (first |(refine wpList_store_mid rfl 78 (.tmp 8) (.tmp 48) rfl (w.heap.size+1) 0 (List.toArray [.int .i64 i,.int .i64 dst,.int .i64 src,.int .i64 kind,.int .i64 ips,.int .i64 ipd,.int .i64 ttl,.int .i64 port,.int .i64 net,.int .i64 t,.string body]) rfl rfl HFT.out gv (fu rfl) ?_;rw [HV.out]) |(refine wpList_load_mid rfl 78 (.tmp 12) rfl (w1.heap.size+1) 0 rfl _ _ HBK.out.range Tryz.underlying78 rfl gv ?_))
   refine bodyPost_ret (v:=.tuple #[.agg #[.int .i64 i,.int .i64 dst,.int .i64 src,.int .i64 kind,.int .i64 ips,.int .i64 ipd,.int .i64 ttl,.int .i64 port,.int .i64 net,.int .i64 t,.string body],.int .i64 0]) ?_ rfl ⟨by first | rfl | rw [if_neg (by assumption)],kz⟩;exact dC (cs:=[.int .i64 i,.int .i64 dst,.int .i64 src,.int .i64 kind,.int .i64 ips,.int .i64 ipd,.int .i64 ttl,.int .i64 port,.int .i64 net,.int .i64 t,.string body]) Tryz.results26 rfl HN.out.range Tryz.underlying78 rfl gv
theorem ue (b off len cap:Nat) (xs:List Int) (w:World) (hl:xs.length=len) (hx:Bs xs) (hs:len≤100) (hlc:len≤cap)
  (hcell:∀i,i<len→w.cell? ⟨b,off+i,none⟩=some (.int .u8 (xs.getD i 0))):
  Calls Tryz.prog 196 #[.slice (some ⟨b,off,none⟩) len cap] w fun e w'=>e= .returned (.int .i64 (sm xs))∧w'=w:=by
 go_enter Tryz.func196,Tryz.ntmps196;go_wp2;go_loop [3,8] (fun t i=>∃k:Nat,k≤len∧i= .int .i64 k∧t= .int .i64 (tot xs k)) (fun _ i=>len-(intOf i).toNat)
 case atStart=>exact⟨0,Nat.zero_le _,rfl,rfl⟩
 case round=>
  obtain⟨k,hk,rfl,rfl⟩:=hrel;have ht:=sk hx k;by_cases hlt:k<len
  ·have hc:=hcell k hlt;have hb:=hx.at k;have HT:Hid (tot xs (k+1)=tot xs k+wt k (xs.getD k 0)):=rfl;clear hcell;generalize xs.getD k 0=c at hc hb HT;obtain⟨hb0,hb1⟩:=hb;obtain⟨ht0,ht1⟩:=ht;rcases Nat.mod_two_eq_zero_or_one k with hm | hm
   ·have hm':((k:Int)%2==0)=true:=by simp;omega
    go_wp2;go_round
    case rel=>exact⟨k+1,by omega,by go_num,by rw [HT.out];unfold wt;rw [if_pos hm];go_num⟩
    case measure=>simp [intOf];omega
   ·have hm':((k:Int)%2==0)=false:=by simp;omega
    go_wp2;go_round
    case rel=>exact⟨k+1,by omega,by go_num,by rw [HT.out];unfold wt;rw [if_neg (by omega)]⟩
    case measure=>simp [intOf];omega
  ·have hkl:k=xs.length:=(by omega);have HS:Hid (sm xs=65535-kq (tot xs k)):=by show _=_;unfold sm;rw [hkl]
   have hT2:tot xs k≤6528000:=(by omega);obtain⟨ht0,ht1⟩:=ht;clear hcell hkl ht1 hx;generalize tot xs k=T at*;go_wp2;go_loop [3] (fun t=>∃S:Int,0≤S∧S≤6528000∧t= .int .i64 S∧kq S=kq T) (fun t=>(intOf t).toNat)
   case atStart=>exact⟨T,ht0,hT2,rfl,rfl⟩
   case round=>
    obtain⟨S,hS0,hS1,rfl,hN⟩:=hrel;have HN:Hid (kq S=kq T):=hN;clear hN;by_cases hgt:65535<S
    ·go_wp2;go_round
     case rel=>exact⟨S%65536+S/65536,by omega,by omega,by go_num,by rw [sf S hgt];exact HN.out⟩
     case measure=>simp [intOf];omega
    ·go_wp2;go_ret;exact⟨ah (by rw [HS.out, ←HN.out,sF S hS0 (by omega)]),rfl⟩
theorem jY:(Tryz.prog.info? 5).map (fun i=>(i.zero,i.size,i.bytes))=some (some (.int .u8 0),1,1):=by kernel_rfl
theorem bC (B:Nat) (v:Value) (xs:List Int) (x:Int) (w:World) (hown:w.ownsRow B 5 1 v xs.length (U xs)) (hx0:0≤x) (hx1:x≤65535) (hl:xs.length≤1000) (hB:B≤w.heap.size):
  Calls Tryz.prog 162 #[v,.int .i64 x] w fun e w'=>∃v',e= .returned v'∧w'.ownsRow B 5 1 v' (xs++bO x).length (U (xs++bO x))∧Below B w w':=by
 obtain⟨i0,hi,hz0,hz1,hz2⟩:=info_parts jY;go_enter Tryz.func162,Tryz.ntmps162;go_wp2_with (at_builtin;refine wpList_append_own _ rfl _ _ 162 rfl B 5 i0 (.int .u8 0) 1 1 Tryz.underlying162 hi hz0 hz1 hz2 rfl (by decide) _ _ _ rfl (hown.alloc _) ⟨w.heap.size,0,none⟩ 2 2 (U (bO x)) rfl rfl ?c1 ?c2 ?c3 ?c4 ?c5 ?_)
 case c1=>
  intro j u hj
  match j,hj with
  | 0,hj=>simp [U,bO]at hj;subst hj;simp [Addr.add]
  | 1,hj=>simp [U,bO]at hj;subst hj;simp [Addr.add]
 case c2=>exact ug _
 case c3=>unfold maxLen;omega
 case c4=>omega
 case c5=>simp;omega
 intro v' w1 hown' hgrow _;have hbel:Below B w w1:=((Below.refl B w).alloc hB _).grown hgrow (by simp;omega) (aS hown);have hown2:w1.ownsRow B 5 1 v' (xs++bO x).length (U (xs++bO x)):=by rw [rE,List.length_append];exact hown'
 clear hown' hgrow hown;go_wp2;go_ret;exact⟨v',rfl,hown2,hbel⟩
theorem dT (n:Int) (h0:0≤n) (h1:n<2 ^ 16):IntKind.i64.wrap n=n:=by
 simp [IntKind.wrap,IntKind.bits,IntKind.signed];split <;>omega
theorem zH (p q:Int) (h0:0≤p) (h1:p≤255) (h2:0≤q) (h3:q≤255):bits .or .i64 (p*256) q=p*256+q:=
 bits_join .i64 16 (by decide) dT 8 (p*256) q (by omega) (by omega) (by omega) h2 (by omega) (by omega)
def Lies (w:World) (b off:Nat) (xs:List Int):Prop:=∀i,i<xs.length→w.cell? ⟨b,off+i,none⟩=some (.int .u8 (xs.getD i 0))
def bt (xs:List Int) (i:Nat):Int:=xs.getD i 0
def wd (xs:List Int) (i:Nat):Int:=xs.getD i 0*256+xs.getD (i+1) 0
theorem gS (b off len cap:Nat) (xs:List Int) (i:Int) (w:World) (hl:xs.length=len) (hx:Bs xs) (hm:len≤140737488355328) (hlc:len≤cap) (hL:Lies w b off xs) (h0:0≤i) (h1:i+1<len):
  Calls Tryz.prog 164 #[.slice (some ⟨b,off,none⟩) len cap,.int .i64 i] w fun e w'=>e= .returned (.int .i64 (wd xs i.toNat))∧∃n,w'=w.drewN n:=by
 have c0:=hL i.toNat (by omega);have c1:=hL (i+1).toNat (by omega);have b0:=hx.at i.toNat;have b1:=hx.at (i+1).toNat;have HW:Hid (wd xs i.toNat=xs.getD i.toNat 0*256+xs.getD (i+1).toNat 0):=by show _=_;unfold wd;rw [show(i+1).toNat=i.toNat+1 by omega]
 generalize xs.getD i.toNat 0=p at c0 b0 HW;generalize xs.getD (i+1).toNat 0=q at c1 b1 HW;obtain⟨p0,p1⟩:=b0;obtain⟨q0,q1⟩:=b1;have hor:=zH p q p0 p1 q0 q1;clear hL hx hl;have h2:i<len:=by omega
 go_enter Tryz.func164,Tryz.ntmps164;go_wp2;go_quiet (fail);go_wp2;go_ret;exact⟨ah HW.out.symm,_,rfl⟩
theorem Lies.drewN {w:World} {b off:Nat} {xs:List Int} (h:Lies w b off xs) (n:Nat):Lies (w.drewN n) b off xs:=fun i hi=>by
 have:=h i hi;simpa using this
theorem Lies.take {w:World} {b off:Nat} {xs:List Int} (h:Lies w b off xs) (k:Nat):Lies w b off (xs.take k):=fun i hi=>by
 have hk:i<k∧i<xs.length:=by rw [List.length_take]at hi;omega
 rw [h i hk.2];simp [hk.1]
theorem ke (b off len cap:Nat) (xs:List Int) (w:World) (hl:xs.length=len) (hx:Bs xs) (hm:len≤140737488355328) (hlc:len≤cap) (hL:Lies w b off xs) (h1:16≤len):
  Calls Tryz.prog 214 #[.slice (some ⟨b,off,none⟩) len cap] w fun e w'=>e= .returned (.int .i64 (wd xs 12))∧∃n,w'=w.drewN n:=by
 go_enter Tryz.func214,Tryz.ntmps214;go_wp2_with fail
 refine(gS b off len cap xs 12 _ hl hx hm hlc hL (by omega) (by omega)).mono ?_;rintro e w' ⟨rfl,n,rfl⟩;go_wp2_with fail
 go_ret;exact⟨rfl,n,rfl⟩
def chk (xs:List Int):Int:=
 if xs.length<16 then 5 else if 40<wd xs 12 then 1 else if(xs.length:Int)<16+wd xs 12 then 5 else if 16+wd xs 12<(xs.length:Int)then 4 else
  if wd xs (14+(wd xs 12).toNat)≠sm (xs.take (14+(wd xs 12).toNat))then 10 else 0
theorem wX {xs:List Int} (hx:Bs xs) (i:Nat):0≤wd xs i∧wd xs i≤65535:=by
 have h1:=hx.at i;have h2:=hx.at (i+1);unfold wd;omega
theorem kP (a:Option Addr) (len cap:Nat) (w:World) (h:len<16):
  Calls Tryz.prog 197 #[.slice a len cap] w fun e w'=>e= .returned (.int .i64 5)∧w'=w:=by
 go_enter Tryz.func197,Tryz.ntmps197;go_wp2;go_ret;exact⟨rfl,rfl⟩
theorem ie (b off len cap:Nat) (xs:List Int) (w:World) (hl:xs.length=len) (hx:Bs xs) (hm:len≤140737488355328) (hlc:len≤cap) (hL:Lies w b off xs) (h1:16≤len):
  Calls Tryz.prog 197 #[.slice (some ⟨b,off,none⟩) len cap] w fun e w'=>e= .returned (.int .i64 (chk xs))∧∃n,w'=w.drewN n:=by
 have hw:=wX hx 12;have HCK:Hid (chk xs=if 40<wd xs 12 then 1 else if(len:Int)<16+wd xs 12 then 5 else if 16+wd xs 12<(len:Int)then 4 else
  if wd xs (14+(wd xs 12).toNat)≠sm (xs.take (14+(wd xs 12).toNat))then 10 else 0):=by
  show _=_;unfold chk;rw [if_neg (by omega),hl]
 have HB:=aa (fun w' (h:Lies w' b off xs)=>ke b off len cap xs w' hl hx hm hlc h h1);obtain⟨n,hn⟩:=Int.eq_ofNat_of_zero_le hw.1;have hnb:n≤65535:=by omega
 rw [hn]at HCK HB;rw [Int.toNat_natCast]at HCK;clear hw;go_enter Tryz.func197,Tryz.ntmps197;go_wp2_with fail
 refine(ag HB _ hL).mono ?_;rintro e w' ⟨rfl,m,rfl⟩;have hL1:=hL.drewN m;clear HB hL hn;by_cases c1:40<n
 ·go_wp2;go_ret;exact⟨ah (by rw [HCK.out,if_pos (by omega)]),m,rfl⟩
 ·by_cases c2:len<16+n
  ·go_wp2;go_ret;exact⟨ah (by rw [HCK.out,if_neg (by omega),if_pos (by omega)]),m,rfl⟩
  ·by_cases c3:16+n<len
   ·go_wp2;go_ret;exact⟨ah (by rw [HCK.out,if_neg (by omega),if_neg (by omega),if_pos (by omega)]),m,rfl⟩
   ·have hT:(xs.take (14+n)).length=14+n:=by simp;omega
    have HT:=aa hT;clear hT;have hT1:14+n≤cap:=(by omega);obtain⟨w1,hw1⟩:∃w1,w1=w.drewN m:=⟨_,rfl⟩;rw [←hw1]at hL1⊢;have HW1:=aa hw1;clear hw1;go_wp2_with fail
    go_quiet ((first |(go_at_call 164;exact Calls.quiet_of (gS b off len cap xs _ _ hl hx hm hlc (hL1.drewN _) (by omega) (by omega))) |(go_at_call 196;exact Calls.quiet_of_same (ue b off (14+n) cap (xs.take (14+n)) _ HT.out (hx.take _) (by omega) hT1 (fun i hi=>((hL1.take (14+n)).drewN _) i (by rw [HT.out];exact hi))))));have hck:chk xs=if wd xs (14+n)≠sm (xs.take (14+n))then 10 else 0:=(by rw [HCK.out,if_neg (by omega),if_neg (by omega),if_neg (by omega)]);have HK:=aa hck;clear hck HCK;generalize wd xs (14+n)=p at*;generalize sm (xs.take (14+n))=q at*;by_cases hpq:p=q
    ·have hne:(p != q)=false:=(by simpa using hpq);go_wp2;go_ret;exact⟨ah (by rw [HK.out,if_neg (by simpa using hpq)]),m+nq,by rw [HW1.out,World.drewN_drewN]⟩
    ·have hne:(p != q)=true:=(by simpa using hpq);go_wp2;go_ret;exact⟨ah (by rw [HK.out,if_pos hpq]),m+nq,by rw [HW1.out,World.drewN_drewN]⟩
end Go.Proofs.YtjiajblbpokfgaaGreat
