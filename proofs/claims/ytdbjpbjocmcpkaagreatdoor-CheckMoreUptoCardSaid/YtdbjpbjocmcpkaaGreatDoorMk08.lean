import Derived.Test.YtdbjpbjocmcpkaaGreatDoorMk07
import Derived.Test.YtdbjpbjocmcpkaaGreatDoorRows
import Derived.ProofKit
import Derived.OpenShut
import Derived.SizedLaws
import Derived.Deep.DeepHandedRow
import Derived.Lib.LaidTab
import Derived.Lib.SliceRun
set_option maxHeartbeats 4000000
set_option maxRecDepth 100000
namespace Go.Proofs.YtdbjpbjocmcpkaaGreatDoor
section
namespace Fa
open Pl Co
structure gT (n:Nat) (f:Nat->Nat):Prop where
 lt:∀x,x<n->f x<n
 inj:∀x y,x<n->y<n->f x=f y->x=y
structure eT (n:Nat) (f m:Nat->Nat):Prop where
 norm:Norm n m
 iff:∀x y,x<n->y<n->(m x=m y↔∃k,it f k x=y)
section
variable {n:Nat} {f m:Nat->Nat}
theorem gT.sym (h:gT n f) {x y:Nat} (hx:x<n) (e:∃k,it f k x=y):∃k,it f k y=x:=by
 obtain⟨k,rfl⟩:=e;exact xC h.lt h.inj hx k
theorem lD (h:gT n f):∃m,eT n f m:=by
 have hex:∀x,∃z,x<n->z∈firsts n f/\∃k,it f k x=z:=fun x=>by
  by_cases hx:x<n
  .obtain⟨k,hk⟩:=s9 h.lt hx
   exact⟨_,fun _=>⟨hk,k,rfl⟩⟩
  .exact⟨0,fun h=>absurd h hx⟩
 obtain⟨m,hm⟩:=Classical.axiomOfChoice hex;refine⟨m,?_⟩;have hlt:∀x,x<n->m x<n:=fun x hx=>(fD.1 (hm x hx).1).1
 have hle:∀x,x<n->m x<=x:=fun x hx=>by
  obtain⟨k,hk⟩:=h.sym hx (hm x hx).2;have:=(fD.1 (hm x hx).1).2 k;omega
 have hiff:∀x y,x<n->y<n->(∃k,it f k x=y)->m x=m y:=fun x y hx hy hxy=>by
  obtain⟨k1,e1⟩:=h.sym hx (hm x hx).2;obtain⟨k2,e2⟩:=(hm y hy).2;obtain⟨k,e⟩:=hxy;refine zP h.lt h.inj (hm x hx).1 (hm y hy).1 (a:=k2+(k+k1)) (b:=0) ?_;rw[dh,dh,e1,e,e2];rfl
 refine⟨⟨hle,fun x hx=> ?_⟩,fun x y hx hy=>⟨fun e=> ?_,hiff x y hx hy⟩⟩
 .exact(hiff x (m x) hx (hlt x hx) (hm x hx).2).symm
 .obtain⟨k1,e1⟩:=(hm x hx).2
  obtain⟨k2,e2⟩:=h.sym hy (hm y hy).2;refine⟨k2+k1,?_⟩;rw[dh,e1,e,e2]
theorem eT.unique {m':Nat->Nat} (h:eT n f m) (h':eT n f m') {x:Nat} (hx:x<n):m x=m' x:=by
 have a1:=h.norm.lt hx;have a2:=h'.norm.lt hx;have e1:m (m' x)=m x:=(h.iff _ _ a2 hx).2 ((h'.iff _ _ a2 hx).1 (h'.norm.idem x hx));have e2:m' (m x)=m' x:=(h'.iff _ _ a1 hx).2 ((h.iff _ _ a1 hx).1 (h.norm.idem x hx));have b1:=h.norm.le _ a2;have b2:=h'.norm.le _ a1;omega
theorem eT.step (h:eT n f m) (hp:gT n f) {x:Nat} (hx:x<n):m (f x)=m x:=((h.iff x (f x) hx (hp.lt x hx)).2 ⟨1,rfl⟩).symm
theorem eT.reach' (h:eT n f m) {x:Nat} (hx:x<n):∃k,it f k x=m x:=(h.iff _ _ hx (h.norm.lt hx)).1 (h.norm.idem x hx).symm
theorem q9 {α:Type} {p:Nat->α} (hl:∀x,x<n->f x<n) (hp:∀x,x<n->p (f x)=p x):∀(k:Nat) {x:Nat},x<n->p (it f k x)=p x
 |0,_,_=>rfl
 |k+1,x,hx=>by
  show p (it f k (f x))=p x;rw[q9 hl hp k (hl x hx),hp x hx]
theorem eT.keep {α:Type} {p:Nat->α} (h:eT n f m) (hl:gT n f) (hp:∀x,x<n->p (f x)=p x) {x:Nat} (hx:x<n):p (m x)=p x:=by
 obtain⟨k,e⟩:=h.reach' hx;rw[<-e,q9 hl.lt hp k hx]
end
def swp (f:Nat->Nat) (a b:Nat):Nat->Nat:=fun x=>if x=a then f b else if x=b then f a else f x
theorem LF (f:Nat->Nat) (a b:Nat):swp (swp f a b) a b=f:=by
 funext x;unfold swp;by_cases h1:x=a
 .subst h1
  by_cases h2:b=x
  .subst h2;simp
  .simp[h2]
 .by_cases h2:x=b
  .subst h2;simp[h1]
  .simp[h1,h2]
theorem Bt (f:Nat->Nat) (a b:Nat):swp f a b a=f b:=by simp[swp]
theorem Bq (f:Nat->Nat) (a b:Nat):swp f a b b=f a:=by
 unfold swp;by_cases h:b=a
 .subst h;simp
 .simp[h]
theorem wo (f:Nat->Nat) {a b x:Nat} (h1:x≠a) (h2:x≠b):swp f a b x=f x:=by simp[swp,h1,h2]
section
variable {n:Nat} {f m:Nat->Nat} {a b:Nat}
theorem gT.swp (h:gT n f) (ha:a<n) (hb:b<n):gT n (swp f a b):=by
 refine⟨fun x hx=> ?_,fun x y hx hy e=> ?_⟩
 .unfold Fa.swp
  split
  .exact h.lt b hb
  .split
   .exact h.lt a ha
   .exact h.lt x hx
 .unfold Fa.swp at e
  have k1:=h.inj x y hx hy;have k2:=h.inj b y hb hy;have k3:=h.inj a y ha hy;have k4:=h.inj x a hx ha;have k5:=h.inj x b hx hb;have k6:=h.inj a b ha hb;have k7:=h.inj b a hb ha
  split at e<;>split at e<;>(try split at e)<;>(try split at e)<;>(first|omega|(have:=k1 e;omega)|(have:=k2 e;omega)|(have:=k3 e;omega)|(have:=k4 e;omega)|(have:=k5 e;omega)|(have:=k6 e;omega)|(have:=k7 e;omega))
theorem sI {P:Nat->Prop}:∀{k:Nat},P k->∃j,P j/\j<=k/\∀i,i<j->¬P i:=by
 intro k
 induction k using Nat.strongRecOn with
 |_ k ih=>
  intro hk;by_cases h:∃i,i<k/\P i
  .obtain⟨i,hi,hp⟩:=h
   obtain⟨j,h1,h2,h3⟩:=ih i hi hp;exact⟨j,h1,by omega,h3⟩
  .exact⟨k,hk,aaD _,fun i hi hp=>h ⟨i,hi,hp⟩⟩
theorem Af (h:gT n f) (ho:eT n f m) (ha:a<n) (hb:b<n) (hne:m a≠m b):eT n (swp f a b) (join m a b):=by
 have hq:=h.swp ha hb;have hJ:=fun {x y:Nat} (hx:x<n) (hy:y<n)=>fX ho.norm ha hb hne hx hy
 have key:∀x,x<n->join m a b (swp f a b x)=join m a b x:=fun x hx=>by
  have l1:=h.lt x hx;rw[hJ (hq.lt x hx) hx];by_cases e1:x=a
  .subst e1
   rw[Bt,ho.step h hb];exact .inr ⟨.inr rfl,.inl rfl⟩
  .by_cases e2:x=b
   .subst e2
    rw[Bq,ho.step h ha];exact .inr ⟨.inl rfl,.inr rfl⟩
   .rw[wo f e1 e2,ho.step h hx]
    exact .inl rfl
 have hab:∃k,it (swp f a b) k a=b:=by
  obtain⟨p0,ME,e0⟩:=xD h.lt h.inj hb;obtain⟨p,⟨hp,e⟩,-,hmin⟩:=sI (P:=fun k=>0<k/\it f k b=b) ⟨ME,e0⟩;have way:∀j,1<=j->j<=p->it (swp f a b) j a=it f j b:=by
   intro j
   induction j with
   |zero=>intro h1;omega
   |succ j ih=>
    intro _ h2;by_cases hj:j=0
    .subst hj
     show swp f a b a=f b;exact Bt f a b
    .rw[jd,ih (by omega) (by omega),jd]
     refine wo f (fun e1=> ?_) (fun e1=>hmin j (by omega) ⟨by omega,e1⟩);exact hne ((ho.iff b a hb ha).2 ⟨j,e1⟩).symm
  exact⟨p,by rw[way p hp (aaD _),e]⟩
 have tr:∀{x y z:Nat},(∃k,it (swp f a b) k x=y)->(∃k,it (swp f a b) k y=z)->∃k,it (swp f a b) k x=z:=by
  rintro x y z ⟨k,rfl⟩ ⟨j,rfl⟩;exact⟨j+k,dh _ _ _ _⟩
 have hba:=hq.sym ha hab;have one:∀x,x<n->∃k,it (swp f a b) k x=f x:=fun x hx=>by
  by_cases e1:x=a
  .subst e1
   refine tr hab ⟨1,?_⟩;exact Bq f x b
  .by_cases e2:x=b
   .subst e2
    refine tr hba ⟨1,?_⟩;exact Bt f a x
   .exact⟨1,wo f e1 e2⟩
 have all:∀(k:Nat) {x:Nat},x<n->∃j,it (swp f a b) j x=it f k x:=by
  intro k
  induction k with
  |zero=>intro x hx;exact⟨0,rfl⟩
  |succ k ih=>intro x hx;exact tr (one x hx) (ih (h.lt x hx))
 have all':∀{x y:Nat},x<n->y<n->m x=m y->∃j,it (swp f a b) j x=y:=fun {x y} hx hy e=>by
  obtain⟨k,rfl⟩:=(ho.iff x y hx hy).1 e;exact all k hx
 refine⟨ho.norm.join ha hb hne,fun x y hx hy=>⟨fun e=> ?_,?_⟩⟩
 .rcases(hJ hx hy).1 e with e|⟨e1,e2⟩
  .exact all' hx hy e
  .have w1:∃j,it (swp f a b) j x=a:=by
    rcases e1 with e1|e1
    .exact all' hx ha e1
    .exact tr (all' hx hb e1) hba
   have w2:∃j,it (swp f a b) j a=y:=by
    rcases e2 with e2|e2
    .exact all' ha hy e2.symm
    .exact tr hab (all' hb hy e2.symm)
   exact tr w1 w2
 .rintro⟨k,rfl⟩
  exact(q9 hq.lt key k hx).symm
theorem F8 {m':Nat->Nat} (ho:eT n f m) (ha:a<n) (hb:b<n) (hab:a≠b) (e:m a=m b) (hg:eT n (swp f a b) m'):m' a≠m' b:=by
 intro hc;obtain⟨k,hk⟩:=(hg.iff b a hb ha).1 hc.symm;obtain⟨j0,hj0⟩:=(ho.iff a b ha hb).1 e;obtain⟨j,⟨Ph,hj⟩,-,hmin⟩:=sI (P:=fun k=>0<k/\it f k a=b) ⟨by
  rcases Nat.eq_zero_or_pos j0 with h|h
  .subst h;exact absurd hj0 hab
  .exact h,hj0⟩
 have hna:∀i,1<=i->i<=j->it f i a≠a:=fun i h1 h2 hc=>by
  by_cases e1:i=j
  .rw[e1,hj] at hc
   exact hab hc.symm
  .refine hmin (j-i) (by omega) ⟨by omega,?_⟩
   have:it f j a=it f (j-i) (it f i a):=by rw[<-dh];congr 1;omega
   rw[hc] at this;rw[<-this,hj]
 have inv:∀(k:Nat),∃i,1<=i/\i<=j/\it (swp f a b) k b=it f i a:=by
  intro k
  induction k with
  |zero=>exact⟨j,Ph,aaD _,hj.symm⟩
  |succ k ih=>
   obtain⟨i,h1,h2,h3⟩:=ih;rw[jd,h3];by_cases e1:i=j
   .refine⟨1,aaD _,Ph,?_⟩
    rw[e1,hj,Bq];rfl
   .refine⟨i+1,by omega,by omega,?_⟩
    rw[jd];exact wo f (hna i h1 h2) (fun hc=>hmin i (by omega) ⟨by omega,hc⟩)
 obtain⟨i,h1,h2,h3⟩:=inv k;rw[hk] at h3;exact hna i h1 h2 h3.symm
end
def nf (n:Nat) (m:Nat->Nat) (p:Nat->Bool):Nat:=au (fun i=>decide (m i=i)&&p i) n
theorem wZ (n:Nat) (m:Nat->Nat):nf n m (fun _=>true)=cnt n m:=by
 unfold nf cnt;exact aO n fun i _=>by simp
section
variable {n:Nat} {f m m':Nat->Nat} {a b:Nat} {p:Nat->Bool}
theorem DJ (h:Norm n m) (ha:a<n) (hb:b<n) (hne:m a≠m b) (h1:p (m a)=p a) (h2:p (m b)=p b) (h3:p a=p b):nf n (join m a b) p+(if p a=true then 1 else 0)=nf n m p:=by
 obtain⟨lo,hi,k1,k2,k3,k4,hc,hj⟩:=dW h ha hb hne;have hpi:p hi=p a:=by
  rcases hc with ⟨_,e⟩|⟨_,e⟩
  .rw[e,h2,h3]
  .rw[e,h1]
 have e:=oI (p:=fun i=>decide (join m a b i=i)&&p i) (q:=fun i=>decide (i=hi)&&p i) (s:=fun i=>decide (m i=i)&&p i) n (fun i hi'=>by
  rw[hj];by_cases e:i=hi
  .subst e
   rw[k4,if_pos rfl];have:¬lo=i:=by omega
   simp[this]
  .by_cases e2:m i=hi
   .rw[if_pos e2,e2]
    have h5:¬hi=i:=fun h=>e h.symm
    have h6:¬lo=i:=fun h=>by rw[<-h,k3] at e2;omega
    simp[h5,h6,e]
   .rw[if_neg e2]
    simp[e])
 have e2:au (fun i=>decide (i=hi)&&p i) n=if p a=true then 1 else 0:=by
  by_cases hp:p a=true
  .rw[if_pos hp]
   have:=aO (p:=fun i=>decide (i=hi)&&p i) (q:=fun i=>decide (i=hi)) n (fun i _=>by
    by_cases e:i=hi
    .subst e;simp[hpi,hp]
    .simp[e])
   rw[this,cS,if_pos k2]
  .rw[if_neg hp]
   have:=aO (p:=fun i=>decide (i=hi)&&p i) (q:=fun i=>decide (i=n)) n (fun i hin=>by
    have:¬i=n:=by omega
    by_cases e:i=hi
    .subst e;simp[hpi,hp,this]
    .simp[e,this])
   rw[this,cS,if_neg (by omega)]
 unfold nf;omega
theorem I2 (hf:gT n f) (h:eT n f m) (h':eT n (swp f a b) m') (ha:a<n) (hb:b<n) (hab:a≠b) (hp:∀x,x<n->p (f x)=p x) (kZ:p a=p b):
 (m a≠m b/\nf n m' p+(if p a=true then 1 else 0)=nf n m p)\/(m a=m b/\nf n m p+(if p a=true then 1 else 0)=nf n m' p):=by
 have cg:∀{u v:Nat->Nat},(∀x,x<n->u x=v x)->nf n u p=nf n v p:=fun e=>by
  unfold nf;exact aO n fun i hi=>by rw[e i hi]
 have hq:=hf.swp ha hb;have hp':∀x,x<n->p (swp f a b x)=p x:=fun x hx=>by
  by_cases e1:x=a
  .subst e1;rw[Bt,hp b hb,kZ]
  .by_cases e2:x=b
   .subst e2;rw[Bq,hp a ha,kZ]
   .rw[wo f e1 e2,hp x hx]
 by_cases e:m a=m b
 .refine .inr ⟨e,?_⟩
  have hne:=F8 h ha hb hab e h';have hj:=Af hq h' ha hb hne;rw[LF] at hj;rw[cg (fun x hx=>h.unique hj hx)];exact DJ h'.norm ha hb hne (h'.keep hq hp' ha) (h'.keep hq hp' hb) kZ
 .refine .inl ⟨e,?_⟩
  have hj:=Af hf h ha hb e;rw[cg (fun x hx=>h'.unique hj hx)];exact DJ h.norm ha hb e (h.keep hf hp ha) (h.keep hf hp hb) kZ
end
end Fa
end
section
namespace Fa
open Pl Co
def sw (f:Nat->Nat) (k:Nat):Nat->Nat:=fun h=>if h<2*k then f (Cs.twin h) else f h
theorem sr (f:Nat->Nat):sw f 0=f:=by
 funext h;unfold sw;rw[if_neg (by omega)]
theorem iQ (k:Nat):Cs.twin (2*k)=2*k+1:=by unfold Cs.twin;rw[if_pos (by omega)]
theorem nU (k:Nat):Cs.twin (2*k+1)=2*k:=by unfold Cs.twin;rw[if_neg (by omega)];omega
theorem iO (h:Nat):Cs.twin (Cs.twin h)=h:=by
 unfold Cs.twin
 split<;>split<;>omega
theorem su (f:Nat->Nat) (k:Nat):sw f (k+1)=swp (sw f k) (2*k) (2*k+1):=by
 funext h;show(if h<2*(k+1) then f (Cs.twin h) else f h)=if h=2*k then (if 2*k+1<2*k then f (Cs.twin (2*k+1)) else f (2*k+1)) else if h=2*k+1 then (if 2*k<2*k then f (Cs.twin (2*k)) else f (2*k)) else (if h<2*k then f (Cs.twin h) else f h)
 by_cases h1:h=2*k
 .subst h1
  rw[if_pos (by omega),if_pos rfl,if_neg (by omega),iQ]
 .by_cases h2:h=2*k+1
  .subst h2
   rw[if_pos (by omega),if_neg (by omega),if_pos rfl,if_neg (by omega),nU]
  .rw[if_neg h1,if_neg h2]
   by_cases h3:h<2*k
   .rw[if_pos (by omega),if_pos h3]
   .rw[if_neg (by omega),if_neg h3]
section
variable {M:Nat} {f:Nat->Nat}
theorem qW (h:gT (2*M) f):∀k,k<=M->gT (2*M) (sw f k)
 |0,_=>by rw[sr];exact h
 |k+1,hk=>by
  rw[su];exact(qW h k (by omega)).swp (by omega) (by omega)
theorem J4 {p:Nat->Bool} (h1:∀x,x<2*M->p (f x)=p x) (h2:∀x,x<2*M->p (Cs.twin x)=p x) (k:Nat) {x:Nat} (hx:x<2*M):p (sw f k x)=p x:=by
 unfold sw
 split
 .rw[h1 _ (Cs.dV hx),h2 x hx]
 .exact h1 x hx
theorem IW (hf:gT (2*M) f) {p:Nat->Bool} (h1:∀x,x<2*M->p (f x)=p x) (h2:∀x,x<2*M->p (Cs.twin x)=p x) {m0:Nat->Nat} (h0:eT (2*M) f m0):
 ∀(k:Nat),k<=M->∀m,eT (2*M) (sw f k) m->(nf (2*M) m p+nf (2*M) m0 p+au (fun e=>p (2*e)) k)%2=0
 |0,_,m,hm=>by
  rw[sr] at hm;have:nf (2*M) m p=nf (2*M) m0 p:=aO _ fun i hi=>by rw[hm.unique h0 hi]
  unfold au;omega
 |k+1,hk,m,hm=>by
  have hq:=qW hf k (by omega);obtain⟨m1,hm1⟩:=lD hq;have ih:=IW hf h1 h2 h0 k (by omega) m1 hm1;rw[su] at hm;have e2:p (2*k)=p (2*k+1):=by
   have:=h2 (2*k) (by omega);rw[iQ] at this;exact this.symm
  have hs:=I2 (p:=p) hq hm1 hm (by omega) (by omega) (by omega) (fun x hx=>J4 h1 h2 k hx) e2;have e3:au (fun e=>p (2*e)) (k+1)=au (fun e=>p (2*e)) k+if p (2*k)=true then 1 else 0:=rfl
  rw[e3];rcases hs with ⟨_,hs⟩|⟨_,hs⟩<;>split at hs<;>rename_i hc<;>simp only[hc,if_true,if_false,ab1]<;>omega
end
section
variable {N:Nat} {es:List (Int×Int)} {f:Nat->Nat}
def G (N:Nat) (es:List (Int×Int)) (k:Nat):Nat->Nat:=joins N (es.take k) (fun x=>x)
theorem P6 {k:Nat} {p:Int×Int} (h:es[k]? =some p):G N es (k+1)=dX N (G N es k) p.1 p.2:=by
 unfold G;have:es.take (k+1)=es.take k++[p]:=by
  rw[abG,h];rfl
 rw[this,uq]
theorem Ou (k:Nat):Gen N (es.take k) (G N es k):=ym N _
theorem P7 (k:Nat):Norm N (G N es k):=(Ou k).norm
theorem jo (hv:Si.Val N es) {h:Nat} (hh:h<2*es.length):Cs.fr es h<N:=by
 have hl:h/2<es.length:=by omega
 have he:es[h/2]? =some es[h/2]:=by simp[hl]
 have ok:=hv.each _ _ he;unfold Si.ok at ok;unfold Cs.fr;rw[aaI,he]
 split<;>simp<;>omega
theorem JF (hv:Si.Val N es) {k h:Nat} (hk:k<=es.length) (hh:h<2*k):G N es k (Cs.fr es (Cs.twin h))=G N es k (Cs.fr es h):=by
 have hl:h/2<es.length:=by omega
 have he:es[h/2]? =some es[h/2]:=by simp[hl]
 have ok:=hv.each _ _ he;unfold Si.ok at ok;have hm:es[h/2]∈es.take k:=by
  refine aaG (i:=h/2) ?_;rw[acg,if_pos (by omega),he]
 have:=(Ou (N:=N) (es:=es) k).meets _ hm (by unfold isIn;omega) (by unfold isIn;omega);rcases abt h with h2|h2
 .have e:h=2*(h/2):=by omega
  rw[e,iQ,(Cs.eu he).1,(Cs.jQ he).1];exact this.symm
 .have e:h=2*(h/2)+1:=by omega
  rw[e,nU,(Cs.eu he).1,(Cs.jQ he).1];exact this
theorem chain (hv:Si.Val N es) (hf:gT (2*es.length) f) (hfr:∀x,x<2*es.length->Cs.fr es (f x)=Cs.fr es x) {m0:Nat->Nat} (h0:eT (2*es.length) f m0) {i:Nat} (hi:cnt (2*es.length) m0+i=N):
 ∀(k:Nat),k<=es.length->∀m,eT (2*es.length) (sw f k) m->∃g,cnt (2*es.length) m+i+N+2*g=2*cnt N (G N es k)+k/\g+N<=k+cnt N (G N es k)
 |0,_,m,hm=>by
  rw[sr] at hm;have:cnt (2*es.length) m=cnt (2*es.length) m0:=aO _ fun i hi=>by rw[hm.unique h0 hi]
  have e:cnt N (G N es 0)=N:=by
   unfold G;simp only[List.take_zero,joins,List.foldl_nil];exact Js N
  exact⟨0,by omega,by omega⟩
 |k+1,hk,m,hm=>by
  have hq:=qW hf k (by omega);obtain⟨m1,hm1⟩:=lD hq;obtain⟨g,ih1,ih2⟩:=chain hv hf hfr h0 hi k (by omega) m1 hm1;rw[su] at hm;have hs:=I2 (p:=fun _=>true) hq hm1 hm (by omega) (by omega) (by omega) (fun x hx=>rfl) rfl;rw[wZ,wZ,if_pos rfl] at hs;have he:es[k]? =some es[k]:=by simp
  have ok:=hv.each _ _ he;unfold Si.ok at ok;have ia:isIn N es[k].1:=by unfold isIn;omega
  have ib:isIn N es[k].2:=by unfold isIn;omega
  rw[P6 he];unfold Co.dX;by_cases hc:G N es k es[k].1.toNat=G N es k es[k].2.toNat
  .rw[if_neg (by rw[jy];rintro⟨_,_,h⟩;exact h hc)]
   rcases hs with ⟨_,hs⟩|⟨_,hs⟩
   .exact⟨g+1,by omega,by omega⟩
   .exact⟨g,by omega,by omega⟩
  .rw[if_pos (jy.2 ⟨ia,ib,hc⟩)]
   have hj:=A3 (P7 (N:=N) (es:=es) k) (dY ia) (dY ib) hc;have hne:m1 (2*k)≠m1 (2*k+1):=fun e=>by
    obtain⟨j,hj⟩:=(hm1.iff (2*k) (2*k+1) (by omega) (by omega)).1 e;have:=q9 (p:=fun h=>G N es k (Cs.fr es h)) hq.lt (fun x hx=>by
     show G N es k (Cs.fr es (sw f k x))=G N es k (Cs.fr es x);unfold sw
     split
     .rename_i hx2
      rw[hfr _ (Cs.dV hx),JF hv (by omega) hx2]
     .rw[hfr x hx]) j (x:=2*k) (by omega)
    rw[hj] at this;simp only[(Cs.eu he).1,(Cs.jQ he).1] at this;exact hc this.symm
   rcases hs with ⟨_,hs⟩|⟨hc2,_⟩
   .exact⟨g,by omega,by omega⟩
   .exact absurd hc2 hne
end
end Fa
end
section
namespace Fa
open Pl Co
theorem b9 (p:Nat->Bool):∀n,au p n=((List.range n).filter p).length
 |0=>rfl
 |n+1=>by
  rw[acw,acA,aaN,<-b9 p n];show au p n+(if p n=true then 1 else 0)=_;by_cases h:p n=true
  .simp[h]
  .simp[h]
theorem yz {p q:Nat->Bool} {f:Nat->Nat} {n m:Nat} (hm:∀a,a<n->p a=true->f a<m/\q (f a)=true) (hi:∀a b,a<n->b<n->p a=true->p b=true->f a=f b->a=b):au p n<=au q m:=by
 rw[b9,b9];have h1:((List.range n).filter p).length=(((List.range n).filter p).map f).length:=by rw[aaP]
 rw[h1];refine sA ?_ (fun x hx=> ?_)
 .unfold List.Nodup
  rw[acj];have hn:((List.range n).filter p).Nodup:=acN _ ac4;refine acB ?_ hn;intro a b ha hb hne e;rw[ace,aaX] at ha hb;exact hne (hi a b ha.1 hb.1 ha.2 hb.2 e)
 .obtain⟨a,ha,rfl⟩:=abu.1 hx
  rw[ace,aaX] at ha;rw[ace,aaX];exact hm a ha.1 ha.2
theorem yy (p:Nat->Bool):∀n,au p n+au (fun v=> !p v) n=n
 |0=>rfl
 |n+1=>by
  have:=yy p n;show au p n+(if p n=true then 1 else 0)+(au (fun v=> !p v) n+(if (!p n)=true then 1 else 0))=n+1;by_cases h:p n=true
  .simp[h];omega
  .simp[h];omega
def sg (es:List (Int×Int)) (ls:List (List Int)) (h:Nat):Nat:=((Ro.gZ es ls).getD h 0).toNat
def ph (es:List (Int×Int)) (ls:List (List Int)):Nat->Nat:=sw (sg es ls) es.length
theorem Rj {es:List (Int×Int)} {ls:List (List Int)} {h:Nat} (hh:h<2*es.length):ph es ls h=sg es ls (Cs.twin h):=by
 unfold ph sw;rw[if_pos hh]
section
variable {N:Nat} {es:List (Int×Int)} {ls:List (List Int)}
theorem gy (h:Ro.eY N es ls):Si.Val N es:=Si.aJ.1 h.val
theorem mO (h:Ro.eY N es ls) {j:Nat} (hj:j<2*es.length):(Ro.gZ es ls)[j]? =some (sg es ls j:Int)/\sg es ls j<2*es.length/\Cs.fr es (sg es ls j)=Cs.fr es j:=by
 obtain⟨t,ht,h1,h2⟩:=h.OZ hj (by have:=jo (gy h) hj;omega);have:sg es ls j=t:=by
  unfold sg;rw[aaI,ht];rfl
 rw[this];exact⟨ht,h1,h2⟩
theorem nX (h:Ro.eY N es ls):gT (2*es.length) (sg es ls):=by
 refine⟨fun x hx=>(mO h hx).2.1,fun x y hx hy e=> ?_⟩;have h1:=(mO h hx).1;have h2:=(mO h hy).1;rw[<-e] at h2;exact h.inj (fun j hj=>by have:=jo (gy h) hj;omega) h1 h2
theorem vD (h:Ro.eY N es ls):gT (2*es.length) (ph es ls):=qW (nX h) _ (aaD _)
theorem JR (h:Ro.eY N es ls) {x y:Nat} (hx:x<2*es.length) (hy:y<2*es.length) (e:Cs.fr es x=Cs.fr es y):∃k,it (sg es ls) k x=y:=by
 obtain⟨l,i,hl,hi,-⟩:=h.place hx (by have:=jo (gy h) hx;omega);obtain⟨l',i',hl',hi',-⟩:=h.place hy (by have:=jo (gy h) hy;omega);rw[<-e,hl] at hl';cases hl';have hil:=Ro.lJ hi;have MU:=Ro.lJ hi';have way:∀s,∃t:Nat,l[(i+s)%l.length]? =some (t:Int)/\it (sg es ls) s x=t:=by
  intro s
  induction s with
  |zero=>exact⟨x,by rw[abv,abd hil];exact hi,rfl⟩
  |succ s ih=>
   obtain⟨t0,Mu,hit⟩:=ih;obtain⟨t,t',h1,h2,h3,-,h5⟩:=h.step (s:=s) hl hil;rw[Mu] at h1;have:t0=t:=by have:=aaQ h1;omega
   subst this;refine⟨t',h2,?_⟩;rw[jd,hit];have:=(mO h h3).1;rw[h5] at this;have:=aaQ this;omega
 obtain⟨t,h1,h2⟩:=way (i'+l.length-i);refine⟨i'+l.length-i,?_⟩;have e2:(i+(i'+l.length-i))%l.length=i':=by
  have:i+(i'+l.length-i)=i'+l.length:=by omega
  rw[this,Nat.add_mod_right,abd MU]
 rw[e2,hi'] at h1;have:=aaQ h1;rw[h2];omega
theorem BO (hv:Si.Val N es) {h:Nat} (hh:h<2*es.length):met es (Cs.fr es h)=true:=by
 have hl:h/2<es.length:=by omega
 have he:es[h/2]? =some es[h/2]:=by simp[hl]
 have ok:=hv.each _ _ he;unfold Si.ok at ok;unfold met;rw[abx];refine⟨es[h/2],ab6 hl,?_⟩;unfold Cs.fr;rw[aaI,he];simp only[acn,abw,beq_iff_eq]
 split
 .left;omega
 .right;omega
theorem EA {v:Nat} (hm:met es v=true):∃h,h<2*es.length/\Cs.fr es h=v:=by
 unfold met at hm;rw[abx] at hm;obtain⟨p,hp,hc⟩:=hm;obtain⟨k,hk⟩:=acE.1 hp;have hkl:=(aaF.1 hk).1;simp only[abw,beq_iff_eq] at hc;rcases hc with hc|hc
 .exact⟨2*k,by omega,by rw[(Cs.eu hk).1];omega⟩
 .exact⟨2*k+1,by omega,by rw[(Cs.jQ hk).1];omega⟩
theorem Al (h:Ro.eY N es ls) {m0:Nat->Nat} (h0:eT (2*es.length) (sg es ls) m0) (q:Nat->Bool):nf (2*es.length) m0 (fun x=>q (Cs.fr es x))=au (fun v=>met es v&&q v) N:=by
 have hv:=gy h;have hp:=nX h;have hk:∀x,x<2*es.length->Cs.fr es (m0 x)=Cs.fr es x:=fun x hx=>h0.keep (p:=Cs.fr es) hp (fun y hy=>(mO h hy).2.2) hx
 apply acJ
 .refine yz (f:=Cs.fr es) (fun a ha hpa=> ?_) (fun a b ha hb hpa ni e=> ?_)
  .simp only[aaZ,decide_eq_true_eq] at hpa ⊢
   exact⟨jo hv ha,BO hv ha,hpa.2⟩
  .simp only[aaZ,decide_eq_true_eq] at hpa ni
   have:=(h0.iff a b ha hb).2 (JR h ha hb e);omega
 .have hex:∀v,∃x,met es v=true->x<2*es.length/\Cs.fr es x=v:=fun v=>by
   by_cases hm:met es v=true
   .obtain⟨x,hx⟩:=EA hm
    exact⟨x,fun _=>hx⟩
   .exact⟨0,fun h=>absurd h hm⟩
  obtain⟨g,hg⟩:=Classical.axiomOfChoice hex;refine yz (f:=fun v=>m0 (g v)) (fun a ha hpa=> ?_) (fun a b ha hb hpa ni e=> ?_)
  .simp only[aaZ,decide_eq_true_eq] at hpa ⊢
   obtain⟨g1,g2⟩:=hg a hpa.1;refine⟨h0.norm.lt g1,h0.norm.idem _ g1,?_⟩;rw[hk _ g1,g2];exact hpa.2
  .simp only[aaZ] at hpa ni
   obtain⟨g1,g2⟩:=hg a hpa.1;obtain⟨k1,k2⟩:=hg b ni.1;have e1:=hk _ g1;have e2:=hk _ k1;have e:m0 (g a)=m0 (g b):=e;rw[e] at e1;omega
def jP (N:Nat) (es:List (Int×Int)):Nat:=au (fun v=> !met es v) N
def cp (N:Nat) (es:List (Int×Int)):Nat->Nat:=joins N es (fun x=>x)
theorem vL:Gen N es (cp N es):=ym N es
theorem Ov:G N es es.length=cp N es:=by
 unfold G cp;rw[abn]
theorem SJ (h:Ro.eY N es ls) {m:Nat->Nat} (hm:eT (2*es.length) (ph es ls) m):∃g,cnt (2*es.length) m+jP N es+N+2*g=2*cnt N (cp N es)+es.length/\g+N<=es.length+cnt N (cp N es):=by
 obtain⟨m0,h0⟩:=lD (nX h);have hc:=Al h h0 (fun _=>true);rw[wZ] at hc;have e1:au (fun v=>met es v&&true) N=au (met es) N:=aO N fun i _=>by simp
 have e2:=yy (met es) N;have:=chain (gy h) (nX h) (fun x hx=>(mO h hx).2.2) h0 (i:=jP N es) (by unfold jP;omega) es.length (aaD _) m hm;rw[Ov] at this;exact this
theorem alone {v:Nat} (hm:met es v=false) {x:Nat} (hx:x<N):cp N es x=v↔x=v:=by
 have:=(vL (N:=N) (es:=es)).least (fun y=>if y=v then 1 else 0) (fun j hj h1 h2=>by
  have hn:¬(j.1=(v:Int)\/j.2=(v:Int)):=fun hc=>by
   have:met es v=true:=by
    unfold met;rw[abx];exact⟨j,hj,by simpa using hc⟩
   rw[hm] at this;cases this
  unfold isIn at h1 h2;show(if j.1.toNat=v then 1 else 0)=if j.2.toNat=v then 1 else 0
  rw[if_neg (by omega),if_neg (by omega)]) x hx
 have this:(if cp N es x=v then 1 else 0)=if x=v then 1 else 0:=this
 constructor
 .intro e
  rw[if_pos e] at this
  split at this
  .assumption
  .cases this
 .intro e
  rw[if_pos e] at this
  split at this
  .assumption
  .cases this
theorem yx (hv:Si.Val N es) {x:Nat} (hx:x<2*es.length):cp N es (Cs.fr es (Cs.twin x))=cp N es (Cs.fr es x):=by
 have:=JF hv (aaD _) hx;rwa[Ov] at this
def nV (N:Nat) (es:List (Int×Int)) (r:Nat):Nat:=au (fun v=>decide (cp N es v=r)) N
def nE (N:Nat) (es:List (Int×Int)) (r:Nat):Nat:=au (fun e=>decide (cp N es (Cs.fr es (2*e))=r)) es.length
def nF (N:Nat) (es:List (Int×Int)) (m:Nat->Nat) (r:Nat):Nat:=nf (2*es.length) m (fun x=>decide (cp N es (Cs.fr es x)=r))
theorem Hr (h:Ro.eY N es ls) {m:Nat->Nat} (hm:eT (2*es.length) (ph es ls) m) {r:Nat} (he:nE N es r≠0):(nV N es r+nE N es r+nF N es m r)%2=0:=by
 have hv:=gy h;obtain⟨m0,h0⟩:=lD (nX h);have hp:=IW (nX h) (p:=fun x=>decide (cp N es (Cs.fr es x)=r)) (fun x hx=>by rw[(mO h hx).2.2]) (fun x hx=>by rw[yx hv hx]) h0 es.length (aaD _) m hm;have hc:=Al h h0 (fun v=>decide (cp N es v=r));have e1:au (fun v=>met es v&&decide (cp N es v=r)) N=nV N es r:=by
  unfold nV;refine aO N fun v rq=> ?_
  by_cases e:cp N es v=r
  .have:met es v=true:=by
    cases RT:met es v with
    |true=>rfl
    |false=>
     exfalso;have X7:r=v:=by
      rw[<-e];exact(alone RT rq).2 rfl
     apply he;unfold nE;have:=aO (p:=fun e=>decide (cp N es (Cs.fr es (2*e))=r)) (q:=fun e=>decide (e=es.length)) es.length (fun i hi=>by
      have h1:=jo hv (h:=2*i) (by omega);have h2:=BO hv (h:=2*i) (by omega);have:¬cp N es (Cs.fr es (2*i))=r:=fun hc=>by
       rw[X7] at hc;have:=(alone RT h1).1 hc;rw[this,RT] at h2;cases h2
      have h3:¬i=es.length:=by omega
      simp[this,h3])
     rw[this,cS,if_neg (by omega)]
   simp[this]
  .simp[e]
 unfold nF nE;rw[hc,e1] at hp;omega
theorem E5 (h:Ro.eY N es ls) {m:Nat->Nat} {r:Nat} (hr:r<N) (hc:cp N es r=r):(nE N es r=0↔met es r=false)/\(nE N es r=0->nV N es r=1/\nF N es m r=0):=by
 have hv:=gy h;have key:met es r=false->nE N es r=0/\nV N es r=1/\nF N es m r=0:=fun hmr=>by
  have hno:∀x,x<2*es.length->¬cp N es (Cs.fr es x)=r:=fun x hx hc=>by
   have h1:=(alone hmr (jo hv hx)).1 hc;have h2:=BO hv hx;rw[h1,hmr] at h2;cases h2
  refine⟨?_,?_,?_⟩
  .unfold nE
   rw[aO (q:=fun e=>decide (e=es.length)) es.length (fun i hi=>by
    have:=hno (2*i) (by omega);have h3:¬i=es.length:=by omega
    simp[this,h3]),cS,if_neg (by omega)]
  .unfold nV
   rw[aO (q:=fun e=>decide (e=r)) N (fun i hi=>by
    have:=alone (N:=N) hmr hi;simp[this]),cS,if_pos hr]
  .unfold nF nf
   rw[aO (q:=fun e=>decide (e=2*es.length)) (2*es.length) (fun i hi=>by
    have:=hno i hi;have h3:¬i=2*es.length:=by omega
    simp[this,h3]),cS,if_neg (by omega)]
 refine⟨⟨fun h0=> ?_,fun hmr=>(key hmr).1⟩,fun h0=> ?_⟩
 all_goals
  cases hmr:met es r with
  |false=>first|rfl|exact(key hmr).2
  |true=>
   exfalso;obtain⟨x,hx,Rw⟩:=EA hmr;have hpos:0<nE N es r:=by
    unfold nE;refine qo (x:=x/2) _ (by omega) ?_;have h1:cp N es (Cs.fr es x)=r:=by rw[Rw];exact hc
    rcases abt x with h2|h2
    .have e:2*(x/2)=x:=by omega
     rw[e];simpa using h1
    .have e:2*(x/2)=Cs.twin x:=by unfold Cs.twin;rw[if_neg (by omega)];omega
     rw[e,yx hv hx];simpa using h1
   omega
end
end Fa
end
section
open Go.Proofs.Tryz
open Go.ChangeShapes Go.WideShapes Go.ChangeAt Go.RowKit
theorem own:ownKnob prog.godebug=none:=by kernel_rfl
theorem laidOut:laidOutB prog=true:=by kernel_rfl
theorem K5:prog.cellsOf 3=1:=by kernel_rfl
def tD (k:IntKind) (bytes:Nat) (w:World) (a:Option Addr) (len cap:Nat) (zs:List Int):Prop:=
 (a=none/\len=0/\cap=0/\zs=[])\/
 ∃x,a=some x/\len<=cap/\cap*bytes<=140737488351232/\zs.length=cap/\(∀i,i<zs.length->w.cell? (x.add i)=some (.int k (zs.getD i 0)))/\∀n∈zs,(Lit.int k n).wf=true
theorem tD.take {k:IntKind} {bytes:Nat} {w:World} {a:Option Addr} {len cap:Nat} {zs:List Int} (h:tD k bytes w a len cap zs):(zs.take len).length=len:=by
 rcases h with ⟨_,rfl,_,rfl⟩|⟨_,_,hl,_,hz,_⟩
 .rfl
 .simp;omega
theorem tD.small {k:IntKind} {bytes:Nat} {w:World} {a:Option Addr} {len cap:Nat} {zs:List Int} (h:tD k bytes w a len cap zs):len*bytes<=140737488351232:=by
 rcases h with ⟨_,rfl,_,rfl⟩|⟨_,_,hl,hm,_⟩
 .simp
 .exact aaM (Nat.mul_le_mul_right bytes hl) hm
theorem Bh {ops:Array Oper} {rest:List Oper} {o:Oper} {a:Act} {Q:Exit->Act->World->Prop} (hgd:o.guard=none) (s x:Operand) (t:TypeId)
 (ho:o.op= .call { callee:= .builtin .append,args:= #[s,x],argTypes:= #[t,t] }) (e:TypeId) (k:IntKind) (i0:TypeInfo) (bytes:Nat) (hu:prog.underlying t=some (.slice e)) (hi:prog.info? e=some i0)
 (hz0:i0.zero=some (.int k 0)) (hz1:i0.size=1) (hz2:i0.bytes=bytes) (hpos:0<bytes) (W:World) (ao:Option Addr) (len cap:Nat) (zs:List Int) (hs:a.eval s= .slice (some ⟨W.heap.size,0,none⟩) 0 0) (hx:a.eval x= .slice ao len cap)
 (hrow:tD k bytes W ao len cap zs)
 (h:∀gb c w',w'.ownsRow W.heap.size e 1 (.slice (some ⟨gb,0,none⟩) len c) len ((zs.take len).map (Value.int k))->W.heap.size<=gb->gb<w'.heap.size->len<=c->Below W.heap.size W w'->wpList prog ops Q rest (a.put o.dst (.slice (some ⟨gb,0,none⟩) len c)) w'):
 wpList prog ops Q (o::rest) a (W.alloc (.cells #[] e)):=by
 have lN:(W.alloc (.cells #[] e)).ownsRow W.heap.size e 1 (.slice (some ⟨W.heap.size,0,none⟩) 0 0) 0 []:=World.ownsRow_made W #[] 0 (aaD _) (aaL _) rfl;have hb0:Below W.heap.size W (W.alloc (.cells #[] e)):=(aaE _ _).alloc (aaD _) _;have htk:=hrow.take;have hsm:=hrow.small;rcases hrow with ⟨rfl,rfl,rfl,rfl⟩|⟨y,rfl,hl,hm,hz,hc,hw⟩
 .refine wpList_append_own_none hgd s x t ho W.heap.size e i0 1 hu hi _ 0 [] hs lN hx ?_
  exact h _ _ _ lN (aaD _) (by simp) (aaD _) hb0
 .have hlb:len<=140737488351232:=aaM (Nat.le_mul_of_pos_right len hpos) hsm
  refine wpList_append_own _ hgd s x t ho W.heap.size e i0 (.int k 0) 1 bytes hu hi hz0 hz1 hz2 rfl (by decide) _ 0 [] hs lN y len cap ((zs.take len).map (Value.int k)) hx (by rw[aaP,htk];omega) ?_ (ints_oneCell k _) (by unfold maxLen;omega) (by rw[aa7];omega) (by simp) ?_
  .intro j u hj
   rw[aaY,acg] at hj;by_cases hjl:j<len
   .rw[if_pos hjl] at hj
    have hlt:j<zs.length:=by omega
    rw[aaC hlt] at hj;simp at hj;subst hj;have Pm:=hc j hlt;rw[aaI,aaC hlt] at Pm;exact(abH W _ none).cell Pm (by simp)
   .rw[if_neg hjl] at hj
    simp at hj
  .intro v' w' hown' hg hiff
   rw[aa7,abA] at hown';rcases hown'.2 with ⟨hnil,_⟩|⟨gb,c,cur,rfl,hgb,hh,hlc,_⟩
   .have:=(hiff.1 hnil).1
    cases this
   .exact h gb c w' hown' hgb (lt_of_block hh) hlc (hb0.grown hg (by simp) (fun q hq=>by cases hq;exact aaD _))
end
section
open Go.ChangeShapes Go.WideShapes Go.ChangeAt Go.RowKit
theorem K7 {H:Type} (d:DataW H):1<=Rows.uptoBulk d:=by
 cases d with
 |lit l=>cases l<;>simp[Rows.uptoBulk]
 |nil=>simp[Rows.uptoBulk]
 |ptr d=>simp[Rows.uptoBulk]
 |slice elems spare=>simp[Rows.uptoBulk]
 |agg parts=>simp[Rows.uptoBulk]
 |iface t d=>simp[Rows.uptoBulk]
 |map entries=>simp[Rows.uptoBulk]
 |held h=>simp[Rows.uptoBulk]
theorem Hz {H:Type} {d:DataW H} {l:List (DataW H)} (h:d∈l):Rows.uptoBulk d<=Rows.uptoBulkAll l:=by
 induction l with
 |nil=>cases h
 |cons x r ih=>
  simp only[Rows.uptoBulkAll];cases aaW.1 h with
  |inl e=>subst e;omega
  |inr e=>have:=ih e;omega
theorem l8 {H:Type} (l:List (DataW H)):l.length<=Rows.uptoBulkAll l:=by
 induction l with
 |nil=>simp[Rows.uptoBulkAll]
 |cons x r ih=>have:=K7 x;simp only[Rows.uptoBulkAll,abY];omega
end
section
open Go.RowKit
structure tC (w:World) (ao:Option Addr) (n ca:Nat) (l:List Int):Prop where
 len:l.length=n
 ints:aZ w ao l
 none:ao=none->n=0/\ca=0
section
variable {w w':World} {ao:Option Addr} {n ca:Nat} {l:List Int}
theorem tC.later (h:tC w ao n ca l) (hb:Below w.heap.size w w'):tC w' ao n ca l:=⟨h.len,h.ints.later hb,h.none⟩
theorem aq.oQ {g:Nat} (h:aq w g l) (hl:l.length=n):tC w (some ⟨g,0,.none⟩) n ca l:=⟨hl,h.at,fun e=>by cases e⟩
theorem av.oQ {B:Nat} {v:Value} (h:av w B v l):∃ao ca,v= .slice ao l.length ca/\tC w ao l.length ca l/\(∀x,ao=some x->B<=x.block/\x.block<w.heap.size):=by
 rcases h.2 with ⟨rfl,h0⟩|⟨g,cap,cur,rfl,hB,hh,_⟩
 .refine⟨.none,0,by rw[h0],⟨rfl,fun j x hj=> ?_,fun _=>⟨h0,rfl⟩⟩,fun x hx=>by cases hx⟩
  have:=(aaF.1 hj).1;omega
 .obtain⟨ao,ca,e,ha,hb⟩:=h.form
  cases e;exact⟨_,_,rfl,⟨rfl,ha,fun e=>by cases e⟩,hb⟩
end
end
section
open Go.RowKit
theorem yl {l:List Int} {i:Nat} (d:Int) (h:i<l.length):l[i]? =some (l.getD i d):=by
 rw[aaI,aaC h];rfl
section
variable {w:World}
theorem eJ {g b i:Nat} (hne:g≠b) (x:Value):(w.setCell ⟨b,i,none⟩ x).heap[g]? =w.heap[g]? :=heap_setCell_other w ⟨b,i,none⟩ g x hne
theorem aq.iV {g b i:Nat} {l:List Int} (h:aq w g l) (hf:g≠b) (x:Value):aq (w.setCell ⟨b,i,none⟩ x) g l:=(eJ hf x).trans h
end
theorem jR {w:World} {R:Nat} {t:TypeId} {a b c d:Value} (h:w.heap[R]? =some (.cells #[a,b,c,d] t (0,0))):w.cell? ⟨R,0,none⟩=some a/\w.cell? ⟨R,1,none⟩=some b/\w.cell? ⟨R,2,none⟩=some c/\w.cell? ⟨R,3,none⟩=some d/\∀i,w.frozen? ⟨R,i,none⟩=false:=by
 refine⟨?_,?_,?_,?_,fun i=> ?_⟩
 .simp[World.cell?,h]
 .simp[World.cell?,h]
 .simp[World.cell?,h]
 .simp[World.cell?,h]
 .simp[World.frozen?,h]
theorem Kf {W:World} {k M:Nat} (h:W.heap.size=k):aq (W.alloc (.cells (madeCells #[.int .i64 0] M) 3)) k (List.replicate M 0):=by
 subst h;unfold aq;rw[heap_alloc_new,<-dz]
theorem alloc_at {W:World} {k:Nat} {o:Obj} (h:W.heap.size=k):(W.alloc o).heap[k]? =some o:=by
 subst h;exact heap_alloc_new W o
end
section
open Go.RowKit
def bu (w:World) (xo:Option Addr) (ls:List (List Int)):Prop:=
 ∀(v:Nat) (l:List Int),ls[v]? =some l->∃b o A C,xo=some ⟨b,o,none⟩/\w.cell? ⟨b,o+v,none⟩=some (.slice A l.length C)/\tC w A l.length C l/\l.length<=17592186043904/\l.length<=C/\C<=9223372036854775807
theorem bu.later {w w':World} {xo:Option Addr} {ls:List (List Int)} (h:bu w xo ls) (hb:Below w.heap.size w w'):bu w' xo ls:=fun v l hl=>by
 obtain⟨b,o,A,C,e,hc,hL,hn⟩:=h v l hl;exact⟨b,o,A,C,e,(hb.cell (p:=⟨b,o+v,none⟩) (block_lt_of_cell hc)).trans hc,hL.later hb,hn⟩
theorem tC.elem {w:World} {A:Option Addr} {n C:Nat} {l:List Int} (h:tC w A n C l) {i:Nat} {x:Int} (hx:l[i]? =some x):∃b o,A=some ⟨b,o,.none⟩/\w.cell? ⟨b,o+i,.none⟩=some (.int .i64 x):=h.ints i x hx
end
section
open Go.RowKit
theorem qb {n:Nat} {es:List (Int×Int)} (hv:Si.Val n es) {j:Nat} (hj:j<2*es.length):∃e,es[j/2]? =some e/\Si.ok n e/\((j%2=0/\(Cs.fr es j:Int)=e.1/\(Cs.to es j:Int)=e.2)\/(j%2=1/\(Cs.fr es j:Int)=e.2/\(Cs.to es j:Int)=e.1)):=by
 obtain⟨e,he⟩:∃e,es[j/2]? =some e:=⟨_,aaC (by omega)⟩;have hok:=hv.each _ e he;refine⟨e,he,hok,?_⟩;unfold Si.ok at hok;rcases abt j with h|h
 .left
  obtain⟨g1,g2⟩:=Cs.eu he;rw[show 2*(j/2)=j by omega] at g1 g2;exact⟨h,by omega,by omega⟩
 .right
  obtain⟨g1,g2⟩:=Cs.jQ he;rw[show 2*(j/2)+1=j by omega] at g1 g2;exact⟨h,by omega,by omega⟩
end
section
open Go.Proofs.Tryz
open Go.RowKit Go.Sort
theorem q8 (n:Nat) (ao:Option Addr) (ca:Nat) (es:List (Int×Int)) (j:Nat) (w:World) (he:ah w ao es) (hv:Si.Val n es) (hj:j<2*es.length):
 Calls prog 87 #[.agg #[.int .i64 (n:Int),.slice ao es.length ca],.int .i64 (j:Int)] w fun e w'=>e= .returned (.int .i64 (Cs.to es j:Int))/\Below w.heap.size w w':=by
 have hb0:Below w.heap.size w (w.alloc (.cells #[.int .i64 (n:Int),.slice ao es.length ca] 24)):=(aaE _ _).alloc (aaD _) _;have dA:=hv.few;obtain⟨e,hee,hok,hpar⟩:=qb hv hj;obtain⟨b,o,rfl,c0,c1⟩:=(he.later hb0) (j/2) e hee;obtain⟨jh,zJ⟩:∃jh,jh=j/2:=⟨_,rfl⟩;rw[<-zJ] at c0 c1 hee;have hj0:(0:Int)<=(j:Int):=by omega
 have htd:(j:Int).tdiv 2=(jh:Int):=by rw[abj hj0];omega
 have ZZ:(j:Int)/2=(jh:Int):=by omega
 have hjd:j/2=jh:=zJ.symm;have hj2:(0:Int)<=(jh:Int):=by omega
 have Va:(jh:Int)<(es.length:Int):=by omega
 have aW:=ζ hb0;rcases hpar with ⟨hm,hf,ht⟩|⟨hm,hf,ht⟩
 .have hm1:(j:Int).tmod 2=0:=by rw[acr hj0];omega
  have hm2:(j:Int)%2=0:=by omega
  rw[ht];clear he hv hok hee hb0 hf ht zJ hm;go_enter func87,ntmps87;go_wp2;go_ret;exact⟨rfl,aW.out⟩
 .have hm1:(j:Int).tmod 2=1:=by rw[acr hj0];omega
  have hm2:(j:Int)%2=1:=by omega
  rw[ht];clear he hv hok hee hb0 hf ht zJ hm;go_enter func87,ntmps87;go_wp2;go_ret;exact⟨rfl,aW.out⟩
theorem pM (n:Nat) (ao:Option Addr) (ca:Nat) (es:List (Int×Int)) (j:Nat) (w:World) (he:ah w ao es) (hv:Si.Val n es) (hj:j<2*es.length):
 Calls prog 256 #[.agg #[.int .i64 (n:Int),.slice ao es.length ca],.int .i64 (j:Int)] w fun e w'=>e= .returned (.int .i64 (Cs.fr es j:Int))/\Below w.heap.size w w':=by
 have hb0:Below w.heap.size w (w.alloc (.cells #[.int .i64 (n:Int),.slice ao es.length ca] 24)):=(aaE _ _).alloc (aaD _) _;have dA:=hv.few;have O6:=Cs.kF j (by omega);have hfr:=q8 n ao ca es (Cs.twin j) _ (he.later hb0) hv (Cs.dV hj);rw[Cs.wk] at hfr;have Ob:=ζ hfr;have aW:=ζ hb0;clear he hv hb0 hfr;go_enter func256,ntmps256;go_wp2_with (go_at_call 87;refine Ob.out.mono ?_;rintro e w1 ⟨rfl,hb1⟩);go_ret;exact⟨rfl,aW.out.trans (hb1.mono aW.out.size)⟩
theorem DU (n:Nat) (ao:Option Addr) (ca:Nat) (es:List (Int×Int)) (h:Int) (v:Nat) (w:World) (he:ah w ao es) (hv:Si.Val n es):
 Calls prog 254 #[.agg #[.int .i64 (n:Int),.slice ao es.length ca],.int .i64 h,.int .i64 (v:Int)] w fun e w'=>e= .returned (.bool (Ro.lv es h v))/\Below w.heap.size w w':=by
 have hb0:Below w.heap.size w (w.alloc (.cells #[.int .i64 (n:Int),.slice ao es.length ca] 24)):=(aaE _ _).alloc (aaD _) _;have dA:=hv.few;have hin:=fun j hj=>pM n ao ca es j _ (he.later hb0) hv hj
 have zW:=ζ hin;have aW:=ζ hb0;clear he hv hb0 hin;have hmul:IntKind.i64.wrap (2*(es.length:Int))=2*(es.length:Int):=by rw[aaK];omega
 by_cases h0:0<=h
 .by_cases h1:h<2*(es.length:Int)
  .obtain⟨j,rfl⟩:∃j:Nat,h=(j:Int):=⟨h.toNat,by omega⟩
   have hj:j<2*es.length:=by omega
   have hlv:Ro.lv es (j:Int) v=((Cs.fr es j:Int)==(v:Int)):=by
    unfold Ro.lv;rw[Cs.oA hj,decide_eq_true h0,decide_eq_true h1];rfl
   rw[hlv];have HJ:=ζ (zW.out j hj);clear hlv hmul;go_enter func254,ntmps254;go_wp2_with (go_at_call 256;refine HJ.out.mono ?_;rintro e w1 ⟨rfl,hb1⟩);go_ret;exact⟨rfl,aW.out.trans (hb1.mono aW.out.size)⟩
  .have hlv:Ro.lv es h v=false:=by simp[Ro.lv,h1]
   rw[hlv];clear hlv;go_enter func254,ntmps254;go_wp2;go_ret;exact⟨rfl,aW.out⟩
 .have hlv:Ro.lv es h v=false:=by simp[Ro.lv,h0]
  rw[hlv];clear hlv;go_enter func254,ntmps254;go_wp2;go_ret;exact⟨rfl,aW.out⟩
end
end Go.Proofs.YtdbjpbjocmcpkaaGreatDoor
