import Derived.Test.YtdbjpbjocmcpkaaGreatDoorMj05
set_option maxHeartbeats 4000000
set_option maxRecDepth 100000
namespace Go.Proofs.YtdbjpbjocmcpkaaGreatDoor
section
namespace Fa
open Pl Co
structure kO (n:Nat) (f:Nat->Nat):Prop where
 lt:∀x,x<n->f x<n
 inj:∀x y,x<n->y<n->f x=f y->x=y
structure iN (n:Nat) (f m:Nat->Nat):Prop where
 norm:Norm n m
 iff:∀x y,x<n->y<n->(m x=m y↔∃k,it f k x=y)
section
variable {n:Nat} {f m:Nat->Nat}
theorem kO.sym (h:kO n f) {x y:Nat} (hx:x<n) (e:∃k,it f k x=y):∃k,it f k y=x:=by
 obtain⟨k,rfl⟩:=e;exact Dr h.lt h.inj hx k
theorem og (h:kO n f):∃m,iN n f m:=by
 have hex:∀x,∃z,x<n->z∈firsts n f/\∃k,it f k x=z:=fun x=>by
  by_cases hx:x<n
  .obtain⟨k,hk⟩:=zW h.lt hx
   exact⟨_,fun _=>⟨hk,k,rfl⟩⟩
  .exact⟨0,fun h=>absurd h hx⟩
 obtain⟨m,hm⟩:=Classical.axiomOfChoice hex;refine⟨m,?_⟩;have hlt:∀x,x<n->m x<n:=fun x hx=>(jC.1 (hm x hx).1).1
 have hle:∀x,x<n->m x<=x:=fun x hx=>by
  obtain⟨k,hk⟩:=h.sym hx (hm x hx).2;have:=(jC.1 (hm x hx).1).2 k;omega
 have hiff:∀x y,x<n->y<n->(∃k,it f k x=y)->m x=m y:=fun x y hx hy hxy=>by
  obtain⟨k1,e1⟩:=h.sym hx (hm x hx).2;obtain⟨k2,e2⟩:=(hm y hy).2;obtain⟨k,e⟩:=hxy;refine FQ h.lt h.inj (hm x hx).1 (hm y hy).1 (a:=k2+(k+k1)) (b:=0) ?_;rw[eP,eP,e1,e,e2];rfl
 refine⟨⟨hle,fun x hx=> ?_⟩,fun x y hx hy=>⟨fun e=> ?_,hiff x y hx hy⟩⟩
 .exact(hiff x (m x) hx (hlt x hx) (hm x hx).2).symm
 .obtain⟨k1,e1⟩:=(hm x hx).2
  obtain⟨k2,e2⟩:=h.sym hy (hm y hy).2;refine⟨k2+k1,?_⟩;rw[eP,e1,e,e2]
theorem iN.unique {m':Nat->Nat} (h:iN n f m) (h':iN n f m') {x:Nat} (hx:x<n):m x=m' x:=by
 have a1:=h.norm.lt hx;have a2:=h'.norm.lt hx;have e1:m (m' x)=m x:=(h.iff _ _ a2 hx).2 ((h'.iff _ _ a2 hx).1 (h'.norm.idem x hx));have e2:m' (m x)=m' x:=(h'.iff _ _ a1 hx).2 ((h.iff _ _ a1 hx).1 (h.norm.idem x hx));have b1:=h.norm.le _ a2;have b2:=h'.norm.le _ a1;omega
theorem iN.step (h:iN n f m) (hp:kO n f) {x:Nat} (hx:x<n):m (f x)=m x:=((h.iff x (f x) hx (hp.lt x hx)).2 ⟨1,rfl⟩).symm
theorem iN.reach' (h:iN n f m) {x:Nat} (hx:x<n):∃k,it f k x=m x:=(h.iff _ _ hx (h.norm.lt hx)).1 (h.norm.idem x hx).symm
theorem xT {α:Type} {p:Nat->α} (hl:∀x,x<n->f x<n) (hp:∀x,x<n->p (f x)=p x):∀(k:Nat) {x:Nat},x<n->p (it f k x)=p x
 |0,_,_=>rfl
 |k+1,x,hx=>by
  show p (it f k (f x))=p x;rw[xT hl hp k (hl x hx),hp x hx]
theorem iN.keep {α:Type} {p:Nat->α} (h:iN n f m) (hl:kO n f) (hp:∀x,x<n->p (f x)=p x) {x:Nat} (hx:x<n):p (m x)=p x:=by
 obtain⟨k,e⟩:=h.reach' hx;rw[<-e,xT hl.lt hp k hx]
end
def swp (f:Nat->Nat) (a b:Nat):Nat->Nat:=fun x=>if x=a then f b else if x=b then f a else f x
theorem TS (f:Nat->Nat) (a b:Nat):swp (swp f a b) a b=f:=by
 funext x;unfold swp;by_cases h1:x=a
 .subst h1
  by_cases h2:b=x
  .subst h2;simp
  .simp[h2]
 .by_cases h2:x=b
  .subst h2;simp[h1]
  .simp[h1,h2]
theorem Ig (f:Nat->Nat) (a b:Nat):swp f a b a=f b:=by simp[swp]
theorem Ie (f:Nat->Nat) (a b:Nat):swp f a b b=f a:=by
 unfold swp;by_cases h:b=a
 .subst h;simp
 .simp[h]
theorem CB (f:Nat->Nat) {a b x:Nat} (h1:x≠a) (h2:x≠b):swp f a b x=f x:=by simp[swp,h1,h2]
section
variable {n:Nat} {f m:Nat->Nat} {a b:Nat}
theorem kO.swp (h:kO n f) (ha:a<n) (hb:b<n):kO n (swp f a b):=by
 refine⟨fun x hx=> ?_,fun x y hx hy e=> ?_⟩
 .unfold Fa.swp
  split
  .exact h.lt b hb
  .split
   .exact h.lt a ha
   .exact h.lt x hx
 .unfold Fa.swp at e
  have k1:=h.inj x y hx hy;have k2:=h.inj b y hb hy;have k3:=h.inj a y ha hy;have k4:=h.inj x a hx ha;have k5:=h.inj x b hx hb;have k6:=h.inj a b ha hb;have k7:=h.inj b a hb ha
  split at e<;>split at e<;>(try split at e)<;>(try split at e)<;>(first|omega|(have:=k1 e;omega)|(have:=k2 e;omega)|(have:=k3 e;omega)|(have:=k4 e;omega)|(have:=k5 e;omega)|(have:=k6 e;omega)|(have:=k7 e;omega))
theorem zL {P:Nat->Prop}:∀{k:Nat},P k->∃j,P j/\j<=k/\∀i,i<j->¬P i:=by
 intro k
 induction k using Nat.strongRecOn with
 |_ k ih=>
  intro hk;by_cases h:∃i,i<k/\P i
  .obtain⟨i,hi,hp⟩:=h
   obtain⟨j,h1,h2,h3⟩:=ih i hi hp;exact⟨j,h1,by omega,h3⟩
  .exact⟨k,hk,aaF _,fun i hi hp=>h ⟨i,hi,hp⟩⟩
theorem Gi (h:kO n f) (ho:iN n f m) (ha:a<n) (hb:b<n) (hne:m a≠m b):iN n (swp f a b) (join m a b):=by
 have hq:=h.swp ha hb;have hJ:=fun {x y:Nat} (hx:x<n) (hy:y<n)=>kE ho.norm ha hb hne hx hy
 have key:∀x,x<n->join m a b (swp f a b x)=join m a b x:=fun x hx=>by
  have l1:=h.lt x hx;rw[hJ (hq.lt x hx) hx];by_cases e1:x=a
  .subst e1
   rw[Ig,ho.step h hb];exact .inr ⟨.inr rfl,.inl rfl⟩
  .by_cases e2:x=b
   .subst e2
    rw[Ie,ho.step h ha];exact .inr ⟨.inl rfl,.inr rfl⟩
   .rw[CB f e1 e2,ho.step h hx]
    exact .inl rfl
 have hab:∃k,it (swp f a b) k a=b:=by
  obtain⟨p0,Su,e0⟩:=Ds h.lt h.inj hb;obtain⟨p,⟨hp,e⟩,-,hmin⟩:=zL (P:=fun k=>0<k/\it f k b=b) ⟨Su,e0⟩;have way:∀j,1<=j->j<=p->it (swp f a b) j a=it f j b:=by
   intro j
   induction j with
   |zero=>intro h1;omega
   |succ j ih=>
    intro _ h2;by_cases hj:j=0
    .subst hj
     show swp f a b a=f b;exact Ig f a b
    .rw[lg,ih (by omega) (by omega),lg]
     refine CB f (fun e1=> ?_) (fun e1=>hmin j (by omega) ⟨by omega,e1⟩);exact hne ((ho.iff b a hb ha).2 ⟨j,e1⟩).symm
  exact⟨p,by rw[way p hp (aaF _),e]⟩
 have tr:∀{x y z:Nat},(∃k,it (swp f a b) k x=y)->(∃k,it (swp f a b) k y=z)->∃k,it (swp f a b) k x=z:=by
  rintro x y z ⟨k,rfl⟩ ⟨j,rfl⟩;exact⟨j+k,eP _ _ _ _⟩
 have hba:=hq.sym ha hab;have one:∀x,x<n->∃k,it (swp f a b) k x=f x:=fun x hx=>by
  by_cases e1:x=a
  .subst e1
   refine tr hab ⟨1,?_⟩;exact Ie f x b
  .by_cases e2:x=b
   .subst e2
    refine tr hba ⟨1,?_⟩;exact Ig f a x
   .exact⟨1,CB f e1 e2⟩
 have all:∀(k:Nat) {x:Nat},x<n->∃j,it (swp f a b) j x=it f k x:=by
  intro k
  induction k with
  |zero=>intro x hx;exact⟨0,rfl⟩
  |succ k ih=>intro x hx;exact tr (one x hx) (ih (h.lt x hx))
 have all':∀{x y:Nat},x<n->y<n->m x=m y->∃j,it (swp f a b) j x=y:=fun {x y} hx hy e=>by
  obtain⟨k,rfl⟩:=(ho.iff x y hx hy).1 e;exact all k hx
 refine⟨ho.norm.join ha hb hne,fun x y hx hy=>⟨fun e=> ?_,?_⟩⟩
 .rcases(hJ hx hy).1 e with e|⟨e1,e2⟩
  .exact all' hx hy e
  .have w1:∃j,it (swp f a b) j x=a:=by
    rcases e1 with e1|e1
    .exact all' hx ha e1
    .exact tr (all' hx hb e1) hba
   have w2:∃j,it (swp f a b) j a=y:=by
    rcases e2 with e2|e2
    .exact all' ha hy e2.symm
    .exact tr hab (all' hb hy e2.symm)
   exact tr w1 w2
 .rintro⟨k,rfl⟩
  exact(xT hq.lt key k hx).symm
theorem NH {m':Nat->Nat} (ho:iN n f m) (ha:a<n) (hb:b<n) (hab:a≠b) (e:m a=m b) (hg:iN n (swp f a b) m'):m' a≠m' b:=by
 intro hc;obtain⟨k,hk⟩:=(hg.iff b a hb ha).1 hc.symm;obtain⟨j0,hj0⟩:=(ho.iff a b ha hb).1 e;obtain⟨j,⟨hj1,hj⟩,-,hmin⟩:=zL (P:=fun k=>0<k/\it f k a=b) ⟨by
  rcases Nat.eq_zero_or_pos j0 with h|h
  .subst h;exact absurd hj0 hab
  .exact h,hj0⟩
 have hna:∀i,1<=i->i<=j->it f i a≠a:=fun i h1 h2 hc=>by
  by_cases e1:i=j
  .rw[e1,hj] at hc
   exact hab hc.symm
  .refine hmin (j-i) (by omega) ⟨by omega,?_⟩
   have:it f j a=it f (j-i) (it f i a):=by rw[<-eP];congr 1;omega
   rw[hc] at this;rw[<-this,hj]
 have inv:∀(k:Nat),∃i,1<=i/\i<=j/\it (swp f a b) k b=it f i a:=by
  intro k
  induction k with
  |zero=>exact⟨j,hj1,aaF _,hj.symm⟩
  |succ k ih=>
   obtain⟨i,h1,h2,h3⟩:=ih;rw[lg,h3];by_cases e1:i=j
   .refine⟨1,aaF _,hj1,?_⟩
    rw[e1,hj,Ie];rfl
   .refine⟨i+1,by omega,by omega,?_⟩
    rw[lg];exact CB f (hna i h1 h2) (fun hc=>hmin i (by omega) ⟨by omega,hc⟩)
 obtain⟨i,h1,h2,h3⟩:=inv k;rw[hk] at h3;exact hna i h1 h2 h3.symm
end
def nf (n:Nat) (m:Nat->Nat) (p:Nat->Bool):Nat:=aC (fun i=>decide (m i=i)&&p i) n
theorem C8 (n:Nat) (m:Nat->Nat):nf n m (fun _=>true)=cnt n m:=by
 unfold nf cnt;exact bA n fun i _=>by simp
section
variable {n:Nat} {f m m':Nat->Nat} {a b:Nat} {p:Nat->Bool}
theorem KR (h:Norm n m) (ha:a<n) (hb:b<n) (hne:m a≠m b) (h1:p (m a)=p a) (h2:p (m b)=p b) (h3:p a=p b):nf n (join m a b) p+(if p a=true then 1 else 0)=nf n m p:=by
 obtain⟨lo,hi,k1,k2,k3,k4,hc,hj⟩:=gO h ha hb hne;have hpi:p hi=p a:=by
  rcases hc with ⟨_,e⟩|⟨_,e⟩
  .rw[e,h2,h3]
  .rw[e,h1]
 have e:=uy (p:=fun i=>decide (join m a b i=i)&&p i) (q:=fun i=>decide (i=hi)&&p i) (s:=fun i=>decide (m i=i)&&p i) n (fun i hi'=>by
  rw[hj];by_cases e:i=hi
  .subst e
   rw[k4,if_pos rfl];have:¬lo=i:=by omega
   simp[this]
  .by_cases e2:m i=hi
   .rw[if_pos e2,e2]
    have h5:¬hi=i:=fun h=>e h.symm
    have h6:¬lo=i:=fun h=>by rw[<-h,k3] at e2;omega
    simp[h5,h6,e]
   .rw[if_neg e2]
    simp[e])
 have e2:aC (fun i=>decide (i=hi)&&p i) n=if p a=true then 1 else 0:=by
  by_cases hp:p a=true
  .rw[if_pos hp]
   have:=bA (p:=fun i=>decide (i=hi)&&p i) (q:=fun i=>decide (i=hi)) n (fun i _=>by
    by_cases e:i=hi
    .subst e;simp[hpi,hp]
    .simp[e])
   rw[this,e7,if_pos k2]
  .rw[if_neg hp]
   have:=bA (p:=fun i=>decide (i=hi)&&p i) (q:=fun i=>decide (i=n)) n (fun i hin=>by
    have:¬i=n:=by omega
    by_cases e:i=hi
    .subst e;simp[hpi,hp,this]
    .simp[e,this])
   rw[this,e7,if_neg (by omega)]
 unfold nf;omega
theorem Qi (hf:kO n f) (h:iN n f m) (h':iN n (swp f a b) m') (ha:a<n) (hb:b<n) (hab:a≠b) (hp:∀x,x<n->p (f x)=p x) (hpe:p a=p b):
 (m a≠m b/\nf n m' p+(if p a=true then 1 else 0)=nf n m p)\/(m a=m b/\nf n m p+(if p a=true then 1 else 0)=nf n m' p):=by
 have cg:∀{u v:Nat->Nat},(∀x,x<n->u x=v x)->nf n u p=nf n v p:=fun e=>by
  unfold nf;exact bA n fun i hi=>by rw[e i hi]
 have hq:=hf.swp ha hb;have hp':∀x,x<n->p (swp f a b x)=p x:=fun x hx=>by
  by_cases e1:x=a
  .subst e1;rw[Ig,hp b hb,hpe]
  .by_cases e2:x=b
   .subst e2;rw[Ie,hp a ha,hpe]
   .rw[CB f e1 e2,hp x hx]
 by_cases e:m a=m b
 .refine .inr ⟨e,?_⟩
  have hne:=NH h ha hb hab e h';have hj:=Gi hq h' ha hb hne;rw[TS] at hj;rw[cg (fun x hx=>h.unique hj hx)];exact KR h'.norm ha hb hne (h'.keep hq hp' ha) (h'.keep hq hp' hb) hpe
 .refine .inl ⟨e,?_⟩
  have hj:=Gi hf h ha hb e;rw[cg (fun x hx=>h'.unique hj hx)];exact KR h.norm ha hb e (h.keep hf hp ha) (h.keep hf hp hb) hpe
end
end Fa
end
section
namespace Cs
def fr (es:List (Int×Int)) (i:Nat):Nat:=(if i%2=0 then (es.getD (i/2) (0,0)).1 else (es.getD (i/2) (0,0)).2).toNat
def to (es:List (Int×Int)) (i:Nat):Nat:=(if i%2=0 then (es.getD (i/2) (0,0)).2 else (es.getD (i/2) (0,0)).1).toNat
def out (es:List (Int×Int)) (v:Nat):Nat->List Nat
 |0=>[]
 |k+1=>if fr es k=v then out es v k++[k] else out es v k
section
variable {es:List (Int×Int)} {u v i j k:Nat}
theorem sq:∀k,(out es v k).length<=k
 |0=>by simp[out]
 |k+1=>by
  have:=sq k;unfold out
  split<;>simp<;>omega
theorem eZ (k:Nat):(out es v (k+1)).length=(out es v k).length+if fr es k=v then 1 else 0:=by
 conv=>lhs;unfold out
 split<;>simp
theorem GG (h:i<=k):(out es v i).length<=(out es v k).length:=by
 induction k with
 |zero=>
  obtain rfl:i=0:=by omega
  exact aaF _
 |succ k ih=>
  by_cases hk:i=k+1
  .subst hk;exact aaF _
  .have:=ih (by omega)
   rw[eZ];omega
theorem tX (h:i<k) (hv:fr es i=v):(out es v i).length<(out es v k).length:=by
 have h1:=eZ (es:=es) (v:=v) i;rw[if_pos hv] at h1;have h2:=GG (es:=es) (v:=v) (i:=i+1) (k:=k) h;omega
theorem Qe (h:i<k) (hv:fr es i=v):(out es v k)[(out es v i).length]? =some i:=by
 induction k with
 |zero=>omega
 |succ k ih=>
  by_cases hk:i=k
  .subst hk
   conv=>lhs;arg 1;unfold out
   rw[if_pos hv];simp
  .have h1:=ih (by omega)
   have h2:(out es v i).length<(out es v k).length:=tX (by omega) hv
   conv=>lhs;arg 1;unfold out
   split
   .rw[aa5 h2];exact h1
   .exact h1
theorem qw (h:(out es v k)[j]? =some i):i<k/\fr es i=v/\(out es v i).length=j:=by
 induction k with
 |zero=>simp[out] at h
 |succ k ih=>
  unfold out at h
  split at h
  .rename_i hv
   by_cases hj:j<(out es v k).length
   .rw[aa5 hj] at h
    have:=ih h;exact⟨by omega,this.2⟩
   .rw[abk (by omega)] at h
    by_cases hj2:j-(out es v k).length=0
    .rw[hj2] at h
     simp at h;subst h;exact⟨by omega,hv,by omega⟩
    .rw[aa6 (by simp;omega)] at h
     cases h
  .have:=ih h
   exact⟨by omega,this.2⟩
theorem CZ {a b:Nat} (hij:i<j) (hi:(out es v k)[i]? =some a) (hj:(out es v k)[j]? =some b):a<b:=by
 have ha:=qw hi;have hb:=qw hj;rcases abW a b with h|h
 .exact h
 .have:=GG (es:=es) (v:=v) h
  omega
def st (es:List (Int×Int)) (M:Nat):Nat->Nat
 |0=>0
 |v+1=>st es M v+(out es v M).length
theorem NJ {M:Nat} (h:u<v):st es M u+(out es u M).length<=st es M v:=by
 induction v with
 |zero=>omega
 |succ v ih=>
  have e:st es M (v+1)=st es M v+(out es v M).length:=rfl;by_cases hu:u=v
  .subst hu;omega
  .have:=ih (by omega)
   omega
theorem TU (M v:Nat):st es (M+1) v=st es M v+if fr es M<v then 1 else 0:=by
 induction v with
 |zero=>simp[st]
 |succ v ih=>
  have e1:st es (M+1) (v+1)=st es (M+1) v+(out es v (M+1)).length:=rfl;have e2:st es M (v+1)=st es M v+(out es v M).length:=rfl;rw[e1,e2,ih,eZ]
  split<;>split<;>split<;>omega
theorem XE {n:Nat} (M:Nat) (h:∀i,i<M->fr es i<n):st es M n=M:=by
 induction M with
 |zero=>
  have:∀v,st es 0 v=0:=fun v=>by
   induction v with
   |zero=>rfl
   |succ v ih=>rw[show st es 0 (v+1)=st es 0 v+(out es v 0).length from rfl,ih];rfl
  exact this n
 |succ M ih=>
  rw[TU,ih (fun i hi=>h i (by omega)),if_pos (h M (by omega))]
theorem CE {n M:Nat} (h:∀i,i<M->fr es i<n) (hv:v<n):st es M v+(out es v M).length<=M:=by
 have:=NJ (es:=es) (M:=M) hv;rw[XE M h] at this;exact this
def pos (es:List (Int×Int)) (M i:Nat):Nat:=st es M (fr es i)+(out es (fr es i) i).length
theorem Qc {n M:Nat} (h:∀i,i<M->fr es i<n) (hi:i<M):pos es M i<M:=by
 have h1:=CE h (h i hi);have h2:=tX (es:=es) (k:=M) hi rfl;unfold pos;omega
theorem XJ {M:Nat} (hij:i<j) (hj:j<M):pos es M i≠pos es M j:=by
 unfold pos;rcases ab8 (fr es i) (fr es j) with h|h|h
 .have h1:=NJ (es:=es) (M:=M) h
  have h2:=tX (es:=es) (i:=i) (k:=M) (by omega) rfl;omega
 .rw[h]
  have h2:=tX (es:=es) (i:=i) (k:=j) hij h;omega
 .have h1:=NJ (es:=es) (M:=M) h
  have h2:=tX (es:=es) (i:=j) (k:=M) hj rfl;omega
end
structure oH (es:List (Int×Int)) (n M k:Nat) (H Pl T F:List Int):Prop where
 lH:H.length=M
 lP:Pl.length=M
 lT:T.length=M
 lF:F.length=n
 hT:∀i,i<k->T[i]? =some (to es i:Int)
 hP:∀i,i<k->Pl[i]? =some (pos es M i:Int)
 hH:∀i,i<k->H[pos es M i]? =some (i:Int)
 hF:∀v,v<n->F[v]? =some ((st es M v+(out es v k).length:Nat):Int)
theorem oH.at {es:List (Int×Int)} {n M k:Nat} {H Pl T F:List Int} (h:oH es n M k H Pl T F) (hk:fr es k<n):F[fr es k]? =some (pos es M k:Int):=h.hF _ hk
theorem oH.step {es:List (Int×Int)} {n M k:Nat} {H Pl T F:List Int} (h:oH es n M k H Pl T F) (hn:∀i,i<M->fr es i<n) (hk:k<M):
 oH es n M (k+1) (H.set (pos es M k) k) (Pl.set k (pos es M k)) (T.set k (to es k)) (F.set (fr es k) ((pos es M k:Int)+1)):=by
 have hp:=Qc hn hk;refine⟨by simp[h.lH],by simp[h.lP],by simp[h.lT],by simp[h.lF],fun i hi=> ?_,fun i hi=> ?_,fun i hi=> ?_,fun v hv=> ?_⟩
 .rw[aa8]
  by_cases e:k=i
  .subst e;rw[if_pos rfl,if_pos (by rw[h.lT];exact hk)]
  .rw[if_neg e];exact h.hT i (by omega)
 .rw[aa8]
  by_cases e:k=i
  .subst e;rw[if_pos rfl,if_pos (by rw[h.lP];exact hk)]
  .rw[if_neg e];exact h.hP i (by omega)
 .rw[aa8]
  by_cases e:k=i
  .subst e;rw[if_pos rfl,if_pos (by rw[h.lH];exact hp)]
  .rw[if_neg (fun e2=>XJ (es:=es) (M:=M) (i:=i) (j:=k) (by omega) hk e2.symm)];exact h.hH i (by omega)
 .rw[aa8,eZ]
  by_cases e:fr es k=v
  .subst e
   rw[if_pos rfl,if_pos (by rw[h.lF];exact hv),if_pos rfl];unfold pos
   congr 1
  .rw[if_neg e,if_neg e];exact h.hF v hv
def AQ (n:Nat) (es:List (Int×Int)) (v:Int):List Nat:=if 0<=v/\v<n then out es v.toNat (2*es.length) else []
theorem pI {n:Nat} {es:List (Int×Int)} {v:Nat} (h:v<n):AQ n es v=out es v (2*es.length):=by
 unfold AQ;rw[if_pos ⟨by omega,by omega⟩];simp
theorem KI {n:Nat} {es:List (Int×Int)} {v:Int} (h:¬(0<=v/\v<n)):AQ n es v=[]:=by
 unfold AQ;rw[if_neg h]
theorem eU {n:Nat} {es:List (Int×Int)} (hv:Si.Val n es) {i:Nat} (hi:i<2*es.length):fr es i<n/\to es i<n:=by
 obtain⟨p,hp⟩:∃p,es[i/2]? =some p:=⟨_,aaE (by omega)⟩;have ho:=hv.each _ p hp;unfold Si.ok at ho;unfold fr to;rw[aaL,hp];dsimp only[Option.getD_some]
 split<;>omega
theorem dQ {es:List (Int×Int)} {k:Nat} {p:Int×Int} (hp:es[k]? =some p):fr es (2*k)=p.1.toNat/\to es (2*k)=p.2.toNat:=by
 unfold fr to;have e:2*k/2=k:=by omega
 have e2:2*k%2=0:=by omega
 rw[e,e2,aaL,hp];exact⟨rfl,rfl⟩
theorem iJ {es:List (Int×Int)} {k:Nat} {p:Int×Int} (hp:es[k]? =some p):fr es (2*k+1)=p.2.toNat/\to es (2*k+1)=p.1.toNat:=by
 unfold fr to;have e:(2*k+1)/2=k:=by omega
 have e2:(2*k+1)%2=1:=by omega
 rw[e,e2,aaL,hp];exact⟨rfl,rfl⟩
def twin (i:Nat):Nat:=if i%2=0 then i+1 else i-1
theorem fC {i m:Nat} (h:i<2*m):twin i<2*m:=by
 unfold twin
 split<;>omega
theorem CA (es:List (Int×Int)) (i:Nat):to es (twin i)=fr es i:=by
 unfold to fr twin;by_cases h:i%2=0
 .have e:(i+1)/2=i/2:=by omega
  have e2:¬((i+1)%2=0):=by omega
  rw[if_pos h,if_pos h,e,if_neg e2]
 .have e:(i-1)/2=i/2:=by omega
  have e2:(i-1)%2=0:=by omega
  rw[if_neg h,if_neg h,e,if_pos e2]
theorem gW (es:List (Int×Int)) (i:Nat):fr es (twin i)=to es i:=by
 unfold to fr twin;by_cases h:i%2=0
 .have e:(i+1)/2=i/2:=by omega
  have e2:¬((i+1)%2=0):=by omega
  rw[if_pos h,if_pos h,e,if_neg e2]
 .have e:(i-1)/2=i/2:=by omega
  have e2:(i-1)%2=0:=by omega
  rw[if_neg h,if_neg h,e,if_pos e2]
theorem Gg {n:Int} {es:List (Int×Int)} (hv:Si.Val n es) {i j:Nat} (hij:i<j) (hj:j<2*es.length) (hf:fr es i=fr es j):to es i<to es j:=by
 obtain⟨p,hp⟩:∃p,es[i/2]? =some p:=⟨_,aaE (by omega)⟩;obtain⟨q,hq⟩:∃q,es[j/2]? =some q:=⟨_,aaE (by omega)⟩;have hop:=hv.each _ p hp;have hoq:=hv.each _ q hq;unfold Si.ok at hop hoq;have hl:i/2=j/2\/Si.lt p q:=by
  by_cases h:i/2=j/2
  .exact .inl h
  .exact .inr (hv.mono (j/2) (i/2) p q (by omega) hp hq)
 have hpq:i/2=j/2->p=q:=fun h=>by
  rw[h,hq] at hp;cases hp;rfl
 have gp:es.getD (i/2) (0,0)=p:=by rw[aaL,hp];rfl
 have gq:es.getD (j/2) (0,0)=q:=by rw[aaL,hq];rfl
 unfold fr at hf;unfold to;rw[gp,gq] at hf;rw[gp,gq];rcases hl with hl|hl
 .have:=hpq hl
  subst this;have h1:i%2=0:=by omega
  have h2:¬(j%2=0):=by omega
  rw[if_pos h1,if_neg h2] at hf;omega
 .unfold Si.lt at hl
  by_cases h1:i%2=0<;>by_cases h2:j%2=0
  .rw[if_pos h1,if_pos h2] at hf ⊢
   omega
  .rw[if_pos h1,if_neg h2] at hf ⊢
   omega
  .rw[if_neg h1,if_pos h2] at hf ⊢
   omega
  .rw[if_neg h1,if_neg h2] at hf ⊢
   omega
end Cs
end
section
namespace Fa
open Pl Co
def zy (f:Nat->Nat) (k:Nat):Nat->Nat:=fun h=>if h<2*k then f (Cs.twin h) else f h
theorem zw (f:Nat->Nat):zy f 0=f:=by
 funext h;unfold zy;rw[if_neg (by omega)]
theorem mU (k:Nat):Cs.twin (2*k)=2*k+1:=by unfold Cs.twin;rw[if_pos (by omega)]
theorem tP (k:Nat):Cs.twin (2*k+1)=2*k:=by unfold Cs.twin;rw[if_neg (by omega)];omega
theorem mS (h:Nat):Cs.twin (Cs.twin h)=h:=by
 unfold Cs.twin
 split<;>split<;>omega
theorem zx (f:Nat->Nat) (k:Nat):zy f (k+1)=swp (zy f k) (2*k) (2*k+1):=by
 funext h;show(if h<2*(k+1) then f (Cs.twin h) else f h)=if h=2*k then (if 2*k+1<2*k then f (Cs.twin (2*k+1)) else f (2*k+1)) else if h=2*k+1 then (if 2*k<2*k then f (Cs.twin (2*k)) else f (2*k)) else (if h<2*k then f (Cs.twin h) else f h)
 by_cases h1:h=2*k
 .subst h1
  rw[if_pos (by omega),if_pos rfl,if_neg (by omega),mU]
 .by_cases h2:h=2*k+1
  .subst h2
   rw[if_pos (by omega),if_neg (by omega),if_pos rfl,if_neg (by omega),tP]
  .rw[if_neg h1,if_neg h2]
   by_cases h3:h<2*k
   .rw[if_pos (by omega),if_pos h3]
   .rw[if_neg (by omega),if_neg h3]
section
variable {M:Nat} {f:Nat->Nat}
theorem xA (h:kO (2*M) f):∀k,k<=M->kO (2*M) (zy f k)
 |0,_=>by rw[zw];exact h
 |k+1,hk=>by
  rw[zx];exact(xA h k (by omega)).swp (by omega) (by omega)
theorem RL {p:Nat->Bool} (h1:∀x,x<2*M->p (f x)=p x) (h2:∀x,x<2*M->p (Cs.twin x)=p x) (k:Nat) {x:Nat} (hx:x<2*M):p (zy f k x)=p x:=by
 unfold zy
 split
 .rw[h1 _ (Cs.fC hx),h2 x hx]
 .exact h1 x hx
theorem Qd (hf:kO (2*M) f) {p:Nat->Bool} (h1:∀x,x<2*M->p (f x)=p x) (h2:∀x,x<2*M->p (Cs.twin x)=p x) {m0:Nat->Nat} (h0:iN (2*M) f m0):
 ∀(k:Nat),k<=M->∀m,iN (2*M) (zy f k) m->(nf (2*M) m p+nf (2*M) m0 p+aC (fun e=>p (2*e)) k)%2=0
 |0,_,m,hm=>by
  rw[zw] at hm;have:nf (2*M) m p=nf (2*M) m0 p:=bA _ fun i hi=>by rw[hm.unique h0 hi]
  unfold aC;omega
 |k+1,hk,m,hm=>by
  have hq:=xA hf k (by omega);obtain⟨m1,hm1⟩:=og hq;have ih:=Qd hf h1 h2 h0 k (by omega) m1 hm1;rw[zx] at hm;have e2:p (2*k)=p (2*k+1):=by
   have:=h2 (2*k) (by omega);rw[mU] at this;exact this.symm
  have hs:=Qi (p:=p) hq hm1 hm (by omega) (by omega) (by omega) (fun x hx=>RL h1 h2 k hx) e2;have e3:aC (fun e=>p (2*e)) (k+1)=aC (fun e=>p (2*e)) k+if p (2*k)=true then 1 else 0:=rfl
  rw[e3];rcases hs with ⟨_,hs⟩|⟨_,hs⟩<;>split at hs<;>rename_i hc<;>simp only[hc,if_true,if_false,Bool.false_eq_true]<;>omega
end
section
variable {N:Nat} {es:List (Int×Int)} {f:Nat->Nat}
def G (N:Nat) (es:List (Int×Int)) (k:Nat):Nat->Nat:=joins N (es.take k) (fun x=>x)
theorem Ze {k:Nat} {p:Int×Int} (h:es[k]? =some p):G N es (k+1)=gP N (G N es k) p.1 p.2:=by
 unfold G;have:es.take (k+1)=es.take k++[p]:=by
  rw[acj,h];rfl
 rw[this,A4]
theorem Xp (k:Nat):Gen N (es.take k) (G N es k):=wz N _
theorem Zf (k:Nat):Norm N (G N es k):=(Xp k).norm
theorem nD (hv:Si.Val N es) {h:Nat} (hh:h<2*es.length):Cs.fr es h<N:=by
 have hl:h/2<es.length:=by omega
 have he:es[h/2]? =some es[h/2]:=by simp[hl]
 have ok:=hv.each _ _ he;unfold Si.ok at ok;unfold Cs.fr;rw[aaL,he]
 split<;>simp<;>omega
theorem Q5 (hv:Si.Val N es) {k h:Nat} (hk:k<=es.length) (hh:h<2*k):G N es k (Cs.fr es (Cs.twin h))=G N es k (Cs.fr es h):=by
 have hl:h/2<es.length:=by omega
 have he:es[h/2]? =some es[h/2]:=by simp[hl]
 have ok:=hv.each _ _ he;unfold Si.ok at ok;have hm:es[h/2]∈es.take k:=by
  refine aaJ (i:=h/2) ?_;rw[acf,if_pos (by omega),he]
 have:=(Xp (N:=N) (es:=es) k).meets _ hm (by unfold isIn;omega) (by unfold isIn;omega);rcases abJ h with h2|h2
 .have e:h=2*(h/2):=by omega
  rw[e,mU,(Cs.dQ he).1,(Cs.iJ he).1];exact this.symm
 .have e:h=2*(h/2)+1:=by omega
  rw[e,tP,(Cs.dQ he).1,(Cs.iJ he).1];exact this
theorem chain (hv:Si.Val N es) (hf:kO (2*es.length) f) (hfr:∀x,x<2*es.length->Cs.fr es (f x)=Cs.fr es x) {m0:Nat->Nat} (h0:iN (2*es.length) f m0) {i:Nat} (hi:cnt (2*es.length) m0+i=N):
 ∀(k:Nat),k<=es.length->∀m,iN (2*es.length) (zy f k) m->∃g,cnt (2*es.length) m+i+N+2*g=2*cnt N (G N es k)+k/\g+N<=k+cnt N (G N es k)
 |0,_,m,hm=>by
  rw[zw] at hm;have:cnt (2*es.length) m=cnt (2*es.length) m0:=bA _ fun i hi=>by rw[hm.unique h0 hi]
  have e:cnt N (G N es 0)=N:=by
   unfold G;simp only[List.take_zero,joins,List.foldl_nil];exact QS N
  exact⟨0,by omega,by omega⟩
 |k+1,hk,m,hm=>by
  have hq:=xA hf k (by omega);obtain⟨m1,hm1⟩:=og hq;obtain⟨g,ih1,ih2⟩:=chain hv hf hfr h0 hi k (by omega) m1 hm1;rw[zx] at hm;have hs:=Qi (p:=fun _=>true) hq hm1 hm (by omega) (by omega) (by omega) (fun x hx=>rfl) rfl;rw[C8,C8,if_pos rfl] at hs;have he:es[k]? =some es[k]:=by simp
  have ok:=hv.each _ _ he;unfold Si.ok at ok;have ia:isIn N es[k].1:=by unfold isIn;omega
  have ib:isIn N es[k].2:=by unfold isIn;omega
  rw[Ze he];unfold Co.gP;by_cases hc:G N es k es[k].1.toNat=G N es k es[k].2.toNat
  .rw[if_neg (by rw[nI];rintro⟨_,_,h⟩;exact h hc)]
   rcases hs with ⟨_,hs⟩|⟨_,hs⟩
   .exact⟨g+1,by omega,by omega⟩
   .exact⟨g,by omega,by omega⟩
  .rw[if_pos (nI.2 ⟨ia,ib,hc⟩)]
   have hj:=Ho (Zf (N:=N) (es:=es) k) (gQ ia) (gQ ib) hc;have hne:m1 (2*k)≠m1 (2*k+1):=fun e=>by
    obtain⟨j,hj⟩:=(hm1.iff (2*k) (2*k+1) (by omega) (by omega)).1 e;have:=xT (p:=fun h=>G N es k (Cs.fr es h)) hq.lt (fun x hx=>by
     show G N es k (Cs.fr es (zy f k x))=G N es k (Cs.fr es x);unfold zy
     split
     .rename_i hx2
      rw[hfr _ (Cs.fC hx),Q5 hv (by omega) hx2]
     .rw[hfr x hx]) j (x:=2*k) (by omega)
    rw[hj] at this;simp only[(Cs.dQ he).1,(Cs.iJ he).1] at this;exact hc this.symm
   rcases hs with ⟨_,hs⟩|⟨hc2,_⟩
   .exact⟨g,by omega,by omega⟩
   .exact absurd hc2 hne
end
end Fa
end
namespace Si
theorem KA:∀(l:List (Int×Int)) (e:Int×Int),l.Pairwise lt->(put l e).length=if e∈l then l.length else l.length+1
 |[],e,_=>by simp[put]
 |y::l,e,h=>by
  rw[abD] at h;unfold put
  split
  .rename_i uJ
   have hne:e≠y:=(Ol uJ).symm;rw[abx,KA l e h.2];by_cases hm:e∈l
   .simp[hm]
   .simp[hm,hne]
  .split
   .rename_i h2
    subst h2;simp
   .rename_i h1 h2
    have Yo:lt e y:=by
     rcases zJ y e with a|a|a
     .exact absurd a h1
     .exact absurd a h2
     .exact a
    have hn:e∉y::l:=fun hm=>by
     rcases aa4.1 hm with a|a
     .exact h2 a.symm
     .exact lt_asymm Yo (h.1 e a)
    rw[if_neg hn];simp
theorem xL (ps:List (Int×Int)):(made [] ps).Pairwise lt:=(Df ps).1
theorem fR {ps:List (Int×Int)} {k:Nat} {p:Int×Int} (h:ps[k]? =some p):ps.take (k+1)=ps.take k++[p]:=by
 have hl:k<ps.length:=(aaH.1 h).1;rw[List.take_succ_eq_append_getElem hl];rw[aaE hl] at h;cases h;rfl
structure Taken (l0 ps:List (Int×Int)) (k:Nat) (acc:List (Int×Int)):Prop where
 nodup:acc.Nodup
 mem:∀e,e∈acc↔e∈l0/\∃p∈ps.take k,norm p=e
theorem Taken.start (l0 ps:List (Int×Int)):Taken l0 ps 0 []:=⟨List.nodup_nil,fun e=>by simp⟩
theorem Taken.new {l0 ps acc:List (Int×Int)} {k:Nat} {p:Int×Int} (h:Taken l0 ps k acc) (hp:ps[k]? =some p) (h0:norm p∈l0) (h1:norm p∉acc):Taken l0 ps (k+1) (acc++[norm p]):=by
 refine⟨?_,fun e=> ?_⟩
 .rw[List.nodup_append]
  exact⟨h.nodup,by simp,fun a ha b hb hab=>by rw[abe] at hb;subst hb;subst hab;exact h1 ha⟩
 .rw[abo,abe,h.mem,fR hp]
  constructor
  .rintro(⟨a,q,hq,e1⟩|rfl)
   .exact⟨a,q,abV _ hq,e1⟩
   .exact⟨h0,p,by simp,rfl⟩
  .rintro⟨a,q,hq,e1⟩
   rcases abo.1 hq with hq|hq
   .exact .inl ⟨a,q,hq,e1⟩
   .rw[abe] at hq
    subst hq;exact .inr e1.symm
theorem Taken.old {l0 ps acc:List (Int×Int)} {k:Nat} {p:Int×Int} (h:Taken l0 ps k acc) (hp:ps[k]? =some p) (h1:¬(norm p∈l0/\norm p∉acc)):Taken l0 ps (k+1) acc:=by
 refine⟨h.nodup,fun e=> ?_⟩;rw[h.mem,fR hp];constructor
 .rintro⟨a,q,hq,e1⟩
  exact⟨a,q,abV _ hq,e1⟩
 .rintro⟨a,q,hq,e1⟩
  rcases abo.1 hq with hq|hq
  .exact⟨a,q,hq,e1⟩
  .rw[abe] at hq
   subst hq;subst e1;by_cases ha:norm q∈acc
   .exact⟨a,((h.mem _).1 ha).2⟩
   .exact absurd ⟨a,ha⟩ h1
theorem Taken.all {ps acc:List (Int×Int)} (h:Taken (made [] ps) ps ps.length acc) (e:Int×Int):e∈acc↔e∈made [] ps:=by
 rw[h.mem];constructor
 .exact fun a=>a.1
 .intro a
  obtain⟨p,hp,_,e1⟩:=((Df ps).2 e).1 a;exact⟨a,p,by rw[abQ];exact hp,e1.symm⟩
theorem Ik {l0 acc l:List (Int×Int)} (h0:l0.Pairwise lt) (hn:acc.Nodup) (hm:∀e,e∈acc↔e∈l0) (hp:l.Perm acc) (hs:∀(i j:Nat) (a b:Int×Int),i<j->l[i]? =some a->l[j]? =some b->¬lt b a):l=l0:=by
 have hnl:l.Nodup:=hp.nodup_iff.2 hn;refine Au ?_ h0 (fun e=>(hp.mem_iff).trans (hm e));rw[abr];intro i j hi hj hij;have hne:l[i]≠l[j]:=by
  intro he;have:=(aew hnl).1 he;omega
 rcases zJ l[i] l[j] with a|a|a
 .exact a
 .exact absurd a hne
 .exact absurd a (hs i j _ _ hij (aaE hi) (aaE hj))
end Si
section
open Go.Proofs.Tryz
open Go.RowKit Go.Sort
def Si.qR (x y:Int):Int:=if x<y then -1 else if y<x then 1 else 0
theorem MG (x y:Int) (w:World):Calls prog 114 #[.int .i64 x,.int .i64 y] w fun e w'=>e= .returned (.int .i64 (Si.qR x y))/\w'=w:=by
 unfold Si.qR;by_cases h1:x<y
 .rw[if_pos h1]
  go_enter func114,ntmps114;go_wp2;go_ret;exact⟨rfl,rfl⟩
 .rw[if_neg h1]
  by_cases h2:y<x
  .rw[if_pos h2]
   go_enter func114,ntmps114;go_wp2;go_ret;exact⟨rfl,rfl⟩
  .rw[if_neg h2]
   go_enter func114,ntmps114;go_wp2;go_ret;exact⟨rfl,rfl⟩
def Si.IM (p q:Int):Int:=if p≠0 then p else q
theorem acw (a b:Int×Int):Si.cf a b=Si.IM (Si.qR a.1 b.1) (Si.qR a.2 b.2):=by
 unfold Si.cf Si.qR Si.IM;by_cases h1:a.1<b.1
 .simp[h1]
 .by_cases h2:b.1<a.1
  .simp[h1,h2]
  .simp[h1,h2]
theorem XM (p q:Int) (W:World) (b:Nat) (h0:W.cell? ⟨b,0,none⟩=some (.int .i64 p)) (h1:W.cell? ⟨b,1,none⟩=some (.int .i64 q)):Calls prog 113 #[.slice (some ⟨b,0,none⟩) 2 2] W fun e w'=>e= .returned (.int .i64 (Si.IM p q))/\w'=W:=by
 unfold Si.IM;by_cases hp:p=0
 .subst hp
  rw[if_neg (by simp)];by_cases hq:q=0
  .subst hq
   go_enter func113,ntmps113;go_wp2;refine wp_loop_rounds 3 ?_;rw[rounds_succ];go_wp2;rw[rounds_succ];go_wp2;rw[rounds_succ];go_wp2;go_ret;exact⟨rfl,rfl⟩
  .go_enter func113,ntmps113
   go_wp2;refine wp_loop_rounds 3 ?_;rw[rounds_succ];go_wp2;rw[rounds_succ];go_wp2;go_ret;exact⟨rfl,rfl⟩
 .rw[if_pos hp]
  go_enter func113,ntmps113;go_wp2;refine wp_loop_rounds 3 ?_;rw[rounds_succ];go_wp2;go_ret;exact⟨rfl,rfl⟩
theorem yA (a b:Int×Int) (w:World):Calls prog 73 #[cM a,cM b] w fun e w'=>e= .returned (.int .i64 (Si.cf a b))/\∃q os',w'=grow (w.drewN q) os':=by
 rw[acw];unfold cM;go_enter func73,ntmps73;go_wp2
 go_region_held3 (fun w'=>w'.cell? ⟨w.heap.size,0,none⟩=some (.int .i64 a.1)/\w'.cell? ⟨w.heap.size,1,none⟩=some (.int .i64 a.2)/\w'.cell? ⟨w.heap.size+1,0,none⟩=some (.int .i64 b.1)/\w'.cell? ⟨w.heap.size+1,1,none⟩=some (.int .i64 b.2))
  (go_keep)
  (first
    |(go_at_call 114;refine(MG _ _ _).mono ?_;rintro e w' ⟨rfl,rfl⟩)
    |(go_at_call 113;refine(XM (Si.qR a.1 b.1) (Si.qR a.2 b.2) _ _ (Uk _ _ (TW _ _ _) _ _ _).1 (Uk _ _ (TW _ _ _) _ _ _).2).mono ?_;rintro e w' ⟨rfl,rfl⟩))
 go_wp2;go_ret;exact⟨rfl,1,_,by rw[alloc_eq_grow,alloc_eq_grow,grow_grow,alloc_eq_grow,grow_grow];rfl⟩
end
end Go.Proofs.YtdbjpbjocmcpkaaGreatDoor
