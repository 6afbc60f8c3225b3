import Derived.Test.YtdbjpbjocmcpkaaGreatDoorMg20
import Derived.Test.YtdbjpbjocmcpkaaGreatDoorMg08
namespace Go.Proofs.YtdbjpbjocmcpkaaGreatDoor
section
namespace Pl
theorem xy:∀{l1 l2:List Nat},l1.Nodup->(∀x∈l1,x∈l2)->l1.length<=l2.length
 |[],_,_,_=>aax _
 |a::l1,l2,hn,hs=>by
  have ha:a∈l2:=hs a List.mem_cons_self;obtain⟨hna,hn'⟩:=aef.1 hn;have h1:=xy (l1:=l1) (l2:=l2.erase a) hn' (fun x hx=>(List.mem_erase_of_ne (fun e=>hna (by rw[<-e];exact hx))).2 (hs x (adu _ hx)));have h2:=List.length_erase_of_mem ha;have h3:=List.length_pos_of_mem ha;show l1.length+1<=l2.length;omega
theorem EF {l:List Nat} {n:Nat} (h:l.Nodup) (hl:∀x∈l,x<n):l.length<=n:=by
 have:=xy h (l2:=List.range n) (fun x hx=>aaJ.2 (hl x hx));rwa[List.length_range] at this
def it (f:Nat->Nat):Nat->Nat->Nat
 |0,x=>x
 |k+1,x=>it f k (f x)
theorem dU (f:Nat->Nat):∀(a b x:Nat),it f (a+b) x=it f a (it f b x)
 |_,0,_=>rfl
 |a,b+1,x=>dU f a b (f x)
theorem jW (f:Nat->Nat) (k x:Nat):it f (k+1) x=f (it f k x):=by
 rw[Nat.add_comm,dU];rfl
section
variable {n:Nat} {f:Nat->Nat} (hf:∀x,x<n->f x<n) (hi:∀x y,x<n->y<n->f x=f y->x=y)
include hf
theorem lJ:∀(k:Nat) {x:Nat},x<n->it f k x<n
 |0,_,hx=>hx
 |k+1,_,hx=>lJ k (hf _ hx)
include hi
theorem Ad:∀(k:Nat) {x y:Nat},x<n->y<n->it f k x=it f k y->x=y
 |0,_,_,_,_,h=>h
 |k+1,x,y,hx,hy,h=>hi x y hx hy (Ad k (hf x hx) (hf y hy) h)
theorem Bz {x:Nat} (hx:x<n):∃k,0<k/\it f k x=x:=by
 have:∃i j,i<j/\it f i x=it f j x:=abp fun hn=>by
  have h1:((List.range (n+1)).map fun i=>it f i x).Nodup:=by
   unfold List.Nodup;rw[adp];refine adR ?_ List.pairwise_lt_range;intro i j _ _ hij e;exact hn ⟨i,j,hij,e⟩
  have h2:=EF h1 (n:=n) (fun y hy=>by
   obtain⟨i,_,rfl⟩:=abP.1 hy;exact lJ hf i hx)
  rw[aaE,List.length_range] at h2;omega
 obtain⟨i,j,hij,e⟩:=this;refine⟨j-i,by omega,?_⟩;have e2:it f j x=it f i (it f (j-i) x):=by rw[<-dU];congr 1;omega
 rw[e2] at e;exact(Ad hf hi i hx (lJ hf _ hx) e).symm
theorem Bx {x:Nat} (hx:x<n) (b:Nat):∃c,it f c (it f b x)=x:=by
 obtain⟨k,hk,e⟩:=Bz hf hi hx;have rep:∀t,it f (t*k) x=x:=fun t=>by
  induction t with
  |zero=>rw[Nat.zero_mul];rfl
  |succ t ih=>rw[aed,dU,e,ih]
 refine⟨b*k-b,?_⟩;have:b<=b*k:=Nat.le_mul_of_pos_right b hk;rw[<-dU,show b*k-b+b=b*k by omega];exact rep b
end
open Classical in
noncomputable def firsts (n:Nat) (f:Nat->Nat):List Nat:=(List.range n).filter fun h=>decide (∀k,h<=it f k h)
open Classical in
theorem iB {n:Nat} {f:Nat->Nat} {h:Nat}:h∈firsts n f↔h<n/\∀k,h<=it f k h:=by
 unfold firsts;rw[adb,aaJ,decide_eq_true_iff]
section
variable {n:Nat} {f:Nat->Nat} (hf:∀x,x<n->f x<n) (hi:∀x y,x<n->y<n->f x=f y->x=y)
include hf
theorem xO {x:Nat} (hx:x<n):∃k,it f k x∈firsts n f:=by
 have key:∀(d k:Nat),it f k x<=d->∃k,it f k x∈firsts n f:=by
  intro d
  induction d with
  |zero=>
   intro k hk;exact⟨k,iB.2 ⟨lJ hf k hx,fun j=>by omega⟩⟩
  |succ d ih=>
   intro k hk;by_cases h:∀j,it f k x<=it f j (it f k x)
   .exact⟨k,iB.2 ⟨lJ hf k hx,h⟩⟩
   .have:∃j,it f j (it f k x)<it f k x:=abp fun hn=>h fun j=>Nat.le_of_not_lt fun hlt=>hn ⟨j,hlt⟩
    obtain⟨j,hj⟩:=this;exact ih (j+k) (by rw[dU];omega)
 exact key _ 0 (aad _)
include hi
theorem DW {x y a b:Nat} (hx:x∈firsts n f) (hy:y∈firsts n f) (h:it f a x=it f b y):x=y:=by
 obtain⟨oH,hx⟩:=iB.1 hx;obtain⟨hyn,hy⟩:=iB.1 hy;obtain⟨c,hc⟩:=Bx hf hi hyn b;obtain⟨d,hd⟩:=Bx hf hi oH a;have h1:=hx (c+a);rw[dU,h,hc] at h1;have h2:=hy (d+b);rw[dU,<-h,hd] at h2;omega
end
end Pl
end
section
namespace Fa
open Pl Co
structure jG (n:Nat) (f:Nat->Nat):Prop where
 lt:∀x,x<n->f x<n
 inj:∀x y,x<n->y<n->f x=f y->x=y
structure gH (n:Nat) (f m:Nat->Nat):Prop where
 norm:Norm n m
 iff:∀x y,x<n->y<n->(m x=m y↔∃k,it f k x=y)
section
variable {n:Nat} {f m:Nat->Nat}
theorem jG.sym (h:jG n f) {x y:Nat} (hx:x<n) (e:∃k,it f k x=y):∃k,it f k y=x:=by
 obtain⟨k,rfl⟩:=e;exact Bx h.lt h.inj hx k
theorem mD (h:jG n f):∃m,gH n f m:=by
 have hex:∀x,∃z,x<n->z∈firsts n f/\∃k,it f k x=z:=fun x=>by
  by_cases hx:x<n
  .obtain⟨k,hk⟩:=xO h.lt hx
   exact⟨_,fun _=>⟨hk,k,rfl⟩⟩
  .exact⟨0,fun h=>absurd h hx⟩
 obtain⟨m,hm⟩:=Classical.axiomOfChoice hex;refine⟨m,?_⟩;have hlt:∀x,x<n->m x<n:=fun x hx=>(iB.1 (hm x hx).1).1
 have hle:∀x,x<n->m x<=x:=fun x hx=>by
  obtain⟨k,hk⟩:=h.sym hx (hm x hx).2;have:=(iB.1 (hm x hx).1).2 k;omega
 have hiff:∀x y,x<n->y<n->(∃k,it f k x=y)->m x=m y:=fun x y hx hy hxy=>by
  obtain⟨k1,e1⟩:=h.sym hx (hm x hx).2;obtain⟨k2,e2⟩:=(hm y hy).2;obtain⟨k,e⟩:=hxy;refine DW h.lt h.inj (hm x hx).1 (hm y hy).1 (a:=k2+(k+k1)) (b:=0) ?_;rw[dU,dU,e1,e,e2];rfl
 refine⟨⟨hle,fun x hx=> ?_⟩,fun x y hx hy=>⟨fun e=> ?_,hiff x y hx hy⟩⟩
 .exact(hiff x (m x) hx (hlt x hx) (hm x hx).2).symm
 .obtain⟨k1,e1⟩:=(hm x hx).2
  obtain⟨k2,e2⟩:=h.sym hy (hm y hy).2;refine⟨k2+k1,?_⟩;rw[dU,e1,e,e2]
theorem gH.unique {m':Nat->Nat} (h:gH n f m) (h':gH n f m') {x:Nat} (hx:x<n):m x=m' x:=by
 have a1:=h.norm.lt hx;have a2:=h'.norm.lt hx;have e1:m (m' x)=m x:=(h.iff _ _ a2 hx).2 ((h'.iff _ _ a2 hx).1 (h'.norm.idem x hx));have e2:m' (m x)=m' x:=(h'.iff _ _ a1 hx).2 ((h.iff _ _ a1 hx).1 (h.norm.idem x hx));have b1:=h.norm.le _ a2;have b2:=h'.norm.le _ a1;omega
theorem gH.step (h:gH n f m) (hp:jG n f) {x:Nat} (hx:x<n):m (f x)=m x:=((h.iff x (f x) hx (hp.lt x hx)).2 ⟨1,rfl⟩).symm
theorem gH.reach' (h:gH n f m) {x:Nat} (hx:x<n):∃k,it f k x=m x:=(h.iff _ _ hx (h.norm.lt hx)).1 (h.norm.idem x hx).symm
theorem vS {α:Type} {p:Nat->α} (hl:∀x,x<n->f x<n) (hp:∀x,x<n->p (f x)=p x):∀(k:Nat) {x:Nat},x<n->p (it f k x)=p x
 |0,_,_=>rfl
 |k+1,x,hx=>by
  show p (it f k (f x))=p x;rw[vS hl hp k (hl x hx),hp x hx]
theorem gH.keep {α:Type} {p:Nat->α} (h:gH n f m) (hl:jG n f) (hp:∀x,x<n->p (f x)=p x) {x:Nat} (hx:x<n):p (m x)=p x:=by
 obtain⟨k,e⟩:=h.reach' hx;rw[<-e,vS hl.lt hp k hx]
end
def swp (f:Nat->Nat) (a b:Nat):Nat->Nat:=fun x=>if x=a then f b else if x=b then f a else f x
theorem QB (f:Nat->Nat) (a b:Nat):swp (swp f a b) a b=f:=by
 funext x;unfold swp;by_cases h1:x=a
 .subst h1
  by_cases h2:b=x
  .subst h2;simp
  .simp[h2]
 .by_cases h2:x=b
  .subst h2;simp[h1]
  .simp[h1,h2]
theorem Fv (f:Nat->Nat) (a b:Nat):swp f a b a=f b:=by simp[swp]
theorem Fu (f:Nat->Nat) (a b:Nat):swp f a b b=f a:=by
 unfold swp;by_cases h:b=a
 .subst h;simp
 .simp[h]
theorem AD (f:Nat->Nat) {a b x:Nat} (h1:x≠a) (h2:x≠b):swp f a b x=f x:=by simp[swp,h1,h2]
section
variable {n:Nat} {f m:Nat->Nat} {a b:Nat}
theorem jG.swp (h:jG n f) (ha:a<n) (hb:b<n):jG n (swp f a b):=by
 refine⟨fun x hx=> ?_,fun x y hx hy e=> ?_⟩
 .unfold Fa.swp
  split
  .exact h.lt b hb
  .split
   .exact h.lt a ha
   .exact h.lt x hx
 .unfold Fa.swp at e
  have k1:=h.inj x y hx hy;have k2:=h.inj b y hb hy;have k3:=h.inj a y ha hy;have k4:=h.inj x a hx ha;have k5:=h.inj x b hx hb;have k6:=h.inj a b ha hb;have k7:=h.inj b a hb ha
  split at e<;>split at e<;>(try split at e)<;>(try split at e)<;>(first|omega|(have:=k1 e;omega)|(have:=k2 e;omega)|(have:=k3 e;omega)|(have:=k4 e;omega)|(have:=k5 e;omega)|(have:=k6 e;omega)|(have:=k7 e;omega))
theorem xD {P:Nat->Prop}:∀{k:Nat},P k->∃j,P j/\j<=k/\∀i,i<j->¬P i:=by
 intro k
 induction k using Nat.strongRecOn with
 |_ k ih=>
  intro hk;by_cases h:∃i,i<k/\P i
  .obtain⟨i,hi,hp⟩:=h
   obtain⟨j,h1,h2,h3⟩:=ih i hi hp;exact⟨j,h1,by omega,h3⟩
  .exact⟨k,hk,aad _,fun i hi hp=>h ⟨i,hi,hp⟩⟩
theorem Ek (h:jG n f) (ho:gH n f m) (ha:a<n) (hb:b<n) (hne:m a≠m b):gH n (swp f a b) (join m a b):=by
 have hq:=h.swp ha hb;have hJ:=fun {x y:Nat} (hx:x<n) (hy:y<n)=>jA ho.norm ha hb hne hx hy
 have key:∀x,x<n->join m a b (swp f a b x)=join m a b x:=fun x hx=>by
  have l1:=h.lt x hx;rw[hJ (hq.lt x hx) hx];by_cases e1:x=a
  .subst e1
   rw[Fv,ho.step h hb];exact .inr ⟨.inr rfl,.inl rfl⟩
  .by_cases e2:x=b
   .subst e2
    rw[Fu,ho.step h ha];exact .inr ⟨.inl rfl,.inr rfl⟩
   .rw[AD f e1 e2,ho.step h hx]
    exact .inl rfl
 have hab:∃k,it (swp f a b) k a=b:=by
  obtain⟨p0,Po,e0⟩:=Bz h.lt h.inj hb;obtain⟨p,⟨hp,e⟩,-,hmin⟩:=xD (P:=fun k=>0<k/\it f k b=b) ⟨Po,e0⟩;have way:∀j,1<=j->j<=p->it (swp f a b) j a=it f j b:=by
   intro j
   induction j with
   |zero=>intro h1;omega
   |succ j ih=>
    intro _ h2;by_cases hj:j=0
    .subst hj
     show swp f a b a=f b;exact Fv f a b
    .rw[jW,ih (by omega) (by omega),jW]
     refine AD f (fun e1=> ?_) (fun e1=>hmin j (by omega) ⟨by omega,e1⟩);exact hne ((ho.iff b a hb ha).2 ⟨j,e1⟩).symm
  exact⟨p,by rw[way p hp (aad _),e]⟩
 have tr:∀{x y z:Nat},(∃k,it (swp f a b) k x=y)->(∃k,it (swp f a b) k y=z)->∃k,it (swp f a b) k x=z:=by
  rintro x y z ⟨k,rfl⟩ ⟨j,rfl⟩;exact⟨j+k,dU _ _ _ _⟩
 have hba:=hq.sym ha hab;have one:∀x,x<n->∃k,it (swp f a b) k x=f x:=fun x hx=>by
  by_cases e1:x=a
  .subst e1
   refine tr hab ⟨1,?_⟩;exact Fu f x b
  .by_cases e2:x=b
   .subst e2
    refine tr hba ⟨1,?_⟩;exact Fv f a x
   .exact⟨1,AD f e1 e2⟩
 have all:∀(k:Nat) {x:Nat},x<n->∃j,it (swp f a b) j x=it f k x:=by
  intro k
  induction k with
  |zero=>intro x hx;exact⟨0,rfl⟩
  |succ k ih=>intro x hx;exact tr (one x hx) (ih (h.lt x hx))
 have all':∀{x y:Nat},x<n->y<n->m x=m y->∃j,it (swp f a b) j x=y:=fun {x y} hx hy e=>by
  obtain⟨k,rfl⟩:=(ho.iff x y hx hy).1 e;exact all k hx
 refine⟨ho.norm.join ha hb hne,fun x y hx hy=>⟨fun e=> ?_,?_⟩⟩
 .rcases(hJ hx hy).1 e with e|⟨e1,e2⟩
  .exact all' hx hy e
  .have w1:∃j,it (swp f a b) j x=a:=by
    rcases e1 with e1|e1
    .exact all' hx ha e1
    .exact tr (all' hx hb e1) hba
   have w2:∃j,it (swp f a b) j a=y:=by
    rcases e2 with e2|e2
    .exact all' ha hy e2.symm
    .exact tr hab (all' hb hy e2.symm)
   exact tr w1 w2
 .rintro⟨k,rfl⟩
  exact(vS hq.lt key k hx).symm
theorem K7 {m':Nat->Nat} (ho:gH n f m) (ha:a<n) (hb:b<n) (hab:a≠b) (e:m a=m b) (hg:gH n (swp f a b) m'):m' a≠m' b:=by
 intro hc;obtain⟨k,hk⟩:=(hg.iff b a hb ha).1 hc.symm;obtain⟨j0,hj0⟩:=(ho.iff a b ha hb).1 e;obtain⟨j,⟨Me,hj⟩,-,hmin⟩:=xD (P:=fun k=>0<k/\it f k a=b) ⟨by
  rcases Nat.eq_zero_or_pos j0 with h|h
  .subst h;exact absurd hj0 hab
  .exact h,hj0⟩
 have hna:∀i,1<=i->i<=j->it f i a≠a:=fun i h1 h2 hc=>by
  by_cases e1:i=j
  .rw[e1,hj] at hc
   exact hab hc.symm
  .refine hmin (j-i) (by omega) ⟨by omega,?_⟩
   have:it f j a=it f (j-i) (it f i a):=by rw[<-dU];congr 1;omega
   rw[hc] at this;rw[<-this,hj]
 have inv:∀(k:Nat),∃i,1<=i/\i<=j/\it (swp f a b) k b=it f i a:=by
  intro k
  induction k with
  |zero=>exact⟨j,Me,aad _,hj.symm⟩
  |succ k ih=>
   obtain⟨i,h1,h2,h3⟩:=ih;rw[jW,h3];by_cases e1:i=j
   .refine⟨1,aad _,Me,?_⟩
    rw[e1,hj,Fu];rfl
   .refine⟨i+1,by omega,by omega,?_⟩
    rw[jW];exact AD f (hna i h1 h2) (fun hc=>hmin i (by omega) ⟨by omega,hc⟩)
 obtain⟨i,h1,h2,h3⟩:=inv k;rw[hk] at h3;exact hna i h1 h2 h3.symm
end
def nf (n:Nat) (m:Nat->Nat) (p:Nat->Bool):Nat:=aA (fun i=>decide (m i=i)&&p i) n
theorem Bc (n:Nat) (m:Nat->Nat):nf n m (fun _=>true)=cnt n m:=by
 unfold nf cnt;exact bu n fun i _=>by simp
section
variable {n:Nat} {f m m':Nat->Nat} {a b:Nat} {p:Nat->Bool}
theorem ID (h:Norm n m) (ha:a<n) (hb:b<n) (hne:m a≠m b) (h1:p (m a)=p a) (h2:p (m b)=p b) (h3:p a=p b):nf n (join m a b) p+(if p a=true then 1 else 0)=nf n m p:=by
 obtain⟨lo,hi,k1,k2,k3,k4,hc,hj⟩:=fM h ha hb hne;have hpi:p hi=p a:=by
  rcases hc with ⟨_,e⟩|⟨_,e⟩
  .rw[e,h2,h3]
  .rw[e,h1]
 have e:=sj (p:=fun i=>decide (join m a b i=i)&&p i) (q:=fun i=>decide (i=hi)&&p i) (s:=fun i=>decide (m i=i)&&p i) n (fun i hi'=>by
  rw[hj];by_cases e:i=hi
  .subst e
   rw[k4,if_pos rfl];have:¬lo=i:=by omega
   simp[this]
  .by_cases e2:m i=hi
   .rw[if_pos e2,e2]
    have h5:¬hi=i:=fun h=>e h.symm
    have h6:¬lo=i:=fun h=>by rw[<-h,k3] at e2;omega
    simp[h5,h6,e]
   .rw[if_neg e2]
    simp[e])
 have e2:aA (fun i=>decide (i=hi)&&p i) n=if p a=true then 1 else 0:=by
  by_cases hp:p a=true
  .rw[if_pos hp]
   have:=bu (p:=fun i=>decide (i=hi)&&p i) (q:=fun i=>decide (i=hi)) n (fun i _=>by
    by_cases e:i=hi
    .subst e;simp[hpi,hp]
    .simp[e])
   rw[this,eE,if_pos k2]
  .rw[if_neg hp]
   have:=bu (p:=fun i=>decide (i=hi)&&p i) (q:=fun i=>decide (i=n)) n (fun i hin=>by
    have:¬i=n:=by omega
    by_cases e:i=hi
    .subst e;simp[hpi,hp,this]
    .simp[e,this])
   rw[this,eE,if_neg (by omega)]
 unfold nf;omega
theorem Nv (hf:jG n f) (h:gH n f m) (h':gH n (swp f a b) m') (ha:a<n) (hb:b<n) (hab:a≠b) (hp:∀x,x<n->p (f x)=p x) (mW:p a=p b):
 (m a≠m b/\nf n m' p+(if p a=true then 1 else 0)=nf n m p)\/(m a=m b/\nf n m p+(if p a=true then 1 else 0)=nf n m' p):=by
 have cg:∀{u v:Nat->Nat},(∀x,x<n->u x=v x)->nf n u p=nf n v p:=fun e=>by
  unfold nf;exact bu n fun i hi=>by rw[e i hi]
 have hq:=hf.swp ha hb;have hp':∀x,x<n->p (swp f a b x)=p x:=fun x hx=>by
  by_cases e1:x=a
  .subst e1;rw[Fv,hp b hb,mW]
  .by_cases e2:x=b
   .subst e2;rw[Fu,hp a ha,mW]
   .rw[AD f e1 e2,hp x hx]
 by_cases e:m a=m b
 .refine .inr ⟨e,?_⟩
  have hne:=K7 h ha hb hab e h';have hj:=Ek hq h' ha hb hne;rw[QB] at hj;rw[cg (fun x hx=>h.unique hj hx)];exact ID h'.norm ha hb hne (h'.keep hq hp' ha) (h'.keep hq hp' hb) mW
 .refine .inl ⟨e,?_⟩
  have hj:=Ek hf h ha hb e;rw[cg (fun x hx=>h'.unique hj hx)];exact ID h.norm ha hb e (h.keep hf hp ha) (h.keep hf hp hb) mW
end
end Fa
end
section
namespace Fa
open Pl Co
def xl (f:Nat->Nat) (k:Nat):Nat->Nat:=fun h=>if h<2*k then f (Cs.twin h) else f h
theorem xj (f:Nat->Nat):xl f 0=f:=by
 funext h;unfold xl;rw[if_neg (by omega)]
theorem lp (k:Nat):Cs.twin (2*k)=2*k+1:=by unfold Cs.twin;rw[if_pos (by omega)]
theorem rE (k:Nat):Cs.twin (2*k+1)=2*k:=by unfold Cs.twin;rw[if_neg (by omega)];omega
theorem lg (h:Nat):Cs.twin (Cs.twin h)=h:=by
 unfold Cs.twin
 split<;>split<;>omega
theorem xk (f:Nat->Nat) (k:Nat):xl f (k+1)=swp (xl f k) (2*k) (2*k+1):=by
 funext h;show(if h<2*(k+1) then f (Cs.twin h) else f h)=if h=2*k then (if 2*k+1<2*k then f (Cs.twin (2*k+1)) else f (2*k+1)) else if h=2*k+1 then (if 2*k<2*k then f (Cs.twin (2*k)) else f (2*k)) else (if h<2*k then f (Cs.twin h) else f h)
 by_cases h1:h=2*k
 .subst h1
  rw[if_pos (by omega),if_pos rfl,if_neg (by omega),lp]
 .by_cases h2:h=2*k+1
  .subst h2
   rw[if_pos (by omega),if_neg (by omega),if_pos rfl,if_neg (by omega),rE]
  .rw[if_neg h1,if_neg h2]
   by_cases h3:h<2*k
   .rw[if_pos (by omega),if_pos h3]
   .rw[if_neg (by omega),if_neg h3]
section
variable {M:Nat} {f:Nat->Nat}
theorem vI (h:jG (2*M) f):∀k,k<=M->jG (2*M) (xl f k)
 |0,_=>by rw[xj];exact h
 |k+1,hk=>by
  rw[xk];exact(vI h k (by omega)).swp (by omega) (by omega)
theorem OP {p:Nat->Bool} (h1:∀x,x<2*M->p (f x)=p x) (h2:∀x,x<2*M->p (Cs.twin x)=p x) (k:Nat) {x:Nat} (hx:x<2*M):p (xl f k x)=p x:=by
 unfold xl
 split
 .rw[h1 _ (Cs.eM hx),h2 x hx]
 .exact h1 x hx
theorem Nq (hf:jG (2*M) f) {p:Nat->Bool} (h1:∀x,x<2*M->p (f x)=p x) (h2:∀x,x<2*M->p (Cs.twin x)=p x) {m0:Nat->Nat} (h0:gH (2*M) f m0):
 ∀(k:Nat),k<=M->∀m,gH (2*M) (xl f k) m->(nf (2*M) m p+nf (2*M) m0 p+aA (fun e=>p (2*e)) k)%2=0
 |0,_,m,hm=>by
  rw[xj] at hm;have:nf (2*M) m p=nf (2*M) m0 p:=bu _ fun i hi=>by rw[hm.unique h0 hi]
  unfold aA;omega
 |k+1,hk,m,hm=>by
  have hq:=vI hf k (by omega);obtain⟨m1,hm1⟩:=mD hq;have ih:=Nq hf h1 h2 h0 k (by omega) m1 hm1;rw[xk] at hm;have e2:p (2*k)=p (2*k+1):=by
   have:=h2 (2*k) (by omega);rw[lp] at this;exact this.symm
  have hs:=Nv (p:=p) hq hm1 hm (by omega) (by omega) (by omega) (fun x hx=>OP h1 h2 k hx) e2;have e3:aA (fun e=>p (2*e)) (k+1)=aA (fun e=>p (2*e)) k+if p (2*k)=true then 1 else 0:=rfl
  rw[e3];rcases hs with ⟨_,hs⟩|⟨_,hs⟩<;>split at hs<;>rename_i hc<;>simp only[hc,if_true,if_false,acX]<;>omega
end
section
variable {N:Nat} {es:List (Int×Int)} {f:Nat->Nat}
def G (N:Nat) (es:List (Int×Int)) (k:Nat):Nat->Nat:=joins N (es.take k) (fun x=>x)
theorem VB {k:Nat} {p:Int×Int} (h:es[k]? =some p):G N es (k+1)=fN N (G N es k) p.1 p.2:=by
 unfold G;have:es.take (k+1)=es.take k++[p]:=by
  rw[ab5,h];rfl
 rw[this,yM]
theorem TU (k:Nat):Gen N (es.take k) (G N es k):=uz N _
theorem VC (k:Nat):Norm N (G N es k):=(TU k).norm
theorem lU (hv:Si.Val N es) {h:Nat} (hh:h<2*es.length):Cs.fr es h<N:=by
 have hl:h/2<es.length:=by omega
 have he:es[h/2]? =some es[h/2]:=by simp[hl]
 have ok:=hv.each _ _ he;unfold Si.ok at ok;unfold Cs.fr;rw[aao,he]
 split<;>simp<;>omega
theorem Oh (hv:Si.Val N es) {k h:Nat} (hk:k<=es.length) (hh:h<2*k):G N es k (Cs.fr es (Cs.twin h))=G N es k (Cs.fr es h):=by
 have hl:h/2<es.length:=by omega
 have he:es[h/2]? =some es[h/2]:=by simp[hl]
 have ok:=hv.each _ _ he;unfold Si.ok at ok;have hm:es[h/2]∈es.take k:=by
  refine aai (i:=h/2) ?_;rw[aci,if_pos (by omega),he]
 have:=(TU (N:=N) (es:=es) k).meets _ hm (by unfold isIn;omega) (by unfold isIn;omega);rcases abF h with h2|h2
 .have e:h=2*(h/2):=by omega
  rw[e,lp,(Cs.cY he).1,(Cs.gw he).1];exact this.symm
 .have e:h=2*(h/2)+1:=by omega
  rw[e,rE,(Cs.cY he).1,(Cs.gw he).1];exact this
theorem chain (hv:Si.Val N es) (hf:jG (2*es.length) f) (hfr:∀x,x<2*es.length->Cs.fr es (f x)=Cs.fr es x) {m0:Nat->Nat} (h0:gH (2*es.length) f m0) {i:Nat} (hi:cnt (2*es.length) m0+i=N):
 ∀(k:Nat),k<=es.length->∀m,gH (2*es.length) (xl f k) m->∃g,cnt (2*es.length) m+i+N+2*g=2*cnt N (G N es k)+k/\g+N<=k+cnt N (G N es k)
 |0,_,m,hm=>by
  rw[xj] at hm;have:cnt (2*es.length) m=cnt (2*es.length) m0:=bu _ fun i hi=>by rw[hm.unique h0 hi]
  have e:cnt N (G N es 0)=N:=by
   unfold G;simp only[List.take_zero,joins,List.foldl_nil];exact NZ N
  exact⟨0,by omega,by omega⟩
 |k+1,hk,m,hm=>by
  have hq:=vI hf k (by omega);obtain⟨m1,hm1⟩:=mD hq;obtain⟨g,ih1,ih2⟩:=chain hv hf hfr h0 hi k (by omega) m1 hm1;rw[xk] at hm;have hs:=Nv (p:=fun _=>true) hq hm1 hm (by omega) (by omega) (by omega) (fun x hx=>rfl) rfl;rw[Bc,Bc,if_pos rfl] at hs;have he:es[k]? =some es[k]:=by simp
  have ok:=hv.each _ _ he;unfold Si.ok at ok;have ia:isIn N es[k].1:=by unfold isIn;omega
  have ib:isIn N es[k].2:=by unfold isIn;omega
  rw[VB he];unfold Co.fN;by_cases hc:G N es k es[k].1.toNat=G N es k es[k].2.toNat
  .rw[if_neg (by rw[lX];rintro⟨_,_,h⟩;exact h hc)]
   rcases hs with ⟨_,hs⟩|⟨_,hs⟩
   .exact⟨g+1,by omega,by omega⟩
   .exact⟨g,by omega,by omega⟩
  .rw[if_pos (lX.2 ⟨ia,ib,hc⟩)]
   have hj:=E1 (VC (N:=N) (es:=es) k) (fO ia) (fO ib) hc;have hne:m1 (2*k)≠m1 (2*k+1):=fun e=>by
    obtain⟨j,hj⟩:=(hm1.iff (2*k) (2*k+1) (by omega) (by omega)).1 e;have:=vS (p:=fun h=>G N es k (Cs.fr es h)) hq.lt (fun x hx=>by
     show G N es k (Cs.fr es (xl f k x))=G N es k (Cs.fr es x);unfold xl
     split
     .rename_i hx2
      rw[hfr _ (Cs.eM hx),Oh hv (by omega) hx2]
     .rw[hfr x hx]) j (x:=2*k) (by omega)
    rw[hj] at this;simp only[(Cs.cY he).1,(Cs.gw he).1] at this;exact hc this.symm
   rcases hs with ⟨_,hs⟩|⟨hc2,_⟩
   .exact⟨g,by omega,by omega⟩
   .exact absurd hc2 hne
end
end Fa
end
section
open Go.RowKit Go.Sort
def Co.met (es:List (Int×Int)) (v:Nat):Bool:=es.any fun e=>e.1==(v:Int)||e.2==(v:Int)
theorem Co.OX (es:List (Int×Int)) (p:Int×Int) (v:Nat):Co.met (es++[p]) v=(Co.met es v||(p.1==(v:Int)||p.2==(v:Int))):=by simp[Co.met]
end
section
namespace Ro
theorem gN {es:List (Int×Int)} {v j k:Nat}:j∈Cs.out es v k↔j<k/\Cs.fr es j=v:=by
 constructor
 .intro h
  obtain⟨i,hi⟩:=ad9.1 h;have:=Cs.oB hi;exact⟨this.1,this.2.1⟩
 .rintro⟨h,hv⟩
  exact aai (Cs.Nr h hv)
section
variable {es:List (Int×Int)} {v:Nat} {l:List Int}
theorem pE.sub (h:pE es v l):l⊆(Cs.out es v (2*es.length)).map (fun j:Nat=>(j:Int)):=by
 intro x hx;obtain⟨j,rfl,hj,hf⟩:=rR (h.lv x hx);exact abP.2 ⟨j,gN.2 ⟨hj,hf⟩,rfl⟩
theorem pE.len (h:pE es v l):l.length=gG es v:=by
 have h1:=h.once.length_le_of_subset h.sub;rw[aaE] at h1;have h2:=h.all;unfold gG at h2 ⊢;omega
theorem pE.mem (h:pE es v l) {j:Nat} (hj:j<2*es.length) (hf:Cs.fr es j=v):(j:Int)∈l:=by
 refine aes fun hn=> ?_
 have hN:((j:Int)::l).Nodup:=aef.2 ⟨hn,h.once⟩;have h1:=hN.length_le_of_subset (l₂:=(Cs.out es v (2*es.length)).map (fun j:Nat=>(j:Int))) (by
  intro x hx;rcases aaU.1 hx with rfl|hx
  .exact abP.2 ⟨j,gN.2 ⟨hj,hf⟩,rfl⟩
  .exact h.sub hx)
 rw[aaE,abl,h.len] at h1;unfold gG at h1;omega
end
theorem EG {l:List Int} (h:l.Nodup) {i j:Nat} {x:Int} (hi:l[i]? =some x) (hj:l[j]? =some x):i=j:=by
 obtain⟨h1,rfl⟩:=aah.1 hi;obtain⟨h2,e⟩:=aah.1 hj;rcases ab3 i j with c|c|c
 .exact absurd e.symm (abo.1 h i j h1 h2 c)
 .exact c
 .exact absurd e (abo.1 h j i h2 h1 c)
theorem oD {α:Type} {l:List α} {i:Nat} {x:α} (h:l[i]? =some x):i<l.length:=(aah.1 h).1
theorem Cf {l:List Int} {i:Nat} {x:Int} (h:l[i]? =some x):l.getD i 0=x:=by simp[List.getD,h]
theorem iU {l:List Int} {i:Nat} (h:i<l.length):l[i]? =some (l.getD i 0):=by simp[List.getD,h]
theorem AU {l:List Int} {j:Nat}:∀{k:Nat} {acc:List Int},k<=l.length->(∀i,i<k->(l.getD i 0).toNat≠j)->(row l k acc)[j]? =acc[j]?
 |0,_,_,_=>rfl
 |k+1,acc,hk,h=>by
  rw[row,adv (h k (by omega))];exact AU (by omega) fun i hi=>h i (by omega)
theorem Nk {l:List Int} (hN:l.Nodup) (h0:∀x∈l,0<=x) {i:Nat}:∀{k:Nat} {acc:List Int},k<=l.length->i<k->(l.getD i 0).toNat<acc.length->(row l k acc)[(l.getD i 0).toNat]? =some (l.getD ((i+1)%l.length) 0)
 |0,_,_,h,_=>by omega
 |k+1,acc,hk,hi,hb=>by
  rw[row];by_cases e:i=k
  .subst e
   rw[List.getElem?_set_self (by rw[qq];exact hb)]
  .have hne:(l.getD k 0).toNat≠(l.getD i 0).toNat:=by
    intro hc;have a1:=iU (l:=l) (i:=i) (by omega);have a2:=iU (l:=l) (i:=k) (by omega);have b1:=h0 _ (aai a1);have b2:=h0 _ (aai a2);have hc2:l.getD k 0=l.getD i 0:=by omega
    rw[hc2] at a2;exact e (EG hN a1 a2)
   rw[adv hne];exact Nk hN h0 (by omega) (by omega) hb
section
variable {n:Int} {es:List (Int×Int)} {ls:List (List Int)}
theorem jc.Ur (h:jc n es ls) {v:Nat} {l:List Int} (hl:ls[v]? =some l):∀x∈l,0<=x:=fun x hx=>by
 obtain⟨j,rfl,-,-⟩:=rR ((h.each v l hl).lv x hx);omega
theorem QW (h:jc n es ls) {v i:Nat} {l:List Int} (hl:ls[v]? =some l) (hi:i<l.length):∀{k:Nat} {acc:List Int},acc.length=2*es.length->k<=ls.length->v<k->(nx ls k acc)[(l.getD i 0).toNat]? =some (l.getD ((i+1)%l.length) 0)
 |0,_,_,_,h=>by omega
 |k+1,acc,ha,hk,hv=>by
  obtain⟨j,hj,R1,hjf⟩:=h.half hl (iU hi);rw[nx];by_cases e:v=k
  .subst e
   have e2:ls.getD v []=l:=by simp[List.getD,hl]
   rw[e2];exact Nk (h.each v l hl).once (h.Ur hl) (aad _) hi (by rw[vM,ha,hj];simpa using R1)
  .have hk1:k<ls.length:=by omega
   have hlk:ls[k]? =some (ls.getD k []):=by simp[List.getD,hk1]
   rw[AU (aad _) ?_]
   .exact QW h hl hi ha (by omega) (by omega)
   .intro i' hi' hc
    obtain⟨j',hj',-,agT⟩:=h.half hlk (iU hi');rw[hj,hj'] at hc;have:j'=j:=by simpa using hc
    subst this;omega
theorem jc.next (h:jc n es ls) {v i:Nat} {l:List Int} {x:Int} (hl:ls[v]? =some l) (hx:l[i]? =some x):(jy es ls)[x.toNat]? =some (l.getD ((i+1)%l.length) 0):=by
 have hi:=oD hx;have hv:=oD hl;have:=QW h hl hi (k:=ls.length) (acc:=List.replicate (2*es.length) 0) (by simp) (aad _) hv;rw[Cf hx] at this;exact this
theorem jc.place (h:jc n es ls) {j:Nat} (hj:j<2*es.length) (hf:(Cs.fr es j:Int)<n):∃(l:List Int) (i:Nat),ls[Cs.fr es j]? =some l/\l[i]? =some (j:Int)/\l.length=gG es (Cs.fr es j):=by
 have hlt:Cs.fr es j<ls.length:=by have:=h.len;omega
 have hl:ls[Cs.fr es j]? =some ls[Cs.fr es j]:=by simp[hlt]
 obtain⟨i,hi⟩:=ad9.1 ((h.each _ _ hl).mem hj rfl);exact⟨_,i,hl,hi,(h.each _ _ hl).len⟩
theorem jc.Us (h:jc n es ls) {j:Nat} (hj:j<2*es.length) (hf:(Cs.fr es j:Int)<n):∃t:Nat,(jy es ls)[j]? =some (t:Int)/\t<2*es.length/\Cs.fr es t=Cs.fr es j:=by
 obtain⟨l,i,hl,hi,-⟩:=h.place hj hf;have h1:=h.next hl hi
 have hil:=oD hi;obtain⟨t,ht,XA,XB⟩:=h.half hl (iU (i:=(i+1)%l.length) (acV _ (by omega)));rw[ht] at h1;exact⟨t,by simpa using h1,XA,XB⟩
theorem Q2 {a b d:Nat} (ha:a<d) (hb:b<d) (h:(a+1)%d=(b+1)%d):a=b:=by
 rcases abX (a+1) d with h1|h1<;>rcases abX (b+1) d with h2|h2
 .rw[abt h1,abt h2] at h
  omega
 .have:b+1=d:=by omega
  rw[abt h1,this,Nat.mod_self] at h;omega
 .have:a+1=d:=by omega
  rw[abt h2,this,Nat.mod_self] at h;omega
 .omega
theorem jc.inj (h:jc n es ls) (hfr:∀j,j<2*es.length->(Cs.fr es j:Int)<n) {a b:Nat} {t:Int} (ha:(jy es ls)[a]? =some t) (hb:(jy es ls)[b]? =some t):a=b:=by
 have hal:a<2*es.length:=by have:=oD ha;rwa[Bf] at this
 have hbl:b<2*es.length:=by have:=oD hb;rwa[Bf] at this
 obtain⟨l,i,hl,hi,-⟩:=h.place hal (hfr a hal);obtain⟨l',i',hl',hi',-⟩:=h.place hbl (hfr b hbl);have h1:=h.next hl hi
 have h2:=h.next hl' hi'
 simp only[abz] at h1 h2;have e1:t=l.getD ((i+1)%l.length) 0:=by rw[ha] at h1;exact aaG h1
 have e2:t=l'.getD ((i'+1)%l'.length) 0:=by rw[hb] at h2;exact aaG h2
 have hil:=oD hi;have R3:=oD hi';have a1:=iU (l:=l) (i:=(i+1)%l.length) (acV _ (by omega));have a2:=iU (l:=l') (i:=(i'+1)%l'.length) (acV _ (by omega));rw[<-e1] at a1;rw[<-e2] at a2;obtain⟨u,hu,-,qH⟩:=h.half hl a1;obtain⟨u',uq,-,hf2⟩:=h.half hl' a2;have huu:u=u':=by omega
 subst huu;have hff:Cs.fr es a=Cs.fr es b:=by omega
 rw[<-hff,hl] at hl';cases hl';have:=Q2 hil R3 (EG (h.each _ _ hl).once a1 a2);subst this;rw[hi] at hi';have:=aaG hi';omega
theorem jc.step (h:jc n es ls) {v i s:Nat} {l:List Int} (hl:ls[v]? =some l) (hi:i<l.length):∃t t':Nat,l[(i+s)%l.length]? =some (t:Int)/\l[(i+(s+1))%l.length]? =some (t':Int)/\t<2*es.length/\Cs.fr es t=v/\(jy es ls)[t]? =some (t':Int):=by
 have a1:=iU (l:=l) (i:=(i+s)%l.length) (acV _ (by omega));have a2:=iU (l:=l) (i:=(i+(s+1))%l.length) (acV _ (by omega));obtain⟨t,ht,XA,XB⟩:=h.half hl a1;obtain⟨t',ht',-,-⟩:=h.half hl a2;have h1:=h.next hl a1
 rw[ht] at a1 h1;rw[ht'] at a2;refine⟨t,t',a1,a2,XA,XB,?_⟩;have e:((i+s)%l.length+1)%l.length=(i+(s+1))%l.length:=by
  rw[aeE,adx]
 rw[e,Cf a2] at h1;simpa using h1
end
end Ro
end
section
namespace Fa
open Pl Co
theorem dx (p:Nat->Bool):∀n,aA p n=((List.range n).filter p).length
 |0=>rfl
 |n+1=>by
  rw[acK,adQ,aar,<-dx p n];show aA p n+(if p n=true then 1 else 0)=_;by_cases h:p n=true
  .simp[h]
  .simp[h]
theorem Cv {p q:Nat->Bool} {f:Nat->Nat} {n m:Nat} (hm:∀a,a<n->p a=true->f a<m/\q (f a)=true) (hi:∀a b,a<n->b<n->p a=true->p b=true->f a=f b->a=b):aA p n<=aA q m:=by
 rw[dx,dx];have h1:((List.range n).filter p).length=(((List.range n).filter p).map f).length:=by rw[aaE]
 rw[h1];refine xy ?_ (fun x hx=> ?_)
 .unfold List.Nodup
  rw[adp];have hn:((List.range n).filter p).Nodup:=aeh _ aeA;refine adR ?_ hn;intro a b ha hb hne e;rw[adb,aaJ] at ha hb;exact hne (hi a b ha.1 hb.1 ha.2 hb.2 e)
 .obtain⟨a,ha,rfl⟩:=abP.1 hx
  rw[adb,aaJ] at ha;rw[adb,aaJ];exact hm a ha.1 ha.2
theorem Cu (p:Nat->Bool):∀n,aA p n+aA (fun v=> !p v) n=n
 |0=>rfl
 |n+1=>by
  have:=Cu p n;show aA p n+(if p n=true then 1 else 0)+(aA (fun v=> !p v) n+(if (!p n)=true then 1 else 0))=n+1;by_cases h:p n=true
  .simp[h];omega
  .simp[h];omega
def sg (es:List (Int×Int)) (ls:List (List Int)) (h:Nat):Nat:=((Ro.jy es ls).getD h 0).toNat
def ph (es:List (Int×Int)) (ls:List (List Int)):Nat->Nat:=xl (sg es ls) es.length
theorem Xe {es:List (Int×Int)} {ls:List (List Int)} {h:Nat} (hh:h<2*es.length):ph es ls h=sg es ls (Cs.twin h):=by
 unfold ph xl;rw[if_pos hh]
section
variable {N:Nat} {es:List (Int×Int)} {ls:List (List Int)}
theorem jI (h:Ro.jc N es ls):Si.Val N es:=Si.aK.1 h.val
theorem qj (h:Ro.jc N es ls) {j:Nat} (hj:j<2*es.length):(Ro.jy es ls)[j]? =some (sg es ls j:Int)/\sg es ls j<2*es.length/\Cs.fr es (sg es ls j)=Cs.fr es j:=by
 obtain⟨t,ht,h1,h2⟩:=h.Us hj (by have:=lU (jI h) hj;omega);have:sg es ls j=t:=by
  unfold sg;rw[aao,ht];rfl
 rw[this];exact⟨ht,h1,h2⟩
theorem rG (h:Ro.jc N es ls):jG (2*es.length) (sg es ls):=by
 refine⟨fun x hx=>(qj h hx).2.1,fun x y hx hy e=> ?_⟩;have h1:=(qj h hx).1;have h2:=(qj h hy).1;rw[<-e] at h2;exact h.inj (fun j hj=>by have:=lU (jI h) hj;omega) h1 h2
theorem vJ (h:Ro.jc N es ls):jG (2*es.length) (ph es ls):=vI (rG h) _ (aad _)
theorem Ow (h:Ro.jc N es ls) {x y:Nat} (hx:x<2*es.length) (hy:y<2*es.length) (e:Cs.fr es x=Cs.fr es y):∃k,it (sg es ls) k x=y:=by
 obtain⟨l,i,hl,hi,-⟩:=h.place hx (by have:=lU (jI h) hx;omega);obtain⟨l',i',hl',hi',-⟩:=h.place hy (by have:=lU (jI h) hy;omega);rw[<-e,hl] at hl';cases hl';have hil:=Ro.oD hi;have R3:=Ro.oD hi';have way:∀s,∃t:Nat,l[(i+s)%l.length]? =some (t:Int)/\it (sg es ls) s x=t:=by
  intro s
  induction s with
  |zero=>exact⟨x,by rw[abN,abt hil];exact hi,rfl⟩
  |succ s ih=>
   obtain⟨t0,Rs,hit⟩:=ih;obtain⟨t,t',h1,h2,h3,-,h5⟩:=h.step (s:=s) hl hil;rw[Rs] at h1;have:t0=t:=by have:=aaG h1;omega
   subst this;refine⟨t',h2,?_⟩;rw[jW,hit];have:=(qj h h3).1;rw[h5] at this;have:=aaG this;omega
 obtain⟨t,h1,h2⟩:=way (i'+l.length-i);refine⟨i'+l.length-i,?_⟩;have e2:(i+(i'+l.length-i))%l.length=i':=by
  have:i+(i'+l.length-i)=i'+l.length:=by omega
  rw[this,Nat.add_mod_right,abt R3]
 rw[e2,hi'] at h1;have:=aaG h1;rw[h2];omega
theorem F5 (hv:Si.Val N es) {h:Nat} (hh:h<2*es.length):met es (Cs.fr es h)=true:=by
 have hl:h/2<es.length:=by omega
 have he:es[h/2]? =some es[h/2]:=by simp[hl]
 have ok:=hv.each _ _ he;unfold Si.ok at ok;unfold met;rw[ab1];refine⟨es[h/2],acG hl,?_⟩;unfold Cs.fr;rw[aao,he];simp only[aey,abR,beq_iff_eq]
 split
 .left;omega
 .right;omega
theorem JE {v:Nat} (hm:met es v=true):∃h,h<2*es.length/\Cs.fr es h=v:=by
 unfold met at hm;rw[ab1] at hm;obtain⟨p,hp,hc⟩:=hm;obtain⟨k,hk⟩:=ad9.1 hp;have hkl:=(aah.1 hk).1;simp only[abR,beq_iff_eq] at hc;rcases hc with hc|hc
 .exact⟨2*k,by omega,by rw[(Cs.cY hk).1];omega⟩
 .exact⟨2*k+1,by omega,by rw[(Cs.gw hk).1];omega⟩
theorem Et (h:Ro.jc N es ls) {m0:Nat->Nat} (h0:gH (2*es.length) (sg es ls) m0) (q:Nat->Bool):nf (2*es.length) m0 (fun x=>q (Cs.fr es x))=aA (fun v=>met es v&&q v) N:=by
 have hv:=jI h;have hp:=rG h;have hk:∀x,x<2*es.length->Cs.fr es (m0 x)=Cs.fr es x:=fun x hx=>h0.keep (p:=Cs.fr es) hp (fun y hy=>(qj h hy).2.2) hx
 apply aee
 .refine Cv (f:=Cs.fr es) (fun a ha hpa=> ?_) (fun a b ha hb hpa qG e=> ?_)
  .simp only[aa2,decide_eq_true_eq] at hpa ⊢
   exact⟨lU hv ha,F5 hv ha,hpa.2⟩
  .simp only[aa2,decide_eq_true_eq] at hpa qG
   have:=(h0.iff a b ha hb).2 (Ow h ha hb e);omega
 .have hex:∀v,∃x,met es v=true->x<2*es.length/\Cs.fr es x=v:=fun v=>by
   by_cases hm:met es v=true
   .obtain⟨x,hx⟩:=JE hm
    exact⟨x,fun _=>hx⟩
   .exact⟨0,fun h=>absurd h hm⟩
  obtain⟨g,hg⟩:=Classical.axiomOfChoice hex;refine Cv (f:=fun v=>m0 (g v)) (fun a ha hpa=> ?_) (fun a b ha hb hpa qG e=> ?_)
  .simp only[aa2,decide_eq_true_eq] at hpa ⊢
   obtain⟨g1,g2⟩:=hg a hpa.1;refine⟨h0.norm.lt g1,h0.norm.idem _ g1,?_⟩;rw[hk _ g1,g2];exact hpa.2
  .simp only[aa2] at hpa qG
   obtain⟨g1,g2⟩:=hg a hpa.1;obtain⟨k1,k2⟩:=hg b qG.1;have e1:=hk _ g1;have e2:=hk _ k1;have e:m0 (g a)=m0 (g b):=e;rw[e] at e1;omega
def kK (N:Nat) (es:List (Int×Int)):Nat:=aA (fun v=> !met es v) N
def cp (N:Nat) (es:List (Int×Int)):Nat->Nat:=joins N es (fun x=>x)
theorem Ah:Gen N es (cp N es):=uz N es
theorem TV:G N es es.length=cp N es:=by
 unfold G cp;rw[abW]
theorem YM (h:Ro.jc N es ls) {m:Nat->Nat} (hm:gH (2*es.length) (ph es ls) m):∃g,cnt (2*es.length) m+kK N es+N+2*g=2*cnt N (cp N es)+es.length/\g+N<=es.length+cnt N (cp N es):=by
 obtain⟨m0,h0⟩:=mD (rG h);have hc:=Et h h0 (fun _=>true);rw[Bc] at hc;have e1:aA (fun v=>met es v&&true) N=aA (met es) N:=bu N fun i _=>by simp
 have e2:=Cu (met es) N;have:=chain (jI h) (rG h) (fun x hx=>(qj h hx).2.2) h0 (i:=kK N es) (by unfold kK;omega) es.length (aad _) m hm;rw[TV] at this;exact this
theorem alone {v:Nat} (hm:met es v=false) {x:Nat} (hx:x<N):cp N es x=v↔x=v:=by
 have:=(Ah (N:=N) (es:=es)).least (fun y=>if y=v then 1 else 0) (fun j hj h1 h2=>by
  have hn:¬(j.1=(v:Int)\/j.2=(v:Int)):=fun hc=>by
   have:met es v=true:=by
    unfold met;rw[ab1];exact⟨j,hj,by simpa using hc⟩
   rw[hm] at this;cases this
  unfold isIn at h1 h2;show(if j.1.toNat=v then 1 else 0)=if j.2.toNat=v then 1 else 0
  rw[if_neg (by omega),if_neg (by omega)]) x hx
 have this:(if cp N es x=v then 1 else 0)=if x=v then 1 else 0:=this
 constructor
 .intro e
  rw[if_pos e] at this
  split at this
  .assumption
  .cases this
 .intro e
  rw[if_pos e] at this
  split at this
  .assumption
  .cases this
theorem Ct (hv:Si.Val N es) {x:Nat} (hx:x<2*es.length):cp N es (Cs.fr es (Cs.twin x))=cp N es (Cs.fr es x):=by
 have:=Oh hv (aad _) hx;rwa[TV] at this
def nV (N:Nat) (es:List (Int×Int)) (r:Nat):Nat:=aA (fun v=>decide (cp N es v=r)) N
def nE (N:Nat) (es:List (Int×Int)) (r:Nat):Nat:=aA (fun e=>decide (cp N es (Cs.fr es (2*e))=r)) es.length
def nF (N:Nat) (es:List (Int×Int)) (m:Nat->Nat) (r:Nat):Nat:=nf (2*es.length) m (fun x=>decide (cp N es (Cs.fr es x)=r))
theorem MD (h:Ro.jc N es ls) {m:Nat->Nat} (hm:gH (2*es.length) (ph es ls) m) {r:Nat} (he:nE N es r≠0):(nV N es r+nE N es r+nF N es m r)%2=0:=by
 have hv:=jI h;obtain⟨m0,h0⟩:=mD (rG h);have hp:=Nq (rG h) (p:=fun x=>decide (cp N es (Cs.fr es x)=r)) (fun x hx=>by rw[(qj h hx).2.2]) (fun x hx=>by rw[Ct hv hx]) h0 es.length (aad _) m hm;have hc:=Et h h0 (fun v=>decide (cp N es v=r));have e1:aA (fun v=>met es v&&decide (cp N es v=r)) N=nV N es r:=by
  unfold nV;refine bu N fun v BA=> ?_
  by_cases e:cp N es v=r
  .have:met es v=true:=by
    cases XQ:met es v with
    |true=>rfl
    |false=>
     exfalso;have hvr:r=v:=by
      rw[<-e];exact(alone XQ BA).2 rfl
     apply he;unfold nE;have:=bu (p:=fun e=>decide (cp N es (Cs.fr es (2*e))=r)) (q:=fun e=>decide (e=es.length)) es.length (fun i hi=>by
      have h1:=lU hv (h:=2*i) (by omega);have h2:=F5 hv (h:=2*i) (by omega);have:¬cp N es (Cs.fr es (2*i))=r:=fun hc=>by
       rw[hvr] at hc;have:=(alone XQ h1).1 hc;rw[this,XQ] at h2;cases h2
      have h3:¬i=es.length:=by omega
      simp[this,h3])
     rw[this,eE,if_neg (by omega)]
   simp[this]
  .simp[e]
 unfold nF nE;rw[hc,e1] at hp;omega
theorem J9 (h:Ro.jc N es ls) {m:Nat->Nat} {r:Nat} (hr:r<N) (hc:cp N es r=r):(nE N es r=0↔met es r=false)/\(nE N es r=0->nV N es r=1/\nF N es m r=0):=by
 have hv:=jI h;have key:met es r=false->nE N es r=0/\nV N es r=1/\nF N es m r=0:=fun hmr=>by
  have hno:∀x,x<2*es.length->¬cp N es (Cs.fr es x)=r:=fun x hx hc=>by
   have h1:=(alone hmr (lU hv hx)).1 hc;have h2:=F5 hv hx;rw[h1,hmr] at h2;cases h2
  refine⟨?_,?_,?_⟩
  .unfold nE
   rw[bu (q:=fun e=>decide (e=es.length)) es.length (fun i hi=>by
    have:=hno (2*i) (by omega);have h3:¬i=es.length:=by omega
    simp[this,h3]),eE,if_neg (by omega)]
  .unfold nV
   rw[bu (q:=fun e=>decide (e=r)) N (fun i hi=>by
    have:=alone (N:=N) hmr hi;simp[this]),eE,if_pos hr]
  .unfold nF nf
   rw[bu (q:=fun e=>decide (e=2*es.length)) (2*es.length) (fun i hi=>by
    have:=hno i hi;have h3:¬i=2*es.length:=by omega
    simp[this,h3]),eE,if_neg (by omega)]
 refine⟨⟨fun h0=> ?_,fun hmr=>(key hmr).1⟩,fun h0=> ?_⟩
 all_goals
  cases hmr:met es r with
  |false=>first|rfl|exact(key hmr).2
  |true=>
   exfalso;obtain⟨x,hx,Xp⟩:=JE hmr;have hpos:0<nE N es r:=by
    unfold nE;refine uH (x:=x/2) _ (by omega) ?_;have h1:cp N es (Cs.fr es x)=r:=by rw[Xp];exact hc
    rcases abF x with h2|h2
    .have e:2*(x/2)=x:=by omega
     rw[e];simpa using h1
    .have e:2*(x/2)=Cs.twin x:=by unfold Cs.twin;rw[if_neg (by omega)];omega
     rw[e,Ct hv hx];simpa using h1
   omega
end
end Fa
end
end Go.Proofs.YtdbjpbjocmcpkaaGreatDoor
