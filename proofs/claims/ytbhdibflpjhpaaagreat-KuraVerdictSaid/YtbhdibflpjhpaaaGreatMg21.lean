import Derived.Test.YtbhdibflpjhpaaaGreatMg20
import Derived.Test.YtbhdibflpjhpaaaGreatMg07
set_option maxHeartbeats 4000000
set_option maxRecDepth 100000
namespace Go.Proofs.YtbhdibflpjhpaaaGreat
namespace Df
abbrev at_ (l:List Int) (i:Nat):Int:=l.getD i (-1)
def up (es:List (Int×Int)) (s:St) (v:Int):Int:=Cs.I3 es (at_ s.par v.toNat)
def wG (n:Nat) (es:List (Int×Int)) (s:St):Prop:=s.par.length=n/\s.ay.length=n/\s.ord.length=n/\s.aT.length=es.length
def jk (n:Nat) (s:St) (k:Nat):Prop:=∀i,i<k->(0<=at_ s.ord i/\at_ s.ord i<(n:Int))/\∀j,j<i->at_ s.ord j≠at_ s.ord i
def mq (es:List (Int×Int)) (s:St) (v:Nat):Prop:=
 (at_ s.par v= -1/\at_ s.ay v=0)\/∃h:Nat,h<2*es.length/\at_ s.par v=(h:Int)/\Cs.to es h=v/\at_ s.aT (h/2)=(h:Int)/\at_ s.ay v=IntKind.i64.wrap (at_ s.ay (Cs.fr es h)+1)
def EO (n:Nat) (es:List (Int×Int)) (s:St):Prop:=∀v,v<n->mq es s v
def leave (p i:Int):List Int->List Int->List Int×List Int
 |[],B=>([],B)
 |x::W,B=>if x=p then (x::W,B) else leave p i W (B.set x.toNat i)
def side (n:Nat) (es:List (Int×Int)) (s:St):Nat->Option (List Int×List Int)
 |0=>some ([],List.replicate n 0)
 |k+1=>(side n es s k).bind fun q=>
  if up es s (at_ s.ord k)≠-1/\(leave (up es s (at_ s.ord k)) k q.1 q.2).1=[] then none
  else some (at_ s.ord k::(leave (up es s (at_ s.ord k)) k q.1 q.2).1,(leave (up es s (at_ s.ord k)) k q.1 q.2).2)
def dS (es:List (Int×Int)) (s:St):List Int->Prop
 |[]=>True
 |v::W=>0<=v/\up es s v=W.headD (-1)/\dS es s W
def bP (es:List (Int×Int)) (s:St) (u v:Int):Prop:=∃W,dS es s (v::W)/\u∈v::W
theorem dS.unique {es:List (Int×Int)} {s:St}:∀{W W':List Int},dS es s W->dS es s W'->W.headD (-1)=W'.headD (-1)->W=W'
 |[],[],_,_,_=>rfl
 |[],v::W',_,h,e=>by
  have:=h.1;simp at e;omega
 |v::W,[],h,_,e=>by
  have:=h.1;simp at e;omega
 |v::W,v'::W',h,h',e=>by
  have e1:v=v':=by simpa using e
  subst e1;rw[dS.unique h.2.2 h'.2.2 (h.2.1.symm.trans h'.2.1)]
theorem bP.iff {es:List (Int×Int)} {s:St} {u v:Int} {W:List Int} (h:dS es s (v::W)):bP es s u v↔u∈v::W:=by
 constructor
 .rintro⟨W',h',hu⟩
  have:=dS.unique h h' rfl;injection this with _ e
  rw[e];exact hu
 .exact fun hu=>⟨W,h,hu⟩
theorem om {p i:Int}:∀(W B:List Int),∃X,W=X++(leave p i W B).1/\p∉X/\((leave p i W B).1=[]\/(leave p i W B).1.headD (-1)=p)
 |[],B=>⟨[],rfl,by simp,.inl rfl⟩
 |x::W,B=>by
  unfold leave;by_cases h:x=p
  .rw[if_pos h]
   exact⟨[],rfl,by simp,.inr (by simpa using h)⟩
  .rw[if_neg h]
   obtain⟨X,h1,h2,h3⟩:=om (p:=p) (i:=i) W (B.set x.toNat i);refine⟨x::X,by rw[acZ,<-h1],?_,h3⟩;simp only[aaj,not_or];exact⟨fun e=>h e.symm,h2⟩
theorem rN {p i:Int}:∀(W B:List Int),(leave p i W B).2.length=B.length
 |[],B=>rfl
 |x::W,B=>by
  unfold leave
  split
  .rfl
  .rw[rN W (B.set x.toNat i),acJ]
theorem nH {p i:Int} {u:Nat}:∀(W B:List Int),(∀x∈W,0<=x)->((u:Int)∉W\/(u:Int)∈(leave p i W B).1/\W.Nodup)->at_ (leave p i W B).2 u=at_ B u
 |[],B,_,_=>rfl
 |x::W,B,h0,hu=>by
  have e1:leave p i (x::W) B=if x=p then (x::W,B) else leave p i W (B.set x.toNat i):=by
   conv=>lhs;unfold leave
  rw[e1] at hu ⊢;by_cases hx:x=p
  .rw[if_pos hx]
  .rw[if_neg hx] at hu ⊢
   have hx0:=h0 x aai;have hne:x.toNat≠u:=by
    rcases hu with hu|⟨hu,hd⟩
    .intro e
     exact hu (by rw[<-e];simp[ael hx0])
    .intro e
     obtain⟨X,h1,_,_⟩:=om (p:=p) (i:=i) W (B.set x.toNat i);have:(u:Int)∈W:=by rw[h1];exact acd _ hu
     rw[<-e,ael hx0] at this;exact(acr.1 hd).1 this
   rw[nH W (B.set x.toNat i) (fun y hy=>h0 y (aak _ hy)) (by
    rcases hu with hu|⟨hu,hd⟩
    .exact .inl fun h=>hu (aak _ h)
    .exact .inr ⟨hu,(acr.1 hd).2⟩)]
   unfold at_;rw[aag,ab0,if_neg hne,<-aag]
theorem rM {p i:Int} {u:Nat}:∀(W B:List Int),(∀x∈W,0<=x)->W.Nodup->(u:Int)∈W->(u:Int)∉(leave p i W B).1->u<B.length->at_ (leave p i W B).2 u=i
 |[],B,_,_,hu,_,_=>by simp at hu
 |x::W,B,h0,hd,hu,hn,hl=>by
  have e1:leave p i (x::W) B=if x=p then (x::W,B) else leave p i W (B.set x.toNat i):=by
   conv=>lhs;unfold leave
  rw[e1] at hn ⊢;by_cases hx:x=p
  .rw[if_pos hx] at hn
   exact absurd hu hn
  .rw[if_neg hx] at hn ⊢
   have h0':=fun y hy=>h0 y (aak _ hy)
   by_cases e:(u:Int)=x
   .have hnW:(u:Int)∉W:=by rw[e];exact(acr.1 hd).1
    rw[nH W (B.set x.toNat i) h0' (.inl hnW)];have:x.toNat=u:=by omega
    unfold at_;rw[this,aag,ab0,if_pos rfl,if_pos hl];rfl
   .exact rM W (B.set x.toNat i) h0' (acr.1 hd).2 ((aaj.1 hu).resolve_left e) hn (by rw[acJ];exact hl)
end Df
section
namespace Df
theorem dS.tail {es:List (Int×Int)} {s:St}:∀{X Y:List Int},dS es s (X++Y)->dS es s Y
 |[],_,h=>h
 |_::_,_,h=>dS.tail h.2.2
theorem dS.pos {es:List (Int×Int)} {s:St}:∀{W:List Int},dS es s W->∀x∈W,0<=x
 |[],_,x,hx=>by simp at hx
 |v::W,h,x,hx=>by
  rcases aaj.1 hx with rfl|hx
  .exact h.1
  .exact dS.pos h.2.2 x hx
def mZ (n:Nat) (es:List (Int×Int)) (s:St) (j:Nat):List Int:=((side n es s (j+1)).getD ([],[])).1
structure Xl (n:Nat) (es:List (Int×Int)) (s:St) (k:Nat) (W B:List Int):Prop where
 way:dS es s W
 sub:∀u∈W,∃a,a<k/\at_ s.ord a=u
 nod:W.Nodup
 len:W.length<=k
 Qc:B.length=n
 ops:∀a,a<k->(at_ s.ord a∈W/\∀j,a<=j->j<k->at_ s.ord a∈mZ n es s j)\/
  (at_ s.ord a∉W/\∃c:Nat,a<c/\c<=k/\at_ B (at_ s.ord a).toNat=(c:Int)/\(∀j,a<=j->j<c->at_ s.ord a∈mZ n es s j)/\∀j,c<=j->j<k->at_ s.ord a∉mZ n es s j)
 Qt:∀j,j<k->(∀u∈mZ n es s j,∃a,a<=j/\at_ s.ord a=u)/\(∃Y,mZ n es s j=at_ s.ord j::Y)/\dS es s (mZ n es s j)/\(mZ n es s j).length<=j+1/\(mZ n es s j).Nodup
section
variable {n:Nat} {es:List (Int×Int)} {s:St}
theorem jk.ne (h:jk n s n) {a b:Nat} (ha:a<n) (hb:b<n) (hab:a≠b):at_ s.ord a≠at_ s.ord b:=by
 rcases adn a b with h1|h1
 .exact(h b hb).2 a h1
 .exact fun e=>(h a ha).2 b (by omega) e.symm
theorem uS (ho:jk n s n):∀k,k<=n->∀W B,side n es s k=some (W,B)->Xl n es s k W B:=by
 intro k
 induction k with
 |zero=>
  intro _ W B h;simp only[side,Option.some.injEq,Prod.mk.injEq] at h;obtain⟨rfl,rfl⟩:=h;exact⟨trivial,by simp,by simp,by simp,by simp,fun a ha=>by omega,fun j hj=>by omega⟩
 |succ k ih=>
  intro hk W B h;have hs:=h;unfold side at h;cases hq:side n es s k with
  |none=>rw[hq] at h;cases h
  |some q=>
   obtain⟨W0,B0⟩:=q;have inv:=ih (by omega) W0 B0 hq;rw[hq,adU] at h;dsimp only at h;obtain⟨v,hv⟩:∃v,at_ s.ord k=v:=⟨_,rfl⟩;obtain⟨p,hp⟩:∃p,up es s v=p:=⟨_,rfl⟩;rw[hv,hp] at h;obtain⟨X,hX,hpX,hhd⟩:=om (p:=p) (i:=(k:Int)) W0 B0;have Vo:=rN (p:=p) (i:=(k:Int)) W0 B0;obtain⟨L,hL⟩:∃L,leave p k W0 B0=L:=⟨_,rfl⟩;rw[hL] at h hX hhd Vo
   split at h
   .cases h
   rename_i hc
   simp only[Option.some.injEq,Prod.mk.injEq] at h;obtain⟨rfl,rfl⟩:=h;have hv0:=(ho k (by omega)).1;rw[hv] at hv0;have ID:∀u∈L.1,u∈W0:=fun u hu=>by rw[hX];exact acd _ hu
   have hne:∀a,a<k->at_ s.ord a≠v:=fun a ha=>by rw[<-hv];exact ho.ne (by omega) (by omega) (by omega)
   have hvL:v∉W0:=fun hm=>by
    obtain⟨a,ha,e⟩:=inv.sub v hm;exact hne a ha e
   have ac3:L.1.Nodup:=by
    have:=inv.nod;rw[hX] at this;exact(acy.1 this).2.1
   have DN:mZ n es s k=v::L.1:=by
    unfold mZ;rw[hs];rfl
   have acN:dS es s L.1:=by
    have:=inv.way;rw[hX] at this;exact this.tail
   have bD:dS es s (v::L.1):=by
    refine⟨hv0.1,?_,acN⟩;rw[hp];rcases hhd with h1|h1
    .rw[h1]
     simp only[List.headD_nil];by_cases e:p= -1
     .exact e
     .exact absurd ⟨e,h1⟩ hc
    .exact h1.symm
   have akO:L.1.length<=k:=by
    have:=inv.len;rw[hX,abZ] at this;omega
   have Qq:(v::L.1).Nodup:=acr.2 ⟨fun h=>hvL (ID v h),ac3⟩;refine⟨bD,?_,Qq,by simp;omega,by rw[Vo];exact inv.Qc,?_,?_⟩
   .intro u hu
    rcases aaj.1 hu with rfl|hu
    .exact⟨k,by omega,hv⟩
    .obtain⟨a,ha,e⟩:=inv.sub u (ID u hu)
     exact⟨a,by omega,e⟩
   .intro a ha
    by_cases hak:a=k
    .subst hak
     rw[hv];refine .inl ⟨aai,fun j h1 h2=> ?_⟩;obtain rfl:j=a:=by omega
     rw[DN];exact aai
    .have VT:a<k:=by omega
     obtain⟨u,hu⟩:∃u,at_ s.ord a=u:=⟨_,rfl⟩;have huv:=hne a VT;have YX:=(ho a (by omega)).1;have aaO:=inv.ops a VT;rw[hu] at huv YX aaO ⊢;have hun:(u.toNat:Int)=u:=ael YX.1;rcases aaO with ⟨h1,h2⟩|⟨h1,c,c1,c2,c3,c4,c5⟩
     .by_cases hin:u∈L.1
      .refine .inl ⟨aak _ hin,fun j j1 j2=> ?_⟩
       by_cases e:j=k
       .subst e;rw[DN];exact aak _ hin
       .exact h2 j j1 (by omega)
      .refine .inr ⟨fun h=>(aaj.1 h).elim huv hin,k,VT,by omega,?_,h2,fun j j1 j2=> ?_⟩
       .rw[<-hL]
        refine rM W0 B0 inv.way.pos inv.nod (by rw[hun];exact h1) (by rw[hun,hL];exact hin) (by rw[inv.Qc];omega)
       .obtain rfl:j=k:=by omega
        rw[DN];exact fun h=>(aaj.1 h).elim huv hin
     .have hin:u∉L.1:=fun h=>h1 (ID u h)
      refine .inr ⟨fun h=>(aaj.1 h).elim huv hin,c,c1,by omega,?_,c4,fun j j1 j2=> ?_⟩
      .rw[<-hL,nH W0 B0 inv.way.pos (.inl (by rw[hun];exact h1))]
       exact c3
      .by_cases e:j=k
       .subst e
        rw[DN];exact fun h=>(aaj.1 h).elim huv hin
       .exact c5 j j1 (by omega)
   .intro j hj
    by_cases e:j=k
    .subst e
     rw[DN];refine⟨fun u hu=> ?_,⟨L.1,by rw[hv]⟩,bD,by simp;omega,Qq⟩;rcases aaj.1 hu with rfl|hu
     .exact⟨j,aad _,hv⟩
     .obtain⟨a,ha,e⟩:=inv.sub u (ID u hu)
      exact⟨a,by omega,e⟩
    .exact inv.Qt j (by omega)
def ends (n:Nat) (W B:List Int):List Int:=(leave (-1) n W B).2
theorem AV {W B:List Int} {i:Int} (h:∀x∈W,0<=x):(leave (-1) i W B).1=[]:=by
 obtain⟨X,hX,_,hh⟩:=om (p:= -1) (i:=i) W B;rcases hh with hh|hh
 .exact hh
 .cases hY:(leave (-1) i W B).1 with
  |nil=>rfl
  |cons y Y=>
   rw[hY] at hh hX;have:=h y (by rw[hX];simp);simp at hh;omega
theorem Rs (ho:jk n s n) {W B:List Int} (h:side n es s n=some (W,B)) {a j:Nat} (ha:a<n) (hj:j<n):
 at_ s.ord a∈mZ n es s j↔a<=j/\(j:Int)<at_ (ends n W B) (at_ s.ord a).toNat:=by
 have inv:=uS ho n (aad _) W B h;have YX:=(ho a ha).1;have hun:((at_ s.ord a).toNat:Int)=at_ s.ord a:=ael YX.1;have Qz:¬a<=j->at_ s.ord a∉mZ n es s j:=fun hlt hm=>by
  obtain⟨b,hb,e⟩:=(inv.Qt j hj).1 _ hm;exact ho.ne (a:=b) (b:=a) (by omega) ha (by omega) e
 rcases inv.ops a ha with ⟨h1,h2⟩|⟨h1,c,c1,c2,c3,c4,c5⟩
 .have e:at_ (ends n W B) (at_ s.ord a).toNat=(n:Int):=by
   unfold ends;exact rM W B inv.way.pos inv.nod (by rw[hun];exact h1) (by rw[AV inv.way.pos];simp) (by rw[inv.Qc];omega)
  rw[e];constructor
  .intro hm
   by_cases hlt:a<=j
   .exact⟨hlt,by omega⟩
   .exact absurd hm (Qz hlt)
  .exact fun h=>h2 j h.1 hj
 .have e:at_ (ends n W B) (at_ s.ord a).toNat=(c:Int):=by
   unfold ends;rw[nH W B inv.way.pos (.inl (by rw[hun];exact h1))];exact c3
  rw[e];constructor
  .intro hm
   by_cases hlt:a<=j
   .refine⟨hlt,?_⟩
    rcases adn j c with h|h
    .omega
    .exact absurd hm (c5 j h hj)
   .exact absurd hm (Qz hlt)
  .exact fun h=>c4 j h.1 (by omega)
end
end Df
end
section
namespace Df
section
variable {n:Nat} {es:List (Int×Int)} {s:St}
theorem jk.FZ (h:jk n s n) {v:Nat} (hv:v<n):∃a,a<n/\at_ s.ord a=(v:Int):=by
 obtain⟨a,ha,e⟩:=Bu.pig n (fun a=>(at_ s.ord a).toNat) (fun i hi=>by have:=(h i hi).1;omega) (fun i j hi hj e=>by
  by_cases hij:i=j
  .exact hij
  .have h1:=(h i hi).1
   have h2:=(h j hj).1;exact absurd (by omega:at_ s.ord i=at_ s.ord j) (h.ne hi hj hij)) v hv
 have:=(h a ha).1;exact⟨a,ha,by omega⟩
def jM (n:Nat) (s:St) (P:List Int):Prop:=P.length=n/\∀a,a<n->at_ P (at_ s.ord a).toNat=(a:Int)
theorem xH (ho:jk n s n) {W B P:List Int} (hs:side n es s n=some (W,B)) (hP:jM n s P) {u v:Nat} (hu:u<n) (hv:v<n):
 (at_ P u<=at_ P v/\at_ P v<at_ (ends n W B) u)↔bP es s u v:=by
 obtain⟨a,ha,ea⟩:=ho.FZ hu;obtain⟨b,hb,eb⟩:=ho.FZ hv;have pa:=hP.2 a ha;have pb:=hP.2 b hb;have hend:=Rs (es:=es) ho hs ha hb;obtain⟨_,⟨Y,hY⟩,hw,_,_⟩:=(uS ho n (aad _) W B hs).Qt b hb;rw[ea] at pa hend;rw[eb] at pb hY;rw[hY] at hw hend;rw[ach] at pa pb hend;rw[pa,pb,bP.iff hw,hend];omega
theorem kF (ho:jk n s n) {W B:List Int} (hs:side n es s n=some (W,B)) {v:Nat} (hv:v<n):∃Y,dS es s ((v:Int)::Y)/\Y.length<n/\∀x∈Y,∃u:Nat,u<n/\x=(u:Int):=by
 obtain⟨b,hb,eb⟩:=ho.FZ hv;obtain⟨hsub,⟨Y,hY⟩,hw,hl,_⟩:=(uS ho n (aad _) W B hs).Qt b hb;rw[eb] at hY;rw[hY] at hw hl hsub;refine⟨Y,hw,by simp at hl;omega,fun x hx=> ?_⟩;obtain⟨a,ha,rfl⟩:=hsub x (aak _ hx);have:=(ho a (by omega)).1;exact⟨(at_ s.ord a).toNat,by omega,by omega⟩
theorem mq.cases (hval:Si.Val n es) {v:Nat} (h:mq es s v):(at_ s.par v= -1/\up es s v= -1/\at_ s.ay v=0)\/∃u:Nat,u<n/\up es s v=(u:Int)/\at_ s.par v≠-1/\at_ s.ay v=IntKind.i64.wrap (at_ s.ay u+1):=by
 rcases h with ⟨h1,h2⟩|⟨x,hx,h1,h2,h3,h4⟩
 .refine .inl ⟨h1,?_,h2⟩
  unfold up;rw[ach,h1];exact Cs.Ci (by omega)
 .refine .inr ⟨Cs.fr es x,(Cs.bI hval hx).1,?_,by rw[h1];omega,h4⟩
  unfold up;rw[ach,h1];exact Cs.jQ hx
theorem j6 (hval:Si.Val n es) (hh:EO n es s):∀(Y:List Int) (v:Nat),v<n->dS es s ((v:Int)::Y)->Y.length<4611686018427387904->at_ s.ay v=(Y.length:Int)
 |[],v,hv,hw,_=>by
  rcases(hh v hv).cases hval with ⟨_,_,h⟩|⟨u,_,h,_⟩
  .simpa using h
  .have:=hw.2.1
   simp at this;omega
 |y::Y,v,hv,hw,hl=>by
  have h1:=hw.2.1;have hy0:=hw.2.2.1;simp at h1;rcases(hh v hv).cases hval with ⟨_,h,_⟩|⟨u,hu,h,_,h4⟩
  .omega
  .obtain rfl:y=(u:Int):=by omega
   have ih:=j6 hval hh Y u hu hw.2.2 (by simp at hl;omega);rw[h4,ih,acf];simp at hl ⊢;omega
theorem wD (hval:Si.Val n es) (hh:EO n es s):∀(Y:List Int) (v:Nat),v<n->dS es s ((v:Int)::Y)->Y.length<4611686018427387904->∀x:Nat,(x:Int)∈Y->at_ s.ay x<at_ s.ay v
 |[],v,hv,hw,_,x,hx=>by simp at hx
 |y::Y,v,hv,hw,hl,x,hx=>by
  have h1:=hw.2.1;have hy0:=hw.2.2.1;simp at h1;rcases(hh v hv).cases hval with ⟨_,h,_⟩|⟨u,hu,h,_,_⟩
  .omega
  .obtain rfl:y=(u:Int):=by omega
   have e1:=j6 hval hh ((u:Int)::Y) v hv hw hl;have hl2:Y.length<4611686018427387904:=by simp at hl;omega
   have e2:=j6 hval hh Y u hu hw.2.2 hl2;have hlt:at_ s.ay u<at_ s.ay v:=by rw[e1,e2];simp;omega
   rcases aaj.1 hx with e|hx
   .obtain rfl:x=u:=by omega
    exact hlt
   .have:=wD hval hh Y u hu hw.2.2 hl2 x hx
    omega
def uG (es:List (Int×Int)) (s:St) (e:Nat):Prop:=
 ∃h:Nat,(h=2*e\/h=2*e+1)/\at_ s.aT e=(h:Int)/\(at_ s.par (Cs.to es h)=(h:Int)\/bP es s (Cs.to es h) (Cs.fr es h))
structure VF (n:Nat) (es:List (Int×Int)) (s:St):Prop where
 lens:wG n es s
 once:jk n s n
 hang:EO n es s
 side:∃q,side n es s n=some q
 uo:∀e,e<es.length->uG es s e
def ZI (n:Nat) (s:St):Prop:=∀v,v<n->0<=at_ s.ay v/\at_ s.ay v<(n:Int)/\(at_ s.ay v=0↔at_ s.par v= -1)
theorem wQ (hval:Si.Val n es) (ho:jk n s n) (hh:EO n es s) (hs:∃q,Df.side n es s n=some q):ZI n s:=by
 intro v hv;obtain⟨⟨W,B⟩,hs⟩:=hs;obtain⟨Y,hw,hl,_⟩:=kF (es:=es) ho hs hv;have hn:=hval.hi;have e:=j6 hval hh Y v hv hw (by omega);rw[e];refine⟨by omega,by omega,?_⟩;rcases(hh v hv).cases hval with ⟨h1,h2,h3⟩|⟨u,_,h2,h3,_⟩
 .constructor
  .exact fun _=>h1
  .intro _
   omega
 .constructor
  .intro h0
   have hY:Y=[]:=ac0.1 (by omega);rw[hY] at hw;have:=hw.2.1;simp at this;omega
  .exact fun h=>absurd h h3
theorem ur (hval:Si.Val n es) (ho:jk n s n) (hh:EO n es s) (hs:∃q,Df.side n es s n=some q) {u v:Nat} (hv:v<n) (hne:u≠v) (ha:bP es s u v):at_ s.ay u<at_ s.ay v:=by
 obtain⟨⟨W,B⟩,hs⟩:=hs;obtain⟨Y,hw,hl,_⟩:=kF (es:=es) ho hs hv;have hn:=hval.hi;rw[bP.iff hw] at ha;rcases aaj.1 ha with e|ha
 .omega
 .exact wD hval hh Y v hv hw (by omega) u ha
end
end Df
namespace Df
theorem CU {n:Nat} {es:List (Int×Int)} {s:St} {k:Nat} (h:side n es s k=none):∀d,side n es s (k+d)=none
 |0=>h
 |d+1=>by
  show side n es s (k+d+1)=none;unfold side;rw[CU h d];rfl
theorem tG {n:Nat} {es:List (Int×Int)} {s:St} (ho:jk n s n) {k:Nat} (hk:k<=n) {W B:List Int} (h:side n es s k=some (W,B)):(∀x∈W,0<=x/\x<(n:Int))/\W.length<=k/\B.length=n:=by
 have inv:=uS ho k hk W B h;refine⟨fun x hx=> ?_,inv.len,inv.Qc⟩;obtain⟨a,ha,rfl⟩:=inv.sub x hx;exact(ho a (by omega)).1
end Df
def uA (n:Int) (es:List (Int×Int)) (s:Df.St):Prop:=∃m:Nat,n=(m:Int)/\Si.Val m es/\Df.VF m es s
end
section
namespace Lo
open Df
def oh (s:St) (e:Nat):Nat:=(at_ s.aT e).toNat
def fr (es:List (Int×Int)) (s:St) (e:Nat):Nat:=Cs.fr es (oh s e)
def fB (es:List (Int×Int)) (s:St) (e:Nat):Nat:=Cs.to es (oh s e)
def tree (es:List (Int×Int)) (s:St) (e:Nat):Bool:=decide (at_ s.par (fB es s e)=at_ s.aT e)
def ht (es:List (Int×Int)) (s:St) (e:Nat):Int:=at_ s.ay (fB es s e)
def hf (es:List (Int×Int)) (s:St) (e:Nat):Int:=at_ s.ay (fr es s e)
open Classical in
noncomputable def UI (es:List (Int×Int)) (s:St) (e b:Nat):Bool:= !tree es s b&&(decide (ht es s b<hf es s e)&&decide (bP es s (fB es s e) (fr es s b)))
noncomputable def wz (es:List (Int×Int)) (s:St) (e:Nat):List Nat:=if tree es s e=true then (List.range es.length).filter (UI es s e) else [e]
def least (h:Int):List Int->Int
 |[]=>h
 |x::l=>least (min h x) l
theorem j5 (h:Int):∀(l:List Int) (x:Int),least h (l++[x])=min (least h l) x
 |[],_=>rfl
 |y::l,x=>j5 (min h y) l x
theorem least_le (h:Int):∀(l:List Int),least h l<=h/\∀x∈l,least h l<=x
 |[]=>⟨adA _,fun x hx=>by simp at hx⟩
 |y::l=>by
  obtain⟨h1,h2⟩:=least_le (min h y) l;refine⟨?_,fun x hx=> ?_⟩
  .show least (min h y) l<=h
   omega
  .rcases aaj.1 hx with rfl|hx
   .show least (min h x) l<=x
    omega
   .exact h2 x hx
theorem eK (h:Int):∀(l:List Int),least h l=h\/least h l∈l
 |[]=> .inl rfl
 |y::l=>by
  show least (min h y) l=h\/least (min h y) l∈y::l;rcases eK (min h y) l with h1|h1
  .rw[h1]
   by_cases hy:h<=y
   .exact .inl (by omega)
   .exact .inr (by rw[show min h y=y by omega];exact aai)
  .exact .inr (aak _ h1)
noncomputable def hs (es:List (Int×Int)) (s:St) (e:Nat):List Int:=(wz es s e).map (ht es s)
noncomputable def low (es:List (Int×Int)) (s:St) (e:Nat):Int:=least (hf es s e) (hs es s e)
noncomputable def cK (es:List (Int×Int)) (s:St) (e:Nat):Int:=least (hf es s e) ((hs es s e).filter fun x=>decide (low es s e<x))
noncomputable def nest (es:List (Int×Int)) (s:St) (e:Nat):Int:=if low es s e<cK es s e/\cK es s e<hf es s e then 2*low es s e+1 else 2*low es s e
section
variable {n:Nat} {es:List (Int×Int)} {s:St} {e:Nat}
theorem fQ (h:VF n es s) (he:e<es.length):at_ s.aT e=(oh s e:Int)/\(oh s e=2*e\/oh s e=2*e+1)/\oh s e<2*es.length/\oh s e/2=e:=by
 obtain⟨x,h1,h2,_⟩:=h.uo e he;have:oh s e=x:=by unfold oh;rw[h2];simp
 rw[this];exact⟨h2,h1,by omega,by omega⟩
theorem ct (hv:Si.Val n es) (h:VF n es s) (he:e<es.length):fr es s e<n/\fB es s e<n:=Cs.bI hv (fQ h he).2.2.1
theorem lO (h:VF n es s) (he:e<es.length):tree es s e=true↔at_ s.par (fB es s e)=(oh s e:Int):=by
 unfold tree;rw[decide_eq_true_iff,(fQ h he).1]
theorem GK (h:VF n es s) (he:e<es.length) (hb:tree es s e=false):bP es s (fB es s e) (fr es s e):=by
 obtain⟨x,h1,h2,h3⟩:=h.uo e he;have hx:oh s e=x:=by unfold oh;rw[h2];simp
 rcases h3 with h3|h3
 .have:=(lO h he).2 (by unfold fB;rw[hx];exact h3)
  rw[hb] at this;cases this
 .unfold fB fr
  rw[hx];exact h3
end
end Lo
end
section
namespace Lo
open Df
section
variable {n:Nat} {es:List (Int×Int)} {s:St} {e b:Nat}
theorem qP (hv:Si.Val n es) (h:VF n es s) (he:e<es.length):fB es s e≠fr es s e:=by
 obtain⟨_,_,hl,_⟩:=fQ h he;have hlt:=hl;unfold fB fr;obtain⟨p,hp⟩:∃p,es[oh s e/2]? =some p:=⟨_,aac (by omega)⟩;have ho:=hv.each _ p hp;unfold Si.ok at ho;have e2:oh s e=2*(oh s e/2)\/oh s e=2*(oh s e/2)+1:=by omega
 obtain⟨e3,e4⟩:=Cs.eP hp;obtain⟨e5,e6⟩:=Cs.pN hp;rcases e2 with e2|e2
 .rw[e2,e3,e4];omega
 .rw[e2,e5,e6];omega
theorem EF (hv:Si.Val n es) (h:VF n es s) (he:e<es.length) (hb:tree es s e=false):ht es s e<hf es s e:=
 ur hv h.once h.hang h.side (ct hv h he).1 (qP hv h he) (GK h he hb)
theorem cZ (ht':tree es s e=true):b∈wz es s e↔b<es.length/\tree es s b=false/\ht es s b<hf es s e/\bP es s (fB es s e) (fr es s b):=by
 unfold wz;rw[if_pos ht',acK,ab1];unfold UI;simp
theorem jT (hb:tree es s e=false):wz es s e=[e]:=by
 unfold wz;rw[if_neg (by rw[hb];decide)]
theorem tI (hv:Si.Val n es) (h:VF n es s) (he:e<es.length) (hb:b∈wz es s e):b<es.length/\tree es s b=false/\ht es s b<hf es s e:=by
 cases ht':tree es s e with
 |true=>
  obtain⟨h1,h2,h3,_⟩:=(cZ ht').1 hb;exact⟨h1,h2,h3⟩
 |false=>
  rw[jT ht',aan] at hb;subst hb;exact⟨he,ht',EF hv h he ht'⟩
theorem acW (hv:Si.Val n es) (h:VF n es s) (he:e<es.length):∀x∈hs es s e,x<hf es s e:=fun x hx=>by
 obtain⟨b,hb,rfl⟩:=abT.1 hx;exact(tI hv h he hb).2.2
theorem Io (es:List (Int×Int)) (s:St) (e:Nat):low es s e<=cK es s e/\cK es s e<=hf es s e:=by
 have h1:=least_le (hf es s e) (hs es s e);have h2:=least_le (hf es s e) ((hs es s e).filter fun x=>decide (low es s e<x));refine⟨?_,h2.1⟩;rcases eK (hf es s e) ((hs es s e).filter fun x=>decide (low es s e<x)) with h3|h3
 .unfold cK;rw[h3];exact h1.1
 .have h4:=(acK.1 h3).1
  exact h1.2 _ h4
theorem vr (hv:Si.Val n es) (h:VF n es s) (he:e<es.length) (hb:tree es s e=false):low es s e=ht es s e:=by
 have:=EF hv h he hb;unfold low hs;rw[jT hb];show min (hf es s e) (ht es s e)=_;omega
theorem Ko (hv:Si.Val n es) (h:VF n es s) (he:e<es.length):0<=low es s e:=by
 have hr:=wQ hv h.once h.hang h.side;unfold low;rcases eK (hf es s e) (hs es s e) with h1|h1
 .rw[h1];exact(hr _ (ct hv h he).1).1
 .obtain⟨b,hb,hb2⟩:=abT.1 h1
  rw[<-hb2];exact(hr _ (ct hv h (tI hv h he hb).1).2).1
theorem kH (hv:Si.Val n es) (h:VF n es s) (he:e<es.length) (ht':tree es s e=true):Df.up es s (fB es s e)=(fr es s e:Int)/\ht es s e=hf es s e+1:=by
 have h1:=(lO h he).1 ht';obtain⟨_,_,hl,_⟩:=fQ h he;have dV:Df.up es s (fB es s e)=(fr es s e:Int):=by
  unfold Df.up;rw[ach,h1,Cs.jQ hl];rfl
 refine⟨dV,?_⟩;obtain⟨⟨W,B⟩,hs'⟩:=h.side;obtain⟨Y,hw,hly,_⟩:=kF (es:=es) h.once hs' (ct hv h he).2;have hn:=hv.hi;have e1:=j6 hv h.hang Y _ (ct hv h he).2 hw (by omega);cases Y with
 |nil=>
  have:=hw.2.1;rw[dV] at this;simp at this
 |cons y Y=>
  have h2:=hw.2.1;rw[dV] at h2;have h3:y=(fr es s e:Int):=by simpa using h2.symm
  have hw2:=hw.2.2;rw[h3] at hw2;have e2:=j6 hv h.hang Y _ (ct hv h he).1 hw2 (by simp at hly;omega);show at_ s.ay (fB es s e)=at_ s.ay (fr es s e)+1;rw[e1,e2];simp
theorem xG {es:List (Int×Int)} {s:St} {a b c:Int} (h1:bP es s a b) (h2:bP es s b c):bP es s a c:=by
 obtain⟨W,hw,hb⟩:=h2;refine⟨W,hw,?_⟩;obtain⟨X,Y,VV⟩:=aex hb;have hw2:=hw;rw[VV] at hw2;have hmem:=(bP.iff hw2.tail).1 h1;rw[VV];exact acd _ hmem
theorem sD {es:List (Int×Int)} {s:St} {w x v:Int} {W:List Int} (hw:dS es s (v::W)) (hx:x∈v::W) (dV:Df.up es s x=w) (hw0:0<=w):bP es s w v:=by
 obtain⟨X,Y,VV⟩:=aex hx;have hw2:=hw;rw[VV] at hw2;have ht:=hw2.tail;have h1:=ht.2.1;rw[dV] at h1;refine⟨W,hw,?_⟩;rw[VV];cases Y with
 |nil=>simp at h1;omega
 |cons y Y=>
  have:w=y:=by simpa using h1
  rw[this];simp
end
end Lo
end
section
namespace Lo
open Df
section
variable {n:Nat} {es:List (Int×Int)} {s:St} {e b:Nat}
theorem vK (h:VF n es s) {v:Nat} (hv:v<n):bP es s v v:=by
 obtain⟨⟨W,B⟩,hs'⟩:=h.side;obtain⟨Y,hw,_,_⟩:=kF (es:=es) h.once hs' hv;exact⟨Y,hw,aai⟩
theorem KE {α:Type}:∀(X:List α),X≠[]->∃X' x,X=X'++[x]
 |[],h=>absurd rfl h
 |x::X,_=>by
  by_cases hX:X=[]
  .exact⟨[],x,by rw[hX];rfl⟩
  .obtain⟨X',y,e⟩:=KE X hX
   exact⟨x::X',y,by rw[e];rfl⟩
theorem Ag (h:VF n es s) {w v:Nat} (eM:v<n) (ha:bP es s w v) (hne:w≠v):∃k,k<es.length/\tree es s k=true/\fr es s k=w/\bP es s (fB es s k) v:=by
 obtain⟨⟨W,B⟩,hs'⟩:=h.side;obtain⟨Y,hw,_,Y2⟩:=kF (es:=es) h.once hs' eM;have hmem:=(bP.iff hw).1 ha;obtain⟨X,Z,SE⟩:=aex hmem;have hX:X≠[]:=fun e=>by
  rw[e] at SE;simp at SE;omega
 obtain⟨X',x,rfl⟩:=KE X hX;have hw2:=hw;rw[SE,ace] at hw2;have ht:=hw2.tail;have dV:Df.up es s x=(w:Int):=ht.2.1;have hx0:0<=x:=ht.1;have Bt:x∈(v:Int)::Y:=by rw[SE];simp
 have o7:∃u:Nat,u<n/\x=(u:Int):=by
  rcases aaj.1 Bt with e|hm
  .exact⟨v,eM,e⟩
  .exact Y2 x hm
 obtain⟨u,hun,rfl⟩:=o7;rcases h.hang u hun with ⟨h1,_⟩|⟨y,h1,h2,h3,h4,_⟩
 .unfold Df.up at dV
  rw[ach,h1,Cs.Ci (by omega)] at dV;omega
 .have hk:y/2<es.length:=by omega
  have hoh:oh s (y/2)=y:=by unfold oh;rw[h4];simp
  have hgo:fB es s (y/2)=u:=by unfold fB;rw[hoh];exact h3
  refine⟨y/2,hk,?_,?_,?_⟩
  .rw[lO h hk,hgo,hoh]
   exact h2
  .unfold fr
   rw[hoh];unfold Df.up at dV;rw[ach,h2,Cs.jQ h1] at dV;omega
  .rw[hgo]
   exact⟨Y,hw,Bt⟩
theorem R7 (hv:Si.Val n es) (h:VF n es s) (he:e<es.length) (ht':tree es s e=true):low es s e=least (hf es s e) (((List.range es.length).filter fun k=>decide (fr es s k=fB es s e)).map (low es s)):=by
 obtain⟨dV,Zb⟩:=kH hv h he ht';have hk1:∀k,fr es s k=fB es s e->hf es s k=hf es s e+1:=fun k hk=>by
  rw[<-Zb];unfold hf ht;rw[hk]
 have hwn:=(ct hv h he).2;have hLM:∀k,k<es.length->fr es s k=fB es s e->low es s e<=low es s k\/hf es s e<=low es s k:=fun k hk hfk=>by
  by_cases hlo:hf es s e<=low es s k
  .exact .inr hlo
  .left
   have hlt:low es s k<hf es s k:=by rw[hk1 k hfk];omega
   rcases eK (hf es s k) (hs es s k) with h1|h1
   .have h2:low es s k=hf es s k:=h1
    omega
   .obtain⟨b,hb,hb2⟩:=abT.1 h1
    have hb3:ht es s b=low es s k:=hb2;obtain⟨b1,b2,_⟩:=tI hv h hk hb;have hbr:b∈wz es s e:=by
     rw[cZ ht'];refine⟨b1,b2,by omega,?_⟩;cases vT:tree es s k with
     |true=>
      have h5:=((cZ vT).1 hb).2.2.2;obtain⟨agk,_⟩:=kH hv h hk vT;have h6:bP es s (fB es s e) (fB es s k):=by
       obtain⟨⟨W,B⟩,hs'⟩:=h.side;obtain⟨Y,hw,_,_⟩:=kF (es:=es) h.once hs' (ct hv h hk).2;rw[<-hfk];exact sD hw aai agk (by omega)
      exact xG h6 h5
     |false=>
      rw[jT vT,aan] at hb;rw[hb,hfk];exact vK h hwn
    have h7:=(least_le (hf es s e) (hs es s e)).2 _ (abT.2 ⟨b,hbr,rfl⟩);have h8:low es s e<=ht es s b:=h7;omega
 apply Int.le_antisymm
 .rcases eK (hf es s e) (((List.range es.length).filter fun k=>decide (fr es s k=fB es s e)).map (low es s)) with h1|h1
  .rw[h1]
   exact(least_le (hf es s e) (hs es s e)).1
  .obtain⟨k,hk,hk2⟩:=abT.1 h1
   rw[<-hk2];obtain⟨hk3,hk4⟩:=acK.1 hk;rcases hLM k (ab1.1 hk3) (by simpa using hk4) with h2|h2
   .exact h2
   .exact Int.le_trans (least_le (hf es s e) (hs es s e)).1 h2
 .have hM:=least_le (hf es s e) (((List.range es.length).filter fun k=>decide (fr es s k=fB es s e)).map (low es s))
  rcases eK (hf es s e) (hs es s e) with h1|h1
  .show _<=least _ _
   rw[h1];exact hM.1
  .obtain⟨b,hb,hb2⟩:=abT.1 h1
   have hb3:low es s e=ht es s b:=hb2.symm;rw[hb3];obtain⟨b1,b2,b3,b4⟩:=(cZ ht').1 hb;by_cases hfb:fr es s b=fB es s e
   .rw[<-vr hv h b1 b2]
    exact hM.2 _ (abT.2 ⟨b,acK.2 ⟨ab1.2 b1,by simpa using hfb⟩,rfl⟩)
   .obtain⟨k,hk,vT,hfk,hak⟩:=Ag h (ct hv h b1).1 b4 (fun e=>hfb e.symm)
    have hbk:b∈wz es s k:=by
     rw[cZ vT];exact⟨b1,b2,by rw[hk1 k hfk];omega,hak⟩
    have h2:=(least_le (hf es s k) (hs es s k)).2 _ (abT.2 ⟨b,hbk,rfl⟩);have h3:=hM.2 (low es s k) (abT.2 ⟨k,acK.2 ⟨ab1.2 hk,by simpa using hfk⟩,rfl⟩);exact Int.le_trans h3 h2
end
end Lo
end
section
open Go.Proofs.Tryz
open Go.RowKit
structure ji (w:World) (b o:Nat) (cs:Array Value) (T:TypeId) (B:Nat) (v:Value) (K:List Int):Prop where
 blk:w.heap[b]? =some (.cells cs T (0,0))
 at_:cs[o]? =some v
 own:aH w B v K
 far:v.ownBlock≠some b
section
variable {w w':World} {b o B:Nat} {cs:Array Value} {T:TypeId} {v:Value} {K:List Int}
theorem ji.cell (h:ji w b o cs T B v K):w.cell? ⟨b,o,none⟩=some v:=by
 simp[World.cell?,h.blk,h.at_]
theorem ji.free (h:ji w b o cs T B v K):w.frozen? ⟨b,o,none⟩=false:=by
 simp[World.frozen?,h.blk]
theorem ji.lt (h:ji w b o cs T B v K):b<w.heap.size:=lt_of_block h.blk
theorem aH.FQ {x:Int} (h:aH w B v (K++[x])):∃g c,v= .slice (some ⟨g,0,none⟩) (K.length+1) c/\w.cell? ⟨g,K.length,none⟩=some (.int .i64 x)/\K.length+1<=c/\B<=g/\g<w.heap.size:=by
 unfold aH at h;rw[abZ,adb,acS] at h;obtain⟨g,c,rfl⟩:=qx h;have hc:=ac1 h (g:=g) rfl K.length (.int .i64 x) (by simp);have ea:((⟨g,0,none⟩:Addr).add K.length)=⟨g,K.length,none⟩:=by
  by_cases h0:K.length=0<;>simp[Addr.add,h0]
 rw[ea] at hc;refine⟨g,c,rfl,hc,?_,acj h g rfl⟩;rcases h.2 with ⟨h',_⟩|⟨g',cap,cur,e,_,_,hcc,_⟩
 .cases h'
 .cases e;exact hcc
theorem aH.front {x:Int} {g c:Nat} (h:aH w B (.slice (some ⟨g,0,none⟩) (K.length+1) c) (K++[x])):aH w B (.slice (some ⟨g,0,none⟩) K.length c) K:=by
 unfold aH at h ⊢;rw[abZ,adb,acS] at h;exact Np h (by simp)
end
def vM (b o:Nat) (cs:Array Value) (T:TypeId) (B:Nat) (v:Value) (K:List Int) (w:World) (e:Ending) (w':World):Prop:=
 e= .returned (.tuple #[])/\∃v',ji w' b o (cs.setIfInBounds o v') T B v' K/\(v'.ownBlock=v.ownBlock\/∃g,v'.ownBlock=some g/\w.heap.size<=g)/\az (fun k=>k=b\/v.ownBlock=some k) w w'
theorem PC {cs:Array Value} {o:Nat} {v v':Value} (h:cs[o]? =some v):(cs.setIfInBounds o v')[o]? =some v':=by
 have:=(abR.1 h).1;simp[this]
theorem zK (b o:Nat) (cs:Array Value) (T:TypeId) (B:Nat) (v:Value) (K:List Int) (x:Int) (w:World) (h:ji w b o cs T B v K) (hB:B<=w.heap.size) (hl:K.length<=17592186044000):
 Calls prog 64 #[.pointer (some ⟨b,o,none⟩),.int .i64 x] w (vM b o cs T B v (K++[x]) w):=by
 obtain⟨i0,hi,hz0,hz1,hz2⟩:=info_parts Tryz.cM;have c0:=h.cell;have HH:=ζ h;have hlt:=h.lt;have hrow:w.ownsRow B 3 1 v K.length (K.map (Value.int .i64)):=h.own;have sP:=ζ hrow;clear h hrow;go_enter func64,ntmps64;go_wp2_with (at_builtin;refine wpList_append_own_at _ rfl _ _ 27 rfl B 3 i0 (.int .i64 0) 1 8 Tryz.underlying27 hi hz0 hz1 hz2 rfl (by decide) _ _ _ rfl (adD sP.out _) ⟨w.heap.size,0,none⟩ 1 1 [.int .i64 x] rfl rfl (cell_one_new _ _ _) (by simp[Value.oneCell']) (by unfold maxLen;omega) (by omega) (by simp;omega) ?_;refine abQ ?_);refine ζ ?_;intro v' w1 hown hg _ hat;have hb1:w1.heap[b]? =some (.cells cs T (0,0)):=by
  rw[hg.block b (by rw[acC];omega) (fun e=>HH.out.far e.symm)];exact(ab2 w _ b hlt).trans HH.out.blk
 have c1:w1.cell? ⟨b,o,none⟩=some v:=by simp[World.cell?,hb1,HH.out.at_]
 have f1:w1.frozen? ⟨b,o,none⟩=false:=by simp[World.frozen?,hb1]
 have Lj:v'.ownBlock=v.ownBlock\/v'.ownBlock=some (w.heap.size+1):=by simpa using hat
 have sO:v'.ownBlock≠some b:=by
  rcases Lj with e|e
  .rw[e];exact HH.out.far
  .rw[e];intro e2;have:=aal e2;omega
 have hz:aH w1 B v' (K++[x]):=by
  unfold aH;rw[abZ,acS];exact hown
 have bX:Hid (vM b o cs T B v (K++[x]) w (.returned (.tuple #[])) (w1.setCell ⟨b,o,none⟩ v')):=by
  refine⟨rfl,v',⟨heap_setCell_same w1 b o _ _ _ hb1,PC HH.out.at_,hz.same fun g hgg _=>heap_setCell_other w1 ⟨b,o,none⟩ g _ (fun e=>sO (by rw[hgg];exact congrArg some e)),sO⟩,?_,?_⟩
  .rcases Lj with e|e
   .exact .inl e
   .exact .inr ⟨_,e,by omega⟩
  .refine⟨hg.os,hg.tape,hg.output,?_,fun k hk hn=> ?_⟩
   .have:=hg.size
    rw[acC] at this;simp;omega
   .rw[heap_setCell_other w1 ⟨b,o,none⟩ k _ (fun e=>hn (.inl e)),hg.block k (by rw[acC];omega) (fun e=>hn (.inr e.symm))]
    exact ab2 w _ k hk
 obtain⟨g,cap,hv⟩:=qx hown;subst hv;clear hown hg hat Lj sO hz hb1 HH sP;go_wp2
 go_end0
 exact bX.out
theorem oD (b o:Nat) (cs:Array Value) (T:TypeId) (B:Nat) (v:Value) (K:List Int) (w:World) (h:ji w b o cs T B v K):
 Calls prog 62 #[.pointer (some ⟨b,o,none⟩)] w fun e w'=>e= .returned (.bool (decide (K.length=0)))/\w'=w:=by
 have c0:=h.cell;obtain⟨ao,cap,rfl,_,_⟩:=h.own.form;clear h;by_cases hk:K.length=0
 .rw[hk] at c0
  have hd:decide (K.length=0)=true:=by simp[hk]
  rw[hd];clear hd hk;go_enter func62,ntmps62;go_wp2;go_ret;exact⟨rfl,rfl⟩
 .have hd:decide (K.length=0)=false:=by simp[hk]
  have he:((K.length:Int)==0)=false:=by simp only[beq_eq_false_iff_ne,ne_eq];omega
  rw[hd];clear hd hk;go_enter func62,ntmps62;go_wp2;go_ret;exact⟨rfl,rfl⟩
theorem JN (b o:Nat) (cs:Array Value) (T:TypeId) (B:Nat) (v:Value) (K:List Int) (x:Int) (w:World) (h:ji w b o cs T B v (K++[x])) (hl:K.length<=17592186044000):
 Calls prog 81 #[.pointer (some ⟨b,o,none⟩)] w fun e w'=>e= .returned (.int .i64 x)/\∃k,w'=w.drewN k:=by
 have c0:=h.cell;obtain⟨g,c,rfl,c1,h2,_⟩:=h.own.FQ;obtain⟨p,hp⟩:∃p,K.length=p:=⟨_,rfl⟩;rw[hp] at c0 c1 h2 hl;clear h hp;have e1:((p:Int)+1)-1=(p:Int):=by omega
 have e2:(0:Int)<=(p:Int):=by omega
 have e3:(p:Int)<(p:Int)+1:=by omega
 go_enter func81,ntmps81;go_wp2_with fail;go_quiet (fail);go_wp2;go_ret;exact⟨rfl,nq,rfl⟩
def yX (b o:Nat) (cs:Array Value) (T:TypeId) (B:Nat) (v:Value) (K:List Int) (x:Int) (w:World) (e:Ending) (w':World):Prop:=
 e= .returned (.int .i64 x)/\∃v',ji w' b o (cs.setIfInBounds o v') T B v' K/\v'.ownBlock=v.ownBlock/\az (fun k=>k=b) w w'
theorem J9 (b o:Nat) (cs:Array Value) (T:TypeId) (B:Nat) (v:Value) (K:List Int) (x:Int) (w:World) (h:ji w b o cs T B v (K++[x])) (hl:K.length<=17592186044000):
 Calls prog 63 #[.pointer (some ⟨b,o,none⟩)] w (yX b o cs T B v K x w):=by
 have HT:=ζ (JN b o cs T B v K x w h hl);have hH:=h;have c0:=h.cell;obtain⟨g,c,rfl,c1,h2,_⟩:=h.own.FQ;have f0:=h.free;have hown:=hH.own.front;have sO:=hH.far;have bX:Hid (∀k,yX b o cs T B (.slice (some ⟨g,0,none⟩) (K.length+1) c) K x w (.returned (.int .i64 x)) ((w.drewN k).setCell ⟨b,o,none⟩ (.slice (some ⟨g,0,none⟩) K.length c))):=by
  intro k;have hgb:g≠b:=fun e=>sO (congrArg some e)
  refine⟨rfl,_,⟨heap_setCell_same (w.drewN k) b o _ _ _ hH.blk,PC hH.at_,?_,sO⟩,rfl,?_⟩
  .refine hown.same fun g' hg' _=> ?_
   obtain rfl:g=g':=aal hg';exact heap_setCell_other (w.drewN k) ⟨b,o,none⟩ g _ hgb
  .exact((az.refl (fun k=>k=b) w).drewN k).setCell rfl _
 obtain⟨p,hp⟩:∃p,K.length=p:=⟨_,rfl⟩;rw[hp] at c0 c1 h2 bX hl;clear h hp hH hown sO c1;have e1:((p:Int)+1)-1=(p:Int):=by omega
 have e2:(0:Int)<=(p:Int):=by omega
 have e3:(p:Int)<=(c:Int):=by omega
 go_enter func63,ntmps63;go_wp2_with (go_at_call 81;refine HT.out.mono ?_;rintro e w1 ⟨rfl,k1,rfl⟩);go_big_region;go_wp2;go_ret;exact bX.out _
end
section
open Go.RowKit
theorem CE (n:Nat) (w:World) (hn:n<=8388608):
 Calls Tryz.prog 60 #[.int .i64 (n:Int)] w fun e w'=>∃g,e= .returned (.slice (some ⟨g,0,none⟩) n n)/\w.heap.size<=g/\af w' g (List.replicate n (-1))/\Below w.heap.size w w':=by
 obtain⟨i0,hi,hz0,hz1,hz2⟩:=info_parts Tryz.cM;go_enter Tryz.func60,Tryz.ntmps60;go_wp2_with (at_make;refine wpList_make_full _ rfl _ _ 27 rfl w.heap.size 3 i0 (.int .i64 0) 1 Tryz.underlying27 hi hz0 hz1 _ _ _ _ n rfl rfl rfl rfl (by rw[hz2];omega) (by unfold maxLen;omega) (aad _) ?_;refine abQ ?_);refine ζ ?_;intro w2 hrow hg2;rw[dD] at hrow;have hik:=eu hrow;have hb2:Below w.heap.size w w2:=(aae _ _).grown hg2 (aad _) (fun j hj=>by cases hj);have iM:=ζ hik;have cj:=ζ hb2;clear hrow hg2 hik hb2;go_wp2;go_loopw [9] (fun c wr=>∃(k:Nat) (S:List Int),k<=n/\c= .int .i64 k/\S.length=n/\(∀v,v<k->S[v]? =some (-1))/\af wr w.heap.size S/\Below w.heap.size w wr) (fun c _=>n-(intOf c).toNat)
 case atStart=>exact⟨0,_,ab6 _,rfl,by simp,fun v hv=>by omega,iM.out,cj.out⟩
 case round=>
  obtain⟨k,S,hk,rfl,V9,hS,jx,hb⟩:=hrel;have hsz:=jx.lt;have HS:=ζ hS;have HIS:=ζ jx;have HB:=ζ hb;by_cases hkn:k<n
  .have hk0:(0:Int)<=(k:Int):=by omega
   have hk1:(k:Int)<(n:Int):=by omega
   obtain⟨x,hx⟩:∃x,S[k]? =some x:=⟨_,aac (by omega)⟩;have c0:=jx.cell hx;have c1:=jx.free k;have Mm:=ζ (jx.set k (-1));have Mw:=ζ (hb.setCell (p:=⟨w.heap.size,k,none⟩) (aad _) (.int .i64 (-1)));clear hS jx hb hx;go_wp2;go_roundw
   case rel=>
    refine⟨k+1,S.set k (-1),by omega,by go_num,by simp[V9],fun v hv=> ?_,Mm.out,Mw.out⟩;rw[ab0];by_cases e:k=v
    .subst e
     rw[if_pos rfl,if_pos (by omega)]
    .rw[if_neg e]
     exact HS.out v (by omega)
   case measure=>simp[intOf];omega
  .have hd:¬((k:Int)<(n:Int)):=by omega
   have e:S=List.replicate n (-1):=by
    refine acO fun v=> ?_
    by_cases hv:v<n
    .rw[hS v (by omega),acQ,if_pos hv]
    .rw[abv (by omega),abv (by simp;omega)]
   subst e;clear hS jx hb;go_wp2;go_ret;exact⟨w.heap.size,rfl,aad _,HIS.out,HB.out⟩
end
end Go.Proofs.YtbhdibflpjhpaaaGreat
