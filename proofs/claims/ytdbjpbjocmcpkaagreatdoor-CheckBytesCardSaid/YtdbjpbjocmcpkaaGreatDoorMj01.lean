import Derived.Test.YtdbjpbjocmcpkaaGreatDoorMj00
import Derived.Maps.AppendAt
import Derived.BigQuiet
namespace Go.Proofs.YtdbjpbjocmcpkaaGreatDoor
namespace Nu
theorem Oe {g:Nat->Int} {n p:Nat} {x:Nat×Int} (hp:p<=n) (h:next g n p= .error x):(x.2=11\/x.2=12)/\x.1<n:=by
 have hs:=gM au g n p hp;by_cases h1:skip au g n p=n
 .rw[h1] at hs
  rw[jB hs] at h;cases h
 .have hlt:skip au g n p<n:=adj hs.hi h1
  cases hd:isDigit (g (skip au g n p))
  .by_cases h10:g (skip au g n p)=10
   .rw[nj hs hlt h10] at h
    cases h
   .rw[nk hs hlt hd h10] at h
    cases h;exact⟨.inl rfl,hlt⟩
  .have hr:=gM isDigit g n (skip au g n p) hs.hi
   by_cases hb:9<skip isDigit g n (skip au g n p)-skip au g n p\/(1<skip isDigit g n (skip au g n p)-skip au g n p/\g (skip au g n p)=48)
   .rw[mM hs hlt hd hr hb] at h
    cases h;exact⟨.inr rfl,hlt⟩
   .rw[mL hs hlt hd hr hb] at h
    cases h
theorem Ax {g:Nat->Int} {n:Nat} {x:Nat×Int}:∀{k p:Nat},p<=n->dJ g n k p= .error x->(x.2=11\/x.2=12)/\x.1<n
 |0,p,_,h=>by simp[dJ] at h
 |k+1,p,hp,h=>by
  cases hx:next g n p with
  |error y=>
   rw[iG k hx] at h;cases h;exact Oe hp hx
  |ok y=>
   obtain⟨u,p'⟩:=y;have hm:=kY hp hx;by_cases h3:u.kind=3
   .rw[fN k hx h3] at h
    cases h
   .rw[jw k hx h3] at h
    cases hr:dJ g n k p' with
    |error y=>
     rw[hr] at h;cases h;exact Ax hm.1 hr
    |ok us=>rw[hr] at h;cases h
theorem vT {g:Nat->Int} {n:Nat} {x:Nat×Int} (h:scan g n= .error x):(x.2=11\/x.2=12)/\x.1<n:=Ax (aaR _) h
def Fits (n:Nat) (t:Tok):Prop:=(t.kind=1\/t.kind=2\/t.kind=3)/\0<=t.at'/\t.at'<=n/\0<=t.fin/\t.fin<=n/\0<=t.num/\t.num<1000000000
theorem Av {g:Nat->Int} {n:Nat}:∀{ts:List Tok} {k p:Nat},p<=n->dJ g n k p= .ok ts->∀t∈ts,Fits n t
 |[],_,_,_,_,t,ht=>by cases ht
 |u::us,k,p,hp,h,t,ht=>by
  obtain⟨p',hn,hp',k',hs⟩:=Aw hp h;rcases aa4.1 ht with rfl|ht
  .exact vV hp hn
  .exact Av hp' hs t ht
theorem NL {g:Nat->Int} {n:Nat} {ts:List Tok} (h:scan g n= .ok ts):∀t∈ts,Fits n t:=Av (aaR _) h
end Nu
namespace Nu
def ij (g:Nat->Int) (q:Nat):Nat->List UInt8
 |0=>[]
 |k+1=>ij g q k++[UInt8.ofNat (g (q+k)).toNat]
theorem jd (g:Nat->Int) (q:Nat):∀k,(ij g q k).length=k
 |0=>rfl
 |k+1=>by simp[ij,jd g q k]
theorem yI (g:Nat->Int) (q:Nat):∀(k i:Nat) (h:i<(ij g q k).length),(ij g q k)[i]=UInt8.ofNat (g (q+i)).toNat
 |0,i,h=>by simp[ij] at h
 |k+1,i,h=>by
  have hl:=jd g q k;simp only[ij];by_cases hi:i<k
  .rw[List.getElem_append_left (by omega)]
   exact yI g q k i (by omega)
  .have:i=k:=by rw[jd] at h;omega
   subst this;rw[List.getElem_append_right (by omega)];simp[hl]
theorem J6 (g:Nat->Int) (q:Nat) (hd:48<g q):∀k,0<k->(∀i,i<k->48<=g (q+i)/\g (q+i)<=57)->1<=val g q k
 |0,h,_=>by omega
 |1,_,_=>by simp only[val];rw[abG];omega
 |k+2,_,h=>by
  have ih:=J6 g q hd (k+1) (by omega) (fun i hi=>h i (by omega));have:=h (k+1) (by omega);rw[val];omega
theorem G3 (g:Nat->Int) (q:Nat):∀k,0<k->(∀i,i<k->48<=g (q+i)/\g (q+i)<=57)->(k=1\/g q≠48)->Lib.itoa (val g q k)=ij g q k
 |0,h,_,_=>by omega
 |k+1,_,h,hz=>by
  have hk:=h k (by omega);have Ja:=vN g q (k+1) h;obtain⟨u,hu⟩:∃u:Nat,val g q (k+1)=u:=⟨(val g q (k+1)).toNat,by omega⟩;have rK:(u:Int)=10*val g q k+(g (q+k)-48):=by rw[<-hu];rfl
  rw[hu];have e0:Lib.itoa (u:Int)=Lib.decDigits u:=by unfold Lib.itoa;rw[if_neg (by omega)];simp
  rw[e0];simp only[ij];by_cases h0:k=0
  .subst h0
   simp only[val,ij,abl] at rK ⊢;rw[ad9 (by omega)]
   congr 2
   omega
  .have hne:g q≠48:=by
    rcases hz with h1|h1
    .omega
    .exact h1
   have Mf:=h 0 (by omega);rw[abG] at Mf;have hvp:=J6 g q (by omega) k (by omega) (fun i hi=>h i (by omega));have ih:=G3 g q k (by omega) (fun i hi=>h i (by omega)) (.inr hne);obtain⟨v,hv⟩:∃v:Nat,val g q k=v:=⟨(val g q k).toNat,by omega⟩;rw[hv] at ih rK hvp;have e1:Lib.itoa (v:Int)=Lib.decDigits v:=by unfold Lib.itoa;rw[if_neg (by omega)];simp
   rw[e1] at ih;have hd:u/10=v:=by omega
   have hm:u%10=(g (q+k)).toNat-48:=by omega
   rw[Lib.decDigits,dif_neg (by omega),hd,ih,hm]
   congr 3
   omega
end Nu
namespace Nu
def ofBytes (l:List UInt8):Nat->Int:=fun i=>((l.getD i 0).toNat:Int)
theorem Fk (a b:List UInt8) (i:Nat) (h:i<a.length):ofBytes (a++b) i=ofBytes a i:=by
 simp[ofBytes,aa5 h]
theorem YI {u:Nat} (h:0<u):ofBytes (Lib.decDigits u) 0≠48:=by
 induction u using Nat.strongRecOn with
 |_ u ih=>
  by_cases h9:u<10
  .rw[ad9 h9]
   simp[ofBytes];omega
  .have hne:0<(Lib.decDigits (u/10)).length:=by
    rw[adJ];unfold Lib.nDigits
    split<;>omega
   rw[Lib.decDigits,dif_neg h9,Fk _ _ _ hne];exact ih (u/10) (by omega) (by omega)
theorem AV:∀(k u:Nat),u<10 ^ (k+1)->Lib.nDigits u<=k+1
 |0,u,h=>by unfold Lib.nDigits;rw[dif_pos (by omega)];exact aaF _
 |k+1,u,h=>by
  unfold Lib.nDigits
  split
  .omega
  .have:=AV k (u/10) (by rw[Nat.pow_succ] at h;omega)
   omega
theorem FT {u:Nat} (h:u<=999999999):(Lib.decDigits u).length<=9:=by
 rw[adJ];exact AV 8 u (by omega)
theorem Js (u:Nat):0<(Lib.decDigits u).length:=by
 rw[adJ];unfold Lib.nDigits
 split<;>omega
theorem A5 {x:Int} (h0:0<=x):Lib.itoa x=Lib.decDigits x.toNat:=by unfold Lib.itoa;rw[if_neg (by omega)]
section
end
end Nu
section
namespace Ce
open Nu
structure Cert where
 pl:Bool
 ar:List (List Int)
 es:List (Int×Int)
def zero:Cert:=⟨false,[],[]⟩
structure qg (B:Nat->Int) (n:Nat):Prop where
 out:∀i,n<=i->B i= -1
 lo:∀i,i<n->0<=B i/\B i<=255
section
variable (B:Nat->Int) (n:Nat)
def jL (i:Nat):Nat:=skip isDigit B n i
def zA (i:Nat):Prop:=i<jL B n i/\jL B n i-i<=9/\(jL B n i-i=1\/B i≠48)
instance (i:Nat):Decidable (zA B n i):=by unfold zA;infer_instance
def num (i:Nat):Option (Int×Nat):=if zA B n i then some (val B i (jL B n i-i),jL B n i) else none
def rC:Nat->List Int->Nat->Except Nat (List Int×Nat)
 |0,_,i=> .error i
 |f+1,l,i=>match num B n i with
  |none=> .error i
  |some (v,k)=>if l≠[]/\v<l.headD 0 then .error i else if B k=10 then .ok (l++[v],k+1) else if B k=32 then rC f (l++[v]) (k+1) else .error k
def iU (i:Nat):Except Nat (List Int×Nat):=if B i=10 then .ok ([],i+1) else rC B n (n+1) [] i
def oT (i:Nat) (last:Int×Int):Except Nat ((Int×Int)×Nat):=
 match num B n i with
 |none=> .error i
 |some (u,k)=>if B k≠32 then .error k else match num B n (k+1) with
  |none=> .error (k+1)
  |some (v,e)=>if v<=u then .error (k+1) else if u<last.1\/(u=last.1/\v<=last.2) then .error i else if B e≠10 then .error e else .ok ((u,v),e+1)
def lists:Nat->List (List Int)->Nat->Except Nat (List (List Int)×Nat)
 |0,ls,i=> .ok (ls,i)
 |k+1,ls,i=>match iU B n i with
  | .error e=> .error e
  | .ok (l,j)=>lists k (ls++[l]) j
def gC:Nat->List (Int×Int)->Int×Int->Nat->Except Nat (List (Int×Int)×Nat)
 |0,es,_,i=> .ok (es,i)
 |k+1,es,last,i=>match oT B n i last with
  | .error e=> .error e
  | .ok (p,j)=>gC k (es++[p]) p j
def MV (pl:Bool) (k i:Nat):Except Nat (Cert×Nat):=
 if pl then (match lists B n k [] i with| .error e=> .error e| .ok (ls,j)=> .ok (⟨true,ls,[]⟩,j))
 else (match gC B n k [] (-1,0) i with| .error e=> .error e| .ok (es,j)=> .ok (⟨false,[],es⟩,j))
def most (pl:Bool):Int:=if pl then 1048576 else 4194304
def parse:Cert×Int×Int:=
 if 33554432<n then (zero,33554432,10)
 else if B 0≠112/\B 0≠110 then (zero,0,170)
 else if B 1≠32 then (zero,1,170)
 else match num B n 2 with
  |none=>(zero,2,170)
  |some (k,i)=>if most (decide (B 0=112))<k then (zero,2,170) else if B i≠10 then (zero,i,170) else match MV B n (decide (B 0=112)) k.toNat (i+1) with
   | .error e=>(zero,e,170)
   | .ok (c,j)=>if j<n then (zero,j,170) else (c,0,0)
end
def dg (x:Int):List UInt8:=Lib.decDigits x.toNat
def jn:List Int->List UInt8
 |[]=>[]
 |[x]=>dg x
 |x::y::r=>dg x++32::jn (y::r)
def bJ (l:List Int):List UInt8:=jn l++[10]
def gD (p:Int×Int):List UInt8:=dg p.1++32::(dg p.2++[10])
def qT (c:Cert):List UInt8:=if c.pl then c.ar.flatMap bJ else c.es.flatMap gD
def Er (c:Cert):Nat:=if c.pl then c.ar.length else c.es.length
def dI (c:Cert):List UInt8:=[if c.pl then 112 else 110,32]++(dg (Er c)++10::qT c)
def dR (x:Int):Prop:=0<=x/\x<=999999999
def xG (l:List Int):Prop:=∀x∈l,dR x/\l.headD 0<=x
def Ob (es:List (Int×Int)):Prop:=(∀p∈es,dR p.1/\dR p.2/\p.1<p.2)/\∀i p q,es[i]? =some p->es[i+1]? =some q->p.1<q.1\/(p.1=q.1/\p.2<q.2)
def good (c:Cert):Prop:=if c.pl then c.es=[]/\(∀l∈c.ar,xG l)/\c.ar.length<=1048576 else c.ar=[]/\Ob c.es/\c.es.length<=4194304
def At (B:Nat->Int) (i:Nat) (L:List UInt8):Prop:=∀j x,L[j]? =some x->B (i+j)=(x.toNat:Int)
theorem At.app {B:Nat->Int} {i:Nat} {a b:List UInt8}:At B i (a++b)↔At B i a/\At B (i+a.length) b:=by
 constructor
 .intro h
  refine⟨fun j x hj=>h j x (by rw[aa5 (aaH.1 hj).1];exact hj),fun j x hj=> ?_⟩;rw[acU];exact h (a.length+j) x (by rw[abk (by omega)];simpa using hj)
 .rintro⟨h1,h2⟩ j x hj
  by_cases hl:j<a.length
  .rw[aa5 hl] at hj
   exact h1 j x hj
  .rw[abk (by omega)] at hj
   have:=h2 _ x hj;rwa[show i+a.length+(j-a.length)=i+j by omega] at this
theorem At.cons {B:Nat->Int} {i:Nat} {x:UInt8} {b:List UInt8}:At B i (x::b)↔B i=(x.toNat:Int)/\At B (i+1) b:=by
 constructor
 .intro h
  refine⟨h 0 x rfl,fun j y hj=> ?_⟩;rw[show i+1+j=i+(j+1) by omega];exact h (j+1) y (by simpa using hj)
 .rintro⟨h1,h2⟩ j y hj
  cases j with
  |zero=>cases hj;exact h1
  |succ j=>
   rw[show i+(j+1)=i+1+j by omega];exact h2 j y (by simpa using hj)
theorem At.nil {B:Nat->Int} {i:Nat}:At B i []:=fun j x h=>by cases h
theorem Ek (x:Int):0<(dg x).length:=Js _
theorem uu {x:Int} (h:dR x):(dg x).length<=9:=FT (by have:=h.1;have:=h.2;omega)
theorem fS {B:Nat->Int} {n i k:Nat} {x:Int} (hi:i<=n) (h:num B n i=some (x,k)):dR x/\At B i (dg x)/\k=i+(dg x).length/\k<=n:=by
 unfold num at h
 split at h
 .rename_i hok
  obtain⟨h1,h2⟩:=Prod.mk.inj (aa9 h);have hsk:=gM isDigit B n i hi;rw[show skip isDigit B n i=jL B n i from rfl,h2] at hsk;unfold zA at hok;rw[h2] at hok h1;have hd:∀j,j<k-i->48<=B (i+j)/\B (i+j)<=57:=fun j hj=>by
   have:=hsk.all (i+j) (by omega) (by omega);unfold isDigit at this;simpa using this
  have hb:=zj B i (k-i) hok.2.1 hd;rw[h1] at hb;have hit:=G3 B i (k-i) (by omega) hd hok.2.2;rw[h1,A5 hb.1] at hit;have hl:=jd B i (k-i);have e:dg x=ij B i (k-i):=hit;refine⟨⟨hb.1,by omega⟩,fun j y hj=> ?_,by rw[e,hl];have:=hsk.lo;omega,hsk.hi⟩;rw[e] at hj;have hjl:=(aaH.1 hj).1;rw[aaE hjl,yI] at hj;rw[hl] at hjl;have:=hd j hjl;rw[<-aa9 hj];simp;omega
 .cases h
end Ce
end
section
namespace Ce
open Nu
section
variable {B:Nat->Int} {n:Nat}
theorem Lp (x y:Int) (r:List Int):jn (x::y::r)=dg x++32::jn (y::r):=rfl
theorem Sz {l0:List Int} (h:l0≠[]) (r:List Int):(l0++r).headD 0=l0.headD 0:=by
 cases l0 with
 |nil=>exact absurd rfl h
 |cons a l=>rfl
def Up (last:Int×Int):List (Int×Int)->Prop
 |[]=>True
 |p::es=>(dR p.1/\dR p.2/\p.1<p.2)/\(last.1<p.1\/(last.1=p.1/\last.2<p.2))/\Up p es
theorem P0:∀(es:List (Int×Int)) (last:Int×Int),Up last es->Ob es
 |[],_,_=>⟨fun p h=>(by cases h),fun i p q h=>(by cases h)⟩
 |p::es,last,⟨h1,h2,h3⟩=>by
  have ih:=P0 es p h3;refine⟨fun r hr=> ?_,fun i a b ha hb=> ?_⟩
  .rcases aa4.1 hr with rfl|hr
   .exact h1
   .exact ih.1 r hr
  .cases i with
   |zero=>
    cases ha;cases es with
    |nil=>cases hb
    |cons q es=>cases hb;exact h3.2.1
   |succ i=>exact ih.2 i a b (by simpa using ha) (by simpa using hb)
theorem Gh (c:Cert):(dI c).length=2+((dg (Er c)).length+((qT c).length+1)):=by
 simp[dI];omega
end
end Ce
end
section
namespace Ce
open Nu
section
variable {B:Nat->Int} {n:Nat}
theorem RP {l:List Int} {x:Int} (h:xG l) (hx:dR x) (hh:¬(l≠[]/\x<l.headD 0)):xG (l++[x]):=by
 cases l with
 |nil=>
  intro y hy;obtain rfl:y=x:=by simpa using hy
  exact⟨hx,acq _⟩
 |cons a l=>
  intro y hy;rw[Sz (by simp)];rcases abo.1 hy with hy|hy
  .exact h y hy
  .obtain rfl:y=x:=by simpa using hy
   exact⟨hx,by
    have:¬y<(a::l).headD 0:=fun k=>hh ⟨by simp,k⟩
    omega⟩
theorem gw (hT:qg B n) {i:Nat} {z:Int} (h:B i=z) (hz:z≠-1):i<n:=by
 rcases abW i n with h1|h1
 .exact h1
 .have:=hT.out i h1
  omega
theorem K3 (hT:qg B n):∀(f:Nat) (l0:List Int) (i:Nat) {l:List Int} {k:Nat},i<=n->xG l0->rC B n f l0 i= .ok (l,k)->∃x r,l=l0++x::r/\xG l/\At B i (jn (x::r)++[10])/\k=i+(jn (x::r)).length+1/\k<=n
 |0,_,_,_,_,_,_,h=>by cases h
 |f+1,l0,i,l,k,hi,hok,h=>by
  unfold rC at h;cases hm:num B n i with
  |none=>rw[hm] at h;cases h
  |some q=>
   obtain⟨v,e⟩:=q;rw[hm] at h;dsimp only at h;obtain⟨n1,n2,n3,n4⟩:=fS hi hm;by_cases hh:l0≠[]/\v<l0.headD 0
   .rw[if_pos hh] at h;cases h
   .rw[if_neg hh] at h
    have hs:=RP hok n1 hh;by_cases h10:B e=10
    .rw[if_pos h10] at h
     cases h;have:=gw hT h10 (by decide);refine⟨v,[],by simp,hs,At.app.2 ⟨n2,At.cons.2 ⟨by rw[show jn [v]=dg v from rfl,<-n3];exact h10,At.nil⟩⟩,by rw[n3];rfl,by omega⟩
    .rw[if_neg h10] at h
     by_cases gi:B e=32
     .rw[if_pos gi] at h
      have hlt:=gw hT gi (by decide);obtain⟨x,r,h1,h2,h3,h4,h5⟩:=K3 hT f (l0++[v]) (e+1) (by omega) hs h;refine⟨v,x::r,by rw[h1];simp,h2,?_,?_,h5⟩
      .rw[Lp,abb,abp]
       exact At.app.2 ⟨n2,At.cons.2 ⟨by rw[<-n3];exact gi,by rw[<-n3];exact h3⟩⟩
      .rw[Lp,aaZ,abx]
       omega
     .rw[if_neg gi] at h;cases h
theorem Ql (hT:qg B n) {i k:Nat} {l:List Int} (hi:i<=n) (h:iU B n i= .ok (l,k)):xG l/\At B i (bJ l)/\k=i+(bJ l).length/\k<=n:=by
 unfold iU at h;by_cases h10:B i=10
 .rw[if_pos h10] at h
  cases h;exact⟨fun y hy=>(by cases hy),At.cons.2 ⟨h10,At.nil⟩,rfl,gw hT h10 (by decide)⟩
 .rw[if_neg h10] at h
  obtain⟨x,r,h1,h2,h3,h4,h5⟩:=K3 hT (n+1) [] i hi (fun y hy=>(by cases hy)) h;rw[abl] at h1;subst h1;exact⟨h2,h3,by rw[h4];simp[bJ];omega,h5⟩
theorem QM (hT:qg B n) {i k:Nat} {last p:Int×Int} (hi:i<=n) (h:oT B n i last= .ok (p,k)):(dR p.1/\dR p.2/\p.1<p.2)/\(last.1<p.1\/(last.1=p.1/\last.2<p.2))/\At B i (gD p)/\k=i+(gD p).length/\k<=n:=by
 unfold oT at h;cases hm:num B n i with
 |none=>rw[hm] at h;cases h
 |some q=>
  obtain⟨u,e⟩:=q;rw[hm] at h;dsimp only at h;obtain⟨n1,n2,n3,n4⟩:=fS hi hm;by_cases gi:B e≠32
  .rw[if_pos gi] at h;cases h
  .rw[if_neg gi] at h
   have gi:B e=32:=aa2 gi;have hlt:=gw hT gi (by decide);cases hm2:num B n (e+1) with
   |none=>rw[hm2] at h;cases h
   |some q=>
    obtain⟨v,e2⟩:=q;rw[hm2] at h;dsimp only at h;obtain⟨m1,m2,m3,m4⟩:=fS (by omega) hm2;by_cases c1:v<=u
    .rw[if_pos c1] at h;cases h
    .rw[if_neg c1] at h
     by_cases c2:u<last.1\/(u=last.1/\v<=last.2)
     .rw[if_pos c2] at h;cases h
     .rw[if_neg c2] at h
      by_cases c3:B e2≠10
      .rw[if_pos c3] at h;cases h
      .rw[if_neg c3] at h
       have c3:B e2=10:=aa2 c3;have hlt2:=gw hT c3 (by decide);cases h;refine⟨⟨n1,m1,by dsimp only;omega⟩,by dsimp only;omega,?_,?_,by omega⟩
       .show At B i (dg u++32::(dg v++[10]))
        refine At.app.2 ⟨n2,At.cons.2 ⟨by rw[<-n3];exact gi,At.app.2 ⟨by rw[<-n3];exact m2,At.cons.2 ⟨by rw[<-n3,<-m3];exact c3,At.nil⟩⟩⟩⟩
       .show e2+1=i+(dg u++32::(dg v++[10])).length
        simp;omega
theorem GR (hT:qg B n):∀(k:Nat) (Fp:List (List Int)) (i:Nat) {ls:List (List Int)} {j:Nat},i<=n->lists B n k Fp i= .ok (ls,j)->∃r,ls=Fp++r/\r.length=k/\(∀l∈r,xG l)/\At B i (r.flatMap bJ)/\j=i+(r.flatMap bJ).length/\j<=n
 |0,Fp,i,ls,j,hi,h=>by
  cases h;exact⟨[],by simp,rfl,fun l hl=>(by cases hl),At.nil,rfl,hi⟩
 |k+1,Fp,i,ls,j,hi,h=>by
  have h:(match iU B n i with| .error e=> .error e| .ok (l,j)=>lists B n k (Fp++[l]) j)=Except.ok (ls,j):=h;cases hl:iU B n i with
  |error e=>rw[hl] at h;cases h
  |ok q=>
   obtain⟨l,e⟩:=q;rw[hl] at h;dsimp only at h;obtain⟨a1,a2,a3,a4⟩:=Ql hT hi hl;obtain⟨r,r1,r2,r3,r4,r5,r6⟩:=GR hT k (Fp++[l]) e a4 h;refine⟨l::r,by rw[r1];simp,by simp[r2],fun x hx=> ?_,?_,?_,r6⟩
   .rcases aa4.1 hx with rfl|hx
    .exact a1
    .exact r3 x hx
   .rw[acH]
    exact At.app.2 ⟨a2,by rw[<-a3];exact r4⟩
   .rw[acH,aaZ]
    omega
theorem Hj (hT:qg B n):∀(k:Nat) (FR:List (Int×Int)) (last:Int×Int) (i:Nat) {es:List (Int×Int)} {j:Nat},i<=n->gC B n k FR last i= .ok (es,j)->∃r,es=FR++r/\r.length=k/\Up last r/\At B i (r.flatMap gD)/\j=i+(r.flatMap gD).length/\j<=n
 |0,FR,last,i,es,j,hi,h=>by
  cases h;exact⟨[],by simp,rfl,trivial,At.nil,rfl,hi⟩
 |k+1,FR,last,i,es,j,hi,h=>by
  have h:(match oT B n i last with| .error e=> .error e| .ok (p,j)=>gC B n k (FR++[p]) p j)=Except.ok (es,j):=h;cases hl:oT B n i last with
  |error e=>rw[hl] at h;cases h
  |ok q=>
   obtain⟨p,e⟩:=q;rw[hl] at h;dsimp only at h;obtain⟨a1,a2,a3,a4,a5⟩:=QM hT hi hl;obtain⟨r,r1,r2,r3,r4,r5,r6⟩:=Hj hT k (FR++[p]) p e a5 h;refine⟨p::r,by rw[r1];simp,by simp[r2],⟨a1,a2,r3⟩,?_,?_,r6⟩
   .rw[acH]
    exact At.app.2 ⟨a3,by rw[<-a4];exact r4⟩
   .rw[acH,aaZ]
    omega
theorem RM (hT:qg B n) {c:Cert} {pl:Int} (h:parse B n=(c,pl,0)):good c/\At B 0 (dI c)/\(dI c).length=n/\n<=33554432/\pl=0:=by
 unfold parse at h;by_cases c0:33554432<n
 .rw[if_pos c0] at h;cases h
 .rw[if_neg c0] at h
  by_cases c1:B 0≠112/\B 0≠110
  .rw[if_pos c1] at h;cases h
  .rw[if_neg c1] at h
   by_cases c2:B 1≠32
   .rw[if_pos c2] at h;cases h
   .rw[if_neg c2] at h
    have c2:B 1=32:=aa2 c2;have hn1:=gw hT c2 (by decide);cases hm:num B n 2 with
    |none=>rw[hm] at h;cases h
    |some q=>
     obtain⟨k,i⟩:=q;rw[hm] at h;dsimp only at h;obtain⟨n1,n2,n3,n4⟩:=fS (by omega) hm;obtain⟨pb,hpb⟩:∃pb,decide (B 0=112)=pb:=⟨_,rfl⟩;rw[hpb] at h;have hb0:B 0=if pb then 112 else 110:=by
      cases pb with
      |true=>simpa using hpb
      |false=>
       have:B 0≠112:=by simpa using hpb
       show B 0=110;omega
     by_cases c3:most pb<k
     .rw[if_pos c3] at h;cases h
     .rw[if_neg c3] at h
      by_cases c4:B i≠10
      .rw[if_pos c4] at h;cases h
      .rw[if_neg c4] at h
       have c4:B i=10:=aa2 c4;have hni:=gw hT c4 (by decide);have fin:∀{c':Cert} {j:Nat},(if j<n then ((zero,(j:Int),(170:Int)):Cert×Int×Int) else (c',0,0))=(c,pl,0)->¬j<n/\c'=c/\pl=0:=fun {c' j} h=>by
        by_cases hj:j<n
        .rw[if_pos hj] at h;cases h
        .rw[if_neg hj] at h
         cases h;exact⟨hj,rfl,rfl⟩
       have head:∀{c':Cert},c'.pl=pb->(Er c':Int)=k->At B (i+1) (qT c')->At B 0 (dI c'):=fun {c'} e1 e2 e3=>by
        unfold dI;rw[e1,e2];refine At.app.2 ⟨At.cons.2 ⟨by rw[hb0];cases pb<;>rfl,At.cons.2 ⟨c2,At.nil⟩⟩,?_⟩;rw[show 0+([if pb then 112 else 110,32]:List UInt8).length=2 from rfl];exact At.app.2 ⟨n2,At.cons.2 ⟨by rw[<-n3];exact c4,by rw[<-n3];exact e3⟩⟩
       cases pb with
       |true=>
        unfold MV at h;rw[if_pos rfl] at h;cases hb:lists B n k.toNat [] (i+1) with
        |error e=>rw[hb] at h;cases h
        |ok q=>
         obtain⟨ls,j⟩:=q;rw[hb] at h;dsimp only at h;obtain⟨f1,rfl,f2⟩:=fin h;obtain⟨r,r1,r2,r3,r4,r5,r6⟩:=GR hT k.toNat [] (i+1) (by omega) hb;rw[abl] at r1;subst r1;have hk:(ls.length:Int)=k:=by rw[r2];have:=n1.1;omega
         have hh:=head (c':=⟨true,ls,[]⟩) rfl hk r4;refine⟨?_,hh,?_,by omega,f2⟩
         .unfold good
          rw[if_pos rfl];unfold most at c3;rw[if_pos rfl] at c3;exact⟨rfl,r3,by dsimp only;omega⟩
         .rw[Gh]
          show 2+((dg (ls.length:Int)).length+((ls.flatMap bJ).length+1))=n;rw[hk];omega
       |false=>
        unfold MV at h;rw[if_neg (by simp)] at h;cases hb:gC B n k.toNat [] (-1,0) (i+1) with
        |error e=>rw[hb] at h;cases h
        |ok q=>
         obtain⟨es,j⟩:=q;rw[hb] at h;dsimp only at h;obtain⟨f1,rfl,f2⟩:=fin h;obtain⟨r,r1,r2,r3,r4,r5,r6⟩:=Hj hT k.toNat [] (-1,0) (i+1) (by omega) hb;rw[abl] at r1;subst r1;have hk:(es.length:Int)=k:=by rw[r2];have:=n1.1;omega
         have hh:=head (c':=⟨false,[],es⟩) rfl hk r4;refine⟨?_,hh,?_,by omega,f2⟩
         .unfold good
          rw[if_neg (by simp)];unfold most at c3;rw[if_neg (by simp)] at c3;exact⟨rfl,P0 es _ r3,by dsimp only;omega⟩
         .rw[Gh]
          show 2+((dg (es.length:Int)).length+((es.flatMap gD).length+1))=n;rw[hk];omega
end
end Ce
end
section
open Go.RowKit
def Ce.bD (n:Nat) (g:Nat->Int) (i:Nat):Int:=if i<n then g i else -1
theorem aJ.txt {w:World} {ao:Option Addr} {n:Nat} {g:Nat->Int} (h:aJ w ao n g):Ce.qg (Ce.bD n g) n:=
 ⟨fun i hi=>if_neg (by omega),fun i hi=>by rw[Ce.bD,if_pos hi];exact(h i hi).1⟩
theorem Ce.Pr {n:Nat} {g:Nat->Int} {i:Nat} (h:48<=Ce.bD n g i):i<n:=by
 unfold Ce.bD at h
 split at h
 .assumption
 .omega
end
section
open Go.RowKit
def aF (w:World) (g:Nat) (l:List Int):Prop:=∃rest:List Value,w.heap[g]? =some (.cells (l.map (Value.int .i64)++rest).toArray 3 (0,0))
section
variable {w w':World} {g:Nat} {l:List Int}
theorem aF.lt (h:aF w g l):g<w.heap.size:=by
 obtain⟨rest,h⟩:=h;exact lt_of_block h
theorem aF.cell (h:aF w g l) {i:Nat} {x:Int} (hx:l[i]? =some x):w.cell? ⟨g,i,none⟩=some (.int .i64 x):=by
 obtain⟨rest,h⟩:=h;have hl:=(aaH.1 hx).1;have:(l.map (Value.int .i64)++rest)[i]? =some (.int .i64 x):=by
  rw[aa5 (by simpa using hl),abj,hx];rfl
 simp[World.cell?,h];simpa using this
theorem aF.free (h:aF w g l) (i:Nat):w.frozen? ⟨g,i,none⟩=false:=by
 obtain⟨rest,h⟩:=h;simp[World.frozen?,h]
theorem aF.set (h:aF w g l) {i:Nat} (hi:i<l.length) (x:Int):aF (w.setCell ⟨g,i,none⟩ (.int .i64 x)) g (l.set i x):=by
 obtain⟨rest,h⟩:=h;refine⟨rest,?_⟩;rw[heap_setCell_same w g i _ _ _ h];have e:((l.map (Value.int .i64)++rest).toArray.setIfInBounds i (.int .i64 x))=((l.set i x).map (Value.int .i64)++rest).toArray:=by
  rw[acD,List.set_append_left _ _ (by simpa using hi),List.map_set]
 rw[e]
theorem aF.other (h:aF w g l) {b i:Nat} (hb:g≠b) (x:Value):aF (w.setCell ⟨b,i,none⟩ x) g l:=by
 obtain⟨rest,h⟩:=h;exact⟨rest,(heap_setCell_other w ⟨b,i,none⟩ g x hb).trans h⟩
theorem aF.later (h:aF w g l) (hb:Below w.heap.size w w'):aF w' g l:=by
 have hl:=h.lt;obtain⟨rest,h⟩:=h;exact⟨rest,(hb.block g hl).trans h⟩
theorem aF.alloc (h:aF w g l) (o:Obj):aF (w.alloc o) g l:=by
 have hl:=h.lt;obtain⟨rest,h⟩:=h;exact⟨rest,(aa0 w o g hl).trans h⟩
theorem aF.drew (h:aF w g l):aF w.drew g l:=h
theorem aq.ins (h:aq w g l):aF w g l:=⟨[],by rw[abP];exact h⟩
end
theorem xU {w:World} {B g n c:Nat} {xs:List Int} (h:w.ownsRow B 3 1 (.slice (some ⟨g,0,none⟩) n c) n (xs.map (Value.int .i64))):aF w g xs:=by
 rcases h.2 with ⟨h,_⟩|⟨g',cap,cur,e,_,hh,_,_,hs,ht⟩
 .cases h
 cases e;refine⟨cur.toList.drop (n*1),?_⟩;rw[<-ht,acM];exact hh
structure av (S:Nat->Prop) (w w':World):Prop where
 os:w'.os=w.os
 tape:w'.tape=w.tape
 output:w'.output=w.output
 size:w.heap.size<=w'.heap.size
 block:∀k,k<w.heap.size->¬S k->w'.heap[k]? =w.heap[k]?
section
variable {S:Nat->Prop} {w w' w0:World}
theorem av.refl (S:Nat->Prop) (w:World):av S w w:=⟨rfl,rfl,rfl,aaF _,fun _ _ _=>rfl⟩
theorem av.trans (h:av S w0 w) (k:av S w w'):av S w0 w':=
 ⟨k.os.trans h.os,k.tape.trans h.tape,k.output.trans h.output,aa1 h.size k.size,fun i hi hn=>(k.block i (abd hi h.size) hn).trans (h.block i hi hn)⟩
theorem av.setCell (h:av S w0 w) {b i:Nat} (hb:S b) (x:Value):av S w0 (w.setCell ⟨b,i,none⟩ x):=
 ⟨h.os,h.tape,h.output,by simpa using h.size,fun k hk hn=>(heap_setCell_other w ⟨b,i,none⟩ k x (fun e=>hn (by rw[e];exact hb))).trans (h.block k hk hn)⟩
theorem av.drew (h:av S w0 w):av S w0 w.drew:=⟨h.os,h.tape,h.output,h.size,h.block⟩
theorem av.drewN (h:av S w0 w) (k:Nat):av S w0 (w.drewN k):=⟨h.os,h.tape,h.output,h.size,h.block⟩
theorem av.later (h:av S w0 w) (hb:Below w.heap.size w w'):av S w0 w':=
 ⟨hb.os.trans h.os,hb.tape.trans h.tape,hb.output.trans h.output,aa1 h.size hb.size,fun k hk hn=>(hb.block k (abd hk h.size)).trans (h.block k hk hn)⟩
theorem av.alloc (h:av S w0 w) (o:Obj):av S w0 (w.alloc o):=h.later ((aaG _ _).alloc (aaF _) o)
theorem av.below {B:Nat} (h:av S w w') (hB:B<=w.heap.size) (hS:∀k,S k->B<=k):Below B w w':=
 ⟨h.os,h.tape,h.output,h.size,fun k hk=>h.block k (abd hk hB) (fun hs=>by have:=hS k hs;omega)⟩
theorem av.ints {g:Nat} {l:List Int} (h:av S w w') (hi:aF w g l) (hg:¬S g):aF w' g l:=by
 have hl:=hi.lt;obtain⟨rest,hi⟩:=hi;exact⟨rest,(h.block g hl hg).trans hi⟩
theorem av.mono {S':Nat->Prop} (h:av S w w') (hS:∀k,k<w.heap.size->S k->S' k):av S' w w':=
 ⟨h.os,h.tape,h.output,h.size,fun k hk hn=>h.block k hk (fun hs=>hn (hS k hk hs))⟩
end
end
section
open Go.RowKit
def ak (w:World) (B:Nat) (v:Value) (l:List Int):Prop:=w.ownsRow B 3 1 v l.length (l.map (Value.int .i64))
section
variable {w w':World} {B:Nat} {v:Value} {l:List Int}
theorem ak.nil (w:World) (B:Nat):ak w B (.slice none 0 0) []:=acG _ _ _ _
theorem ak.form (h:ak w B v l):∃ao cap,v= .slice ao l.length cap/\aV w ao l/\(∀x,ao=some x->B<=x.block/\x.block<w.heap.size):=by
 rcases h.2 with ⟨rfl,h0⟩|⟨g,cap,cur,rfl,hB,hh,_⟩
 .refine⟨none,0,by rw[h0],fun j x hj=> ?_,fun x hx=>by cases hx⟩
  have:=(aaH.1 hj).1;omega
 .refine⟨_,_,rfl,fun j x hj=> ?_,fun x hx=>by cases hx;exact⟨hB,lt_of_block hh⟩⟩
  refine⟨g,0,rfl,?_⟩;have:=ab5 h (g:=g) rfl j (.int .i64 x) (by rw[abj,hj];rfl);have e:((⟨g,0,none⟩:Addr).add j)=⟨g,0+j,none⟩:=by
   by_cases h0:j=0<;>simp[Addr.add,h0]
  rw[e] at this;exact this
theorem ak.same (h:ak w B v l) (hb:∀g,v.ownBlock=some g->g<w.heap.size->w'.heap[g]? =w.heap[g]?):ak w' B v l:=by
 refine⟨h.1,?_⟩;rcases h.2 with h|⟨g,cap,cur,e1,hgB,hh,hr⟩
 .exact .inl h
 .exact .inr ⟨g,cap,cur,e1,hgB,(hb g (by rw[e1];rfl) (lt_of_block hh)).trans hh,hr⟩
theorem ak.later (h:ak w B v l) (hb:Below w.heap.size w w'):ak w' B v l:=h.same fun g _ hl=>hb.block g hl
theorem ak.lower {B':Nat} (h:ak w B v l) (hB:B'<=B):ak w B' v l:=by
 refine⟨h.1,?_⟩;rcases h.2 with h|⟨g,cap,cur,e1,hgB,hr⟩
 .exact .inl h
 .exact .inr ⟨g,cap,cur,e1,aa1 hB hgB,hr⟩
theorem aq.own {g n:Nat} (h:aq w g l) (hB:B<=g) (hl:l.length=n) (hm:n<=8388608):ak w B (.slice (some ⟨g,0,none⟩) n n) l:=by
 subst hl;refine⟨by simp,.inr ⟨g,_,_,rfl,hB,h,aaF _,by unfold maxLen;omega,by simp,?_⟩⟩;rw[abn (by simp)]
end
end
section
open Go.RowKit Go.Sort
theorem bu {ops:Array Oper} {rest:List Oper} {o:Oper} {a:Act} {Q:Exit->Act->World->Prop} (hgd:o.guard=none) (s x:Operand)
 (ho:o.op= .call { callee:= .builtin .append,args:= #[s,x],argTypes:= #[55,55] }) (W:World) (B:Nat) (v:Value) (l:List Int) (z:Int) (hown:ak W B v l)
 (hB:B<=W.heap.size) (hl:l.length<=17592186044000) (hs:a.eval s=v) (hx:a.eval x= .slice (some ⟨W.heap.size,0,none⟩) 1 1)
 (h:∀v' w',ak w' B v' (l++[z])->(W.alloc (.cells #[.int .i64 z] 3)).grownBy w' v.ownBlock->(v'.ownBlock=v.ownBlock\/v'.ownBlock=some (W.heap.size+1))->Below B W w'->wpList Tryz.prog ops Q rest (a.put o.dst v') w'):
 wpList Tryz.prog ops Q (o::rest) a (W.alloc (.cells #[.int .i64 z] 3)):=by
 obtain⟨i0,hi,hz0,hz1,hz2⟩:=info_parts Tryz.cL;have hb0:Below B W (W.alloc (.cells #[.int .i64 z] 3)):=(aaG _ _).alloc hB _;refine wpList_append_own_at _ hgd s x 55 ho B 3 i0 (.int .i64 0) 1 8 Tryz.underlying55 hi hz0 hz1 hz2 rfl (by decide) _ _ _ hs (abv hown _) ⟨W.heap.size,0,none⟩ 1 1 [.int .i64 z] hx rfl (cell_one_new _ _ _) (by simp[Value.oneCell']) (by unfold maxLen;omega) (by omega) (by simp;omega) ?_;intro v' w' hown' hg _ hat;have ho':ak w' B v' (l++[z]):=by
  unfold ak;rw[aaZ,abt];exact hown'
 have Sv:∀b,v.ownBlock=some b->B<=b:=fun b hb=>(aaO hown b hb).1
 refine h v' w' ho' hg (by simpa using hat) (hb0.grown hg (by simp;omega) Sv)
end
section
open Go.RowKit
namespace Ce
def iy (w:World) (ao:Option Addr) (ls:List (List Int)):Prop:=∀(k:Nat) (l:List Int),ls[k]? =some l->∃b o xa xc,ao=some ⟨b,o,none⟩/\w.cell? ⟨b,o+k,none⟩=some (.slice xa l.length xc)/\aV w xa l
theorem iy.later {w w':World} {ao:Option Addr} {ls:List (List Int)} (h:iy w ao ls) (hb:Below w.heap.size w w'):iy w' ao ls:=fun k l hl=>by
 obtain⟨b,o,xa,xc,e,hc,hs⟩:=h k l hl;exact⟨b,o,xa,xc,e,(hb.cell (p:=⟨b,o+k,none⟩) (block_lt_of_cell hc)).trans hc,hs.later hb⟩
def AR (ls:List (List Int)):Prop:=(∀l∈ls,xG l)/\ls.length<=1048576
def lZ (es:List (Int×Int)):Prop:=Ob es/\es.length<=4194304
def Says (e:Ending) (p:Prop):Prop:=∃t,e= .returned (.bool t)/\(t=true↔p)
theorem Says.yes {p:Prop} (h:p):Says (.returned (.bool true)) p:=⟨true,rfl,iff_of_true rfl h⟩
theorem Says.no {p:Prop} (h:¬p):Says (.returned (.bool false)) p:=⟨false,rfl,iff_of_false ad0 h⟩
end Ce
end
section
open Go.RowKit
namespace Ce
theorem Ei {A:Type} {l:List A} {k:Nat} {x:A} (h:l[k]? =some x):l.drop k=x::l.drop (k+1):=by
 obtain⟨hk,e⟩:=aaH.1 h;rw[acO hk,e]
end Ce
namespace Ce
def jt (l:List Int):List UInt8:=l.flatMap fun x=>32::dg x
theorem zO (x:Int):∀r,jn (x::r)=dg x++jt r
 |[]=>by simp[jn,jt]
 |y::r=>by
  have ih:=zO y r;have e:jn (x::y::r)=dg x++32::jn (y::r):=rfl;rw[e,ih];simp[jt]
def rem (l:List Int) (j:Nat):List UInt8:=if j=0 then jn l else jt (l.drop j)
theorem NU {l:List Int} {x:Int} (h:l[0]? =some x):rem l 0=dg x++rem l 1:=by
 cases l with
 |nil=>cases h
 |cons y r=>
  cases h;unfold rem;rw[if_pos rfl,zO,if_neg (by omega)];rfl
theorem RA {l:List Int} {x:Int} {j:Nat} (hj:0<j) (h:l[j]? =some x):rem l j=32::(dg x++rem l (j+1)):=by
 unfold rem;rw[if_neg (by omega),if_neg (by omega),Ei h];simp[jt]
theorem T9 (l:List Int):rem l l.length=[]:=by
 unfold rem
 split
 .rename_i h
  rw[abY.1 h];rfl
 .simp[jt]
end Ce
def Tm (T:List UInt8) (e:Ending):Prop:=(33554432<T.length/\e= .returned (.tuple #[.string ⟨#[]⟩,.int .i64 10]))\/(T.length<=33554432/\e= .returned (.tuple #[.string ⟨T.toArray⟩,.int .i64 0]))
structure Ce.jZ (w:World) (v:Value) (c:Ce.Cert) (ao eo:Option Addr) (ca ce:Nat):Prop where
 val:v= .agg #[.bool c.pl,.slice ao c.ar.length ca,.slice eo c.es.length ce]
 ar:Ce.iy w ao c.ar
 es:ah w eo c.es
theorem Ce.jZ.later {w w':World} {v:Value} {c:Ce.Cert} {ao eo:Option Addr} {ca ce:Nat} (h:Ce.jZ w v c ao eo ca ce) (hb:Below w.heap.size w w'):Ce.jZ w' v c ao eo ca ce:=⟨h.val,h.ar.later hb,h.es.later hb⟩
structure Ce.Fits (c:Ce.Cert):Prop where
 ar:c.ar.length<=4611686018427387904
 es:c.es.length<=4611686018427387904
 row:∀l∈c.ar,l.length<=4611686018427387904
 txt:Ce.good c->(Ce.dI c).length<=70368744177664
def uB (c:Ce.Cert) (e:Ending):Prop:=(¬Ce.good c->e= .returned (.tuple #[.string ⟨#[]⟩,.int .i64 170]))/\(Ce.good c->Tm (Ce.dI c) e)
end
section
open Go.RowKit
theorem Tryz.nu:(Tryz.prog.info? 55).map (fun i=>(i.zero,i.size,i.bytes))=some (some (.slice none 0 0),1,24):=by kernel_rfl
theorem GF {W:World} {base:Nat} {e:TypeId} {size:Nat} {v:Value} {k:Nat} {xs:List Value} (h:W.ownsRow base e size v (k+1) xs):∃g cap,v= .slice (some ⟨g,0,none⟩) (k+1) cap:=by
 rcases h.2 with ⟨_,h0⟩|⟨g,cap,_,rfl,_⟩
 .omega
 .exact⟨g,cap,rfl⟩
structure ay (w:World) (B:Nat) (v:Value) (vs:List Value) (ls:List (List Int)):Prop where
 len:vs.length=ls.length
 outer:w.ownsRow B 55 1 v ls.length vs
 row:∀(u:Nat) (x:Value) (l:List Int),vs[u]? =some x->ls[u]? =some l->ak w B x l
 apart:∀(u u':Nat) (x x':Value) (b:Nat),u≠u'->vs[u]? =some x->vs[u']? =some x'->x.ownBlock=some b->x'.ownBlock≠some b
 far:∀(u:Nat) (x:Value) (b:Nat),vs[u]? =some x->x.ownBlock=some b->v.ownBlock≠some b
section
variable {w w':World} {B:Nat} {v:Value} {vs:List Value} {ls:List (List Int)}
theorem ay.at (h:ay w B v vs ls) {u:Nat} {x:Value} (hx:vs[u]? =some x):∃l,ls[u]? =some l:=⟨_,aaE (by rw[<-h.len];exact(aaH.1 hx).1)⟩
theorem ay.at' (h:ay w B v vs ls) {u:Nat} {l:List Int} (hl:ls[u]? =some l):∃x,vs[u]? =some x:=⟨_,aaE (by rw[h.len];exact(aaH.1 hl).1)⟩
theorem cO {e:TypeId} {s n:Nat} {xs:List Value} (h:w.ownsRow B e s v n xs) (hb:∀g,v.ownBlock=some g->B<=g->g<w.heap.size->w'.heap[g]? =w.heap[g]?):w'.ownsRow B e s v n xs:=by
 refine⟨h.1,?_⟩;rcases h.2 with h|⟨g,cap,cur,e1,hgB,hh,hr⟩
 .exact .inl h
 .exact .inr ⟨g,cap,cur,e1,hgB,(hb g (by rw[e1];rfl) hgB (lt_of_block hh)).trans hh,hr⟩
theorem ay.same (h:ay w B v vs ls) (hb:∀g,B<=g->g<w.heap.size->w'.heap[g]? =w.heap[g]?):ay w' B v vs ls:=
 ⟨h.len,cO h.outer fun g _ h1 h2=>hb g h1 h2,fun u x l hx hl=>cO (h.row u x l hx hl) fun g _ h1 h2=>hb g h1 h2,h.apart,h.far⟩
theorem ay.later (h:ay w B v vs ls) (hb:Below w.heap.size w w'):ay w' B v vs ls:=h.same fun g _ hg=>hb.block g hg
theorem ay.nil (w:World) (B:Nat):ay w B (.slice none 0 0) [] []:=⟨rfl,acG _ _ _ _,fun u x l hx=>by simp at hx,fun u u' x x' b _ hx=>by simp at hx,fun u x b hx=>by simp at hx⟩
theorem ay.lower {B':Nat} (h:ay w B v vs ls) (hB:B'<=B):ay w B' v vs ls:=by
 refine⟨h.len,⟨h.outer.1,?_⟩,fun u x l hx hl=>(h.row u x l hx hl).lower hB,h.apart,h.far⟩;rcases h.outer.2 with h|⟨g,cap,cur,e1,hgB,hr⟩
 .exact .inl h
 .exact .inr ⟨g,cap,cur,e1,aa1 hB hgB,hr⟩
theorem ay.grow {W w1:World} {x v':Value} {l:List Int} (h:ay W B v vs ls) (hx:ak W B x l) (hx1:∀(u:Nat) (y:Value) (b:Nat),vs[u]? =some y->y.ownBlock=some b->x.ownBlock≠some b) (hx2:∀b,v.ownBlock=some b->x.ownBlock≠some b)
 {tmp:Obj} (hown:w1.ownsRow B 55 1 v' (ls.length+1) (vs++[x])) (hgrow:(W.alloc tmp).grownBy w1 v.ownBlock) (hat:v'.ownBlock=v.ownBlock\/v'.ownBlock=some (W.heap.size+1)):
 ay w1 B v' (vs++[x]) (ls++[l]):=by
 have hsame:∀g,v.ownBlock≠some g->g<W.heap.size->w1.heap[g]? =W.heap[g]? :=fun g hne hg=>by
  rw[hgrow.block g (by rw[aa7];omega) (fun e=>hne e.symm)];exact aa0 W tmp g hg
 have hold:∀u y k,vs[u]? =some y->ls[u]? =some k->ak w1 B y k:=fun u y k hy hk=>(h.row u y k hy hk).same fun g hg hl=>hsame g (h.far u y g hy hg) hl
 have hxx:ak w1 B x l:=hx.same fun g hg hl=>hsame g (fun e=>hx2 g e hg) hl
 have hlt:∀y k b,ak W B y k->y.ownBlock=some b->b<W.heap.size:=fun y k b ho hb=>(aaO ho b hb).2
 have fF:∀u y,(vs++[x])[u]? =some y->(u<vs.length/\vs[u]? =some y)\/(u=vs.length/\y=x):=fun u y hy=>by
  by_cases hu:u<vs.length
  .rw[aa5 hu] at hy
   exact .inl ⟨hu,hy⟩
  .rw[abk (by omega)] at hy
   have hl:=(aaH.1 hy).1;have e:u-vs.length=0:=by simp at hl;omega
   rw[e] at hy;exact .inr ⟨by omega,(aa9 hy).symm⟩
 refine⟨by simp[h.len],by rw[aaZ];exact hown,fun u y k hy hk=> ?_,fun u u' y y' b hne hy hy' hb=> ?_,fun u y b hy hb=> ?_⟩
 .rcases fF u y hy with ⟨hu,h1⟩|⟨hu,rfl⟩
  .rw[aa5 (by rw[<-h.len];exact hu)] at hk
   exact hold u y k h1 hk
  .rw[hu,h.len,abk (aaF _),Nat.sub_self] at hk
   obtain rfl:=aa9 hk;exact hxx
 .rcases fF u y hy with ⟨hu,h1⟩|⟨hu,rfl⟩<;>rcases fF u' y' hy' with ⟨rK,h2⟩|⟨rK,rfl⟩
  .exact h.apart u u' y y' b hne h1 h2 hb
  .exact hx1 u y b h1 hb
  .intro hc
   exact hx1 u' y' b h2 hc hb
  .omega
 .intro hc
  rcases hat with e|e
  .rw[e] at hc
   rcases fF u y hy with ⟨hu,h1⟩|⟨hu,rfl⟩
   .exact h.far u y b h1 hb hc
   .exact hx2 b hc hb
  .rw[e] at hc
   have dO:=aa9 hc;rcases fF u y hy with ⟨hu,h1⟩|⟨hu,rfl⟩
   .obtain⟨k,hk⟩:=h.at h1
    have:=hlt y k b (h.row u y k h1 hk) hb;omega
   .have:=hlt y l b hx hb
    omega
end
end
end Go.Proofs.YtdbjpbjocmcpkaaGreatDoor
