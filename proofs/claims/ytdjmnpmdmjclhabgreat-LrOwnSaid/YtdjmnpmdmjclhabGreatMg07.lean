import Derived.Test.YtdjmnpmdmjclhabGreatMg01
import Derived.Test.YtdjmnpmdmjclhabGreatMg04
import Derived.Test.YtdjmnpmdmjclhabGreatMg06
import Derived.Test.YtdjmnpmdmjclhabGreatMg00
import Derived.Deep.QuietTactic
import Derived.BigQuiet
namespace Go.Proofs.YtdjmnpmdmjclhabGreat
section
namespace Df
abbrev at_ (l:List Int) (i:Nat):Int:=l.getD i (-1)
def up (es:List (Int×Int)) (s:St) (v:Int):Int:=Cs.FE es (at_ s.par v.toNat)
def tu (n:Nat) (es:List (Int×Int)) (s:St):Prop:=s.par.length=n∧s.az.length=n∧s.ord.length=n∧s.aJ.length=es.length
def iy (n:Nat) (s:St) (k:Nat):Prop:=∀i,i<k→(0≤at_ s.ord i∧at_ s.ord i<(n:Int))∧∀j,j<i→at_ s.ord j≠at_ s.ord i
def kI (es:List (Int×Int)) (s:St) (v:Nat):Prop:=
 (at_ s.par v= -1∧at_ s.az v=0)∨∃h:Nat,h<2*es.length∧at_ s.par v=(h:Int)∧Cs.to es h=v∧at_ s.aJ (h/2)=(h:Int)∧at_ s.az v=IntKind.i64.wrap (at_ s.az (Cs.fr es h)+1)
def Ch (n:Nat) (es:List (Int×Int)) (s:St):Prop:=∀v,v<n→kI es s v
def leave (p i:Int):List Int→List Int→List Int×List Int
 |[],B=>([],B)
 |x::W,B=>if x=p then (x::W,B) else leave p i W (B.set x.toNat i)
def side (n:Nat) (es:List (Int×Int)) (s:St):Nat→Option (List Int×List Int)
 |0=>some ([],List.replicate n 0)
 |k+1=>(side n es s k).bind fun q=>
  if up es s (at_ s.ord k)≠-1∧(leave (up es s (at_ s.ord k)) k q.1 q.2).1=[] then none
  else some (at_ s.ord k::(leave (up es s (at_ s.ord k)) k q.1 q.2).1,(leave (up es s (at_ s.ord k)) k q.1 q.2).2)
def dK (es:List (Int×Int)) (s:St):List Int→Prop
 |[]=>True
 |v::W=>0≤v∧up es s v=W.headD (-1)∧dK es s W
def bQ (es:List (Int×Int)) (s:St) (u v:Int):Prop:=∃W,dK es s (v::W)∧u∈v::W
theorem dK.unique {es:List (Int×Int)} {s:St}:∀{W W':List Int},dK es s W→dK es s W'→W.headD (-1)=W'.headD (-1)→W=W'
 |[],[],_,_,_=>rfl
 |[],v::W',_,h,e=>by
  have:=h.1
  simp at e
  omega
 |v::W,[],h,_,e=>by
  have:=h.1
  simp at e
  omega
 |v::W,v'::W',h,h',e=>by
  have e1:v=v':=by simpa using e
  subst e1
  rw[dK.unique h.2.2 h'.2.2 (h.2.1.symm.trans h'.2.1)]
theorem bQ.iff {es:List (Int×Int)} {s:St} {u v:Int} {W:List Int} (h:dK es s (v::W)):bQ es s u v↔u∈v::W:=by
 constructor
 ·rintro⟨W',h',hu⟩
  have:=dK.unique h h' rfl
  injection this with _ e
  rw[e]
  exact hu
 ·exact fun hu=>⟨W,h,hu⟩
theorem mK {p i:Int}:∀(W B:List Int),∃X,W=X++(leave p i W B).1∧p∉X∧((leave p i W B).1=[]∨(leave p i W B).1.headD (-1)=p)
 |[],B=>⟨[],rfl,by simp,.inl rfl⟩
 |x::W,B=>by
  unfold leave
  by_cases h:x=p
  ·rw[if_pos h]
   exact⟨[],rfl,by simp,.inr (by simpa using h)⟩
  ·rw[if_neg h]
   obtain⟨X,h1,h2,h3⟩:=mK (p:=p) (i:=i) W (B.set x.toNat i)
   refine⟨x::X,by rw[abi,←h1],?_,h3⟩
   simp only[aaj,not_or]
   exact⟨fun e=>h e.symm,h2⟩
theorem pR {p i:Int}:∀(W B:List Int),(leave p i W B).2.length=B.length
 |[],B=>rfl
 |x::W,B=>by
  unfold leave
  split
  ·rfl
  ·rw[pR W (B.set x.toNat i),aaT]
theorem l8 {p i:Int} {u:Nat}:∀(W B:List Int),(∀x∈W,0≤x)→((u:Int)∉W∨(u:Int)∈(leave p i W B).1∧W.Nodup)→at_ (leave p i W B).2 u=at_ B u
 |[],B,_,_=>rfl
 |x::W,B,h0,hu=>by
  have e1:leave p i (x::W) B=if x=p then (x::W,B) else leave p i W (B.set x.toNat i):=by
   conv=>lhs;unfold leave
  rw[e1] at hu ⊢
  by_cases hx:x=p
  ·rw[if_pos hx]
  ·rw[if_neg hx] at hu ⊢
   have hx0:=h0 x aag
   have hne:x.toNat≠u:=by
    rcases hu with hu|⟨hu,hd⟩
    ·intro e
     exact hu (by rw[←e];simp[acs hx0])
    ·intro e
     obtain⟨X,h1,_,_⟩:=mK (p:=p) (i:=i) W (B.set x.toNat i)
     have:(u:Int)∈W:=by rw[h1];exact aaz _ hu
     rw[←e,acs hx0] at this
     exact(aa0.1 hd).1 this
   rw[l8 W (B.set x.toNat i) (fun y hy=>h0 y (aah _ hy)) (by
    rcases hu with hu|⟨hu,hd⟩
    ·exact .inl fun h=>hu (aah _ h)
    ·exact .inr ⟨hu,(aa0.1 hd).2⟩)]
   unfold at_
   rw[aai,aaq,if_neg hne,←aai]
theorem pQ {p i:Int} {u:Nat}:∀(W B:List Int),(∀x∈W,0≤x)→W.Nodup→(u:Int)∈W→(u:Int)∉(leave p i W B).1→u<B.length→at_ (leave p i W B).2 u=i
 |[],B,_,_,hu,_,_=>by simp at hu
 |x::W,B,h0,hd,hu,hn,hl=>by
  have e1:leave p i (x::W) B=if x=p then (x::W,B) else leave p i W (B.set x.toNat i):=by
   conv=>lhs;unfold leave
  rw[e1] at hn ⊢
  by_cases hx:x=p
  ·rw[if_pos hx] at hn
   exact absurd hu hn
  ·rw[if_neg hx] at hn ⊢
   have h0':=fun y hy=>h0 y (aah _ hy)
   by_cases e:(u:Int)=x
   ·have hnW:(u:Int)∉W:=by rw[e];exact(aa0.1 hd).1
    rw[l8 W (B.set x.toNat i) h0' (.inl hnW)]
    have:x.toNat=u:=by omega
    unfold at_
    rw[this,aai,aaq,if_pos rfl,if_pos hl]
    rfl
   ·exact pQ W (B.set x.toNat i) h0' (aa0.1 hd).2 ((aaj.1 hu).resolve_left e) hn (by rw[aaT];exact hl)
end Df
end
section
namespace Df
theorem dK.tail {es:List (Int×Int)} {s:St}:∀{X Y:List Int},dK es s (X++Y)→dK es s Y
 |[],_,h=>h
 |_::_,_,h=>dK.tail h.2.2
theorem dK.pos {es:List (Int×Int)} {s:St}:∀{W:List Int},dK es s W→∀x∈W,0≤x
 |[],_,x,hx=>by simp at hx
 |v::W,h,x,hx=>by
  rcases aaj.1 hx with rfl|hx
  ·exact h.1
  ·exact dK.pos h.2.2 x hx
def lA (n:Nat) (es:List (Int×Int)) (s:St) (j:Nat):List Int:=((side n es s (j+1)).getD ([],[])).1
structure Tb (n:Nat) (es:List (Int×Int)) (s:St) (k:Nat) (W B:List Int):Prop where
 way:dK es s W
 sub:∀u∈W,∃a,a<k∧at_ s.ord a=u
 ZR:W.Nodup
 len:W.length≤k
 Mx:B.length=n
 ops:∀a,a<k→(at_ s.ord a∈W∧∀j,a≤j→j<k→at_ s.ord a∈lA n es s j)∨
  (at_ s.ord a∉W∧∃c:Nat,a<c∧c≤k∧at_ B (at_ s.ord a).toNat=(c:Int)∧(∀j,a≤j→j<c→at_ s.ord a∈lA n es s j)∧∀j,c≤j→j<k→at_ s.ord a∉lA n es s j)
 MJ:∀j,j<k→(∀u∈lA n es s j,∃a,a≤j∧at_ s.ord a=u)∧(∃Y,lA n es s j=at_ s.ord j::Y)∧dK es s (lA n es s j)∧(lA n es s j).length≤j+1∧(lA n es s j).Nodup
section
variable {n:Nat} {es:List (Int×Int)} {s:St}
theorem iy.ne (h:iy n s n) {a b:Nat} (ha:a<n) (hb:b<n) (hab:a≠b):at_ s.ord a≠at_ s.ord b:=by
 rcases ab1 a b with h1|h1
 ·exact(h b hb).2 a h1
 ·exact fun e=>(h a ha).2 b (by omega) e.symm
theorem rT (ho:iy n s n):∀k,k≤n→∀W B,side n es s k=some (W,B)→Tb n es s k W B:=by
 intro k
 induction k with
 |zero=>
  intro _ W B h
  simp only[side,Option.some.injEq,Prod.mk.injEq] at h
  obtain⟨rfl,rfl⟩:=h
  exact⟨trivial,by simp,by simp,by simp,by simp,fun a ha=>by omega,fun j hj=>by omega⟩
 |succ k ih=>
  intro hk W B h
  have hs:=h
  unfold side at h
  cases hq:side n es s k with
  |none=>rw[hq] at h;cases h
  |some q=>
   obtain⟨W0,B0⟩:=q
   have inv:=ih (by omega) W0 B0 hq
   rw[hq,acj] at h
   dsimp only at h
   obtain⟨v,hv⟩:∃v,at_ s.ord k=v:=⟨_,rfl⟩
   obtain⟨p,hp⟩:∃p,up es s v=p:=⟨_,rfl⟩
   rw[hv,hp] at h
   obtain⟨X,hX,hpX,Fu⟩:=mK (p:=p) (i:=(k:Int)) W0 B0
   have Rm:=pR (p:=p) (i:=(k:Int)) W0 B0
   obtain⟨L,hL⟩:∃L,leave p k W0 B0=L:=⟨_,rfl⟩
   rw[hL] at h hX Fu Rm
   split at h
   ·cases h
   rename_i hc
   simp only[Option.some.injEq,Prod.mk.injEq] at h
   obtain⟨rfl,rfl⟩:=h
   have hv0:=(ho k (by omega)).1
   rw[hv] at hv0
   have Fk:∀u∈L.1,u∈W0:=fun u hu=>by rw[hX];exact aaz _ hu
   have hne:∀a,a<k→at_ s.ord a≠v:=fun a ha=>by rw[←hv];exact ho.ne (by omega) (by omega) (by omega)
   have hvL:v∉W0:=fun hm=>by
    obtain⟨a,ha,e⟩:=inv.sub v hm
    exact hne a ha e
   have aaD:L.1.Nodup:=by
    have:=inv.ZR
    rw[hX] at this
    exact(aa5.1 this).2.1
   have A5:lA n es s k=v::L.1:=by
    unfold lA
    rw[hs]
    rfl
   have aan:dK es s L.1:=by
    have:=inv.way
    rw[hX] at this
    exact this.tail
   have bB:dK es s (v::L.1):=by
    refine⟨hv0.1,?_,aan⟩
    rw[hp]
    rcases Fu with h1|h1
    ·rw[h1]
     simp only[List.headD_nil]
     by_cases e:p= -1
     ·exact e
     ·exact absurd ⟨e,h1⟩ hc
    ·exact h1.symm
   have ail:L.1.length≤k:=by
    have:=inv.len
    rw[hX,aaA] at this
    omega
   have MF:(v::L.1).Nodup:=aa0.2 ⟨fun h=>hvL (Fk v h),aaD⟩
   refine⟨bB,?_,MF,by simp;omega,by rw[Rm];exact inv.Mx,?_,?_⟩
   ·intro u hu
    rcases aaj.1 hu with rfl|hu
    ·exact⟨k,by omega,hv⟩
    ·obtain⟨a,ha,e⟩:=inv.sub u (Fk u hu)
     exact⟨a,by omega,e⟩
   ·intro a ha
    by_cases hak:a=k
    ·subst hak
     rw[hv]
     refine .inl ⟨aag,fun j h1 h2=> ?_⟩
     obtain rfl:j=a:=by omega
     rw[A5]
     exact aag
    ·have Sq:a<k:=by omega
     obtain⟨u,hu⟩:∃u,at_ s.ord a=u:=⟨_,rfl⟩
     have huv:=hne a Sq
     have Vb:=(ho a (by omega)).1
     have XU:=inv.ops a Sq
     rw[hu] at huv Vb XU ⊢
     have hun:(u.toNat:Int)=u:=acs Vb.1
     rcases XU with ⟨h1,h2⟩|⟨h1,c,c1,c2,c3,c4,c5⟩
     ·by_cases hin:u∈L.1
      ·refine .inl ⟨aah _ hin,fun j j1 j2=> ?_⟩
       by_cases e:j=k
       ·subst e;rw[A5];exact aah _ hin
       ·exact h2 j j1 (by omega)
      ·refine .inr ⟨fun h=>(aaj.1 h).elim huv hin,k,Sq,by omega,?_,h2,fun j j1 j2=> ?_⟩
       ·rw[←hL]
        refine pQ W0 B0 inv.way.pos inv.ZR (by rw[hun];exact h1) (by rw[hun,hL];exact hin) (by rw[inv.Mx];omega)
       ·obtain rfl:j=k:=by omega
        rw[A5]
        exact fun h=>(aaj.1 h).elim huv hin
     ·have hin:u∉L.1:=fun h=>h1 (Fk u h)
      refine .inr ⟨fun h=>(aaj.1 h).elim huv hin,c,c1,by omega,?_,c4,fun j j1 j2=> ?_⟩
      ·rw[←hL,l8 W0 B0 inv.way.pos (.inl (by rw[hun];exact h1))]
       exact c3
      ·by_cases e:j=k
       ·subst e
        rw[A5]
        exact fun h=>(aaj.1 h).elim huv hin
       ·exact c5 j j1 (by omega)
   ·intro j hj
    by_cases e:j=k
    ·subst e
     rw[A5]
     refine⟨fun u hu=> ?_,⟨L.1,by rw[hv]⟩,bB,by simp;omega,MF⟩
     rcases aaj.1 hu with rfl|hu
     ·exact⟨j,aad _,hv⟩
     ·obtain⟨a,ha,e⟩:=inv.sub u (Fk u hu)
      exact⟨a,by omega,e⟩
    ·exact inv.MJ j (by omega)
def ends (n:Nat) (W B:List Int):List Int:=(leave (-1) n W B).2
theorem yt {W B:List Int} {i:Int} (h:∀x∈W,0≤x):(leave (-1) i W B).1=[]:=by
 obtain⟨X,hX,_,hh⟩:=mK (p:= -1) (i:=i) W B
 rcases hh with hh|hh
 ·exact hh
 ·cases hY:(leave (-1) i W B).1 with
  |nil=>rfl
  |cons y Y=>
   rw[hY] at hh hX
   have:=h y (by rw[hX];simp)
   simp at hh
   omega
theorem NG (ho:iy n s n) {W B:List Int} (h:side n es s n=some (W,B)) {a j:Nat} (ha:a<n) (hj:j<n):
 at_ s.ord a∈lA n es s j↔a≤j∧(j:Int)<at_ (ends n W B) (at_ s.ord a).toNat:=by
 have inv:=rT ho n (aad _) W B h
 have Vb:=(ho a ha).1
 have hun:((at_ s.ord a).toNat:Int)=at_ s.ord a:=acs Vb.1
 have MP:¬a≤j→at_ s.ord a∉lA n es s j:=fun hlt hm=>by
  obtain⟨b,hb,e⟩:=(inv.MJ j hj).1 _ hm
  exact ho.ne (a:=b) (b:=a) (by omega) ha (by omega) e
 rcases inv.ops a ha with ⟨h1,h2⟩|⟨h1,c,c1,c2,c3,c4,c5⟩
 ·have e:at_ (ends n W B) (at_ s.ord a).toNat=(n:Int):=by
   unfold ends
   exact pQ W B inv.way.pos inv.ZR (by rw[hun];exact h1) (by rw[yt inv.way.pos];simp) (by rw[inv.Mx];omega)
  rw[e]
  constructor
  ·intro hm
   by_cases hlt:a≤j
   ·exact⟨hlt,by omega⟩
   ·exact absurd hm (MP hlt)
  ·exact fun h=>h2 j h.1 hj
 ·have e:at_ (ends n W B) (at_ s.ord a).toNat=(c:Int):=by
   unfold ends
   rw[l8 W B inv.way.pos (.inl (by rw[hun];exact h1))]
   exact c3
  rw[e]
  constructor
  ·intro hm
   by_cases hlt:a≤j
   ·refine⟨hlt,?_⟩
    rcases ab1 j c with h|h
    ·omega
    ·exact absurd hm (c5 j h hj)
   ·exact absurd hm (MP hlt)
  ·exact fun h=>c4 j h.1 (by omega)
end
end Df
end
section
namespace Df
section
variable {n:Nat} {es:List (Int×Int)} {s:St}
theorem iy.sZ (h:iy n s n) {v:Nat} (hv:v<n):∃a,a<n∧at_ s.ord a=(v:Int):=by
 obtain⟨a,ha,e⟩:=Bu.pig n (fun a=>(at_ s.ord a).toNat) (fun i hi=>by have:=(h i hi).1;omega) (fun i j hi hj e=>by
  by_cases hij:i=j
  ·exact hij
  ·have h1:=(h i hi).1
   have h2:=(h j hj).1
   exact absurd (by omega:at_ s.ord i=at_ s.ord j) (h.ne hi hj hij)) v hv
 have:=(h a ha).1
 exact⟨a,ha,by omega⟩
def jf (n:Nat) (s:St) (P:List Int):Prop:=P.length=n∧∀a,a<n→at_ P (at_ s.ord a).toNat=(a:Int)
theorem ur (ho:iy n s n) {W B P:List Int} (hs:side n es s n=some (W,B)) (hP:jf n s P) {u v:Nat} (hu:u<n) (hv:v<n):
 (at_ P u≤at_ P v∧at_ P v<at_ (ends n W B) u)↔bQ es s u v:=by
 obtain⟨a,ha,ea⟩:=ho.sZ hu
 obtain⟨b,hb,eb⟩:=ho.sZ hv
 have pa:=hP.2 a ha
 have pb:=hP.2 b hb
 have hend:=NG (es:=es) ho hs ha hb
 obtain⟨_,⟨Y,hY⟩,hw,_,_⟩:=(rT ho n (aad _) W B hs).MJ b hb
 rw[ea] at pa hend
 rw[eb] at pb hY
 rw[hY] at hw hend
 rw[aaF] at pa pb hend
 rw[pa,pb,bQ.iff hw,hend]
 omega
theorem jG (ho:iy n s n) {W B:List Int} (hs:side n es s n=some (W,B)) {v:Nat} (hv:v<n):∃Y,dK es s ((v:Int)::Y)∧Y.length<n∧∀x∈Y,∃u:Nat,u<n∧x=(u:Int):=by
 obtain⟨b,hb,eb⟩:=ho.sZ hv
 obtain⟨hsub,⟨Y,hY⟩,hw,hl,_⟩:=(rT ho n (aad _) W B hs).MJ b hb
 rw[eb] at hY
 rw[hY] at hw hl hsub
 refine⟨Y,hw,by simp at hl;omega,fun x hx=> ?_⟩
 obtain⟨a,ha,rfl⟩:=hsub x (aah _ hx)
 have:=(ho a (by omega)).1
 exact⟨(at_ s.ord a).toNat,by omega,by omega⟩
theorem kI.cases (hval:Si.Val n es) {v:Nat} (h:kI es s v):(at_ s.par v= -1∧up es s v= -1∧at_ s.az v=0)∨∃u:Nat,u<n∧up es s v=(u:Int)∧at_ s.par v≠-1∧at_ s.az v=IntKind.i64.wrap (at_ s.az u+1):=by
 rcases h with ⟨h1,h2⟩|⟨x,hx,h1,h2,h3,h4⟩
 ·refine .inl ⟨h1,?_,h2⟩
  unfold up
  rw[aaF,h1]
  exact Cs.zQ (by omega)
 ·refine .inr ⟨Cs.fr es x,(Cs.bH hval hx).1,?_,by rw[h1];omega,h4⟩
  unfold up
  rw[aaF,h1]
  exact Cs.jP hx
theorem jx (hval:Si.Val n es) (hh:Ch n es s):∀(Y:List Int) (v:Nat),v<n→dK es s ((v:Int)::Y)→Y.length<4611686018427387904→at_ s.az v=(Y.length:Int)
 |[],v,hv,hw,_=>by
  rcases(hh v hv).cases hval with ⟨_,_,h⟩|⟨u,_,h,_⟩
  ·simpa using h
  ·have:=hw.2.1
   simp at this
   omega
 |y::Y,v,hv,hw,hl=>by
  have h1:=hw.2.1
  have hy0:=hw.2.2.1
  simp at h1
  rcases(hh v hv).cases hval with ⟨_,h,_⟩|⟨u,hu,h,_,h4⟩
  ·omega
  ·obtain rfl:y=(u:Int):=by omega
   have ih:=jx hval hh Y u hu hw.2.2 (by simp at hl;omega)
   rw[h4,ih,aa1]
   simp at hl ⊢
   omega
theorem s9 (hval:Si.Val n es) (hh:Ch n es s):∀(Y:List Int) (v:Nat),v<n→dK es s ((v:Int)::Y)→Y.length<4611686018427387904→∀x:Nat,(x:Int)∈Y→at_ s.az x<at_ s.az v
 |[],v,hv,hw,_,x,hx=>by simp at hx
 |y::Y,v,hv,hw,hl,x,hx=>by
  have h1:=hw.2.1
  have hy0:=hw.2.2.1
  simp at h1
  rcases(hh v hv).cases hval with ⟨_,h,_⟩|⟨u,hu,h,_,_⟩
  ·omega
  ·obtain rfl:y=(u:Int):=by omega
   have e1:=jx hval hh ((u:Int)::Y) v hv hw hl
   have hl2:Y.length<4611686018427387904:=by simp at hl;omega
   have e2:=jx hval hh Y u hu hw.2.2 hl2
   have hlt:at_ s.az u<at_ s.az v:=by rw[e1,e2];simp;omega
   rcases aaj.1 hx with e|hx
   ·obtain rfl:x=u:=by omega
    exact hlt
   ·have:=s9 hval hh Y u hu hw.2.2 hl2 x hx
    omega
def rQ (es:List (Int×Int)) (s:St) (e:Nat):Prop:=
 ∃h:Nat,(h=2*e∨h=2*e+1)∧at_ s.aJ e=(h:Int)∧(at_ s.par (Cs.to es h)=(h:Int)∨bQ es s (Cs.to es h) (Cs.fr es h))
structure VF (n:Nat) (es:List (Int×Int)) (s:St):Prop where
 lens:tu n es s
 once:iy n s n
 hang:Ch n es s
 side:∃q,side n es s n=some q
 rE:∀e,e<es.length→rQ es s e
def Wh (n:Nat) (s:St):Prop:=∀v,v<n→0≤at_ s.az v∧at_ s.az v<(n:Int)∧(at_ s.az v=0↔at_ s.par v= -1)
theorem tJ (hval:Si.Val n es) (ho:iy n s n) (hh:Ch n es s) (hs:∃q,Df.side n es s n=some q):Wh n s:=by
 intro v hv
 obtain⟨⟨W,B⟩,hs⟩:=hs
 obtain⟨Y,hw,hl,_⟩:=jG (es:=es) ho hs hv
 have hn:=hval.hi
 have e:=jx hval hh Y v hv hw (by omega)
 rw[e]
 refine⟨by omega,by omega,?_⟩
 rcases(hh v hv).cases hval with ⟨h1,h2,h3⟩|⟨u,_,h2,h3,_⟩
 ·constructor
  ·exact fun _=>h1
  ·intro _
   omega
 ·constructor
  ·intro h0
   have hY:Y=[]:=abu.1 (by omega)
   rw[hY] at hw
   have:=hw.2.1
   simp at this
   omega
  ·exact fun h=>absurd h h3
theorem rF (hval:Si.Val n es) (ho:iy n s n) (hh:Ch n es s) (hs:∃q,Df.side n es s n=some q) {u v:Nat} (hv:v<n) (hne:u≠v) (ha:bQ es s u v):at_ s.az u<at_ s.az v:=by
 obtain⟨⟨W,B⟩,hs⟩:=hs
 obtain⟨Y,hw,hl,_⟩:=jG (es:=es) ho hs hv
 have hn:=hval.hi
 rw[bQ.iff hw] at ha
 rcases aaj.1 ha with e|ha
 ·omega
 ·exact s9 hval hh Y v hv hw (by omega) u ha
end
end Df
namespace Df
theorem Ag {n:Nat} {es:List (Int×Int)} {s:St} {k:Nat} (h:side n es s k=none):∀d,side n es s (k+d)=none
 |0=>h
 |d+1=>by
  show side n es s (k+d+1)=none
  unfold side
  rw[Ag h d]
  rfl
theorem qE {n:Nat} {es:List (Int×Int)} {s:St} (ho:iy n s n) {k:Nat} (hk:k≤n) {W B:List Int} (h:side n es s k=some (W,B)):(∀x∈W,0≤x∧x<(n:Int))∧W.length≤k∧B.length=n:=by
 have inv:=rT ho k hk W B h
 refine⟨fun x hx=> ?_,inv.len,inv.Mx⟩
 obtain⟨a,ha,rfl⟩:=inv.sub x hx
 exact(ho a (by omega)).1
end Df
def oN (n:Int) (es:List (Int×Int)) (s:Df.St):Prop:=∃m:Nat,n=(m:Int)∧Si.Val m es∧Df.VF m es s
end
section
namespace Lo
open Df
def oh (s:St) (e:Nat):Nat:=(at_ s.aJ e).toNat
def fr (es:List (Int×Int)) (s:St) (e:Nat):Nat:=Cs.fr es (oh s e)
def bJ (es:List (Int×Int)) (s:St) (e:Nat):Nat:=Cs.to es (oh s e)
def tree (es:List (Int×Int)) (s:St) (e:Nat):Bool:=decide (at_ s.par (bJ es s e)=at_ s.aJ e)
def ht (es:List (Int×Int)) (s:St) (e:Nat):Int:=at_ s.az (bJ es s e)
def hf (es:List (Int×Int)) (s:St) (e:Nat):Int:=at_ s.az (fr es s e)
open Classical in
noncomputable def Qr (es:List (Int×Int)) (s:St) (e b:Nat):Bool:= !tree es s b&&(decide (ht es s b<hf es s e)&&decide (bQ es s (bJ es s e) (fr es s b)))
noncomputable def sW (es:List (Int×Int)) (s:St) (e:Nat):List Nat:=if tree es s e=true then (List.range es.length).filter (Qr es s e) else [e]
def least (h:Int):List Int→Int
 |[]=>h
 |x::l=>least (min h x) l
theorem jv (h:Int):∀(l:List Int) (x:Int),least h (l++[x])=min (least h l) x
 |[],_=>rfl
 |y::l,x=>jv (min h y) l x
theorem least_le (h:Int):∀(l:List Int),least h l≤h∧∀x∈l,least h l≤x
 |[]=>⟨abE _,fun x hx=>by simp at hx⟩
 |y::l=>by
  obtain⟨h1,h2⟩:=least_le (min h y) l
  refine⟨?_,fun x hx=> ?_⟩
  ·show least (min h y) l≤h
   omega
  ·rcases aaj.1 hx with rfl|hx
   ·show least (min h x) l≤x
    omega
   ·exact h2 x hx
theorem eH (h:Int):∀(l:List Int),least h l=h∨least h l∈l
 |[]=> .inl rfl
 |y::l=>by
  show least (min h y) l=h∨least (min h y) l∈y::l
  rcases eH (min h y) l with h1|h1
  ·rw[h1]
   by_cases hy:h≤y
   ·exact .inl (by omega)
   ·exact .inr (by rw[show min h y=y by omega];exact aag)
  ·exact .inr (aah _ h1)
noncomputable def hs (es:List (Int×Int)) (s:St) (e:Nat):List Int:=(sW es s e).map (ht es s)
noncomputable def low (es:List (Int×Int)) (s:St) (e:Nat):Int:=least (hf es s e) (hs es s e)
noncomputable def cz (es:List (Int×Int)) (s:St) (e:Nat):Int:=least (hf es s e) ((hs es s e).filter fun x=>decide (low es s e<x))
noncomputable def nest (es:List (Int×Int)) (s:St) (e:Nat):Int:=if low es s e<cz es s e∧cz es s e<hf es s e then 2*low es s e+1 else 2*low es s e
section
variable {n:Nat} {es:List (Int×Int)} {s:St} {e:Nat}
theorem cO (h:VF n es s) (he:e<es.length):at_ s.aJ e=(oh s e:Int)∧(oh s e=2*e∨oh s e=2*e+1)∧oh s e<2*es.length∧oh s e/2=e:=by
 obtain⟨x,h1,h2,_⟩:=h.rE e he
 have:oh s e=x:=by unfold oh;rw[h2];simp
 rw[this]
 exact⟨h2,h1,by omega,by omega⟩
theorem bK (hv:Si.Val n es) (h:VF n es s) (he:e<es.length):fr es s e<n∧bJ es s e<n:=Cs.bH hv (cO h he).2.2.1
theorem kg (h:VF n es s) (he:e<es.length):tree es s e=true↔at_ s.par (bJ es s e)=(oh s e:Int):=by
 unfold tree
 rw[decide_eq_true_iff,(cO h he).1]
theorem Et (h:VF n es s) (he:e<es.length) (hb:tree es s e=false):bQ es s (bJ es s e) (fr es s e):=by
 obtain⟨x,h1,h2,h3⟩:=h.rE e he
 have hx:oh s e=x:=by unfold oh;rw[h2];simp
 rcases h3 with h3|h3
 ·have:=(kg h he).2 (by unfold bJ;rw[hx];exact h3)
  rw[hb] at this
  cases this
 ·unfold bJ fr
  rw[hx]
  exact h3
end
end Lo
end
section
namespace Lo
open Df
section
variable {n:Nat} {es:List (Int×Int)} {s:St} {e b:Nat}
theorem BO (hv:Si.Val n es) (h:VF n es s) (he:e<es.length):bJ es s e≠fr es s e:=by
 obtain⟨_,_,hl,_⟩:=cO h he
 have hlt:=hl
 unfold bJ fr
 obtain⟨p,hp⟩:∃p,es[oh s e/2]? =some p:=⟨_,aac (by omega)⟩
 have ho:=hv.each _ p hp
 unfold Si.ok at ho
 have e2:oh s e=2*(oh s e/2)∨oh s e=2*(oh s e/2)+1:=by omega
 obtain⟨e3,e4⟩:=Cs.iY hp
 obtain⟨e5,e6⟩:=Cs.nH hp
 rcases e2 with e2|e2
 ·rw[e2,e3,e4];omega
 ·rw[e2,e5,e6];omega
theorem BZ (hv:Si.Val n es) (h:VF n es s) (he:e<es.length) (hb:tree es s e=false):ht es s e<hf es s e:=
 rF hv h.once h.hang h.side (bK hv h he).1 (BO hv h he) (Et h he hb)
theorem cP (ht':tree es s e=true):b∈sW es s e↔b<es.length∧tree es s b=false∧ht es s b<hf es s e∧bQ es s (bJ es s e) (fr es s b):=by
 unfold sW
 rw[if_pos ht',abe,aaO]
 unfold Qr
 simp
theorem ji (hb:tree es s e=false):sW es s e=[e]:=by
 unfold sW
 rw[if_neg (by rw[hb];decide)]
theorem qG (hv:Si.Val n es) (h:VF n es s) (he:e<es.length) (hb:b∈sW es s e):b<es.length∧tree es s b=false∧ht es s b<hf es s e:=by
 cases ht':tree es s e with
 |true=>
  obtain⟨h1,h2,h3,_⟩:=(cP ht').1 hb
  exact⟨h1,h2,h3⟩
 |false=>
  rw[ji ht',aao] at hb
  subst hb
  exact⟨he,ht',BZ hv h he ht'⟩
theorem aaw (hv:Si.Val n es) (h:VF n es s) (he:e<es.length):∀x∈hs es s e,x<hf es s e:=fun x hx=>by
 obtain⟨b,hb,rfl⟩:=aa2.1 hx
 exact(qG hv h he hb).2.2
theorem Fc (es:List (Int×Int)) (s:St) (e:Nat):low es s e≤cz es s e∧cz es s e≤hf es s e:=by
 have h1:=least_le (hf es s e) (hs es s e)
 have h2:=least_le (hf es s e) ((hs es s e).filter fun x=>decide (low es s e<x))
 refine⟨?_,h2.1⟩
 rcases eH (hf es s e) ((hs es s e).filter fun x=>decide (low es s e<x)) with h3|h3
 ·unfold cz;rw[h3];exact h1.1
 ·have h4:=(abe.1 h3).1
  exact h1.2 _ h4
theorem sk (hv:Si.Val n es) (h:VF n es s) (he:e<es.length) (hb:tree es s e=false):low es s e=ht es s e:=by
 have:=BZ hv h he hb
 unfold low hs
 rw[ji hb]
 show min (hf es s e) (ht es s e)=_
 omega
theorem Hi (hv:Si.Val n es) (h:VF n es s) (he:e<es.length):0≤low es s e:=by
 have hr:=tJ hv h.once h.hang h.side
 unfold low
 rcases eH (hf es s e) (hs es s e) with h1|h1
 ·rw[h1];exact(hr _ (bK hv h he).1).1
 ·obtain⟨b,hb,hb2⟩:=aa2.1 h1
  rw[←hb2]
  exact(hr _ (bK hv h (qG hv h he hb).1).2).1
theorem jH (hv:Si.Val n es) (h:VF n es s) (he:e<es.length) (ht':tree es s e=true):Df.up es s (bJ es s e)=(fr es s e:Int)∧ht es s e=hf es s e+1:=by
 have h1:=(kg h he).1 ht'
 obtain⟨_,_,hl,_⟩:=cO h he
 have eP:Df.up es s (bJ es s e)=(fr es s e:Int):=by
  unfold Df.up
  rw[aaF,h1,Cs.jP hl]
  rfl
 refine⟨eP,?_⟩
 obtain⟨⟨W,B⟩,hs'⟩:=h.side
 obtain⟨Y,hw,hly,_⟩:=jG (es:=es) h.once hs' (bK hv h he).2
 have hn:=hv.hi
 have e1:=jx hv h.hang Y _ (bK hv h he).2 hw (by omega)
 cases Y with
 |nil=>
  have:=hw.2.1
  rw[eP] at this
  simp at this
 |cons y Y=>
  have h2:=hw.2.1
  rw[eP] at h2
  have h3:y=(fr es s e:Int):=by simpa using h2.symm
  have hw2:=hw.2.2
  rw[h3] at hw2
  have e2:=jx hv h.hang Y _ (bK hv h he).1 hw2 (by simp at hly;omega)
  show at_ s.az (bJ es s e)=at_ s.az (fr es s e)+1
  rw[e1,e2]
  simp
theorem uq {es:List (Int×Int)} {s:St} {a b c:Int} (h1:bQ es s a b) (h2:bQ es s b c):bQ es s a c:=by
 obtain⟨W,hw,hb⟩:=h2
 refine⟨W,hw,?_⟩
 obtain⟨X,Y,Ss⟩:=acK hb
 have hw2:=hw
 rw[Ss] at hw2
 have hmem:=(bQ.iff hw2.tail).1 h1
 rw[Ss]
 exact aaz _ hmem
theorem p9 {es:List (Int×Int)} {s:St} {w x v:Int} {W:List Int} (hw:dK es s (v::W)) (hx:x∈v::W) (eP:Df.up es s x=w) (hw0:0≤w):bQ es s w v:=by
 obtain⟨X,Y,Ss⟩:=acK hx
 have hw2:=hw
 rw[Ss] at hw2
 have ht:=hw2.tail
 have h1:=ht.2.1
 rw[eP] at h1
 refine⟨W,hw,?_⟩
 rw[Ss]
 cases Y with
 |nil=>simp at h1;omega
 |cons y Y=>
  have:w=y:=by simpa using h1
  rw[this]
  simp
end
end Lo
end
section
namespace Lo
open Df
section
variable {n:Nat} {es:List (Int×Int)} {s:St} {e b:Nat}
theorem sG (h:VF n es s) {v:Nat} (hv:v<n):bQ es s v v:=by
 obtain⟨⟨W,B⟩,hs'⟩:=h.side
 obtain⟨Y,hw,_,_⟩:=jG (es:=es) h.once hs' hv
 exact⟨Y,hw,aag⟩
theorem Hw {α:Type}:∀(X:List α),X≠[]→∃X' x,X=X'++[x]
 |[],h=>absurd rfl h
 |x::X,_=>by
  by_cases hX:X=[]
  ·exact⟨[],x,by rw[hX];rfl⟩
  ·obtain⟨X',y,e⟩:=Hw X hX
   exact⟨x::X',y,by rw[e];rfl⟩
theorem xG (h:VF n es s) {w v:Nat} (dh:v<n) (ha:bQ es s w v) (hne:w≠v):∃k,k<es.length∧tree es s k=true∧fr es s k=w∧bQ es s (bJ es s k) v:=by
 obtain⟨⟨W,B⟩,hs'⟩:=h.side
 obtain⟨Y,hw,_,Vg⟩:=jG (es:=es) h.once hs' dh
 have hmem:=(bQ.iff hw).1 ha
 obtain⟨X,Z,OD⟩:=acK hmem
 have hX:X≠[]:=fun e=>by
  rw[e] at OD
  simp at OD
  omega
 obtain⟨X',x,rfl⟩:=Hw X hX
 have hw2:=hw
 rw[OD,aaH] at hw2
 have ht:=hw2.tail
 have eP:Df.up es s x=(w:Int):=ht.2.1
 have hx0:0≤x:=ht.1
 have hxm:x∈(v:Int)::Y:=by rw[OD];simp
 have CX:∃u:Nat,u<n∧x=(u:Int):=by
  rcases aaj.1 hxm with e|hm
  ·exact⟨v,dh,e⟩
  ·exact Vg x hm
 obtain⟨u,hun,rfl⟩:=CX
 rcases h.hang u hun with ⟨h1,_⟩|⟨y,h1,h2,h3,h4,_⟩
 ·unfold Df.up at eP
  rw[aaF,h1,Cs.zQ (by omega)] at eP
  omega
 ·have hk:y/2<es.length:=by omega
  have hoh:oh s (y/2)=y:=by unfold oh;rw[h4];simp
  have hgo:bJ es s (y/2)=u:=by unfold bJ;rw[hoh];exact h3
  refine⟨y/2,hk,?_,?_,?_⟩
  ·rw[kg h hk,hgo,hoh]
   exact h2
  ·unfold fr
   rw[hoh]
   unfold Df.up at eP
   rw[aaF,h2,Cs.jP h1] at eP
   omega
  ·rw[hgo]
   exact⟨Y,hw,hxm⟩
theorem N9 (hv:Si.Val n es) (h:VF n es s) (he:e<es.length) (ht':tree es s e=true):low es s e=least (hf es s e) (((List.range es.length).filter fun k=>decide (fr es s k=bJ es s e)).map (low es s)):=by
 obtain⟨eP,Vt⟩:=jH hv h he ht'
 have hk1:∀k,fr es s k=bJ es s e→hf es s k=hf es s e+1:=fun k hk=>by
  rw[←Vt]
  unfold hf ht
  rw[hk]
 have hwn:=(bK hv h he).2
 have hLM:∀k,k<es.length→fr es s k=bJ es s e→low es s e≤low es s k∨hf es s e≤low es s k:=fun k hk hfk=>by
  by_cases hlo:hf es s e≤low es s k
  ·exact .inr hlo
  ·left
   have hlt:low es s k<hf es s k:=by rw[hk1 k hfk];omega
   rcases eH (hf es s k) (hs es s k) with h1|h1
   ·have h2:low es s k=hf es s k:=h1
    omega
   ·obtain⟨b,hb,hb2⟩:=aa2.1 h1
    have hb3:ht es s b=low es s k:=hb2
    obtain⟨b1,b2,_⟩:=qG hv h hk hb
    have hbr:b∈sW es s e:=by
     rw[cP ht']
     refine⟨b1,b2,by omega,?_⟩
     cases kB:tree es s k with
     |true=>
      have h5:=((cP kB).1 hb).2.2.2
      obtain⟨ad1,_⟩:=jH hv h hk kB
      have h6:bQ es s (bJ es s e) (bJ es s k):=by
       obtain⟨⟨W,B⟩,hs'⟩:=h.side
       obtain⟨Y,hw,_,_⟩:=jG (es:=es) h.once hs' (bK hv h hk).2
       rw[←hfk]
       exact p9 hw aag ad1 (by omega)
      exact uq h6 h5
     |false=>
      rw[ji kB,aao] at hb
      rw[hb,hfk]
      exact sG h hwn
    have h7:=(least_le (hf es s e) (hs es s e)).2 _ (aa2.2 ⟨b,hbr,rfl⟩)
    have h8:low es s e≤ht es s b:=h7
    omega
 apply Int.le_antisymm
 ·rcases eH (hf es s e) (((List.range es.length).filter fun k=>decide (fr es s k=bJ es s e)).map (low es s)) with h1|h1
  ·rw[h1]
   exact(least_le (hf es s e) (hs es s e)).1
  ·obtain⟨k,hk,hk2⟩:=aa2.1 h1
   rw[←hk2]
   obtain⟨hk3,hk4⟩:=abe.1 hk
   rcases hLM k (aaO.1 hk3) (by simpa using hk4) with h2|h2
   ·exact h2
   ·exact adg (least_le (hf es s e) (hs es s e)).1 h2
 ·have hM:=least_le (hf es s e) (((List.range es.length).filter fun k=>decide (fr es s k=bJ es s e)).map (low es s))
  rcases eH (hf es s e) (hs es s e) with h1|h1
  ·show _≤least _ _
   rw[h1]
   exact hM.1
  ·obtain⟨b,hb,hb2⟩:=aa2.1 h1
   have hb3:low es s e=ht es s b:=hb2.symm
   rw[hb3]
   obtain⟨b1,b2,b3,b4⟩:=(cP ht').1 hb
   by_cases hfb:fr es s b=bJ es s e
   ·rw[←sk hv h b1 b2]
    exact hM.2 _ (aa2.2 ⟨b,abe.2 ⟨aaO.2 b1,by simpa using hfb⟩,rfl⟩)
   ·obtain⟨k,hk,kB,hfk,hak⟩:=xG h (bK hv h b1).1 b4 (fun e=>hfb e.symm)
    have hbk:b∈sW es s k:=by
     rw[cP kB]
     exact⟨b1,b2,by rw[hk1 k hfk];omega,hak⟩
    have h2:=(least_le (hf es s k) (hs es s k)).2 _ (aa2.2 ⟨b,hbk,rfl⟩)
    have h3:=hM.2 (low es s k) (aa2.2 ⟨k,abe.2 ⟨aaO.2 hk,by simpa using hfk⟩,rfl⟩)
    exact adg h3 h2
end
end Lo
end
section
open Go.RowKit
theorem K7 {n:Nat} {es:List (Int×Int)} (hv:Si.Val n es) {j:Nat} (hj:j<2*es.length):∃e,es[j/2]? =some e∧Si.ok n e∧((j%2=0∧(Cs.fr es j:Int)=e.1∧(Cs.to es j:Int)=e.2)∨(j%2=1∧(Cs.fr es j:Int)=e.2∧(Cs.to es j:Int)=e.1)):=by
 obtain⟨e,he⟩:∃e,es[j/2]? =some e:=⟨_,aac (by omega)⟩
 have hok:=hv.each _ e he
 refine⟨e,he,hok,?_⟩
 unfold Si.ok at hok
 rcases acn j with h|h
 ·left
  obtain⟨g1,g2⟩:=Cs.iY he
  rw[show 2*(j/2)=j by omega] at g1 g2
  exact⟨h,by omega,by omega⟩
 ·right
  obtain⟨g1,g2⟩:=Cs.nH he
  rw[show 2*(j/2)+1=j by omega] at g1 g2
  exact⟨h,by omega,by omega⟩
end
section
open Go.RowKit Go.Sort
set_option maxRecDepth 100000 in
set_option maxHeartbeats 4000000 in
theorem GU (n:Nat) (ao:Option Addr) (ca:Nat) (es:List (Int×Int)) (j:Nat) (w:World) (he:aQ w ao es) (hv:Si.Val n es) (hj:j<2*es.length):
 Calls Tryz.prog 85 #[.agg #[.int .i64 (n:Int),.slice ao es.length ca],.int .i64 (j:Int)] w fun e w'=>e= .returned (.int .i64 (Cs.fr es j:Int))∧Below w.heap.size w w':=by
 have hb0:Below w.heap.size w (w.alloc (.cells #[.int .i64 (n:Int),.slice ao es.length ca] 24)):=(aae _ _).alloc (aad _) _
 have cj:=hv.few
 obtain⟨e,hee,hok,hpar⟩:=K7 hv hj
 obtain⟨b,o,rfl,c0,c1⟩:=(he.later hb0) (j/2) e hee
 obtain⟨jh,mP⟩:∃jh,jh=j/2:=⟨_,rfl⟩
 rw[←mP] at c0 c1 hee
 have hj0:(0:Int)≤(j:Int):=by omega
 have xd:(j:Int).tdiv 2=(jh:Int):=by rw[aaZ hj0];omega
 have A7:(j:Int)/2=(jh:Int):=by omega
 have hjd:j/2=jh:=mP.symm
 have hj2:(0:Int)≤(jh:Int):=by omega
 have hj3:(jh:Int)<(es.length:Int):=by omega
 have cZ:=Nu.hid hb0
 rcases hpar with ⟨hm,hf,ht⟩|⟨hm,hf,ht⟩
 ·have hm1:(j:Int).tmod 2=0:=by rw[ab3 hj0];omega
  have hm2:(j:Int)%2=0:=by omega
  rw[hf]
  clear he hv hok hee hb0 hf ht mP hm
  go_enter Tryz.func85,Tryz.ntmps85
  go_wp2
  go_ret
  exact⟨rfl,cZ.out⟩
 ·have hm1:(j:Int).tmod 2=1:=by rw[ab3 hj0];omega
  have hm2:(j:Int)%2=1:=by omega
  rw[hf]
  clear he hv hok hee hb0 hf ht mP hm
  go_enter Tryz.func85,Tryz.ntmps85
  go_wp2
  go_ret
  exact⟨rfl,cZ.out⟩
set_option maxRecDepth 100000 in
set_option maxHeartbeats 4000000 in
theorem DV (n:Nat) (ao:Option Addr) (ca:Nat) (es:List (Int×Int)) (j:Nat) (w:World) (he:aQ w ao es) (hv:Si.Val n es) (hj:j<2*es.length):
 Calls Tryz.prog 53 #[.agg #[.int .i64 (n:Int),.slice ao es.length ca],.int .i64 (j:Int)] w fun e w'=>e= .returned (.int .i64 (Cs.to es j:Int))∧Below w.heap.size w w':=by
 have hb0:Below w.heap.size w (w.alloc (.cells #[.int .i64 (n:Int),.slice ao es.length ca] 24)):=(aae _ _).alloc (aad _) _
 have cj:=hv.few
 have hxt:=Cs.wB j (by omega)
 have hfr:=GU n ao ca es (Cs.twin j) _ (he.later hb0) hv (Cs.uL hj)
 rw[Cs.BJ] at hfr
 have jV:=Nu.hid hfr
 have cZ:=Nu.hid hb0
 clear he hv hb0 hfr
 go_enter Tryz.func53,Tryz.ntmps53
 go_wp2_with (go_at_call 85;refine jV.out.mono ?_;rintro e w1 ⟨rfl,hb1⟩)
 go_ret
 exact⟨rfl,cZ.out.trans (hb1.mono cZ.out.size)⟩
end
section
open Go.RowKit
structure LW (w:World) where
 val:World
 h:Below w.heap.size w val
theorem LW.any (w:World):Nonempty (LW w):=⟨⟨w,aae _ _⟩⟩
theorem aB {P:Program} {id:Nat} {Q:Exit→Act→World→Prop} {a:Act} {w:World} {l:List Oper} (hm:P.follows .mixedOrders=true) (hB:Region.lexB .any l.toArray=true)
 (h:wpQuiet P l.toArray (fun w'=>∃D:LW w,w'=D.val) (fun a'=>∀w',(∃D:LW w,w'=D.val)→Q .normal a' w') l a):(Code.region id l.toArray true).wp P Q a w:=
 wp_region_quiet (C:=fun w'=>∃D:LW w,w'=D.val) hm hB ⟨⟨w.drew,(aae _ _).drew⟩,rfl⟩ (by simpa using h)
theorem Calls.lw {P:Program} {f:FuncId} {args:Array Value} {w:World} {D:LW w} {v:Value}
 (h:Calls P f args D.val fun e w'=>e= .returned v∧Below D.val.heap.size D.val w'):Calls P f args D.val fun e w''=>e= .returned v∧∃D':LW w,w''=D'.val:=
 h.mono fun _ w' ⟨he,hb⟩=>⟨he,⟨w',D.h.trans (hb.mono D.h.size)⟩,rfl⟩
end
section
namespace Lt
abbrev Iv:=Int×Int
abbrev Pr:=Iv×Iv
abbrev aO:Iv:=(-1,-1)
abbrev dG:Pr:=(aO,aO)
abbrev jC:=Int×Int×Pr
def bz (l:List Int) (i:Int):Option Int:=if 0≤i then l[i.toNat]? else none
def eT (l:List Int) (i z:Int):Option (List Int):=if 0≤i∧i<(l.length:Int) then some (l.set i.toNat z) else none
structure Env where
 lw:List Int
 outs:List (List Int)
 par:List Int
 az:List Int
 ord:List Int
 aJ:List Int
 us:List Int
 vs:List Int
structure TS where
 like:List Int
 turn:List Int
 lowest:List Int
 stk:List Pr
 way:List jC
def top:List Pr→Pr
 |[]=>dG
 |p::_=>p
def turned (p:Pr):Pr:=(p.2,p.1)
def join (like:List Int) (u l:Iv):Option (List Int×Iv):=
 if u=aO then some (like,l) else if l=aO then some (like,u) else
 match eT like u.2 l.1 with
 |none=>none
 |some aH=>some (aH,(u.1,l.2))
def fT (lw:List Int) (i:Iv) (e:Int):Option Bool:=
 if i=aO then some false else
 match bz lw i.1,bz lw e with
 |some a,some b=>some (decide (b<a))
 |_,_=>none
def own (lw lowest:List Int) (above:Int) (bottom:Pr):List Pr→List Int→Iv→Option (Option (List Pr×List Int×Iv))
 |[],like,o=>if dG=bottom then some (some ([],like,o)) else none
 |p::ps,like,o=>
  if p=bottom then some (some (p::ps,like,o)) else
  if (if p.2=aO then p.2 else p.1)≠aO then some none else
  match bz lw (if p.2=aO then p.1 else p.2).2,bz lw above with
  |some a,some b=>
   if a=b then
    match bz lowest above with
    |none=>none
    |some x=>
     match eT like (if p.2=aO then p.1 else p.2).2 x with
     |none=>none
     |some aH=>own lw lowest above bottom ps aH o
   else
    match join like o (if p.2=aO then p.1 else p.2) with
    |none=>none
    |some (aH,o')=>own lw lowest above bottom ps aH o'
  |_,_=>none
def others (lw:List Int) (e:Int):List Pr→List Int→Pr→Option (Option (List Pr×List Int×Pr))
 |[],like,p=>some (some ([],like,p))
 |q::qs,like,p=>
  match fT lw q.1 e,fT lw q.2 e with
  |some true,some true=>some none
  |some false,some false=>some (some (q::qs,like,p))
  |some l,some _=>
   match join like p.1 (if l=true then q else turned q).1 with
   |none=>none
   |some (eX,i1)=>
    match join eX p.2 (if l=true then q else turned q).2 with
    |none=>none
    |some (eW,i2)=>others lw e qs eW (i1,i2)
  |_,_=>none
def kG (E:Env) (st:TS) (e above:Int):Option (Option TS):=
 match st.way with
 |[]=>none
 |v::_=>
  match own E.lw st.lowest above v.2.2 st.stk st.like aO with
  |none=>none
  |some none=>some none
  |some (some (ps,like,o))=>
   match others E.lw e ps like (aO,o) with
   |none=>none
   |some none=>some none
   |some (some (qs,aH,p))=>some (some { st with like:=aH,stk:=if p=dG then qs else p::qs })
def least (lw:List Int) (p:Pr):Option Int:=
 if p.1=aO then bz lw p.2.2 else if p.2=aO then bz lw p.1.2 else
 match bz lw p.1.2,bz lw p.2.2 with
 |some a,some b=>some (min a b)
 |_,_=>none
def iO (lw:List Int) (h:Int):List Pr→List Int→Option (List Pr×List Int)
 |[],turn=>some ([],turn)
 |p::ps,turn=>
  if p=dG then none else
  match least lw p with
  |none=>none
  |some a=>
   if a=h then
    if p.1=aO then iO lw h ps turn else
    match eT turn p.1.2 (-1) with
    |none=>none
    |some aZ=>iO lw h ps aZ
   else some (p::ps,turn)
def down (lw like:List Int) (h:Int):Nat→Int→Option Int
 |0,_=>none
 |k+1,x=>
  if x= -1 then some x else
  match bz lw x with
  |none=>none
  |some a=>
   if a=h then
    match bz like x with
    |none=>none
    |some y=>down lw like h k y
   else some x
def cut (lw:List Int) (h:Int) (like turn:List Int) (i o:Iv):Option (List Int×List Int×Iv):=
 if i=aO then some (like,turn,i) else
 match down lw like h (like.length+1) i.1 with
 |none=>none
 |some x=>
  if x= -1 then
   match eT like i.2 o.2,eT turn i.2 (-1) with
   |some aH,some aZ=>some (aH,aZ,aO)
   |_,_=>none
  else some (like,turn,(x,i.2))
def trim (lw:List Int) (h:Int) (st:TS):Option TS:=
 match iO lw h st.stk st.turn with
 |none=>none
 |some ([],turn)=>some { st with stk:=[],turn:=turn }
 |some (p::ps,turn)=>
  if p=dG then none else
  match cut lw h st.like turn p.1 p.2 with
  |none=>none
  |some (eX,fR,l)=>
   match cut lw h eX fR p.2 l with
   |none=>none
   |some (eW,tB,r)=>some { st with stk:=(l,r)::ps,like:=eW,turn:=tB }
def NA (E:Env) (h:Int):Option Int:=if h.tmod 2=0 then bz E.vs (h.tdiv 2) else bz E.us (h.tdiv 2)
def Lh (E:Env) (h:Int):Option Int:=if h.tmod 2=0 then bz E.us (h.tdiv 2) else bz E.vs (h.tdiv 2)
def back? (E:Env) (h:Int):Option Bool:=((NA E h).bind (bz E.par)).map fun p=>decide (p≠h)
def yI (E:Env) (h:Int):Option Int:=(Lh E h).bind (bz E.az)
def settle (E:Env) (st:TS) (h:Int):Option (Option TS):=
 match bz E.lw (h.tdiv 2),yI E h with
 |some a,some b=>
  if a<b then
   match (Lh E h).bind (bz E.par),(Lh E h).bind fun v=>E.outs[v.toNat]?.bind fun l=>l[0]? with
   |some p,some o=>
    if o=h then
     match bz st.lowest (h.tdiv 2) with
     |none=>none
     |some x=>
      match eT st.lowest (p.tdiv 2) x with
      |none=>none
      |some lowest=>some (some { st with lowest:=lowest })
    else kG E st (h.tdiv 2) (p.tdiv 2)
   |_,_=>none
  else some (some st)
 |_,_=>none
def enter (st:TS) (v:Int):TS:={ st with way:=(v,0,dG)::st.way }
def yF (E:Env) (st:TS) (h:Int):Option (Option TS):=
 match back? E h with
 |none=>none
 |some false=>(NA E h).map fun v=>some (enter st v)
 |some true=>
  match eT st.lowest (h.tdiv 2) (h.tdiv 2) with
  |none=>none
  |some lowest=>settle E { st with lowest:=lowest,stk:=(aO,(h.tdiv 2,h.tdiv 2))::st.stk } h
def leave (E:Env) (st:TS):Option (Option TS):=
 match st.way with
 |[]=>none
 |v::way=>
  match bz E.par v.1 with
  |none=>none
  |some h=>
   if h= -1 then some (some { st with way:=way }) else
   match yI E h with
   |none=>none
   |some b=>
    match trim E.lw b { st with way:=way } with
    |none=>none
    |some st'=>settle E st' h
def step (E:Env) (st:TS):Option (Option TS):=
 match st.way with
 |[]=>none
 |v::way=>
  if 0≤v.1∧0≤v.2.1 then
   match E.outs[v.1.toNat]? with
   |none=>none
   |some l=>
    if v.2.1=(l.length:Int) then leave E st else
    match l[v.2.1.toNat]? with
    |none=>none
    |some h=>yF E { st with way:=(v.1,v.2.1+1,top st.stk)::way } h
  else none
def run (E:Env):Nat→TS→Option (Option TS)
 |k,st=>
  if st.way=[] then some (some st) else
  match k with
  |0=>none
  |k+1=>
   match step E st with
   |none=>none
   |some none=>some none
   |some (some st')=>run E k st'
def trees (E:Env) (k:Nat):List Int→TS→Option (Option TS)
 |[],st=>some (some st)
 |v::l,st=>
  match bz E.par v with
  |none=>none
  |some p=>
   if p= -1 then
    match run E k (enter st v) with
    |none=>none
    |some none=>some none
    |some (some st')=>trees E k l st'
   else trees E k l st
def start (m:Nat):TS:=⟨List.replicate m (-1),List.replicate m 1,List.replicate m (-1),[],[]⟩
def side:Nat→List Int→List Int→Int→Option (List Int×List Int)
 |0,_,_,_=>none
 |k+1,like,turn,x=>
  match bz like x with
  |none=>none
  |some y=>
   if y= -1 then some (like,turn) else
   match side k like turn y with
   |none=>none
   |some (eX,fR)=>
    match bz eX x with
    |none=>none
    |some y'=>
     match bz fR x,bz fR y',eT eX x (-1) with
     |some a,some b,some eW=>
      match eT fR x (a*b) with
      |none=>none
      |some tB=>some (eW,tB)
     |_,_,_=>none
def sides (E:Env) (k:Nat):List Int→List Int→List Int→List Int→Option (List Int)
 |[],_,_,p=>some p
 |h::hs,like,turn,p=>
  match back? E h with
  |none=>none
  |some false=>sides E k hs like turn (p++[0])
  |some true=>
   match side k like turn p.length with
   |none=>none
   |some (aH,aZ)=>
    match bz aZ p.length with
    |none=>none
    |some x=>sides E k hs aH aZ (p++[x])
def test (E:Env) (k m:Nat):Option (Option (List Int)):=
 match trees E k E.ord (start m) with
 |none=>none
 |some none=>some none
 |some (some st)=>(sides E k E.aJ st.like st.turn []).map some
theorem NI {E:Env}:∀(k:Nat) (st:TS) {r:Option TS},run E k st=some r→∀d,run E (k+d) st=some r:=by
 intro k
 induction k with
 |zero=>
  intro st r h d
  unfold run at h ⊢
  split at h
  ·rename_i hw
   rw[if_pos hw]
   exact h
  ·cases h
 |succ k ih=>
  intro st r h d
  unfold run at h ⊢
  split at h
  ·rename_i hw
   rw[if_pos hw]
   exact h
  ·rename_i hw
   rw[if_neg hw,show k+1+d=(k+d)+1 by omega]
   dsimp only at h ⊢
   cases hs:step E st with
   |none=>rw[hs] at h;cases h
   |some q=>
    rw[hs] at h
    cases q with
    |none=>exact h
    |some st'=>exact ih st' h d
end Lt
end
end Go.Proofs.YtdjmnpmdmjclhabGreat
