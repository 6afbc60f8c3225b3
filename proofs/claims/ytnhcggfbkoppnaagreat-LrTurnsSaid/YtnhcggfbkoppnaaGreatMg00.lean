import Init
import Derived.Test.YtnhcggfbkoppnaaGreatProg
import Derived.WalkKit
import Derived.WalkSpells
import Derived.WalkLawsBesides
import Derived.Laws.OwnMore
import Derived.Sort.Grow
import Derived.Deep.RegionHeld3
namespace Go.Proofs.YtnhcggfbkoppnaaGreat
section
namespace Bu
def less (ks:List Int) (x:Int):Nat:=ks.countP (fun z=>decide (z<x))
def rk (ks:List Int) (i:Nat):Nat:=less ks (ks.getD i 0)+(ks.take i).count (ks.getD i 0)
def pz (ks:List Int):List Int:=(List.range ks.length).map fun i=>(rk ks i:Int)
def bad (most z:Int):Bool:=decide (z<0)||decide (most<z)
def fault (most:Int) (ks:List Int):Int:=if most<0∨4194304<most then 2 else if ks.any (bad most) then 60 else 0
theorem nH (ks:List Int):(pz ks).length=ks.length:=by simp[pz]
theorem Dp {ks:List Int} {i:Nat} (h:i<ks.length):(pz ks)[i]? =some (rk ks i:Int):=by simp[pz,h]
theorem BG {ks:List Int} {i:Nat} {x:Int} (h:ks[i]? =some x):ks.getD i 0=x:=by simp[List.getD_eq_getElem?_getD,h]
theorem getD_at {ks:List Int} {i:Nat} (h:i<ks.length):ks[i]? =some (ks.getD i 0):=by simp[List.getD_eq_getElem?_getD,List.getElem?_eq_getElem h]
theorem sG {ks:List Int} {i:Nat} {x:Int} (h:ks[i]? =some x):ks.take (i+1)=ks.take i++[x]:=by rw[List.take_add_one,h];rfl
theorem iJ {ks:List Int} {i:Nat} {x:Int} (h:ks[i]? =some x) (y:Int):(ks.take (i+1)).count y=(ks.take i).count y+(if x=y then 1 else 0):=by
 rw[sG h,List.count_append]
 by_cases e:x=y
 ·subst e;simp
 ·simp[e]
theorem Ap (ks:List Int) (x:Int):less ks (x+1)=less ks x+ks.count x:=by
 induction ks with
 |nil=>rfl
 |cons a r ih=>
  unfold less at ih ⊢
  simp only[List.countP_cons,List.count_cons,ih]
  by_cases h1:a<x
  ·have h2:a<x+1:=by omega
   have h3:¬a=x:=by omega
   simp[h1,h2,h3];omega
  ·by_cases h3:a=x
   ·subst h3
    have h2:a<a+1:=by omega
    simp[h2];omega
   ·have h2:¬a<x+1:=by omega
    simp[h1,h2,h3]
theorem JU (ks:List Int) {x y:Int} (h:x≤y):less ks x≤less ks y:=by
 unfold less
 exact List.countP_mono_left fun z _ hz=>by simp at hz ⊢;omega
theorem GG (ks:List Int) (x:Int):less ks x≤ks.length:=List.countP_le_length
theorem Bq (ks:List Int) {i j:Nat} (h:i≤j) (x:Int):(ks.take i).count x≤(ks.take j).count x:=by
 have e:ks.take i=(ks.take j).take i:=by rw[List.take_take];congr 1;omega
 rw[e]
 exact List.Sublist.count_le _ (List.take_sublist _ _)
theorem yG (ks:List Int) (i:Nat) (x:Int):(ks.take i).count x≤ks.count x:=List.Sublist.count_le _ (List.take_sublist _ _)
theorem Bp {ks:List Int} {i j:Nat} {x:Int} (h:ks[i]? =some x) (hj:i<j):(ks.take i).count x<(ks.take j).count x:=by
 have h1:=iJ h x
 have h2:=Bq ks (i:=i+1) (j:=j) (by omega) x
 rw[if_pos rfl] at h1
 omega
theorem tP {ks:List Int} {i:Nat} {x:Int} (h:ks[i]? =some x):(ks.take i).count x<ks.count x:=by
 have h1:=iJ h x
 have h2:=yG ks (i+1) x
 rw[if_pos rfl] at h1
 omega
theorem wh {ks:List Int} {i:Nat} {x:Int} (h:ks[i]? =some x):rk ks i=less ks x+(ks.take i).count x:=by unfold rk;rw[BG h]
def Ahead (ks:List Int) (i j:Nat):Prop:=ks.getD i 0<ks.getD j 0∨(ks.getD i 0=ks.getD j 0∧i<j)
theorem Dl {ks:List Int} {i:Nat} {x:Int} (h:ks[i]? =some x):rk ks i<less ks (x+1):=by
 rw[wh h,Ap]
 have:=tP h
 omega
theorem wj {ks:List Int} {i j:Nat} (hi:i<ks.length) (hj:j<ks.length) (h:Ahead ks i j):rk ks i<rk ks j:=by
 have ei:=getD_at hi
 have ej:=getD_at hj
 rcases h with h|⟨h,hlt⟩
 ·have h1:=Dl ei
  have h2:=JU ks (x:=ks.getD i 0+1) (y:=ks.getD j 0) (by omega)
  rw[wh ej]
  omega
 ·rw[wh ei,wh ej,←h]
  have:=Bp ei hlt
  omega
theorem EB {ks:List Int} {i:Nat} (hi:i<ks.length):rk ks i<ks.length:=by
 have h1:=Dl (getD_at hi)
 have h2:=GG ks (ks.getD i 0+1)
 omega
theorem Eb (ks:List Int) {i j:Nat} (h:i≠j):Ahead ks i j∨Ahead ks j i:=by
 unfold Ahead
 omega
theorem LK {ks:List Int} {i j:Nat} (hi:i<ks.length) (hj:j<ks.length) (h:rk ks i=rk ks j):i=j:=by
 rcases Nat.decEq i j with e|e
 ·rcases Eb ks e with a|a
  ·have:=wj hi hj a;omega
  ·have:=wj hj hi a;omega
 ·exact e
theorem pig:∀(n:Nat) (f:Nat→Nat),(∀i,i<n→f i<n)→(∀i j,i<n→j<n→f i=f j→i=j)→∀k,k<n→∃i,i<n∧f i=k:=by
 intro n
 induction n with
 |zero=>intro f _ _ k hk;omega
 |succ n ih=>
  intro f hf hinj k hk
  have hg:=ih (fun i:Nat=>if f i=n then f n else f i) (fun i hi=>by
   by_cases e:f i=n
   ·rw[if_pos e]
    have h1:=hf n (by omega)
    have h2:f n≠n:=fun e2=>by
     have:=hinj i n (by omega) (by omega) (e.trans e2.symm)
     omega
    omega
   ·rw[if_neg e]
    have:=hf i (by omega)
    omega) (fun i j hi hj he=>by
   by_cases e1:f i=n
   ·by_cases e2:f j=n
    ·exact hinj i j (by omega) (by omega) (e1.trans e2.symm)
    ·rw[if_pos e1,if_neg e2] at he
     have:=hinj n j (by omega) (by omega) he
     omega
   ·by_cases e2:f j=n
    ·rw[if_neg e1,if_pos e2] at he
     have:=hinj i n (by omega) (by omega) he
     omega
    ·rw[if_neg e1,if_neg e2] at he
     exact hinj i j (by omega) (by omega) he)
  have hn:=hf n (by omega)
  by_cases e:f n=k
  ·exact⟨n,by omega,e⟩
  ·by_cases e2:k=n
   ·obtain⟨i,hi,h⟩:=hg (f n) (by omega)
    by_cases e3:f i=n
    ·exact⟨i,by omega,by omega⟩
    ·rw[if_neg e3] at h
     have:=hinj i n (by omega) (by omega) h
     omega
   ·obtain⟨i,hi,h⟩:=hg k (by omega)
    by_cases e3:f i=n
    ·rw[if_pos e3] at h
     exact absurd h e
    ·rw[if_neg e3] at h
     exact⟨i,by omega,h⟩
theorem zV (ks:List Int) {k:Nat} (hk:k<ks.length):∃i,i<ks.length∧rk ks i=k:=
 pig ks.length (rk ks) (fun _ hi=>EB hi) (fun _ _ hi hj h=>LK hi hj h) k hk
structure Sorted {α:Type} (ks:List Int) (xs S:List α):Prop where
 len:S.length=ks.length
 put:∀i,i<ks.length→S[rk ks i]? =xs[i]?
structure Laid {α:Type} (ks:List Int) (xs S:List α) (n:Nat):Prop where
 len:S.length=ks.length
 put:∀i,i<n→S[rk ks i]? =xs[i]?
theorem Laid.step {α:Type} {ks:List Int} {xs S:List α} {n:Nat} (h:Laid ks xs S n) (hn:n<ks.length) {x:α} (hx:xs[n]? =some x):Laid ks xs (S.set (rk ks n) x) (n+1):=by
 refine⟨by rw[List.length_set];exact h.len,fun i hi=> ?_⟩
 have hr:=EB hn
 rw[List.getElem?_set]
 by_cases e:i=n
 ·subst e
  rw[if_pos rfl,if_pos (by rw[h.len];exact hr),hx]
 ·rw[if_neg (fun e2=>e (LK (by omega) hn e2.symm)),h.put i (by omega)]
def aai (ks:List Int) (n:Nat) (k:Int):List Int:=((List.range n).filter fun i=>ks.getD i 0==k).map fun i:Nat=>(i:Int)
def grp (ks:List Int) (k:Int):List Int:=aai ks ks.length k
def In (m:Int) (ks:List Int):Prop:=∀z∈ks,0≤z∧z≤m
def groups (ks:List Int) (K:Nat):List (List Int):=(List.range K).map fun k:Nat=>grp ks (k:Int)
def flat (ks:List Int) (K:Nat):List Int:=(groups ks K).flatten
theorem JT {m:Int} {ks:List Int} (h:In m ks):less ks 0=0:=by
 unfold less
 rw[List.countP_eq_zero]
 intro z hz
 have:=h z hz
 simp
 omega
def places (n:Nat):List Int:=(List.range n).map fun i:Nat=>(i:Int)
theorem tN {most:Int} {ks:List Int} (h:most<0∨4194304<most):fault most ks=2:=if_pos h
theorem tO {most:Int} {ks:List Int} (h:¬(most<0∨4194304<most)) (h2:ks.any (bad most)=true):fault most ks=60:=by unfold fault;rw[if_neg h,if_pos h2]
theorem qY {most:Int} {ks:List Int} (h:¬(most<0∨4194304<most)) (h2:ks.any (bad most)=false):fault most ks=0:=by
 unfold fault
 rw[if_neg h,h2]
 rfl
theorem Fh (most:Int) (ks:List Int):((most<0∨4194304<most)∧fault most ks=2)∨(¬(most<0∨4194304<most)∧ks.any (bad most)=true∧fault most ks=60)∨(¬(most<0∨4194304<most)∧ks.any (bad most)=false∧fault most ks=0):=by
 by_cases h:most<0∨4194304<most
 ·exact .inl ⟨h,tN h⟩
 ·cases h2:ks.any (bad most)
  ·exact .inr (.inr ⟨h,rfl,qY h h2⟩)
  ·exact .inr (.inl ⟨h,rfl,tO h h2⟩)
theorem Vh {most:Int} {ks:List Int} (h:ks.any (bad most)=false):In most ks:=fun z hz=>by
 have:=List.any_eq_false.1 h z hz
 unfold bad at this
 simp at this
 omega
theorem BH {most:Int} {ks:List Int} {i:Nat} {x:Int} (h:ks[i]? =some x) (hp:(ks.take i).any (bad most)=false) (hx:bad most x=false):(ks.take (i+1)).any (bad most)=false:=by
 rw[sG h,List.any_append,hp]
 simp[hx]
theorem MA {most:Int} {ks:List Int} {i:Nat} {x:Int} (h:ks[i]? =some x) (hx:bad most x=true):ks.any (bad most)=true:=List.any_eq_true.2 ⟨x,List.mem_of_getElem? h,hx⟩
theorem IB {most x:Int} (h:x<0∨most<x):bad most x=true:=by unfold bad;simp;omega
theorem My {most x:Int} (h:¬(x<0∨most<x)):bad most x=false:=by unfold bad;simp;omega
end Bu
end
section
namespace Nu
def dx (c:Int):Bool:=c==32||(c==9||c==13)
def isDigit (c:Int):Bool:=decide (48≤c)&&decide (c≤57)
def O2 (f:Int→Bool) (g:Nat→Int) (n:Nat):Nat→Nat→Nat
 |0,p=>p
 |k+1,p=>if p<n∧f (g p)=true then O2 f g n k (p+1) else p
def skip (f:Int→Bool) (g:Nat→Int) (n p:Nat):Nat:=O2 f g n (n-p) p
def val (g:Nat→Int) (q:Nat):Nat→Int
 |0=>0
 |k+1=>10*val g q k+(g (q+k)-48)
structure Tok where
 kind:Int
 RY:Int
 fin:Int
 num:Int
def next (g:Nat→Int) (n p:Nat):Except (Nat×Int) (Tok×Nat):=
 if skip dx g n p=n then .ok (⟨3,n,n,0⟩,n)
 else if isDigit (g (skip dx g n p))=true then
  if 9<skip isDigit g n (skip dx g n p)-skip dx g n p∨(1<skip isDigit g n (skip dx g n p)-skip dx g n p∧g (skip dx g n p)=48) then .error (skip dx g n p,12)
  else .ok (⟨1,skip dx g n p,skip isDigit g n (skip dx g n p),val g (skip dx g n p) (skip isDigit g n (skip dx g n p)-skip dx g n p)⟩,skip isDigit g n (skip dx g n p))
 else if g (skip dx g n p)=10 then .ok (⟨2,skip dx g n p,skip dx g n p+1,0⟩,skip dx g n p+1)
 else .error (skip dx g n p,11)
end Nu
end
section
namespace Si
def lt (a b:Int×Int):Prop:=a.1<b.1∨(a.1=b.1∧a.2<b.2)
instance (a b:Int×Int):Decidable (lt a b):=by unfold lt;infer_instance
def cf (a b:Int×Int):Int:=if a.1<b.1 then -1 else if b.1<a.1 then 1 else if a.2<b.2 then -1 else if b.2<a.2 then 1 else 0
theorem Mx {a b:Int×Int}:cf a b<0↔lt a b:=by
 unfold cf lt
 split
 ·simp;omega
 ·split
  ·simp;omega
  ·split
   ·simp;omega
   ·split
    ·simp;omega
    ·simp;omega
theorem lt_irrefl (a:Int×Int):¬lt a a:=by unfold lt;omega
theorem lt_trans {a b c:Int×Int} (h:lt a b) (k:lt b c):lt a c:=by unfold lt at *;omega
theorem Nq (a b:Int×Int):lt a b∨a=b∨lt b a:=by
 unfold lt
 by_cases h:a=b
 ·exact .inr (.inl h)
 ·have:a.1≠b.1∨a.2≠b.2:=by
   by_cases h1:a.1=b.1
   ·exact .inr fun h2=>h (Prod.ext h1 h2)
   ·exact .inl h1
  omega
theorem lt_asymm {a b:Int×Int} (h:lt a b):¬lt b a:=fun k=>lt_irrefl a (lt_trans h k)
theorem YS {a b:Int×Int} (h:lt a b):a≠b:=fun e=>lt_irrefl a (by rw[e] at h ⊢;exact h)
def ok (n:Int) (e:Int×Int):Prop:=0≤e.1∧e.1<e.2∧e.2<n
structure Val (n:Int) (es:List (Int×Int)):Prop where
 lo:0≤n
 hi:n≤1048576
 few:es.length≤4194304
 each:∀(j:Nat) (p:Int×Int),es[j]? =some p→ok n p
 up:∀(j:Nat) (p q:Int×Int),es[j]? =some p→es[j+1]? =some q→lt p q
open Classical in
noncomputable def valid (n:Int) (es:List (Int×Int)):Bool:=decide (Val n es)
theorem bL {n:Int} {es:List (Int×Int)}:valid n es=true↔Val n es:=by unfold valid;exact @decide_eq_true_iff _ (Classical.propDecidable _)
theorem jU {n:Int} {es:List (Int×Int)} (h:¬Val n es):valid n es=false:=by
 cases hv:valid n es
 ·rfl
 ·exact absurd (bL.1 hv) h
noncomputable def ends (n:Int) (es:List (Int×Int)) (h:Int):Int×Int×Bool:=
 if valid n es=true∧0≤h∧h<2*es.length then
  (if h%2=1 then ((es.getD (h/2).toNat (0,0)).2,(es.getD (h/2).toNat (0,0)).1,true) else ((es.getD (h/2).toNat (0,0)).1,(es.getD (h/2).toNat (0,0)).2,true))
 else (0,0,false)
def bump (l:List Int) (v:Int):List Int:=l.set v.toNat (l.getD v.toNat 0+1)
def jt (n:Int):List (Int×Int)→List Int
 |es=>es.foldl (fun l e=>bump (bump l e.1) e.2) (List.replicate n.toNat 0)
def put:List (Int×Int)→Int×Int→List (Int×Int)
 |[],e=>[e]
 |x::l,e=>if lt x e then x::put l e else if x=e then x::l else e::x::l
end Si
end
section
namespace Cs
def fr (es:List (Int×Int)) (i:Nat):Nat:=(if i%2=0 then (es.getD (i/2) (0,0)).1 else (es.getD (i/2) (0,0)).2).toNat
def to (es:List (Int×Int)) (i:Nat):Nat:=(if i%2=0 then (es.getD (i/2) (0,0)).2 else (es.getD (i/2) (0,0)).1).toNat
def out (es:List (Int×Int)) (v:Nat):Nat→List Nat
 |0=>[]
 |k+1=>if fr es k=v then out es v k++[k] else out es v k
section
variable {es:List (Int×Int)} {u v i j k:Nat}
theorem kJ:∀k,(out es v k).length≤k
 |0=>by simp[out]
 |k+1=>by
  have:=kJ k
  unfold out
  split<;>simp<;>omega
theorem gG (k:Nat):(out es v (k+1)).length=(out es v k).length+if fr es k=v then 1 else 0:=by
 conv=>lhs;unfold out
 split<;>simp
theorem Ng (h:i≤k):(out es v i).length≤(out es v k).length:=by
 induction k with
 |zero=>
  obtain rfl:i=0:=by omega
  exact Nat.le_refl _
 |succ k ih=>
  by_cases hk:i=k+1
  ·subst hk;exact Nat.le_refl _
  ·have:=ih (by omega)
   rw[gG]
   omega
theorem rN (h:i<k) (hv:fr es i=v):(out es v i).length<(out es v k).length:=by
 have h1:=gG (es:=es) (v:=v) i
 rw[if_pos hv] at h1
 have h2:=Ng (es:=es) (v:=v) (i:=i+1) (k:=k) h
 omega
theorem LO (h:i<k) (hv:fr es i=v):(out es v k)[(out es v i).length]? =some i:=by
 induction k with
 |zero=>omega
 |succ k ih=>
  by_cases hk:i=k
  ·subst hk
   conv=>lhs;arg 1;unfold out
   rw[if_pos hv]
   simp
  ·have h1:=ih (by omega)
   have h2:(out es v i).length<(out es v k).length:=rN (by omega) hv
   conv=>lhs;arg 1;unfold out
   split
   ·rw[List.getElem?_append_left h2];exact h1
   ·exact h1
theorem nr (h:(out es v k)[j]? =some i):i<k∧fr es i=v∧(out es v i).length=j:=by
 induction k with
 |zero=>simp[out] at h
 |succ k ih=>
  unfold out at h
  split at h
  ·rename_i hv
   by_cases hj:j<(out es v k).length
   ·rw[List.getElem?_append_left hj] at h
    have:=ih h
    exact⟨by omega,this.2⟩
   ·rw[List.getElem?_append_right (by omega)] at h
    by_cases hj2:j-(out es v k).length=0
    ·rw[hj2] at h
     simp at h
     subst h
     exact⟨by omega,hv,by omega⟩
    ·rw[List.getElem?_eq_none (by simp;omega)] at h
     cases h
  ·have:=ih h
   exact⟨by omega,this.2⟩
def st (es:List (Int×Int)) (M:Nat):Nat→Nat
 |0=>0
 |v+1=>st es M v+(out es v M).length
theorem Jt {M:Nat} (h:u<v):st es M u+(out es u M).length≤st es M v:=by
 induction v with
 |zero=>omega
 |succ v ih=>
  have e:st es M (v+1)=st es M v+(out es v M).length:=rfl
  by_cases hu:u=v
  ·subst hu;omega
  ·have:=ih (by omega)
   omega
theorem O0 (M v:Nat):st es (M+1) v=st es M v+if fr es M<v then 1 else 0:=by
 induction v with
 |zero=>simp[st]
 |succ v ih=>
  have e1:st es (M+1) (v+1)=st es (M+1) v+(out es v (M+1)).length:=rfl
  have e2:st es M (v+1)=st es M v+(out es v M).length:=rfl
  rw[e1,e2,ih,gG]
  split<;>split<;>split<;>omega
theorem TQ {n:Nat} (M:Nat) (h:∀i,i<M→fr es i<n):st es M n=M:=by
 induction M with
 |zero=>
  have:∀v,st es 0 v=0:=fun v=>by
   induction v with
   |zero=>rfl
   |succ v ih=>rw[show st es 0 (v+1)=st es 0 v+(out es v 0).length from rfl,ih];rfl
  exact this n
 |succ M ih=>
  rw[O0,ih (fun i hi=>h i (by omega)),if_pos (h M (by omega))]
theorem zK {n M:Nat} (h:∀i,i<M→fr es i<n) (hv:v<n):st es M v+(out es v M).length≤M:=by
 have:=Jt (es:=es) (M:=M) hv
 rw[TQ M h] at this
 exact this
def pos (es:List (Int×Int)) (M i:Nat):Nat:=st es M (fr es i)+(out es (fr es i) i).length
theorem LM {n M:Nat} (h:∀i,i<M→fr es i<n) (hi:i<M):pos es M i<M:=by
 have h1:=zK h (h i hi)
 have h2:=rN (es:=es) (k:=M) hi rfl
 unfold pos
 omega
theorem TW {M:Nat} (hij:i<j) (hj:j<M):pos es M i≠pos es M j:=by
 unfold pos
 rcases Nat.lt_trichotomy (fr es i) (fr es j) with h|h|h
 ·have h1:=Jt (es:=es) (M:=M) h
  have h2:=rN (es:=es) (i:=i) (k:=M) (by omega) rfl
  omega
 ·rw[h]
  have h2:=rN (es:=es) (i:=i) (k:=j) hij h
  omega
 ·have h1:=Jt (es:=es) (M:=M) h
  have h2:=rN (es:=es) (i:=j) (k:=M) hj rfl
  omega
end
structure nE (es:List (Int×Int)) (n M k:Nat) (H Pl T F:List Int):Prop where
 lH:H.length=M
 lP:Pl.length=M
 lT:T.length=M
 lF:F.length=n
 hT:∀i,i<k→T[i]? =some (to es i:Int)
 hP:∀i,i<k→Pl[i]? =some (pos es M i:Int)
 hH:∀i,i<k→H[pos es M i]? =some (i:Int)
 hF:∀v,v<n→F[v]? =some ((st es M v+(out es v k).length:Nat):Int)
theorem nE.at {es:List (Int×Int)} {n M k:Nat} {H Pl T F:List Int} (h:nE es n M k H Pl T F) (hk:fr es k<n):F[fr es k]? =some (pos es M k:Int):=h.hF _ hk
theorem nE.step {es:List (Int×Int)} {n M k:Nat} {H Pl T F:List Int} (h:nE es n M k H Pl T F) (hn:∀i,i<M→fr es i<n) (hk:k<M):
 nE es n M (k+1) (H.set (pos es M k) k) (Pl.set k (pos es M k)) (T.set k (to es k)) (F.set (fr es k) ((pos es M k:Int)+1)):=by
 have hp:=LM hn hk
 refine⟨by simp[h.lH],by simp[h.lP],by simp[h.lT],by simp[h.lF],fun i hi=> ?_,fun i hi=> ?_,fun i hi=> ?_,fun v hv=> ?_⟩
 ·rw[List.getElem?_set]
  by_cases e:k=i
  ·subst e;rw[if_pos rfl,if_pos (by rw[h.lT];exact hk)]
  ·rw[if_neg e];exact h.hT i (by omega)
 ·rw[List.getElem?_set]
  by_cases e:k=i
  ·subst e;rw[if_pos rfl,if_pos (by rw[h.lP];exact hk)]
  ·rw[if_neg e];exact h.hP i (by omega)
 ·rw[List.getElem?_set]
  by_cases e:k=i
  ·subst e;rw[if_pos rfl,if_pos (by rw[h.lH];exact hp)]
  ·rw[if_neg (fun e2=>TW (es:=es) (M:=M) (i:=i) (j:=k) (by omega) hk e2.symm)];exact h.hH i (by omega)
 ·rw[List.getElem?_set,gG]
  by_cases e:fr es k=v
  ·subst e
   rw[if_pos rfl,if_pos (by rw[h.lF];exact hv),if_pos rfl]
   unfold pos
   congr 1
  ·rw[if_neg e,if_neg e];exact h.hF v hv
def xI (n:Nat) (es:List (Int×Int)) (v:Int):List Nat:=if 0≤v∧v<n then out es v.toNat (2*es.length) else []
theorem ox {n:Nat} {es:List (Int×Int)} {v:Nat} (h:v<n):xI n es v=out es v (2*es.length):=by
 unfold xI
 rw[if_pos ⟨by omega,by omega⟩]
 simp
theorem Pn {n:Nat} {es:List (Int×Int)} {v:Int} (h:¬(0≤v∧v<n)):xI n es v=[]:=by
 unfold xI
 rw[if_neg h]
theorem EE {n:Nat} {es:List (Int×Int)} {v:Int}:(xI n es v).length≤2*es.length:=by
 unfold xI
 split
 ·exact kJ _
 ·simp
theorem bH {n:Nat} {es:List (Int×Int)} (hv:Si.Val n es) {i:Nat} (hi:i<2*es.length):fr es i<n∧to es i<n:=by
 obtain⟨p,hp⟩:∃p,es[i/2]? =some p:=⟨_,List.getElem?_eq_getElem (by omega)⟩
 have ho:=hv.each _ p hp
 unfold Si.ok at ho
 unfold fr to
 rw[List.getD_eq_getElem?_getD,hp]
 dsimp only[Option.getD_some]
 split<;>omega
theorem iR {es:List (Int×Int)} {k:Nat} {p:Int×Int} (hp:es[k]? =some p):fr es (2*k)=p.1.toNat∧to es (2*k)=p.2.toNat:=by
 unfold fr to
 have e:2*k/2=k:=by omega
 have e2:2*k%2=0:=by omega
 rw[e,e2,List.getD_eq_getElem?_getD,hp]
 exact⟨rfl,rfl⟩
theorem nw {es:List (Int×Int)} {k:Nat} {p:Int×Int} (hp:es[k]? =some p):fr es (2*k+1)=p.2.toNat∧to es (2*k+1)=p.1.toNat:=by
 unfold fr to
 have e:(2*k+1)/2=k:=by omega
 have e2:(2*k+1)%2=1:=by omega
 rw[e,e2,List.getD_eq_getElem?_getD,hp]
 exact⟨rfl,rfl⟩
def twin (i:Nat):Nat:=if i%2=0 then i+1 else i-1
theorem uA {i m:Nat} (h:i<2*m):twin i<2*m:=by
 unfold twin
 split<;>omega
theorem OW (es:List (Int×Int)) (i:Nat):to es (twin i)=fr es i:=by
 unfold to fr twin
 by_cases h:i%2=0
 ·have e:(i+1)/2=i/2:=by omega
  have e2:¬((i+1)%2=0):=by omega
  rw[if_pos h,if_pos h,e,if_neg e2]
 ·have e:(i-1)/2=i/2:=by omega
  have e2:(i-1)%2=0:=by omega
  rw[if_neg h,if_neg h,e,if_pos e2]
theorem Be (es:List (Int×Int)) (i:Nat):fr es (twin i)=to es i:=by
 unfold to fr twin
 by_cases h:i%2=0
 ·have e:(i+1)/2=i/2:=by omega
  have e2:¬((i+1)%2=0):=by omega
  rw[if_pos h,if_pos h,e,if_neg e2]
 ·have e:(i-1)/2=i/2:=by omega
  have e2:(i-1)%2=0:=by omega
  rw[if_neg h,if_neg h,e,if_pos e2]
end Cs
end
section
namespace Si
theorem zY:∀(l:List (Int×Int)) (e:Int×Int),l.Pairwise lt→(put l e).length=if e∈l then l.length else l.length+1
 |[],e,_=>by simp[put]
 |y::l,e,h=>by
  rw[List.pairwise_cons] at h
  unfold put
  split
  ·rename_i hye
   have hne:e≠y:=(YS hye).symm
   rw[List.length_cons,zY l e h.2]
   by_cases hm:e∈l
   ·simp[hm]
   ·simp[hm,hne]
  ·split
   ·rename_i h2
    subst h2
    simp
   ·rename_i h1 h2
    have UD:lt e y:=by
     rcases Nq y e with a|a|a
     ·exact absurd a h1
     ·exact absurd a h2
     ·exact a
    have hn:e∉y::l:=fun hm=>by
     rcases List.mem_cons.1 hm with a|a
     ·exact h2 a.symm
     ·exact lt_asymm UD (h.1 e a)
    rw[if_neg hn]
    simp
theorem zH {ps:List (Int×Int)} {k:Nat} {p:Int×Int} (h:ps[k]? =some p):ps.take (k+1)=ps.take k++[p]:=by
 have hl:k<ps.length:=(List.getElem?_eq_some_iff.1 h).1
 rw[List.take_succ_eq_append_getElem hl]
 rw[List.getElem?_eq_getElem hl] at h
 cases h
 rfl
end Si
end
section
open Go.RowKit
theorem Nu.hid {p:Prop} (h:p):Hid p:=h
section
variable {w w':World} {b:Nat} {ao:Option Addr} {n cap p:Nat} {g:Nat→Int}
def dY (w:World) (B:Nat) (a b c d:Value):World:=(((w.setCell ⟨B,0,none⟩ a).setCell ⟨B,1,none⟩ b).setCell ⟨B,2,none⟩ c).setCell ⟨B,3,none⟩ d
theorem gV {B:Nat} {t:TypeId} {x0 x1 x2 x3:Value} (h:w.heap[B]? =some (.cells #[x0,x1,x2,x3] t (0,0))) (a b c d:Value):(dY w B a b c d).heap[B]? =some (.cells #[a,b,c,d] t (0,0)):=by
 have h1:=heap_setCell_same w B 0 _ t a h
 have h2:=heap_setCell_same _ B 1 _ t b h1
 have h3:=heap_setCell_same _ B 2 _ t c h2
 have h4:=heap_setCell_same _ B 3 _ t d h3
 unfold dY
 simpa using h4
theorem kH {B k:Nat} (hk:k≠B) (a b c d:Value):(dY w B a b c d).heap[k]? =w.heap[k]? :=by
 unfold dY
 rw[heap_setCell_other _ ⟨B,3,none⟩ k d hk,heap_setCell_other _ ⟨B,2,none⟩ k c hk,heap_setCell_other _ ⟨B,1,none⟩ k b hk,heap_setCell_other _ ⟨B,0,none⟩ k a hk]
end
end
section
open Go.RowKit
theorem Tryz.bS:(Tryz.prog.info? 3).map (fun i=>(i.zero,i.size,i.bytes))=some (some (.int .i64 0),1,8):=by kernel_rfl
def aq (w:World) (g:Nat) (l:List Int):Prop:=w.heap[g]? =some (.cells (l.map (Value.int .i64)).toArray 3 (0,0))
section
variable {w w':World} {g:Nat} {l:List Int}
theorem aq.lt (h:aq w g l):g<w.heap.size:=lt_of_block h
theorem aq.cell (h:aq w g l) {i:Nat} {x:Int} (hx:l[i]? =some x):w.cell? ⟨g,i,none⟩=some (.int .i64 x):=by
 unfold aq at h
 simp[World.cell?,h,hx]
theorem aq.free (h:aq w g l) (i:Nat):w.frozen? ⟨g,i,none⟩=false:=by
 unfold aq at h
 simp[World.frozen?,h]
theorem aq.set (h:aq w g l) (i:Nat) (x:Int):aq (w.setCell ⟨g,i,none⟩ (.int .i64 x)) g (l.set i x):=by
 unfold aq at h ⊢
 rw[heap_setCell_same w g i _ _ _ h]
 simp[List.map_set]
theorem aq.later (h:aq w g l) (hb:Below w.heap.size w w'):aq w' g l:=(hb.block g h.lt).trans h
theorem aq.alloc (h:aq w g l) (o:Obj):aq (w.alloc o) g l:=(Below.heap_alloc w o g h.lt).trans h
end
theorem cD (n:Nat):(madeCells #[.int .i64 0] n).toList=(List.replicate n (0:Int)).map (Value.int .i64):=by
 rw[toList_madeCells_one,List.map_replicate]
theorem dy {w:World} {B g n:Nat} {xs:List Int} (h:w.ownsRow B 3 1 (.slice (some ⟨g,0,none⟩) n n) n (xs.map (Value.int .i64))):aq w g xs:=by
 rcases h.2 with ⟨h,_⟩|⟨g',cap,cur,e,_,hh,_,_,hs,ht⟩
 ·cases h
 cases e
 have e1:cur.toList=xs.map (Value.int .i64):=by
  rw[←ht]
  exact(List.take_of_length_le (by simp;omega)).symm
 unfold aq
 rw[hh,←e1]
end
section
open Go.RowKit Go.Sort
def vg (e:Int×Int):Value:= .agg #[.int .i64 e.1,.int .i64 e.2]
theorem new2 (W:World) (k:Nat) (hk:W.heap.size=k) (x y:Value) (t:TypeId):(W.alloc (.cells #[x,y] t)).cell? ⟨k,0,none⟩=some x∧(W.alloc (.cells #[x,y] t)).cell? ⟨k,1,none⟩=some y:=by
 subst hk
 constructor<;>simp
theorem Px (W:World) (k:Nat) (hk:W.heap.size=k) (x y:Value) (t:TypeId):(W.alloc (.cells #[x,y] t)).drew.cell? ⟨k,0,none⟩=some x∧(W.alloc (.cells #[x,y] t)).drew.cell? ⟨k,1,none⟩=some y:=new2 W k hk x y t
theorem O3 (W:World) (x y:Obj):((W.alloc x).alloc y).heap.size=W.heap.size+1+1:=by simp
def Si.pW (x y:Int):Int:=if x<y then -1 else if y<x then 1 else 0
set_option maxHeartbeats 400000 in
theorem Iu (x y:Int) (w:World):Calls Tryz.prog 145 #[.int .i64 x,.int .i64 y] w fun e w'=>e= .returned (.int .i64 (Si.pW x y))∧w'=w:=by
 unfold Si.pW
 by_cases h1:x<y
 ·rw[if_pos h1]
  go_enter Tryz.func145,Tryz.ntmps145
  go_wp2
  go_ret
  exact⟨rfl,rfl⟩
 ·rw[if_neg h1]
  by_cases h2:y<x
  ·rw[if_pos h2]
   go_enter Tryz.func145,Tryz.ntmps145
   go_wp2
   go_ret
   exact⟨rfl,rfl⟩
  ·rw[if_neg h2]
   go_enter Tryz.func145,Tryz.ntmps145
   go_wp2
   go_ret
   exact⟨rfl,rfl⟩
def Si.EH (p q:Int):Int:=if p≠0 then p else q
theorem aap (a b:Int×Int):Si.cf a b=Si.EH (Si.pW a.1 b.1) (Si.pW a.2 b.2):=by
 unfold Si.cf Si.pW Si.EH
 by_cases h1:a.1<b.1
 ·simp[h1]
 ·by_cases h2:b.1<a.1
  ·simp[h1,h2]
  ·simp[h1,h2]
set_option maxHeartbeats 1000000 in
theorem T8 (p q:Int) (W:World) (b:Nat) (h0:W.cell? ⟨b,0,none⟩=some (.int .i64 p)) (h1:W.cell? ⟨b,1,none⟩=some (.int .i64 q)):Calls Tryz.prog 144 #[.slice (some ⟨b,0,none⟩) 2 2] W fun e w'=>e= .returned (.int .i64 (Si.EH p q))∧w'=W:=by
 unfold Si.EH
 by_cases hp:p=0
 ·subst hp
  rw[if_neg (by simp)]
  by_cases hq:q=0
  ·subst hq
   go_enter Tryz.func144,Tryz.ntmps144
   go_wp2
   refine wp_loop_rounds 3 ?_
   rw[rounds_succ]
   go_wp2
   rw[rounds_succ]
   go_wp2
   rw[rounds_succ]
   go_wp2
   go_ret
   exact⟨rfl,rfl⟩
  ·go_enter Tryz.func144,Tryz.ntmps144
   go_wp2
   refine wp_loop_rounds 3 ?_
   rw[rounds_succ]
   go_wp2
   rw[rounds_succ]
   go_wp2
   go_ret
   exact⟨rfl,rfl⟩
 ·rw[if_pos hp]
  go_enter Tryz.func144,Tryz.ntmps144
  go_wp2
  refine wp_loop_rounds 3 ?_
  rw[rounds_succ]
  go_wp2
  go_ret
  exact⟨rfl,rfl⟩
set_option maxRecDepth 100000 in
set_option maxHeartbeats 4000000 in
theorem Fm (a b:Int×Int) (w:World):Calls Tryz.prog 127 #[vg a,vg b] w fun e w'=>e= .returned (.int .i64 (Si.cf a b))∧∃q os',w'=grow (w.drewN q) os':=by
 rw[aap]
 unfold vg
 go_enter Tryz.func127,Tryz.ntmps127
 go_wp2
 go_region_held3 (fun w'=>w'.cell? ⟨w.heap.size,0,none⟩=some (.int .i64 a.1)∧w'.cell? ⟨w.heap.size,1,none⟩=some (.int .i64 a.2)∧w'.cell? ⟨w.heap.size+1,0,none⟩=some (.int .i64 b.1)∧w'.cell? ⟨w.heap.size+1,1,none⟩=some (.int .i64 b.2))
  (go_keep)
  (first
    |(go_at_call 145;refine(Iu _ _ _).mono ?_;rintro e w' ⟨rfl,rfl⟩)
    |(go_at_call 144;refine(T8 (Si.pW a.1 b.1) (Si.pW a.2 b.2) _ _ (Px _ _ (O3 _ _ _) _ _ _).1 (Px _ _ (O3 _ _ _) _ _ _).2).mono ?_;rintro e w' ⟨rfl,rfl⟩))
 go_wp2
 go_ret
 exact⟨rfl,1,_,by rw[alloc_eq_grow,alloc_eq_grow,grow_grow,alloc_eq_grow,grow_grow];rfl⟩
theorem xY (w:World) (q:Nat) (os:Array Obj):Below w.heap.size w (grow (w.drewN q) os):=by
 refine⟨rfl,rfl,rfl,by simp[grow],fun k hk=> ?_⟩
 simp[grow,Array.getElem?_append_left hk]
end
section
open Go.RowKit
def aL (w:World) (ao:Option Addr) (es:List (Int×Int)):Prop:=
 ∀(j:Nat) (p:Int×Int),es[j]? =some p→∃b o:Nat,ao=some ⟨b,o,none⟩∧w.cell? ⟨b,o+j*2,none⟩=some (.int .i64 p.1)∧w.cell? ⟨b,o+j*2+1,none⟩=some (.int .i64 p.2)
theorem aL.later {w w':World} {ao:Option Addr} {es:List (Int×Int)} (h:aL w ao es) (hb:Below w.heap.size w w'):aL w' ao es:=fun j p hj=>by
 obtain⟨b,o,e,h0,h1⟩:=h j p hj
 exact⟨b,o,e,(hb.cell (p:=⟨b,o+j*2,none⟩) (block_lt_of_cell h0)).trans h0,(hb.cell (p:=⟨b,o+j*2+1,none⟩) (block_lt_of_cell h1)).trans h1⟩
theorem aL.nil (w:World) (ao:Option Addr):aL w ao []:=fun j p hj=>by simp at hj
def cK (n:Int) (ao:Option Addr) (len cap:Nat):Value:= .agg #[.int .i64 n,.slice ao len cap]
end
section
open Go.RowKit Go.Sort
namespace Si
def q8 (n:Int) (es:List (Int×Int)) (k:Nat) (l:Int×Int):Prop:=
 (∀(j:Nat) (p:Int×Int),j<k→es[j]? =some p→ok n p)∧(∀(j:Nat) (p q:Int×Int),j+1<k→es[j]? =some p→es[j+1]? =some q→lt p q)∧((k=0∧l=(0,0))∨∃k',k=k'+1∧es[k']? =some l)
theorem q8.start (n:Int) (es:List (Int×Int)):q8 n es 0 (0,0):=⟨fun j p h=>by omega,fun j p q h=>by omega,.inl ⟨rfl,rfl⟩⟩
theorem q8.step {n:Int} {es:List (Int×Int)} {k:Nat} {l p:Int×Int} (h:q8 n es k l) (hp:es[k]? =some p) (ho:ok n p) (hl:lt l p):q8 n es (k+1) p:=by
 refine⟨fun j q hj hq=> ?_,fun j q r hj hq hr=> ?_,.inr ⟨k,rfl,hp⟩⟩
 ·by_cases hjk:j=k
  ·subst hjk;rw[hp] at hq;cases hq;exact ho
  ·exact h.1 j q (by omega) hq
 ·by_cases hjk:j+1=k
  ·subst hjk
   rw[hp] at hr
   cases hr
   rcases h.2.2 with ⟨h0,_⟩|⟨k',hk,hl'⟩
   ·omega
   ·obtain rfl:j=k':=by omega
    rw[hl'] at hq
    cases hq
    exact hl
  ·exact h.2.1 j q r (by omega) hq hr
theorem q8.must {n:Int} {es:List (Int×Int)} {k:Nat} {l p:Int×Int} (h:q8 n es k l) (hv:Val n es) (hp:es[k]? =some p):ok n p∧lt l p:=by
 have ho:=hv.each k p hp
 refine⟨ho,?_⟩
 rcases h.2.2 with ⟨rfl,rfl⟩|⟨k',rfl,hl⟩
 ·unfold ok at ho
  unfold lt
  dsimp only
  omega
 ·exact hv.up k' l p hl hp
theorem q8.done {n:Int} {es:List (Int×Int)} {l:Int×Int} (h:q8 n es es.length l) (h0:0≤n) (h1:n≤1048576) (h2:es.length≤4194304):Val n es:=by
 have lim:∀(j:Nat) (p:Int×Int),es[j]? =some p→j<es.length:=fun j p hj=>by
  rcases Nat.lt_or_ge j es.length with hl|hl
  ·exact hl
  ·rw[List.getElem?_eq_none hl] at hj;cases hj
 exact⟨h0,h1,h2,fun j p hj=>h.1 j p (lim j p hj) hj,fun j p q hp hq=>h.2.1 j p q (lim _ _ hq) hp hq⟩
end Si
theorem az {w:World} {b:Nat} {t:TypeId} {x y:Value} (h:w.heap[b]? =some (.cells #[x,y] t (0,0))):w.cell? ⟨b,0,none⟩=some x∧w.cell? ⟨b,1,none⟩=some y∧∀i,w.frozen? ⟨b,i,none⟩=false:=by
 refine⟨by simp[World.cell?,h],by simp[World.cell?,h],fun i=>by simp[World.frozen?,h]⟩
theorem gF {w:World} {b:Nat} {t:TypeId} {x y:Value} (h:w.heap[b]? =some (.cells #[x,y] t (0,0))) (x' y':Value):((w.setCell ⟨b,0,none⟩ x').setCell ⟨b,1,none⟩ y').heap[b]? =some (.cells #[x',y'] t (0,0)):=by
 have h1:=heap_setCell_same w b 0 _ t x' h
 have h2:=heap_setCell_same _ b 1 _ t y' h1
 simpa using h2
theorem eF {w:World} {b k:Nat} (hk:k≠b) (x' y':Value):((w.setCell ⟨b,0,none⟩ x').setCell ⟨b,1,none⟩ y').heap[k]? =w.heap[k]? :=by
 rw[heap_setCell_other _ ⟨b,1,none⟩ k y' hk,heap_setCell_other _ ⟨b,0,none⟩ k x' hk]
set_option maxRecDepth 100000 in
set_option maxHeartbeats 4000000 in
theorem Jb (n:Int) (ao:Option Addr) (cap:Nat) (es:List (Int×Int)) (w:World) (he:aL w ao es) (hl:es.length≤4611686018427387904):
 Calls Tryz.prog 107 #[cK n ao es.length cap] w fun e w'=>e= .returned (.bool (Si.valid n es))∧Below w.heap.size w w':=by
 have HE:=Nu.hid he
 clear he
 unfold cK
 by_cases h1:n<0
 ·have hv:=Si.jU (n:=n) (es:=es) (fun h=>by have:=h.lo;omega)
  rw[hv]
  go_enter Tryz.func107,Tryz.ntmps107
  go_wp2
  go_ret
  exact⟨rfl,(Below.refl _ _).alloc (Nat.le_refl _) _⟩
 ·by_cases h2:1048576<n
  ·have hv:=Si.jU (n:=n) (es:=es) (fun h=>by have:=h.hi;omega)
   rw[hv]
   go_enter Tryz.func107,Tryz.ntmps107
   go_wp2
   go_ret
   exact⟨rfl,(Below.refl _ _).alloc (Nat.le_refl _) _⟩
  ·by_cases h3:4194304<(es.length:Int)
   ·have hv:=Si.jU (n:=n) (es:=es) (fun h=>by have:=h.few;omega)
    rw[hv]
    go_enter Tryz.func107,Tryz.ntmps107
    go_wp2
    go_ret
    exact⟨rfl,(Below.refl _ _).alloc (Nat.le_refl _) _⟩
   ·go_enter Tryz.func107,Tryz.ntmps107
    go_wp2
    go_loopw [23] (fun c wr=>∃(k:Nat) (l:Int×Int),k≤es.length∧c= .int .i64 k∧Si.q8 n es k l∧wr.heap[w.heap.size]? =some (.cells #[.int .i64 n,.slice ao es.length cap] 24 (0,0))∧wr.heap[w.heap.size+1]? =some (.cells #[.int .i64 l.1,.int .i64 l.2] 55 (0,0))∧Below w.heap.size w wr) (fun c _=>es.length-(intOf c).toNat)
    case atStart=>
     refine⟨0,(0,0),Nat.zero_le _,rfl,Si.q8.start n es,?_,?_,((Below.refl _ _).alloc (Nat.le_refl _) _).alloc (by simp) _⟩
     ·rw[Below.heap_alloc _ _ _ (by simp)]
      exact heap_alloc_new w _
     ·have:=heap_alloc_new (w.alloc (.cells #[.int .i64 n,.slice ao es.length cap] 24)) (.cells #[.int .i64 0,.int .i64 0] 55)
      simpa using this
    case round=>
     obtain⟨k,l,hk,rfl,eP,hgb,hlb,hb⟩:=hrel
     by_cases hlt:k<es.length
     ·have oA:(k:Int)<(es.length:Int):=by omega
      have hk0:(0:Int)≤(k:Int):=by omega
      obtain⟨p,hp⟩:∃p,es[k]? =some p:=⟨_,List.getElem?_eq_getElem hlt⟩
      obtain⟨b,o,rfl,c0,c1⟩:=(HE.out.later hb) k p hp
      obtain⟨g0,-,-⟩:=az hgb
      obtain⟨l0,l1,lf⟩:=az hlb
      have hsz:=lt_of_block hlb
      have PZ:=lt_of_block hgb
      have hbl:b<wr.heap.size:=block_lt_of_cell c0
      have yN:=Nu.hid eP
      have HP:=Nu.hid hp
      have HGB:=Nu.hid hgb
      have HLB:=Nu.hid hlb
      have HB:=Nu.hid hb
      clear eP hp hgb hlb hb
      by_cases q1:p.1<0
      ·have hv:=Si.jU (n:=n) (es:=es) (fun h=>by have:=(yN.out.must h HP.out).1.1;omega)
       go_wp2
       go_ret
       exact⟨by first|rfl|exact congrArg (fun b=>Ending.returned (.bool b)) hv.symm,HB.out.alloc (by omega) _⟩
      ·by_cases q2:p.1<p.2
       ·by_cases q3:p.2<n
        ·have hca:=fun W=>Fm l p W
         unfold vg at hca
         have mY:=Nu.hid hca
         clear hca
         by_cases q4:Si.lt l p
         ·have ZI:=Si.Mx.2 q4
          generalize Si.cf l p=r at mY ZI
          go_wp2_with (go_at_call 127;refine(mY.out _).mono ?_;rintro e w' ⟨rfl,hgr⟩;refine Hid.out ?_)
          refine Nu.hid ?_
          obtain⟨qn,os',rfl⟩:=hgr
          have hb1:=xY (wr.alloc (.cells #[.int .i64 p.1,.int .i64 p.2] 55)) qn os'
          have hb2:Below wr.heap.size wr (grow ((wr.alloc (.cells #[.int .i64 p.1,.int .i64 p.2] 55)).drewN qn) os'):=((Below.refl _ _).alloc (Nat.le_refl _) _).trans (hb1.mono (by simp))
          have hnew:(grow ((wr.alloc (.cells #[.int .i64 p.1,.int .i64 p.2] 55)).drewN qn) os').heap[wr.heap.size]? =some (.cells #[.int .i64 p.1,.int .i64 p.2] 55 (0,0)):=(hb1.block _ (by simp)).trans (heap_alloc_new wr _)
          generalize grow ((wr.alloc (.cells #[.int .i64 p.1,.int .i64 p.2] 55)).drewN qn) os'=w2 at hb2 hnew ⊢
          have Yf:=Nu.hid ((hb2.block _ hsz).trans HLB.out)
          have afV:=Nu.hid ((hb2.block _ PZ).trans HGB.out)
          obtain⟨m0,m1,mf⟩:=az Yf.out
          obtain⟨n0,n1,-⟩:=az hnew
          have AE:=hb2.size
          have cz:=Nu.hid (HB.out.trans (hb2.mono (by omega)))
          clear hb1 hb2 hnew c0 c1 g0 l0 l1 lf
          go_wp2
          go_roundw
          case rel=>exact⟨k+1,p,by omega,by go_num,yN.out.step HP.out ⟨by omega,q2,q3⟩ q4,(eF (by omega) _ _).trans afV.out,gF Yf.out _ _,(cz.out.setCell (by simp) _).setCell (by simp) _⟩
          case measure=>simp[intOf];omega
         ·have hv:=Si.jU (n:=n) (es:=es) (fun h=>q4 (yN.out.must h HP.out).2)
          have ZI:¬(Si.cf l p<0):=fun h=>q4 (Si.Mx.1 h)
          generalize Si.cf l p=r at mY ZI
          go_wp2_with (go_at_call 127;refine(mY.out _).mono ?_;rintro e w' ⟨rfl,hgr⟩;refine Hid.out ?_)
          refine Nu.hid ?_
          obtain⟨qn,os',rfl⟩:=hgr
          have hb1:=xY (wr.alloc (.cells #[.int .i64 p.1,.int .i64 p.2] 55)) qn os'
          generalize grow ((wr.alloc (.cells #[.int .i64 p.1,.int .i64 p.2] 55)).drewN qn) os'=w2 at hb1 ⊢
          have cz:=Nu.hid ((HB.out.alloc (by omega) _).trans (hb1.mono (by simp;omega)))
          clear hb1
          go_wp2
          go_ret
          exact⟨by first|rfl|exact congrArg (fun b=>Ending.returned (.bool b)) hv.symm,cz.out⟩
        ·have hv:=Si.jU (n:=n) (es:=es) (fun h=>by have:=(yN.out.must h HP.out).1.2.2;omega)
         go_wp2
         go_ret
         exact⟨by first|rfl|exact congrArg (fun b=>Ending.returned (.bool b)) hv.symm,HB.out.alloc (by omega) _⟩
       ·have hv:=Si.jU (n:=n) (es:=es) (fun h=>by have:=(yN.out.must h HP.out).1.2.1;omega)
        go_wp2
        go_ret
        exact⟨by first|rfl|exact congrArg (fun b=>Ending.returned (.bool b)) hv.symm,HB.out.alloc (by omega) _⟩
     ·obtain rfl:k=es.length:=by omega
      have hv:=Si.bL.2 (eP.done (by omega) (by omega) (by omega))
      have HB:=Nu.hid hb
      clear hb eP hgb hlb
      go_wp2
      go_ret
      exact⟨by first|rfl|exact congrArg (fun b=>Ending.returned (.bool b)) hv.symm,HB.out⟩
end
section
open Go.RowKit
namespace Si
theorem vq (l:List Int) (v:Int):(bump l v).length=l.length:=by simp[bump]
theorem Bo (n:Int) (es:List (Int×Int)) (p:Int×Int):jt n (es++[p])=bump (bump (jt n es) p.1) p.2:=by simp[jt,List.foldl_append]
theorem pV (n:Int) (es:List (Int×Int)):(jt n es).length=n.toNat:=by
 unfold jt
 suffices h:∀(es:List (Int×Int)) (l:List Int),(es.foldl (fun l e=>bump (bump l e.1) e.2) l).length=l.length by rw[h];simp
 intro es
 induction es with
 |nil=>intro l;rfl
 |cons e es ih=>intro l;rw[List.foldl_cons,ih,vq,vq]
def BM (m:Int) (l:List Int):Prop:=∀(j:Nat) (x:Int),l[j]? =some x→0≤x∧x≤m
theorem BM.bump {m:Int} {l:List Int} (h:BM m l) (v:Int):BM (m+1) (bump l v):=by
 intro j x hx
 unfold Si.bump at hx
 rw[List.getElem?_set] at hx
 by_cases hv:v.toNat=j
 ·rw[if_pos hv] at hx
  split at hx
  ·cases hx
   rename_i hl
   have e:l[v.toNat]? =some l[v.toNat]:=List.getElem?_eq_getElem hl
   have:=h _ _ e
   rw[List.getD_eq_getElem?_getD,e]
   dsimp only[Option.getD_some]
   omega
  ·cases hx
 ·rw[if_neg hv] at hx
  have:=h j x hx
  omega
theorem KN (n:Int) (es:List (Int×Int)):BM (2*es.length) (jt n es):=by
 unfold jt
 suffices h:∀(es:List (Int×Int)) (l:List Int) (m:Int),BM m l→BM (m+2*es.length) (es.foldl (fun l e=>Si.bump (Si.bump l e.1) e.2) l) by
  have:=h es (List.replicate n.toNat 0) 0 (fun j x hx=>by
   rw[List.getElem?_replicate] at hx
   split at hx
   ·cases hx;omega
   ·cases hx)
  simpa using this
 intro es
 induction es with
 |nil=>intro l m h;simpa using h
 |cons e es ih=>
  intro l m h
  have:=ih _ _ ((h.bump e.1).bump e.2)
  rw[List.foldl_cons]
  have e1:m+2*((e::es).length:Int)=m+1+1+2*(es.length:Int):=by simp;omega
  rw[e1]
  exact this
end Si
end
end Go.Proofs.YtnhcggfbkoppnaaGreat
