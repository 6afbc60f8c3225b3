import Derived.Test.YtnhcggfbkoppnaaGreatMg14
import Derived.Test.YtnhcggfbkoppnaaGreatMg15
import Derived.Test.YtnhcggfbkoppnaaGreatMg00
import Derived.Deep.QuietTactic
import Derived.BigQuiet
import Derived.Test.YtnhcggfbkoppnaaGreatMg03
import Derived.Test.YtnhcggfbkoppnaaGreatMg04
import Derived.Test.YtnhcggfbkoppnaaGreatMg05
import Derived.Test.YtnhcggfbkoppnaaGreatMg11
import Derived.Deep.RegionHeld3
namespace Go.Proofs.YtnhcggfbkoppnaaGreat
section
namespace Lt
open Pl
section
variable {n m:Nat} {T:DF n m} {lw:List Int} {sd:Nat→Bool}
theorem Ge {e b:Nat} (he:e<m) (te:T.tree e=true) (h:T.aY e b):∃k,k<m∧T.fr k=T.go e∧T.aY k b:=by
 obtain⟨a1,a2⟩:=DF.Dm te h
 have hb:=h.1
 by_cases q:T.go e=T.fr b
 ·exact⟨b,hb,q.symm,hb,h.2.1,.inl rfl⟩
 ·obtain⟨k,k1,k2,k3,k4⟩:=T.child (T.lt e he).2 (T.lt b hb).1 a1 q
  have:=(T.dP e he te).1
  exact⟨k,k1,k3,hb,h.2.1,.inr ⟨k2,k4,by rw[k3];omega⟩⟩
theorem JD {e k b:Nat} (he:e<m) (te:T.tree e=true) (hk:k<m) (hfr:T.fr k=T.go e) (h:T.aY k b) (hl:T.ay (T.go b)<T.ay (T.fr e)):T.aY e b:=by
 obtain⟨h1,h2,h3⟩:=h
 refine⟨h1,h2,.inr ⟨te,?_,hl⟩⟩
 rcases h3 with q|⟨q1,q2,_⟩
 ·rw[←q,hfr]
  exact T.refl _ (T.lt e he).2
 ·rw[←hfr]
  exact T.trans (T.dP k hk q1).2 q2
theorem uK (hL:eI T lw) {e b:Nat} (he:e<m):T.ct b e↔T.aY e b∧T.ay (T.go b)=g lw e:=by
 constructor
 ·rintro⟨h1,h2⟩
  refine⟨h1,?_⟩
  have k1:=hL.ret e b he h1
  obtain⟨c,c1,c2⟩:=hL.ex e he (by have:=h1.lt;omega)
  have:=h2 c c1
  omega
 ·rintro⟨h1,h2⟩
  exact⟨h1,fun c hc=>by have:=hL.ret e c he hc;omega⟩
def K2 (T:DF n m) (sd:Nat→Bool) (S:Nat→Int) (e:Nat):Prop:=∃b,T.ct b e∧S e=cU T sd b∧∀c,T.ct c e→sd c=sd b
theorem ni {b:Nat} (tb:T.tree b=false):cU T sd b=if sd b=true then 1 else -1:=by
 unfold cU
 rw[if_neg (by rw[tb];simp)]
theorem zN {b c:Nat} (tb:T.tree b=false) (tc:T.tree c=false):cU T sd b=cU T sd c↔sd b=sd c:=by
 rw[ni tb,ni tc]
 cases sd b<;>cases sd c<;>simp
theorem Na {S:Nat→Int} {b:Nat} (hb:b<m) (tb:T.tree b=false) (hS:S b=cU T sd b):K2 T sd S b:=by
 have only:∀c,T.aY b c→c=b:=fun c hc=>by
  rcases hc.2.2 with q|⟨q,_⟩
  ·exact q.symm
  ·rw[tb] at q;cases q
 refine⟨b,⟨⟨hb,tb,.inl rfl⟩,fun c hc=>by rw[only c hc];exact Int.le_refl _⟩,hS,fun c hc=>by rw[only c hc.1]⟩
theorem KJ (hL:eI T lw) {e:Nat} (he:e<m) (te:T.tree e=true) (hr:g lw e<T.ay (T.fr e)) {l:List Nat} (hm:∀k,k∈l↔k<m∧T.fr k=T.go e) (hn:List.Pairwise (Fx T lw) l):∃k0 l',l=k0::l'∧g lw k0=g lw e:=by
 obtain⟨b,b1,b2⟩:=hL.ex e he hr
 obtain⟨k,k1,k2,k3⟩:=Ge he te b1
 have hk:=(hm k).2 ⟨k1,k2⟩
 have cT:=hL.ret k b k1 k3
 cases l with
 |nil=>simp at hk
 |cons k0 l'=>
  refine⟨k0,l',rfl,?_⟩
  obtain⟨m1,m2⟩:=(hm k0).1 List.mem_cons_self
  have hle:g lw k0≤g lw k:=by
   rcases List.mem_cons.1 hk with q|q
   ·rw[q];exact Int.le_refl _
   ·exact((List.pairwise_cons.1 hn).1 k q).1
  have hh:=(T.dP e he te).1
  obtain⟨c,c1,c2⟩:=hL.ex k0 m1 (by rw[m2];omega)
  have:=hL.ret e c he (JD he te m1 m2 c1 (by omega))
  omega
theorem Am (hL:eI T lw) {e k b:Nat} (he:e<m) (te:T.tree e=true) (hr:g lw e<T.ay (T.fr e)) (hk:k<m) (hfr:T.fr k=T.go e) (cT:g lw k=g lw e) (hb:T.ct b k):T.ct b e:=by
 obtain⟨b1,b2⟩:=(uK hL hk).1 hb
 exact(uK hL he).2 ⟨JD he te hk hfr b1 (by omega),by omega⟩
theorem Nr (hL:eI T lw) {e b:Nat} (he:e<m) (te:T.tree e=true) (hb:T.ct b e):∃k,k<m∧T.fr k=T.go e∧g lw k=g lw e∧T.ct b k:=by
 obtain⟨b1,b2⟩:=(uK hL he).1 hb
 obtain⟨k,k1,k2,k3⟩:=Ge he te b1
 have h1:=hL.ret k b k1 k3
 have hh:=(T.dP e he te).1
 have h4:=b1.lt
 obtain⟨c,c1,c2⟩:=hL.ex k k1 (by rw[k2];omega)
 have h5:=hL.ret e c he (JD he te k1 k2 c1 (by omega))
 exact⟨k,k1,k2,by omega,(uK hL k1).2 ⟨k3,by omega⟩⟩
theorem O9 (hL:eI T lw) {S:Nat→Int} {e k0:Nat} (he:e<m) (te:T.tree e=true) (hr:g lw e<T.ay (T.fr e)) (h0:k0<m) (f0:T.fr k0=T.go e) (l0:g lw k0=g lw e)
 (WJ:∀k,k<m→T.fr k=T.go e→g lw k=g lw e→K2 T sd S k) (hall:∀k,k<m→T.fr k=T.go e→g lw k=g lw e→S k=S k0) {x:Int} (hx:x=S k0):∃b,T.ct b e∧x=cU T sd b∧∀c,T.ct c e→sd c=sd b:=by
 obtain⟨b,b1,b2,b3⟩:=WJ k0 h0 f0 l0
 refine⟨b,Am hL he te hr h0 f0 l0 b1,by rw[hx,b2],fun c hc=> ?_⟩
 obtain⟨k,k1,k2,k3,k4⟩:=Nr hL he te hc
 obtain⟨d,d1,d2,d3⟩:=WJ k k1 k2 k3
 rw[d3 c k4]
 have:=hall k k1 k2 k3
 rw[b2,d2] at this
 exact(zN d1.1.2.1 b1.1.2.1).1 this
theorem TU (hL:eI T lw) {S:Nat→Int} {e k0 k:Nat} (he:e<m) (te:T.tree e=true) (hr:g lw e<T.ay (T.fr e)) (h0:k0<m) (f0:T.fr k0=T.go e) (l0:g lw k0=g lw e) (hk:k<m) (fk:T.fr k=T.go e) (lk:g lw k=g lw e)
 (r0:K2 T sd S k0) (rk:K2 T sd S k) (hne:S k≠S k0):¬T.Aligned sd:=fun ha=>by
 obtain⟨b,b1,b2,_⟩:=r0
 obtain⟨c,c1,c2,_⟩:=rk
 refine hne ?_
 rw[b2,c2]
 exact(zN c1.1.2.1 b1.1.2.1).2 (ha he te (Am hL he te hr hk fk lk c1) (Am hL he te hr h0 f0 l0 b1))
theorem Pa (hL:eI T lw) {S:Nat→Int} (h:∀e,e<m→T.tree e=true→g lw e<T.ay (T.fr e)→K2 T sd S e):T.Aligned sd:=by
 intro e b c he te hb hc
 have hr:g lw e<T.ay (T.fr e):=by
  have:=hL.ret e b he hb.1
  have:=hb.1.lt
  omega
 obtain⟨d,_,_,d3⟩:=h e he te hr
 rw[d3 b hb,d3 c hc]
end
end Lt
end
section
open Go.RowKit
structure LW (w:World) where
 val:World
 h:Below w.heap.size w val
theorem LW.any (w:World):Nonempty (LW w):=⟨⟨w,Below.refl _ _⟩⟩
theorem aC {P:Program} {id:Nat} {Q:Exit→Act→World→Prop} {a:Act} {w:World} {l:List Oper} (hm:P.follows .mixedOrders=true) (hB:Region.lexB .any l.toArray=true)
 (h:wpQuiet P l.toArray (fun w'=>∃D:LW w,w'=D.val) (fun a'=>∀w',(∃D:LW w,w'=D.val)→Q .normal a' w') l a):(Code.region id l.toArray true).wp P Q a w:=
 wp_region_quiet (C:=fun w'=>∃D:LW w,w'=D.val) hm hB ⟨⟨w.drew,(Below.refl _ _).drew⟩,rfl⟩ (by simpa using h)
theorem Calls.lw {P:Program} {f:FuncId} {args:Array Value} {w:World} {D:LW w} {v:Value}
 (h:Calls P f args D.val fun e w'=>e= .returned v∧Below D.val.heap.size D.val w'):Calls P f args D.val fun e w''=>e= .returned v∧∃D':LW w,w''=D'.val:=
 h.mono fun _ w' ⟨he,hb⟩=>⟨he,⟨w',D.h.trans (hb.mono D.h.size)⟩,rfl⟩
end
section
namespace Lo
open Df
def oh (s:St) (e:Nat):Nat:=(at_ s.aJ e).toNat
def fr (es:List (Int×Int)) (s:St) (e:Nat):Nat:=Cs.fr es (oh s e)
def bJ (es:List (Int×Int)) (s:St) (e:Nat):Nat:=Cs.to es (oh s e)
def tree (es:List (Int×Int)) (s:St) (e:Nat):Bool:=decide (at_ s.par (bJ es s e)=at_ s.aJ e)
def ht (es:List (Int×Int)) (s:St) (e:Nat):Int:=at_ s.ay (bJ es s e)
def hf (es:List (Int×Int)) (s:St) (e:Nat):Int:=at_ s.ay (fr es s e)
open Classical in
noncomputable def PG (es:List (Int×Int)) (s:St) (e b:Nat):Bool:= !tree es s b&&(decide (ht es s b<hf es s e)&&decide (bP es s (bJ es s e) (fr es s b)))
noncomputable def sH (es:List (Int×Int)) (s:St) (e:Nat):List Nat:=if tree es s e=true then (List.range es.length).filter (PG es s e) else [e]
def least (h:Int):List Int→Int
 |[]=>h
 |x::l=>least (min h x) l
theorem jm (h:Int):∀(l:List Int) (x:Int),least h (l++[x])=min (least h l) x
 |[],_=>rfl
 |y::l,x=>jm (min h y) l x
theorem least_le (h:Int):∀(l:List Int),least h l≤h∧∀x∈l,least h l≤x
 |[]=>⟨Int.le_refl _,fun x hx=>by simp at hx⟩
 |y::l=>by
  obtain⟨h1,h2⟩:=least_le (min h y) l
  refine⟨?_,fun x hx=> ?_⟩
  ·show least (min h y) l≤h
   omega
  ·rcases List.mem_cons.1 hx with rfl|hx
   ·show least (min h x) l≤x
    omega
   ·exact h2 x hx
theorem eG (h:Int):∀(l:List Int),least h l=h∨least h l∈l
 |[]=> .inl rfl
 |y::l=>by
  show least (min h y) l=h∨least (min h y) l∈y::l
  rcases eG (min h y) l with h1|h1
  ·rw[h1]
   by_cases hy:h≤y
   ·exact .inl (by omega)
   ·exact .inr (by rw[show min h y=y by omega];exact List.mem_cons_self)
  ·exact .inr (List.mem_cons_of_mem _ h1)
noncomputable def hs (es:List (Int×Int)) (s:St) (e:Nat):List Int:=(sH es s e).map (ht es s)
noncomputable def low (es:List (Int×Int)) (s:St) (e:Nat):Int:=least (hf es s e) (hs es s e)
noncomputable def cj (es:List (Int×Int)) (s:St) (e:Nat):Int:=least (hf es s e) ((hs es s e).filter fun x=>decide (low es s e<x))
noncomputable def nest (es:List (Int×Int)) (s:St) (e:Nat):Int:=if low es s e<cj es s e∧cj es s e<hf es s e then 2*low es s e+1 else 2*low es s e
section
variable {n:Nat} {es:List (Int×Int)} {s:St} {e:Nat}
theorem cN (h:VF n es s) (he:e<es.length):at_ s.aJ e=(oh s e:Int)∧(oh s e=2*e∨oh s e=2*e+1)∧oh s e<2*es.length∧oh s e/2=e:=by
 obtain⟨x,h1,h2,_⟩:=h.edge e he
 have:oh s e=x:=by unfold oh;rw[h2];simp
 rw[this]
 exact⟨h2,h1,by omega,by omega⟩
theorem bK (hv:Si.Val n es) (h:VF n es s) (he:e<es.length):fr es s e<n∧bJ es s e<n:=Cs.bH hv (cN h he).2.2.1
theorem jV (h:VF n es s) (he:e<es.length):tree es s e=true↔at_ s.par (bJ es s e)=(oh s e:Int):=by
 unfold tree
 rw[decide_eq_true_iff,(cN h he).1]
theorem D8 (h:VF n es s) (he:e<es.length) (hb:tree es s e=false):bP es s (bJ es s e) (fr es s e):=by
 obtain⟨x,h1,h2,h3⟩:=h.edge e he
 have hx:oh s e=x:=by unfold oh;rw[h2];simp
 rcases h3 with h3|h3
 ·have:=(jV h he).2 (by unfold bJ;rw[hx];exact h3)
  rw[hb] at this
  cases this
 ·unfold bJ fr
  rw[hx]
  exact h3
end
end Lo
end
section
namespace Lo
open Df
section
variable {n:Nat} {es:List (Int×Int)} {s:St} {e b:Nat}
theorem Bj (hv:Si.Val n es) (h:VF n es s) (he:e<es.length):bJ es s e≠fr es s e:=by
 obtain⟨_,_,hl,_⟩:=cN h he
 have hlt:=hl
 unfold bJ fr
 obtain⟨p,hp⟩:∃p,es[oh s e/2]? =some p:=⟨_,List.getElem?_eq_getElem (by omega)⟩
 have ho:=hv.each _ p hp
 unfold Si.ok at ho
 have e2:oh s e=2*(oh s e/2)∨oh s e=2*(oh s e/2)+1:=by omega
 obtain⟨e3,e4⟩:=Cs.iR hp
 obtain⟨e5,e6⟩:=Cs.nw hp
 rcases e2 with e2|e2
 ·rw[e2,e3,e4];omega
 ·rw[e2,e5,e6];omega
theorem BD (hv:Si.Val n es) (h:VF n es s) (he:e<es.length) (hb:tree es s e=false):ht es s e<hf es s e:=
 q7 hv h.once h.hang h.side (bK hv h he).1 (Bj hv h he) (D8 h he hb)
theorem cO (ht':tree es s e=true):b∈sH es s e↔b<es.length∧tree es s b=false∧ht es s b<hf es s e∧bP es s (bJ es s e) (fr es s b):=by
 unfold sH
 rw[if_pos ht',List.mem_filter,List.mem_range]
 unfold PG
 simp
theorem iZ (hb:tree es s e=false):sH es s e=[e]:=by
 unfold sH
 rw[if_neg (by rw[hb];decide)]
theorem qz (hv:Si.Val n es) (h:VF n es s) (he:e<es.length) (hb:b∈sH es s e):b<es.length∧tree es s b=false∧ht es s b<hf es s e:=by
 cases ht':tree es s e with
 |true=>
  obtain⟨h1,h2,h3,_⟩:=(cO ht').1 hb
  exact⟨h1,h2,h3⟩
 |false=>
  rw[iZ ht',List.mem_singleton] at hb
  subst hb
  exact⟨he,ht',BD hv h he ht'⟩
theorem Zm (hv:Si.Val n es) (h:VF n es s) (he:e<es.length):∀x∈hs es s e,x<hf es s e:=fun x hx=>by
 obtain⟨b,hb,rfl⟩:=List.mem_map.1 hx
 exact(qz hv h he hb).2.2
theorem EM (es:List (Int×Int)) (s:St) (e:Nat):low es s e≤cj es s e∧cj es s e≤hf es s e:=by
 have h1:=least_le (hf es s e) (hs es s e)
 have h2:=least_le (hf es s e) ((hs es s e).filter fun x=>decide (low es s e<x))
 refine⟨?_,h2.1⟩
 rcases eG (hf es s e) ((hs es s e).filter fun x=>decide (low es s e<x)) with h3|h3
 ·unfold cj;rw[h3];exact h1.1
 ·have h4:=(List.mem_filter.1 h3).1
  exact h1.2 _ h4
theorem rT (hv:Si.Val n es) (h:VF n es s) (he:e<es.length) (hb:tree es s e=false):low es s e=ht es s e:=by
 have:=BD hv h he hb
 unfold low hs
 rw[iZ hb]
 show min (hf es s e) (ht es s e)=_
 omega
theorem Gy (hv:Si.Val n es) (h:VF n es s) (he:e<es.length):0≤low es s e:=by
 have hr:=s9 hv h.once h.hang h.side
 unfold low
 rcases eG (hf es s e) (hs es s e) with h1|h1
 ·rw[h1];exact(hr _ (bK hv h he).1).1
 ·obtain⟨b,hb,hb2⟩:=List.mem_map.1 h1
  rw[←hb2]
  exact(hr _ (bK hv h (qz hv h he hb).1).2).1
theorem jA (hv:Si.Val n es) (h:VF n es s) (he:e<es.length) (ht':tree es s e=true):Df.up es s (bJ es s e)=(fr es s e:Int)∧ht es s e=hf es s e+1:=by
 have h1:=(jV h he).1 ht'
 obtain⟨_,_,hl,_⟩:=cN h he
 have eP:Df.up es s (bJ es s e)=(fr es s e:Int):=by
  unfold Df.up
  rw[Int.toNat_natCast,h1,Cs.jI hl]
  rfl
 refine⟨eP,?_⟩
 obtain⟨⟨W,B⟩,hs'⟩:=h.side
 obtain⟨Y,hw,hly,_⟩:=jz (es:=es) h.once hs' (bK hv h he).2
 have hn:=hv.hi
 have e1:=jq hv h.hang Y _ (bK hv h he).2 hw (by omega)
 cases Y with
 |nil=>
  have:=hw.2.1
  rw[eP] at this
  simp at this
 |cons y Y=>
  have h2:=hw.2.1
  rw[eP] at h2
  have h3:y=(fr es s e:Int):=by simpa using h2.symm
  have hw2:=hw.2.2
  rw[h3] at hw2
  have e2:=jq hv h.hang Y _ (bK hv h he).1 hw2 (by simp at hly;omega)
  show at_ s.ay (bJ es s e)=at_ s.ay (fr es s e)+1
  rw[e1,e2]
  simp
theorem tV {es:List (Int×Int)} {s:St} {a b c:Int} (h1:bP es s a b) (h2:bP es s b c):bP es s a c:=by
 obtain⟨W,hw,hb⟩:=h2
 refine⟨W,hw,?_⟩
 obtain⟨X,Y,Rl⟩:=List.append_of_mem hb
 have hw2:=hw
 rw[Rl] at hw2
 have hmem:=(bP.iff hw2.tail).1 h1
 rw[Rl]
 exact List.mem_append_right _ hmem
theorem pZ {es:List (Int×Int)} {s:St} {w x v:Int} {W:List Int} (hw:dK es s (v::W)) (hx:x∈v::W) (eP:Df.up es s x=w) (hw0:0≤w):bP es s w v:=by
 obtain⟨X,Y,Rl⟩:=List.append_of_mem hx
 have hw2:=hw
 rw[Rl] at hw2
 have ht:=hw2.tail
 have h1:=ht.2.1
 rw[eP] at h1
 refine⟨W,hw,?_⟩
 rw[Rl]
 cases Y with
 |nil=>simp at h1;omega
 |cons y Y=>
  have:w=y:=by simpa using h1
  rw[this]
  simp
end
end Lo
end
section
namespace Lo
def fst (p:Int→Bool):List Int→List Int
 |[]=>[]
 |x::L=>if p x=true then [] else x::fst p L
def snd (p:Int→Bool):List Int→List Int
 |[]=>[]
 |x::L=>if p x=true then x::L else snd p L
theorem ve (p:Int→Bool):∀L,fst p L++snd p L=L
 |[]=>rfl
 |x::L=>by
  unfold fst snd
  by_cases h:p x=true
  ·rw[if_pos h,if_pos h];rfl
  ·rw[if_neg h,if_neg h,List.cons_append,ve p L]
theorem Mt (p:Int→Bool):∀L,∀x∈fst p L,p x=false
 |[],x,hx=>by simp[fst] at hx
 |y::L,x,hx=>by
  unfold fst at hx
  by_cases h:p y=true
  ·rw[if_pos h] at hx;simp at hx
  ·rw[if_neg h] at hx
   rcases List.mem_cons.1 hx with rfl|hx
   ·simpa using h
   ·exact Mt p L x hx
theorem F0 (p:Int→Bool):∀L x D,snd p L=x::D→p x=true
 |[],x,D,h=>by simp[snd] at h
 |y::L,x,D,h=>by
  unfold snd at h
  by_cases hy:p y=true
  ·rw[if_pos hy] at h
   injection h with h1 _
   rw[←h1]
   exact hy
  ·rw[if_neg hy] at h
   exact F0 p L x D h
def put (p:Int→Bool) (h:Int) (L:List Int):List Int:=fst p L++h::snd p L
section
end
noncomputable def bR (n:Nat) (es:List (Int×Int)) (s:Df.St):Nat→List (List Int)
 |0=>List.replicate n []
 |k+1=>(bR n es s k).set (fr es s k) (put (fun x=>decide (nest es s k<nest es s (x.toNat/2))) (Df.at_ s.aJ k) ((bR n es s k).getD (fr es s k) []))
theorem dw (n:Nat) (es:List (Int×Int)) (s:Df.St):∀k,(bR n es s k).length=n
 |0=>by simp[bR]
 |k+1=>by unfold bR;rw[List.length_set];exact dw n es s k
theorem Gi {p:Int→Bool} {h:Int} {L:List Int} {x:Int}:x∈put p h L↔x=h∨x∈L:=by
 have h1:=ve p L
 unfold put
 rw[List.mem_append,List.mem_cons]
 constructor
 ·rintro(h2|h2|h2)
  ·exact .inr (by rw[←h1];exact List.mem_append_left _ h2)
  ·exact .inl h2
  ·exact .inr (by rw[←h1];exact List.mem_append_right _ h2)
 ·rintro(h2|h2)
  ·exact .inr (.inl h2)
  ·rw[←h1] at h2
   rcases List.mem_append.1 h2 with h3|h3
   ·exact .inl h3
   ·exact .inr (.inr h3)
theorem zY {p:Int→Bool} {h:Int} {L:List Int}:(put p h L).length=L.length+1:=by
 have h1:=ve p L
 have h2:(fst p L).length+(snd p L).length=L.length:=by rw[←List.length_append,h1]
 unfold put
 rw[List.length_append,List.length_cons]
 omega
theorem xH {n:Nat} {es:List (Int×Int)} {s:Df.St} (hv:Si.Val n es) (nN:Df.VF n es s):∀k,k≤es.length→∀L∈bR n es s k,(∀x∈L,∃b:Nat,b<k∧x=Df.at_ s.aJ b)∧L.length≤k
 |0,_,L,hL=>by
  unfold bR at hL
  rw[List.mem_replicate] at hL
  rw[hL.2]
  exact⟨fun x hx=>by simp at hx,by simp⟩
 |k+1,hk,L,hL=>by
  have ih:=xH hv nN k (by omega)
  unfold bR at hL
  rcases List.mem_or_eq_of_mem_set hL with h1|h1
  ·obtain⟨h2,h3⟩:=ih L h1
   exact⟨fun x hx=>by obtain⟨b,hb,e⟩:=h2 x hx;exact⟨b,by omega,e⟩,by omega⟩
  ·have hlt:fr es s k<(bR n es s k).length:=by rw[dw];exact(bK hv nN (by omega)).1
   have hmem:(bR n es s k).getD (fr es s k) []∈bR n es s k:=by
    rw[List.getD_eq_getElem?_getD,List.getElem?_eq_getElem hlt]
    exact List.getElem_mem hlt
   obtain⟨h2,h3⟩:=ih _ hmem
   rw[h1]
   refine⟨fun x hx=> ?_,by rw[zY];omega⟩
   rcases Gi.1 hx with e|hx
   ·exact⟨k,by omega,e⟩
   ·obtain⟨b,hb,e⟩:=h2 x hx
    exact⟨b,by omega,e⟩
end Lo
end
section
open Go.RowKit
def zs (l:List Nat):List Int:=l.map fun b:Nat=>(b:Int)
def upTo (f:Nat→Int) (k:Nat):List Int:=(List.range k).map f
theorem fG (f:Nat→Int) (k:Nat):(upTo f k).length=k:=by simp[upTo]
theorem gR {f:Nat→Int} {k i:Nat} (h:i<k):(upTo f k)[i]? =some (f i):=by
 unfold upTo
 rw[List.getElem?_map,List.getElem?_range h]
 rfl
def Sl (n:Int) (es:List (Int×Int)) (s:Df.St) (A1 A2 A3:List Int) (ls:List (List Int)) (z:Int):Prop:=
 (Si.valid n es=false∧A1=[]∧A2=[]∧A3=[]∧ls=[]∧z=1)∨(Si.valid n es=true∧¬oK n es s∧A1=[]∧A2=[]∧A3=[]∧ls=[]∧z=80)∨
 ∃m:Nat,n=(m:Int)∧Si.Val m es∧Df.VF m es s∧A1=upTo (Lo.low es s) es.length∧A2=upTo (Lo.cj es s) es.length∧A3=upTo (Lo.nest es s) es.length∧ls=Lo.bR m es s es.length∧z=0
def Ot (n:Int) (es:List (Int×Int)) (s:Df.St) (w:World) (r:Ending) (w':World):Prop:=
 ∃v1 v2 v3 vo vs A1 A2 A3 ls z,r= .returned (.tuple #[.agg #[v1,v2,v3,vo],.int .i64 z])∧Sl n es s A1 A2 A3 ls z∧aS w' w.heap.size v1 A1∧aS w' w.heap.size v2 A2∧aS w' w.heap.size v3 A3∧bW w' w.heap.size vo vs ls∧Below w.heap.size w w'
end
section
namespace Lo
open Df
section
variable {n:Nat} {es:List (Int×Int)} {s:St} {e b:Nat}
theorem rZ (h:VF n es s) {v:Nat} (hv:v<n):bP es s v v:=by
 obtain⟨⟨W,B⟩,hs'⟩:=h.side
 obtain⟨Y,hw,_,_⟩:=jz (es:=es) h.once hs' hv
 exact⟨Y,hw,List.mem_cons_self⟩
theorem GQ {α:Type}:∀(X:List α),X≠[]→∃X' x,X=X'++[x]
 |[],h=>absurd rfl h
 |x::X,_=>by
  by_cases hX:X=[]
  ·exact⟨[],x,by rw[hX];rfl⟩
  ·obtain⟨X',y,e⟩:=GQ X hX
   exact⟨x::X',y,by rw[e];rfl⟩
theorem wY (h:VF n es s) {w v:Nat} (dh:v<n) (ha:bP es s w v) (hne:w≠v):∃k,k<es.length∧tree es s k=true∧fr es s k=w∧bP es s (bJ es s k) v:=by
 obtain⟨⟨W,B⟩,hs'⟩:=h.side
 obtain⟨Y,hw,_,Un⟩:=jz (es:=es) h.once hs' dh
 have hmem:=(bP.iff hw).1 ha
 obtain⟨X,Z,NV⟩:=List.append_of_mem hmem
 have hX:X≠[]:=fun e=>by
  rw[e] at NV
  simp at NV
  omega
 obtain⟨X',x,rfl⟩:=GQ X hX
 have hw2:=hw
 rw[NV,List.append_assoc] at hw2
 have ht:=hw2.tail
 have eP:Df.up es s x=(w:Int):=ht.2.1
 have hx0:0≤x:=ht.1
 have hxm:x∈(v:Int)::Y:=by rw[NV];simp
 have Cx:∃u:Nat,u<n∧x=(u:Int):=by
  rcases List.mem_cons.1 hxm with e|hm
  ·exact⟨v,dh,e⟩
  ·exact Un x hm
 obtain⟨u,hun,rfl⟩:=Cx
 rcases h.hang u hun with ⟨h1,_⟩|⟨y,h1,h2,h3,h4,_⟩
 ·unfold Df.up at eP
  rw[Int.toNat_natCast,h1,Cs.zj (by omega)] at eP
  omega
 ·have hk:y/2<es.length:=by omega
  have Zq:oh s (y/2)=y:=by unfold oh;rw[h4];simp
  have hgo:bJ es s (y/2)=u:=by unfold bJ;rw[Zq];exact h3
  refine⟨y/2,hk,?_,?_,?_⟩
  ·rw[jV h hk,hgo,Zq]
   exact h2
  ·unfold fr
   rw[Zq]
   unfold Df.up at eP
   rw[Int.toNat_natCast,h2,Cs.jI h1] at eP
   omega
  ·rw[hgo]
   exact⟨Y,hw,hxm⟩
theorem Nt (hv:Si.Val n es) (h:VF n es s) (he:e<es.length) (ht':tree es s e=true):low es s e=least (hf es s e) (((List.range es.length).filter fun k=>decide (fr es s k=bJ es s e)).map (low es s)):=by
 obtain⟨eP,UB⟩:=jA hv h he ht'
 have hk1:∀k,fr es s k=bJ es s e→hf es s k=hf es s e+1:=fun k hk=>by
  rw[←UB]
  unfold hf ht
  rw[hk]
 have hwn:=(bK hv h he).2
 have hLM:∀k,k<es.length→fr es s k=bJ es s e→low es s e≤low es s k∨hf es s e≤low es s k:=fun k hk hfk=>by
  by_cases hlo:hf es s e≤low es s k
  ·exact .inr hlo
  ·left
   have hlt:low es s k<hf es s k:=by rw[hk1 k hfk];omega
   rcases eG (hf es s k) (hs es s k) with h1|h1
   ·have h2:low es s k=hf es s k:=h1
    omega
   ·obtain⟨b,hb,hb2⟩:=List.mem_map.1 h1
    have hb3:ht es s b=low es s k:=hb2
    obtain⟨b1,b2,_⟩:=qz hv h hk hb
    have hbr:b∈sH es s e:=by
     rw[cO ht']
     refine⟨b1,b2,by omega,?_⟩
     cases jZ:tree es s k with
     |true=>
      have h5:=((cO jZ).1 hb).2.2.2
      obtain⟨acL,_⟩:=jA hv h hk jZ
      have h6:bP es s (bJ es s e) (bJ es s k):=by
       obtain⟨⟨W,B⟩,hs'⟩:=h.side
       obtain⟨Y,hw,_,_⟩:=jz (es:=es) h.once hs' (bK hv h hk).2
       rw[←hfk]
       exact pZ hw List.mem_cons_self acL (by omega)
      exact tV h6 h5
     |false=>
      rw[iZ jZ,List.mem_singleton] at hb
      rw[hb,hfk]
      exact rZ h hwn
    have h7:=(least_le (hf es s e) (hs es s e)).2 _ (List.mem_map.2 ⟨b,hbr,rfl⟩)
    have h8:low es s e≤ht es s b:=h7
    omega
 apply Int.le_antisymm
 ·rcases eG (hf es s e) (((List.range es.length).filter fun k=>decide (fr es s k=bJ es s e)).map (low es s)) with h1|h1
  ·rw[h1]
   exact(least_le (hf es s e) (hs es s e)).1
  ·obtain⟨k,hk,hk2⟩:=List.mem_map.1 h1
   rw[←hk2]
   obtain⟨hk3,hk4⟩:=List.mem_filter.1 hk
   rcases hLM k (List.mem_range.1 hk3) (by simpa using hk4) with h2|h2
   ·exact h2
   ·exact Int.le_trans (least_le (hf es s e) (hs es s e)).1 h2
 ·have hM:=least_le (hf es s e) (((List.range es.length).filter fun k=>decide (fr es s k=bJ es s e)).map (low es s))
  rcases eG (hf es s e) (hs es s e) with h1|h1
  ·show _≤least _ _
   rw[h1]
   exact hM.1
  ·obtain⟨b,hb,hb2⟩:=List.mem_map.1 h1
   have hb3:low es s e=ht es s b:=hb2.symm
   rw[hb3]
   obtain⟨b1,b2,b3,b4⟩:=(cO ht').1 hb
   by_cases hfb:fr es s b=bJ es s e
   ·rw[←rT hv h b1 b2]
    exact hM.2 _ (List.mem_map.2 ⟨b,List.mem_filter.2 ⟨List.mem_range.2 b1,by simpa using hfb⟩,rfl⟩)
   ·obtain⟨k,hk,jZ,hfk,ZN⟩:=wY h (bK hv h b1).1 b4 (fun e=>hfb e.symm)
    have hbk:b∈sH es s k:=by
     rw[cO jZ]
     exact⟨b1,b2,by rw[hk1 k hfk];omega,ZN⟩
    have h2:=(least_le (hf es s k) (hs es s k)).2 _ (List.mem_map.2 ⟨b,hbk,rfl⟩)
    have h3:=hM.2 (low es s k) (List.mem_map.2 ⟨k,List.mem_filter.2 ⟨List.mem_range.2 hk,by simpa using hfk⟩,rfl⟩)
    exact Int.le_trans h3 h2
end
end Lo
end
section
open Go.RowKit Lt
abbrev dG (i:Iv):Value:= .agg #[.int .i64 i.1,.int .i64 i.2]
abbrev fL (p:Pr):Value:= .agg #[.int .i64 p.1.1,.int .i64 p.1.2,.int .i64 p.2.1,.int .i64 p.2.2]
theorem aew (a b c d:Int) (w:World):(Op.equalIn 10000 166 (.agg #[.int .i64 a,.int .i64 b]) (.agg #[.int .i64 c,.int .i64 d])).run Tryz.prog w= .ok (a==c&&b==d) w:=by
 have u3:=Tryz.underlying3
 have a3:=Tryz.isAgg3
 have z3:=Tryz.sizeOf3
 have hS:Tryz.prog.underlying 166=some (.struct (Tryz.prog.fieldsOf 166)):=by kernel_rfl
 rw[show(10000:Nat)=9999+1 from rfl,run_equalIn_agg w 9999 166 _ _ hS (by kernel_rfl)]
 simp only[Program.fieldsOf,Tryz.underlying166]
 go_simp
 by_cases h1:a=c<;>by_cases h2:b=d<;>simp[h1,h2]
set_option maxRecDepth 100000 in
theorem RT (a b c d a' b' c' d':Int) (w:World):(Op.equalIn 10000 168 (.agg #[.int .i64 a,.int .i64 b,.int .i64 c,.int .i64 d]) (.agg #[.int .i64 a',.int .i64 b',.int .i64 c',.int .i64 d'])).run Tryz.prog w= .ok ((a==a'&&b==b')&&(c==c'&&d==d')) w:=by
 have u3:=Tryz.underlying3
 have a3:=Tryz.isAgg3
 have z3:=Tryz.sizeOf3
 have a4:=Tryz.isAgg166
 have z4:=Tryz.sizeOf166
 have hS:Tryz.prog.underlying 168=some (.struct (Tryz.prog.fieldsOf 168)):=by kernel_rfl
 rw[show(10000:Nat)=9999+1 from rfl,run_equalIn_agg w 9999 168 _ _ hS (by kernel_rfl)]
 simp only[Program.fieldsOf,Tryz.underlying168]
 go_simp
 by_cases h1:a=a'<;>by_cases h2:b=b'<;>by_cases h3:c=c'<;>by_cases h4:d=d'<;>simp[h1,h2,h3,h4]
set_option maxRecDepth 100000 in
set_option maxHeartbeats 4000000 in
theorem mg (w:World):Calls Tryz.prog 135 #[] w fun e w'=>e= .returned (dG aP)∧Below w.heap.size w w':=by
 go_enter Tryz.func135,Tryz.ntmps135
 go_wp2
 have r:=az (heap_alloc_new w (Obj.cells #[Value.int IntKind.i64 (-1),Value.int IntKind.i64 (-1)] 166))
 obtain⟨r0,r1,-⟩:=r
 refine bodyPost_ret (v:=dG aP) (by simp[results,Tryz.results135,go_sem,r0,r1]) rfl ?_
 exact⟨rfl,(Below.refl _ _).alloc (Nat.le_refl _) _⟩
theorem iE {w:World} {b:Nat} {t:TypeId} {x y z u:Value} (h:w.heap[b]? =some (.cells #[x,y,z,u] t (0,0))) (x' y' z' u':Value):((((w.setCell ⟨b,0,none⟩ x').setCell ⟨b,1,none⟩ y').setCell ⟨b,2,none⟩ z').setCell ⟨b,3,none⟩ u').heap[b]? =some (.cells #[x',y',z',u'] t (0,0)):=by
 have h1:=heap_setCell_same w b 0 _ _ x' h
 have h2:=heap_setCell_same _ b 1 _ _ y' h1
 have h3:=heap_setCell_same _ b 2 _ _ z' h2
 have h4:=heap_setCell_same _ b 3 _ _ u' h3
 simpa using h4
set_option maxRecDepth 100000 in
set_option maxHeartbeats 4000000 in
theorem oy (w:World):Calls Tryz.prog 131 #[] w fun e w'=>e= .returned (fL dI)∧Below w.heap.size w w':=by
 obtain⟨W,hW⟩:∃W,W=w.alloc (.cells #[.int .i64 0,.int .i64 0,.int .i64 0,.int .i64 0] 168):=⟨_,rfl⟩
 have hbl:W.heap[w.heap.size]? =some (.cells #[.int .i64 0,.int .i64 0,.int .i64 0,.int .i64 0] 168 (0,0)):=by rw[hW];exact heap_alloc_new w _
 have hb:Below w.heap.size w W:=by rw[hW];exact(Below.refl _ _).alloc (Nat.le_refl _) _
 have l9:=Nu.hid hbl
 have HB:=Nu.hid hb
 have hacc:=Below.refl W.heap.size W
 have hlt:=lt_of_block hbl
 have HW:=Nu.hid hW
 clear hW hbl hb
 go_enter Tryz.func131,Tryz.ntmps131
 go_wp2_with fail
 rw[←HW.out]
 go_wp2_with (go_at_call 135;refine(mg _).mono ?_;rintro e w1 ⟨rfl,hb1⟩;have hacc:=hacc.trans (hb1.mono hacc.size);obtain⟨q0,q1,q2,q3,qf⟩:=au ((hacc.block _ hlt).trans l9.out);clear hb1)
 obtain⟨r0,r1,r2,r3,-⟩:=au (iE ((hacc.block _ hlt).trans l9.out) (.int .i64 (-1)) (.int .i64 (-1)) (.int .i64 (-1)) (.int .i64 (-1)))
 refine bodyPost_ret (v:=fL dI) (by simp[results,Tryz.results131,go_sem,r0,r1,r2,r3]) rfl ?_
 exact⟨rfl,eA (HB.out.trans (hacc.mono HB.out.size)) (Nat.le_refl _) _ _ _ _⟩
set_option maxRecDepth 100000 in
set_option maxHeartbeats 4000000 in
theorem xA (p:Pr) (w:World):Calls Tryz.prog 168 #[fL p] w fun e w'=>e= .returned (fL (turned p))∧Below w.heap.size w w':=by
 obtain⟨⟨a,b⟩,c,d⟩:=p
 go_enter Tryz.func168,Tryz.ntmps168
 go_wp2
 have hb1:Below w.heap.size w (w.alloc (Obj.cells #[Value.int IntKind.i64 a,Value.int IntKind.i64 b,Value.int IntKind.i64 c,Value.int IntKind.i64 d] 168)):=(Below.refl _ _).alloc (Nat.le_refl _) _
 obtain⟨r0,r1,r2,r3,-⟩:=au (heap_alloc_new (w.alloc (Obj.cells #[Value.int IntKind.i64 a,Value.int IntKind.i64 b,Value.int IntKind.i64 c,Value.int IntKind.i64 d] 168)) (Obj.cells #[Value.int IntKind.i64 c,Value.int IntKind.i64 d,Value.int IntKind.i64 a,Value.int IntKind.i64 b] 168))
 rw[World.size_alloc] at r0 r1 r2 r3
 refine bodyPost_ret (v:=fL (turned ((a,b),c,d))) (by simp[results,Tryz.results168,go_sem,r0,r1,r2,r3,turned]) rfl ?_
 exact⟨rfl,hb1.alloc (by simp) _⟩
set_option maxRecDepth 100000 in
set_option maxHeartbeats 4000000 in
theorem fW (i:Iv) (w:World):Calls Tryz.prog 149 #[dG i] w fun e w'=>e= .returned (.bool (decide (i=aP)))∧Below w.heap.size w w':=by
 obtain⟨a,b⟩:=i
 have eqI:=aew
 obtain⟨W,hW⟩:∃W,W=w.alloc (.cells #[.int .i64 a,.int .i64 b] 166):=⟨_,rfl⟩
 have hbl:W.heap[w.heap.size]? =some (.cells #[.int .i64 a,.int .i64 b] 166 (0,0)):=by rw[hW];exact heap_alloc_new w _
 have hb:Below w.heap.size w W:=by rw[hW];exact(Below.refl _ _).alloc (Nat.le_refl _) _
 have hlt:=lt_of_block hbl
 have y0:∀D:LW W,D.val.cell? ⟨w.heap.size,0,none⟩=some (.int .i64 a):=fun D=>(az ((D.h.block _ hlt).trans hbl)).1
 have y1:∀D:LW W,D.val.cell? ⟨w.heap.size,1,none⟩=some (.int .i64 b):=fun D=>(az ((D.h.block _ hlt).trans hbl)).2.1
 have bI:Hid (∀D:LW W,Below w.heap.size w D.val):=fun D=>hb.trans (D.h.mono hb.size)
 have HW:=Nu.hid hW
 have hne:=LW.any W
 clear hW hbl hb hlt
 go_enter Tryz.func149,Tryz.ntmps149
 go_wp2_with fail
 rw[←HW.out]
 refine aC (by kernel_rfl) (by kernel_rfl) ?_
 repeat (go_big_quiet_step ((first|(go_at_call 135;exact Calls.lw (mg _)))))
 refine wpQuiet_nil ?_
 rintro _ ⟨D,rfl⟩
 clear y0 y1
 go_wp2
 go_ret
 refine⟨?_,bI.out D⟩
 by_cases h1:a= -1<;>by_cases h2:b= -1<;>simp[aP,h1,h2]
end
section
open Go.RowKit
structure Wp where
 n:Nat
 es:List (Int×Int)
 s:Df.St
 ao:Option Addr
 ca:Nat
 f:For
 lv:Value
 l2:Value
 l3:Value
 vo:Value
 vs:List Value
structure bV (c:Wp) (p:Nat) (W:World):Prop where
 blk:W.heap[p]? =some (.cells #[.int .i64 (c.n:Int),.slice c.ao c.es.length c.ca,.slice c.f.a1 c.n c.f.c1,.slice c.f.a2 c.n c.f.c2,.slice c.f.a3 c.n c.f.c3,.slice c.f.a4 c.es.length c.f.c4,c.lv,c.l2,c.l3,c.vo] 120 (0,0))
 edg:aL W c.ao c.es
 ct:dF W c.f c.s
 val:Si.Val c.n c.es
 vf:Df.VF c.n c.es c.s
 low:aS W 0 c.lv (upTo (Lo.low c.es c.s) c.es.length)
 out:bW W 0 c.vo c.vs (Lo.bR c.n c.es c.s c.es.length)
section
variable {c:Wp} {p:Nat} {W V:World}
theorem bV.lt (h:bV c p W):p<W.heap.size:=lt_of_block h.blk
theorem bV.later (h:bV c p W) (hb:Below W.heap.size W V):bV c p V:=⟨(hb.block p h.lt).trans h.blk,h.edg.later hb,h.ct.later hb,h.val,h.vf,h.low.later hb,h.out.later hb⟩
theorem bV.c0 (h:bV c p W):W.cell? ⟨p,0,none⟩=some (.int .i64 (c.n:Int)):=by simp[World.cell?,h.blk]
theorem bV.c1 (h:bV c p W):W.cell? ⟨p,1,none⟩=some (.slice c.ao c.es.length c.ca):=by simp[World.cell?,h.blk]
theorem bV.c2 (h:bV c p W):W.cell? ⟨p,2,none⟩=some (.slice c.f.a1 c.n c.f.c1):=by simp[World.cell?,h.blk]
theorem bV.c3 (h:bV c p W):W.cell? ⟨p,3,none⟩=some (.slice c.f.a2 c.n c.f.c2):=by simp[World.cell?,h.blk]
theorem bV.c4 (h:bV c p W):W.cell? ⟨p,4,none⟩=some (.slice c.f.a3 c.n c.f.c3):=by simp[World.cell?,h.blk]
theorem bV.c5 (h:bV c p W):W.cell? ⟨p,5,none⟩=some (.slice c.f.a4 c.es.length c.f.c4):=by simp[World.cell?,h.blk]
theorem bV.c6 (h:bV c p W):W.cell? ⟨p,6,none⟩=some c.lv:=by simp[World.cell?,h.blk]
theorem bV.c9 (h:bV c p W):W.cell? ⟨p,9,none⟩=some c.vo:=by simp[World.cell?,h.blk]
theorem bV.par (h:bV c p W) {v:Nat} (hv:v<c.n):∃b o,c.f.a1=some ⟨b,o,none⟩∧∀V,Below W.heap.size W V→∀i,i<c.n→V.cell? ⟨b,o+i,none⟩=some (.int .i64 (Df.at_ c.s.par i)):=by
 have l:=h.vf.lens
 obtain⟨b,o,e,-⟩:=bZ h.ct.l1 (i:=v) (by rw[l.1];exact hv)
 refine⟨b,o,e,fun W hW i hi=> ?_⟩
 obtain⟨b',o',e',d'⟩:=bZ (h.ct.later hW).l1 (i:=i) (by rw[l.1];exact hi)
 rw[e] at e'
 cases e'
 exact d'
theorem bV.ay (h:bV c p W) {v:Nat} (hv:v<c.n):∃b o,c.f.a2=some ⟨b,o,none⟩∧∀V,Below W.heap.size W V→∀i,i<c.n→V.cell? ⟨b,o+i,none⟩=some (.int .i64 (Df.at_ c.s.ay i)):=by
 have l:=h.vf.lens
 obtain⟨b,o,e,-⟩:=bZ h.ct.l2 (i:=v) (by rw[l.2.1];exact hv)
 refine⟨b,o,e,fun W hW i hi=> ?_⟩
 obtain⟨b',o',e',d'⟩:=bZ (h.ct.later hW).l2 (i:=i) (by rw[l.2.1];exact hi)
 rw[e] at e'
 cases e'
 exact d'
theorem bV.ord (h:bV c p W) {v:Nat} (hv:v<c.n):∃b o,c.f.a3=some ⟨b,o,none⟩∧∀V,Below W.heap.size W V→∀i,i<c.n→V.cell? ⟨b,o+i,none⟩=some (.int .i64 (Df.at_ c.s.ord i)):=by
 have l:=h.vf.lens
 obtain⟨b,o,e,-⟩:=bZ h.ct.l3 (i:=v) (by rw[l.2.2.1];exact hv)
 refine⟨b,o,e,fun W hW i hi=> ?_⟩
 obtain⟨b',o',e',d'⟩:=bZ (h.ct.later hW).l3 (i:=i) (by rw[l.2.2.1];exact hi)
 rw[e] at e'
 cases e'
 exact d'
theorem bV.aJ (h:bV c p W) {v:Nat} (hv:v<c.es.length):∃b o,c.f.a4=some ⟨b,o,none⟩∧∀V,Below W.heap.size W V→∀i,i<c.es.length→V.cell? ⟨b,o+i,none⟩=some (.int .i64 (Df.at_ c.s.aJ i)):=by
 have l:=h.vf.lens
 obtain⟨b,o,e,-⟩:=bZ h.ct.l4 (i:=v) (by rw[l.2.2.2];exact hv)
 refine⟨b,o,e,fun W hW i hi=> ?_⟩
 obtain⟨b',o',e',d'⟩:=bZ (h.ct.later hW).l4 (i:=i) (by rw[l.2.2.2];exact hi)
 rw[e] at e'
 cases e'
 exact d'
theorem bV.Ds (h:bV c p W) {v:Nat} (hv:v<c.es.length):∃b cap,c.lv= .slice (some ⟨b,0,none⟩) c.es.length cap∧∀V,Below W.heap.size W V→∀i,i<c.es.length→V.cell? ⟨b,i,none⟩=some (.int .i64 (Lo.low c.es c.s i)):=by
 have hl:=h.low
 unfold aS at hl
 rw[fG] at hl
 rcases hl.2 with ⟨_,h0⟩|⟨g,cap,cur,e,_⟩
 ·omega
 ·refine⟨g,cap,e,fun V hV i hi=> ?_⟩
  have hl2:=h.low.later hV
  unfold aS at hl2
  rw[fG,e] at hl2
  have:=World.ownsRow.cells hl2 (g:=g) rfl i (.int .i64 (Lo.low c.es c.s i)) (by rw[List.getElem?_map,gR hi];rfl)
  have ea:((⟨g,0,none⟩:Addr).add i)=⟨g,i,none⟩:=by
   by_cases h0:i=0<;>simp[Addr.add,h0]
  rw[ea] at this
  exact this
set_option maxRecDepth 100000 in
set_option maxHeartbeats 4000000 in
theorem ur (h:bV c p W) {u:Nat} (hu:u<2*c.es.length):Calls Tryz.prog 100 #[.pointer (some ⟨p,0,none⟩),.int .i64 (u:Int)] W fun e w'=>e= .returned (.int .i64 (Cs.to c.es u:Int))∧w'=W:=by
 have c1:=h.c1
 have cq:=h.val.few
 obtain⟨k,hk⟩:∃k,u/2=k:=⟨_,rfl⟩
 have cT:k<c.es.length:=by omega
 obtain⟨q,hq⟩:∃q,c.es[k]? =some q:=⟨_,List.getElem?_eq_getElem cT⟩
 obtain⟨b,o,eb,d0,d1⟩:=h.edg k q hq
 have hok:=h.val.each k q hq
 unfold Si.ok at hok
 rw[eb] at c1
 have k1:((u:Int)).tdiv 2=(k:Int):=by rw[Int.tdiv_eq_ediv_of_nonneg (by omega)];omega
 have k2:(u:Int)/2=(k:Int):=by omega
 have v0:(0:Int)≤(k:Int):=by omega
 have v2:(k:Int)≤4194304:=by omega
 have v1:(k:Int)<(c.es.length:Int):=by omega
 rcases Nat.mod_two_eq_zero_or_one u with hm|hm
 ·have hto:(Cs.to c.es u:Int)=q.2:=by
   have:=(Cs.iR hq).2
   rw[show 2*k=u by omega] at this
   rw[this]
   omega
  have k3:((u:Int)).tmod 2=0:=by rw[Int.tmod_eq_emod_of_nonneg (by omega)];omega
  have k4:(u:Int)%2=0:=by omega
  rw[hto]
  clear h hq eb hok hm hto cq
  go_enter Tryz.func100,Tryz.ntmps100
  go_wp2
  go_ret
  exact⟨rfl,rfl⟩
 ·have hto:(Cs.to c.es u:Int)=q.1:=by
   have:=(Cs.nw hq).2
   rw[show 2*k+1=u by omega] at this
   rw[this]
   omega
  have k3:((u:Int)).tmod 2=1:=by rw[Int.tmod_eq_emod_of_nonneg (by omega)];omega
  have k4:(u:Int)%2=1:=by omega
  rw[hto]
  clear h hq eb hok hm hto cq
  go_enter Tryz.func100,Tryz.ntmps100
  go_wp2
  go_ret
  exact⟨rfl,rfl⟩
set_option maxRecDepth 100000 in
set_option maxHeartbeats 4000000 in
theorem lO (h:bV c p W) {u:Nat} (hu:u<2*c.es.length):Calls Tryz.prog 105 #[.pointer (some ⟨p,0,none⟩),.int .i64 (u:Int)] W fun e w'=>e= .returned (.int .i64 (Cs.fr c.es u:Int))∧w'=W:=by
 have cq:=h.val.few
 have hxt:=Cs.vR u (by omega)
 have hto:=ur h (Cs.uA hu)
 have e1:Cs.to c.es (Cs.twin u)=Cs.fr c.es u:=by
  have h1:=Cs.Be c.es (Cs.twin u)
  have h2:Cs.twin (Cs.twin u)=u:=by
   unfold Cs.twin
   split<;>split<;>omega
  rw[h2] at h1
  exact h1.symm
 rw[e1] at hto
 have jx:=Nu.hid hto
 clear h hto e1 cq
 go_enter Tryz.func105,Tryz.ntmps105
 go_wp2_with (go_at_call 100;refine jx.out.mono ?_;rintro e w1 ⟨rfl,rfl⟩)
 go_ret
 exact⟨rfl,rfl⟩
theorem eC {u k:Nat} (hk:u/2=k):((u:Int)).tdiv 2=(k:Int)∧(u:Int)/2=(k:Int):=by
 rw[Int.tdiv_eq_ediv_of_nonneg (by omega)]
 omega
set_option maxRecDepth 100000 in
set_option maxHeartbeats 4000000 in
theorem oV (h:bV c p W) {u:Nat} (hu:u<2*c.es.length):Calls Tryz.prog 67 #[.pointer (some ⟨p,0,none⟩),.int .i64 (u:Int)] W fun e w'=>e= .returned (.bool (decide (Df.at_ c.s.par (Cs.to c.es u)≠(u:Int))))∧Below W.heap.size W w':=by
 have hl:=Cs.bH h.val hu
 obtain⟨b,o,ef,hc⟩:=h.par hl.2
 have c2:∀D:LW W,D.val.cell? ⟨p,2,none⟩=some (.slice (some ⟨b,o,none⟩) c.n c.f.c1):=fun D=>by have:=(h.later D.h).c2;rwa[ef] at this
 obtain⟨t,ht⟩:∃t,Cs.to c.es u=t:=⟨_,rfl⟩
 rw[ht] at hl ⊢
 obtain⟨x,hx⟩:∃x,Df.at_ c.s.par t=x:=⟨_,rfl⟩
 rw[hx]
 have d2:∀D:LW W,D.val.cell? ⟨b,o+t,none⟩=some (.int .i64 x):=fun D=>by rw[←hx];exact hc D.val D.h _ hl.2
 have jx:Hid (∀D:LW W,Calls Tryz.prog 100 #[.pointer (some ⟨p,0,none⟩),.int .i64 (u:Int)] D.val fun e w'=>e= .returned (.int .i64 (t:Int))∧Below D.val.heap.size D.val w'):=fun D=>(ur (h.later D.h) hu).mono fun e w' ⟨he,hw⟩=>⟨by rw[he,ht],by rw[hw];exact Below.refl _ _⟩
 have t0:(0:Int)≤(t:Int):=by omega
 have t1:(t:Int)<(c.n:Int):=by omega
 have hne:=LW.any W
 have bI:Hid (∀D:LW W,Below W.heap.size W D.val):=fun D=>D.h
 clear h hc ef ht hx
 go_enter Tryz.func67,Tryz.ntmps67
 go_wp2_with fail
 refine aC (by kernel_rfl) (by kernel_rfl) ?_
 repeat (go_big_quiet_step ((first|(go_at_call 100;exact Calls.lw (jx.out _)))))
 refine wpQuiet_nil ?_
 rintro _ ⟨D,rfl⟩
 clear c2 d2
 go_wp2
 go_ret
 refine⟨?_,bI.out D⟩
 by_cases hxu:x=(u:Int)<;>simp[hxu]
set_option maxRecDepth 100000 in
set_option maxHeartbeats 4000000 in
theorem uu (h:bV c p W) {u:Nat} (hu:u<2*c.es.length):Calls Tryz.prog 102 #[.pointer (some ⟨p,0,none⟩),.int .i64 (u:Int)] W fun e w'=>e= .returned (.int .i64 (Df.at_ c.s.ay (Cs.fr c.es u)))∧Below W.heap.size W w':=by
 have hl:=Cs.bH h.val hu
 obtain⟨b,o,ef,hc⟩:=h.ay hl.1
 have c2:∀D:LW W,D.val.cell? ⟨p,3,none⟩=some (.slice (some ⟨b,o,none⟩) c.n c.f.c2):=fun D=>by have:=(h.later D.h).c3;rwa[ef] at this
 obtain⟨t,ht⟩:∃t,Cs.fr c.es u=t:=⟨_,rfl⟩
 rw[ht] at hl ⊢
 obtain⟨x,hx⟩:∃x,Df.at_ c.s.ay t=x:=⟨_,rfl⟩
 rw[hx]
 have d2:∀D:LW W,D.val.cell? ⟨b,o+t,none⟩=some (.int .i64 x):=fun D=>by rw[←hx];exact hc D.val D.h _ hl.1
 have jx:Hid (∀D:LW W,Calls Tryz.prog 105 #[.pointer (some ⟨p,0,none⟩),.int .i64 (u:Int)] D.val fun e w'=>e= .returned (.int .i64 (t:Int))∧Below D.val.heap.size D.val w'):=fun D=>(lO (h.later D.h) hu).mono fun e w' ⟨he,hw⟩=>⟨by rw[he,ht],by rw[hw];exact Below.refl _ _⟩
 have t0:(0:Int)≤(t:Int):=by omega
 have t1:(t:Int)<(c.n:Int):=by omega
 have hne:=LW.any W
 have bI:Hid (∀D:LW W,Below W.heap.size W D.val):=fun D=>D.h
 clear h hc ef ht hx
 go_enter Tryz.func102,Tryz.ntmps102
 go_wp2_with fail
 refine aC (by kernel_rfl) (by kernel_rfl) ?_
 repeat (go_big_quiet_step ((first|(go_at_call 105;exact Calls.lw (jx.out _)))))
 refine wpQuiet_nil ?_
 rintro _ ⟨D,rfl⟩
 clear c2 d2
 go_wp2
 go_ret
 exact⟨rfl,bI.out D⟩
set_option maxRecDepth 100000 in
set_option maxHeartbeats 4000000 in
theorem sD (h:bV c p W) {u:Nat} (hu:u<2*c.es.length):Calls Tryz.prog 70 #[.pointer (some ⟨p,0,none⟩),.int .i64 (u:Int)] W fun e w'=>e= .returned (.bool (decide (Lo.low c.es c.s (u/2)<Df.at_ c.s.ay (Cs.fr c.es u))))∧Below W.heap.size W w':=by
 have cq:=h.val.few
 obtain⟨k,hk⟩:∃k,u/2=k:=⟨_,rfl⟩
 have cT:k<c.es.length:=by omega
 obtain⟨b,cap,ef,hc⟩:=h.Ds cT
 have c2:∀D:LW W,D.val.cell? ⟨p,6,none⟩=some (.slice (some ⟨b,0,none⟩) c.es.length cap):=fun D=>by have:=(h.later D.h).c6;rwa[ef] at this
 rw[hk]
 obtain⟨x,hx⟩:∃x,Lo.low c.es c.s k=x:=⟨_,rfl⟩
 obtain⟨y,hy⟩:∃y,Df.at_ c.s.ay (Cs.fr c.es u)=y:=⟨_,rfl⟩
 rw[hx,hy]
 have d2:∀D:LW W,D.val.cell? ⟨b,k,none⟩=some (.int .i64 x):=fun D=>by rw[←hx];exact hc D.val D.h _ cT
 have jx:Hid (∀D:LW W,Calls Tryz.prog 102 #[.pointer (some ⟨p,0,none⟩),.int .i64 (u:Int)] D.val fun e w'=>e= .returned (.int .i64 y)∧Below D.val.heap.size D.val w'):=fun D=>(uu (h.later D.h) hu).mono fun e w' ⟨he,hw⟩=>⟨by rw[he,hy],hw⟩
 obtain⟨k1,k2⟩:=eC hk
 have v0:(0:Int)≤(k:Int):=by omega
 have v1:(k:Int)<(c.es.length:Int):=by omega
 have v2:(k:Int)≤4194304:=by omega
 have hne:=LW.any W
 have bI:Hid (∀D:LW W,Below W.heap.size W D.val):=fun D=>D.h
 clear h hc ef hx hy cq
 go_enter Tryz.func70,Tryz.ntmps70
 go_wp2_with fail
 refine aC (by kernel_rfl) (by kernel_rfl) ?_
 repeat (go_big_quiet_step ((first|(go_at_call 102;exact Calls.lw (jx.out _)))))
 refine wpQuiet_nil ?_
 rintro _ ⟨D,rfl⟩
 clear c2 d2
 go_wp2
 go_ret
 exact⟨rfl,bI.out D⟩
end
end
end Go.Proofs.YtnhcggfbkoppnaaGreat
