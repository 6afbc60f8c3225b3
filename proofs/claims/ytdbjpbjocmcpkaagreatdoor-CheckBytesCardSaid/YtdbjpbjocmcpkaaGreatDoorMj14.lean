import Derived.Test.YtdbjpbjocmcpkaaGreatDoorMj13
import Derived.Test.YtdbjpbjocmcpkaaGreatDoorMj08
import Derived.Deep.Upon
namespace Go.Proofs.YtdbjpbjocmcpkaaGreatDoor
section
namespace Ku
variable {S:Gs}
theorem Jr (f:Nat->Nat):∀{n:Nat},0<n->∃k,k<n/\∀i,i<n->f k<=f i
 |0,h=>by omega
 |1,_=>⟨0,by omega,fun i hi=>by obtain rfl:i=0:=by omega
                                exact aaF _⟩
 |n+2,_=>by
  obtain⟨k,hk,h⟩:=Jr f (n:=n+1) (by omega);by_cases hc:f k<=f (n+1)
  .refine⟨k,by omega,fun i hi=> ?_⟩
   by_cases e:i=n+1
   .rw[e];exact hc
   .exact h i (by omega)
  .refine⟨n+1,by omega,fun i hi=> ?_⟩
   by_cases e:i=n+1
   .rw[e];exact aaF _
   .have:=h i (by omega)
    omega
theorem S1 {h0:Nat} (hh:h0<S.M):∃l,Cn S l/\(h0∈l\/S.tw h0∈l):=by
 obtain⟨_,_,lt,hd,_⟩:=bQ (S:=S.toSys) hh;have Mf:h0∈all S.toSys h0:=ac7 hd;rcases jk (S:=S.toSys) hh with ⟨c,hc0⟩|⟨_,_,he⟩
 .obtain⟨k,hk,hmin⟩:=Jr (fun i=>at_ (vs S (all S.toSys h0)) i) (dF c.ne)
  obtain⟨l,cl,IY,ml,sub,_⟩:=c.turn lt hk hmin;obtain⟨l',cn,_,hin⟩:=cl.written IY ml;exact⟨l',cn,hin h0 (sub h0 Mf)⟩
 .obtain⟨l,o,h1,IY,_⟩:=wI hh he
  obtain⟨l',cn,_,hin⟩:=o.written IY;exact⟨l',cn,hin h0 h1⟩
section
variable {es:List (Int×Int)} {n:Int} {hv:Si.Val n es}
def By (l:List Nat) (e:Nat):Prop:=∃x∈l,x/2=e
theorem jf (h:Nat):Cs.twin h/2=h/2:=by unfold Cs.twin;split<;>omega
theorem zY {e:Nat} (he:e<es.length):Cn (gs es hv) (ch es hv e)/\By (ch es hv e) e:=by
 obtain⟨l,c,h⟩:=S1 (S:=gs es hv) (h0:=2*e) (show 2*e<2*es.length by omega);obtain⟨x,hx,gR⟩:∃x,x∈l/\x/2=e:=by
  rcases h with h|h
  .exact⟨_,h,by omega⟩
  .exact⟨_,h,by show Cs.twin (2*e)/2=e;rw[jf];omega⟩
 rw[sX c hx gR];exact⟨c,x,hx,gR⟩
theorem Et {e e':Nat} (he:e<es.length) (h:By (ch es hv e) e'):ch es hv e'=ch es hv e:=by
 obtain⟨x,hx,gR⟩:=h;exact sX (zY he).1 hx gR
def First (es:List (Int×Int)) {n:Int} (hv:Si.Val n es) (e:Nat):Prop:=∀e',By (ch es hv e) e'->e<=e'
theorem zW {e:Nat} (he:e<es.length):∃e0,e0<=e/\First es hv e0/\By (ch es hv e0) e:=by
 induction e using Nat.strongRecOn with
 |_ e ih=>
  by_cases h:First es hv e
  .exact⟨e,aaF _,h,(zY he).2⟩
  .obtain⟨e',h1,h2⟩:∃e',By (ch es hv e) e'/\e'<e:=by
    refine aa2 fun hc=>h fun e' he'=> ?_
    refine aa2 fun hlt=>hc ⟨e',he',by omega⟩
   obtain⟨e0,k1,k2,k3⟩:=ih e' h2 (by omega);refine⟨e0,by omega,k2,?_⟩;have a1:=Et he h1;have a2:=Et (by omega) k3;rw[<-a2,a1];exact(zY he).2
open Classical in
noncomputable def kN (es:List (Int×Int)) {n:Int} (hv:Si.Val n es):Nat->List (List Nat)
 |0=>[]
 |k+1=>if First es hv k then kN es hv k++[ch es hv k] else kN es hv k
theorem pK:∀{k:Nat} {l:List Nat},l∈kN es hv k↔∃e,e<k/\First es hv e/\l=ch es hv e
 |0,l=>by simp[kN]
 |k+1,l=>by
  unfold kN
  split
  .rename_i hf
   rw[abo,pK,abe];constructor
   .rintro(⟨e,h1,h2,h3⟩|h)
    .exact⟨e,by omega,h2,h3⟩
    .exact⟨k,by omega,hf,h⟩
   .rintro⟨e,h1,h2,h3⟩
    by_cases hk:e=k
    .subst hk;exact .inr h3
    .exact .inl ⟨e,by omega,h2,h3⟩
  .rename_i hf
   rw[pK];constructor
   .rintro⟨e,h1,h2,h3⟩
    exact⟨e,by omega,h2,h3⟩
   .rintro⟨e,h1,h2,h3⟩
    by_cases hk:e=k
    .subst hk;exact absurd h2 hf
    .exact⟨e,by omega,h2,h3⟩
theorem Gu {k:Nat} (hk:k<es.length):(∃l∈kN es hv k,By l k)↔¬First es hv k:=by
 constructor
 .rintro⟨l,hl,hb⟩ hf
  obtain⟨e,h1,h2,rfl⟩:=pK.1 hl;have a1:=Et (by omega) hb;have:=hf e (by rw[a1];exact(zY (by omega)).2);omega
 .intro hf
  obtain⟨e0,h1,h2,h3⟩:=zW (hv:=hv) hk;have hne:e0≠k:=fun e=>hf (e▸h2)
  exact⟨_,pK.2 ⟨e0,by omega,h2,rfl⟩,h3⟩
theorem sW (k:Nat):(kN es hv k).length<=k:=by
 induction k with
 |zero=>simp[kN]
 |succ k ih=>
  unfold kN
  split
  .simp;omega
  .omega
end
end Ku
end
section
open Go.RowKit
structure LW (w:World) where
 val:World
 h:Below w.heap.size w val
theorem LW.any (w:World):Nonempty (LW w):=⟨⟨w,aaG _ _⟩⟩
theorem aH {P:Program} {id:Nat} {Q:Exit->Act->World->Prop} {a:Act} {w:World} {l:List Oper} (hm:P.follows .mixedOrders=true) (hB:Region.lexB .any l.toArray=true)
 (h:wpQuiet P l.toArray (fun w'=>∃D:LW w,w'=D.val) (fun a'=>∀w',(∃D:LW w,w'=D.val)->Q .normal a' w') l a):(Code.region id l.toArray true).wp P Q a w:=
 wp_region_quiet (C:=fun w'=>∃D:LW w,w'=D.val) hm hB ⟨⟨w.drew,(aaG _ _).drew⟩,rfl⟩ (by simpa using h)
theorem Calls.lw {P:Program} {f:FuncId} {args:Array Value} {w:World} {D:LW w} {v:Value}
 (h:Calls P f args D.val fun e w'=>e= .returned v/\Below D.val.heap.size D.val w'):Calls P f args D.val fun e w''=>e= .returned v/\∃D':LW w,w''=D'.val:=
 h.mono fun _ w' ⟨he,hb⟩=>⟨he,⟨w',D.h.trans (hb.mono D.h.size)⟩,rfl⟩
end
section
open Go.RowKit Go.Sort
def Ku.QZ (es:List (Int×Int)) (v e r:Int):Prop:=(r= -1/\∀(i:Nat) (p:Int×Int),es[i]? =some p->(i:Int)≠e->p.1≠v/\p.2≠v)\/∃(i:Nat) (p:Int×Int),r=(i:Int)/\es[i]? =some p/\(i:Int)≠e/\(p.1=v\/p.2=v)
theorem Ku.Rz {l:List Int} {k:Nat} {x:Int} (h:l[k]? =some x):(l.drop (k+1)).reverse++[x]=(l.drop k).reverse:=by
 obtain⟨hk,e⟩:=aaH.1 h;rw[acO hk,List.reverse_cons,e]
end
section
open Go.RowKit Go.Sort
namespace Ku
def gI (l:List Int) (i:Nat):Int:=l.getD i 0
theorem bR {l:List Int} {i:Nat} {x:Int} (h:l[i]? =some x):gI l i=x:=by unfold gI;rw[aaL,h];rfl
def bU (l:List Int):List Int:=if gI l (l.length-1)<gI l 0\/(gI l 0=gI l (l.length-1)/\gI l (l.length-2)<gI l 1) then l.reverse else l
def ZL (c:List Nat):List Int:=c.map fun x:Nat=>(x:Int)
theorem bS (c:List Nat):(ZL c).length=c.length:=by simp[ZL]
theorem EF (c:List Nat) (i:Nat):(ZL c)[i]? =(c[i]?).map fun x:Nat=>(x:Int):=by simp[ZL]
theorem Ec (c:List Nat) (i:Nat):gI (ZL c) i=(at_ c i:Int):=by
 unfold gI at_;rw[aaL,aaL,EF];cases c[i]? <;>rfl
theorem rR (c:List Nat):bU (ZL c)=ZL (written c):=by
 unfold bU written;simp only[Ec,bS];by_cases h:at_ c (c.length-1)<at_ c 0\/(at_ c 0=at_ c (c.length-1)/\at_ c (c.length-2)<at_ c 1)
 .rw[if_pos h,if_pos (by omega)]
  simp[ZL,List.map_reverse]
 .rw[if_neg h,if_neg (by omega)]
end Ku
def Ku.JB (l:List Int) (a b:Int):Prop:=∃(j:Nat) (x y:Int),l[j]? =some x/\l[j+1]? =some y/\((x=a/\y=b)\/(x=b/\y=a))
def Ku.Tf (l:List Int) (a b:Int) (w:World) (e:Ending) (w':World):Prop:=∃r:Bool,e= .returned (.bool r)/\(r=true↔Ku.JB l a b)/\Below w.heap.size w w'
end
section
namespace Ku
section
variable {S:Sys} {h0 j x k:Nat}
theorem EC (hh:h0<S.M):0<(all S h0).length:=by
 obtain⟨_,_,_,hd,_⟩:=bQ hh;cases hA:all S h0 with
 |nil=>rw[hA] at hd;cases hd
 |cons=>simp
theorem all_zero (hh:h0<S.M):(all S h0)[0]? =some h0:=by
 obtain⟨_,_,_,hd,_⟩:=bQ hh;rw[<-List.head?_eq_getElem?];exact hd
theorem all_none (hh:h0<S.M) (hx:(all S h0)[j]? =some x) (e:S.nx x=none):j+1=(all S h0).length:=by
 obtain⟨t,_⟩:=bQ hh;have hj:=(aaH.1 hx).1;refine aa2 fun hc=> ?_
 obtain⟨y,hy⟩:∃y,(all S h0)[j+1]? =some y:=⟨_,aaE (by omega)⟩;have:=t j x y hx hy;rw[e] at this;cases this
theorem zZ (hh:h0<S.M) (hx:(all S h0)[j]? =some x) (e:S.nx x=some h0):j+1=(all S h0).length:=by
 obtain⟨t,nd,_⟩:=bQ hh;have hj:=(aaH.1 hx).1;refine aa2 fun hc=> ?_
 obtain⟨y,hy⟩:∃y,(all S h0)[j+1]? =some y:=⟨_,aaE (by omega)⟩;have h1:=t j x y hx hy;rw[e] at h1;cases h1;have h2:=all_zero hh;obtain⟨a1,a2⟩:=aaH.1 hy;obtain⟨b1,b2⟩:=aaH.1 h2;have:=(aew nd).1 (a2.trans b2.symm);omega
theorem Cm (hh:h0<S.M) (hx:(all S h0)[j]? =some x) (e:S.nx x=some k) (hk:k≠h0):(all S h0)[j+1]? =some k:=by
 obtain⟨t,_,_,_,z,hz,he⟩:=bQ hh;have hj:=(aaH.1 hx).1;by_cases hl:j+1<(all S h0).length
 .obtain⟨y,hy⟩:∃y,(all S h0)[j+1]? =some y:=⟨_,aaE hl⟩
  have:=t j x y hx hy;rw[e] at this;rw[hy,<-aa9 this]
 .exfalso
  have:(all S h0)[(all S h0).length-1]? =some z:=by rw[<-aef];exact hz
  rw[show(all S h0).length-1=j by omega,hx] at this;cases this;rw[e] at he;rcases he with he|he
  .cases he
  .exact hk (aa9 he)
theorem Te (hh:h0<S.M) (hx:(all S h0)[j]? =some x) (e:S.nx x=some k):k≠S.tw h0:=by
 intro hk;subst hk;obtain⟨t,_⟩:=bQ hh;have h1:=S.rev x _ e;rw[S.tt] at h1;have Fw:=aaJ hx;by_cases hc:S.tw x=h0
 ·
  have:=t.sr Fw (aaJ (all_zero hh));exact this (by rw[hc])
 .have h2:=Cm hh (all_zero hh) h1 hc
  exact t.sr Fw (aaJ h2) rfl
end
section
variable {S:Gs}
theorem TL {l:List Nat} (hn:l≠[]) (k:Nat):vs S (l++[k])=vs S l++[S.to k]:=by
 cases l with
 |nil=>exact absurd rfl hn
 |cons h l=>simp[vs]
theorem vP {l:List Nat} {j k:Nat} (h:l[j]? =some k):l.take (j+1)=l.take j++[k]:=by
 rw[acj,h];rfl
end
section
variable {es:List (Int×Int)} {n:Int}
open Cs
theorem L8 {h:Nat} (hh:h<2*es.length):∃p,es[h/2]? =some p:=⟨_,aaE (by omega)⟩
theorem DY (hv:Si.Val n es) {h:Nat} {p:Int×Int} (hp:es[h/2]? =some p):(p.1=(fr es h:Int)/\p.2=(to es h:Int))\/(p.1=(to es h:Int)/\p.2=(fr es h:Int)):=by
 have hok:=hv.each _ p hp;unfold Si.ok at hok;rcases abJ h with e|e
 .have:=dQ hp
  rw[show 2*(h/2)=h by omega] at this;left;omega
 .have:=iJ hp
  rw[show 2*(h/2)+1=h by omega] at this;right;omega
theorem Oa (hv:Si.Val n es) {h:Nat} (hh:h<2*es.length) {p:Int×Int} (hp:es[h/2]? =some p):(if p.1=(fr es h:Int) then p.2 else p.1)=(to es h:Int):=by
 have hne:=KQ hv hh;rcases DY hv hp with ⟨h1,h2⟩|⟨h1,h2⟩
 .rw[if_pos h1,h2]
 .rw[if_neg (by omega),h1]
theorem Ug (hv:Si.Val n es) {h k i:Nat} {p:Int×Int} (hk:gN es h=some k) (hp:es[i]? =some p) (hi:i≠h/2) (hin:p.1=(to es h:Int)\/p.2=(to es h:Int)):i=k/2:=by
 obtain⟨e,_⟩:=iI hk;have hil:=(aaH.1 hp).1;have hok:=hv.each _ p hp;unfold Si.ok at hok;obtain⟨x,hx,hxf,fE⟩:∃x,x<2*es.length/\fr es x=to es h/\x/2=i:=by
  rcases hin with hin|hin
  .refine⟨2*i,by omega,?_,by omega⟩
   have:=(dQ hp).1;omega
  .refine⟨2*i+1,by omega,?_,by omega⟩
   have:=(iJ hp).1;omega
 have hm:x∈out es (to es h) (2*es.length):=iQ.2 ⟨hx,hxf⟩;have ht:=jf h;rcases e with e|e<;>rw[e] at hm<;>simp only[aa4,abN,or_false] at hm
 .rcases hm with rfl|rfl
  .omega
  .omega
 .rcases hm with rfl|rfl
  .omega
  .omega
theorem C9 (hv:Si.Val n es) {h k:Nat} (hk:gN es h=some k):∃p,es[k/2]? =some p/\(p.1=(to es h:Int)\/p.2=(to es h:Int))/\k/2≠h/2/\k<2*es.length/\fr es k=to es h:=by
 obtain⟨e,hne⟩:=iI hk;have hm:k∈out es (to es h) (2*es.length):=by rcases e with e|e<;>rw[e]<;>simp
 obtain⟨h1,h2⟩:=iQ.1 hm;obtain⟨p,hp⟩:=L8 h1;refine⟨p,hp,?_,fun hc=> ?_,h1,h2⟩
 .rcases DY hv hp with ⟨a,b⟩|⟨a,b⟩
  .left;rw[a,h2]
  .right;rw[b,h2]
 ·
  have:k=h\/k=twin h:=by
   unfold twin
   split<;>omega
  rcases this with rfl|h3
  .have hh:k<2*es.length:=h1
   exact KQ hv hh h2
  .exact hne h3
end
end Ku
end
section
open Go.RowKit Go.Sort
def Ku.vQ (v:Value):Nat:=match v with| .slice _ n _=>n|_=>0
theorem Ku.Ju {n:Nat} {es:List (Int×Int)} (hv:Si.Val (n:Int) es) {v:Nat} (h:v<n):(Si.aS (n:Int) es)[v]? =some (Ku.dg es v:Int):=by
 have:=Cs.pX hv es.length (aaF _) v h;rw[abQ] at this;exact this
end
section
open Go.RowKit Go.Sort
namespace Ku
def j7 (l:List Int) (L k i:Nat):List Int:=(List.range i).map fun t=>gI l ((k+t)%L)
theorem J9 (l:List Int) (L k i:Nat):j7 l L k (i+1)=j7 l L k i++[gI l ((k+i)%L)]:=by
 unfold j7;rw[acL,abt];rfl
theorem oJ (l:List Int) (L k i:Nat):(j7 l L k i).length=i:=by simp[j7]
end Ku
def Ku.Xu (l:List Int) (L:Nat) (w:World) (e:Ending) (w':World):Prop:=
 ∃(k:Nat) (v:Value),k<L/\(∀i,i<L->Ku.gI l k<=Ku.gI l i)/\e= .returned v/\ak w' w.heap.size v (Ku.bU (Ku.j7 l L k L++[Ku.gI l k]))/\Below w.heap.size w w'
end
section
open Go.RowKit Go.Sort
namespace Ku
section
variable {es:List (Int×Int)} {n:Int} {hv:Si.Val n es}
theorem TR (c:List Nat) (L k:Nat) (i:Nat):j7 (ZL c) L k i=ZL ((List.range i).map fun t=>at_ c ((k+t)%L)):=by
 unfold j7 ZL;rw[ac6];exact abS fun t _=>Ec c _
theorem Ta {e:Nat} (he:e<es.length) (c:eD (gs es hv).toSys (all (gs es hv).toSys (2*e))) {k:Nat} (hk:k<(all (gs es hv).toSys (2*e)).length)
 (hmin:∀i,i<(all (gs es hv).toSys (2*e)).length->gI (ZL (vs (gs es hv) (all (gs es hv).toSys (2*e)))) k<=gI (ZL (vs (gs es hv) (all (gs es hv).toSys (2*e)))) i):
 bU (j7 (ZL (vs (gs es hv) (all (gs es hv).toSys (2*e)))) (all (gs es hv).toSys (2*e)).length k (all (gs es hv).toSys (2*e)).length++[gI (ZL (vs (gs es hv) (all (gs es hv).toSys (2*e)))) k])=ZL (vs (gs es hv) (ch es hv e)):=by
 have hh:2*e<(gs es hv).toSys.M:=show 2*e<2*es.length by omega
 obtain⟨_,_,lt,hd,_⟩:=bQ hh;have Mf:=ac7 hd;obtain⟨l,cl,IY,ml,sub,hvs⟩:=c.turn lt hk (fun i hi=>by
  have:=hmin i hi;rw[Ec,Ec] at this;omega)
 obtain⟨l',cn,hw,hin⟩:=cl.written IY ml;have hc:ch es hv e=l':=by
  rcases hin _ (sub _ Mf) with h|h
  .exact sX cn h (by omega)
  .exact sX cn h (by show Cs.twin (2*e)/2=e;rw[jf];omega)
 rw[hc,hw,<-rR,hvs,TR,Ec]
 congr 1
 simp[ZL]
theorem VZ {e:Nat} (he:e<es.length) (hend:∀a,(all (gs es hv).toSys (2*e))[(all (gs es hv).toSys (2*e)).length-1]? =some a->gN es a=none):
 bU ((ZL (vs (gs es hv) (all (gs es hv).toSys (2*e+1)))).reverse++(ZL (vs (gs es hv) (all (gs es hv).toSys (2*e)))).drop 2)=ZL (vs (gs es hv) (ch es hv e)):=by
 have hh:2*e<(gs es hv).M:=show 2*e<2*es.length by omega
 obtain⟨l,o,h1,IY,hvs,_⟩:=wI (S:=gs es hv) hh hend;have ht:(gs es hv).tw (2*e)=2*e+1:=by show Cs.twin (2*e)=_;unfold Cs.twin;rw[if_pos (by omega)]
 rw[ht] at hvs;obtain⟨l',cn,hw,hin⟩:=o.written IY;have hc:ch es hv e=l':=by
  rcases hin _ h1 with h|h
  .exact sX cn h (by omega)
  .exact sX cn h (by show Cs.twin (2*e)/2=e;rw[jf];omega)
 rw[hc,hw,<-rR,hvs]
 congr 1
 unfold ZL;rw[abt,List.map_reverse,List.map_drop]
theorem Ut {T:List Nat} {x:Nat} (hx:T[T.length-1]? =some x):(ZL (vs (gs es hv) T))[T.length]? =some (Cs.to es x:Int):=by
 have hp:=(aaH.1 hx).1;rw[EF,show T.length=(T.length-1)+1 by omega,iO,hx];show some (((gs es hv).to x:Nat):Int)=_;rw[Jp]
end
end Ku
end
section
open Go.RowKit Go.Sort
theorem aZ {w w':World} {b:Nat} {o:Obj} (h:w.heap[b]? =some o) (hb:Below w.heap.size w w'):w'.heap[b]? =some o:=(hb.block b (abX.1 h).1).trans h
namespace Ku
section
variable {es:List (Int×Int)} {n:Int} {hv:Si.Val n es}
noncomputable def rows (es:List (Int×Int)) {n:Int} (hv:Si.Val n es) (k:Nat):List (List Int):=(kN es hv k).map fun l=>ZL (vs (gs es hv) l)
theorem Gx {k:Nat} (h:First es hv k):rows es hv (k+1)=rows es hv k++[ZL (vs (gs es hv) (ch es hv k))]:=by
 unfold rows;simp only[kN];rw[if_pos h,abt];rfl
theorem Km {k:Nat} (h:¬First es hv k):rows es hv (k+1)=rows es hv k:=by
 unfold rows;simp only[kN];rw[if_neg h]
theorem l9 (k:Nat):(rows es hv k).length=(kN es hv k).length:=by simp[rows]
theorem rZ {k t:Nat} {l:List Int} (h:(rows es hv k)[t]? =some l):∃c,(kN es hv k)[t]? =some c/\l=ZL (vs (gs es hv) c):=by
 unfold rows at h;rw[abj] at h;obtain⟨c,hc,rfl⟩:=abI.1 h;exact⟨c,hc,rfl⟩
theorem yE {k:Nat} (hk:k<=es.length) {c:List Nat} (h:c∈kN es hv k):Cn (gs es hv) c:=by
 obtain⟨e,h1,_,rfl⟩:=pK.1 h;exact(zY (by omega)).1
theorem Jv {c:List Nat} (h:Cn (gs es hv) c):c.length<=2*es.length:=by
 rcases h.kind with o|o
 ·
  have hnd:c.Nodup:=o.tr.nodup fun i hi e=>by
   have hp:=dF o.ne;obtain⟨a,ha⟩:∃a,c[0]? =some a:=⟨_,aaE hp⟩;rw[ha] at e;obtain⟨b,hb⟩:∃b,c[i-1]? =some b:=⟨_,aaE (by have:=(aaH.1 e).1;omega)⟩;have h1:=o.tr (i-1) b a hb (by rw[show i-1+1=i by omega];exact e);have h2:=(gs es hv).rev b a h1;rw[o.fst a ha] at h2;cases h2
  exact fU hnd h.lt
 .exact fU o.1.nd h.lt
theorem TT {c:List Nat} (h:Cn (gs es hv) c) {i:Nat} {p:Int×Int} (hp:es[i]? =some p):JB (ZL (vs (gs es hv) c)) p.1 p.2↔By c i:=by
 have hi:=(aaH.1 hp).1;have hok:=hv.each _ p hp;unfold Si.ok at hok;have f1:=Cs.dQ hp;have f2:=Cs.iJ hp;have hstep:∀j,j<c.length->∃x,c[j]? =some x/\(ZL (vs (gs es hv) c))[j]? =some (Cs.fr es x:Int)/\(ZL (vs (gs es hv) c))[j+1]? =some (Cs.to es x:Int):=fun j hj=>by
  obtain⟨x,hx⟩:∃x,c[j]? =some x:=⟨_,aaE hj⟩;refine⟨x,hx,?_,?_⟩
  .rw[EF,vL h.tr hj,hx]
   rfl
  .rw[EF,iO,hx]
   show some (((gs es hv).to x:Nat):Int)=_;rw[Jp]
 constructor
 .rintro⟨j,u,v,hu,hw,hh⟩
  have hj:j<c.length:=by
   have:=(aaH.1 hw).1;rw[bS,bE h.ne] at this;omega
  obtain⟨x,hx,e1,e2⟩:=hstep j hj;rw[e1] at hu;rw[e2] at hw;have hu:=aa9 hu;have hw:=aa9 hw;have hxl:x<2*es.length:=h.lt x (aaJ hx);have key:∀y,y<2*es.length->Cs.fr es x=Cs.fr es y->Cs.to es x=Cs.to es y->x=y:=fun y hy a b=>(gs es hv).simple x y hxl hy a (by show Cs.fr es (Cs.twin x)=Cs.fr es (Cs.twin y);rw[Cs.gW,Cs.gW];exact b)
  rcases hh with ⟨ha,hb⟩|⟨ha,hb⟩
  .refine⟨x,aaJ hx,?_⟩
   rw[key (2*i) (by omega) (by omega) (by omega)];omega
  .refine⟨x,aaJ hx,?_⟩
   rw[key (2*i+1) (by omega) (by omega) (by omega)];omega
 .rintro⟨x,hx,fE⟩
  obtain⟨j,hj,ej⟩:=abf.1 hx;obtain⟨y,hy,e1,e2⟩:=hstep j hj;rw[aaE hj,ej] at hy;cases hy;refine⟨j,_,_,e1,e2,?_⟩;rcases abJ x with e|e
  .rw[show x=2*i by omega]
   omega
  .rw[show x=2*i+1 by omega]
   omega
end
def Xv (n:Int) (es:List (Int×Int)) (w:World) (e:Ending) (w':World):Prop:=
 ((Si.valid n es=false/\e= .returned (.tuple #[.slice none 0 0,.int .i64 1]))\/∃(hv:Si.Val n es) (v:Value) (us:List Value),e= .returned (.tuple #[v,.int .i64 0])/\ay w' w.heap.size v us (rows es hv es.length))/\Below w.heap.size w w'
theorem sB {w:World} {B:Nat} {v:Value} {vs:List Value} {ls:List (List Int)} (h:ay w B v vs ls) {k:Nat} {x:Value} (hx:vs[k]? =some x):∃g c,v= .slice (some ⟨g,0,none⟩) ls.length c/\w.cell? ⟨g,k,none⟩=some x:=by
 have hk:=(aaH.1 hx).1;have hl:=h.len;rcases h.outer.2 with ⟨_,h0⟩|⟨g,c,cur,e,_⟩
 .omega
 .refine⟨g,c,e,?_⟩
  have:=ab5 h.outer (g:=g) (by rw[e];rfl) k x hx;have ea:((⟨g,0,none⟩:Addr).add k)=⟨g,k,none⟩:=by
   by_cases h0:k=0<;>simp[Addr.add,h0]
  rw[ea] at this;exact this
end Ku
end
section
open Go.RowKit Go.Sort
namespace Ku
def cQ (l:List Int) (d:Int):Nat->List Int
 |0=>[]
 |k+1=>if gI l k=d then cQ l d k++[(k:Int)] else cQ l d k
theorem oh (l:List Int) (d:Int):∀k,(cQ l d k).length<=k
 |0=>aaF _
 |k+1=>by
  have:=oh l d k;unfold cQ
  split
  .rw[aaZ];simp;omega
  .omega
def hit (l:List Int) (x y:Int):Option (List Int):=if gI l 0=x/\gI l (l.length-1)=y then some l else if gI l 0=y/\gI l (l.length-1)=x then some l.reverse else none
def cI (ls:List (List Int)) (x y:Int):Nat->List Int×Nat
 |0=>([],0)
 |k+1=>match hit (ls.getD k []) x y with
  |some r=>(r,(cI ls x y k).2+1)
  |none=>cI ls x y k
theorem MT (ls:List (List Int)) (x y:Int):∀k,(cI ls x y k).2<=k
 |0=>aaF _
 |k+1=>by
  have:=MT ls x y k;unfold cI
  split
  .simp;omega
  .omega
theorem wJ {ls:List (List Int)} {x y:Int} {k:Nat} {l r:List Int} (h:ls[k]? =some l) (hr:hit l x y=some r):cI ls x y (k+1)=(r,(cI ls x y k).2+1):=by
 have e:ls.getD k []=l:=by rw[aaL,h];rfl
 show(match hit (ls.getD k []) x y with|some r=>(r,(cI ls x y k).2+1)|none=>cI ls x y k)=_;rw[e,hr]
theorem wK {ls:List (List Int)} {x y:Int} {k:Nat} {l:List Int} (h:ls[k]? =some l) (hr:hit l x y=none):cI ls x y (k+1)=cI ls x y k:=by
 have e:ls.getD k []=l:=by rw[aaL,h];rfl
 show(match hit (ls.getD k []) x y with|some r=>(r,(cI ls x y k).2+1)|none=>cI ls x y k)=_;rw[e,hr]
def fW (w:World) (v:Value) (l:List Int):Prop:=∃a c,v= .slice a l.length c/\aV w a l
theorem fW.same {w w':World} {v:Value} {l:List Int} (h:fW w v l) (hb:∀b,v.ownBlock=some b->w'.heap[b]? =w.heap[b]?):fW w' v l:=by
 obtain⟨a,c,rfl,hi⟩:=h;refine⟨a,c,rfl,fun j x hj=> ?_⟩;obtain⟨b,o,rfl,hc⟩:=hi j x hj;exact⟨b,o,rfl,(abF (a:=⟨b,o+j,none⟩) (hb b rfl)).trans hc⟩
def From (us:List Value) (w:World) (v:Value):Prop:=∀b,v.ownBlock=some b->(∃u∈us,u.ownBlock=some b)\/w.heap.size<=b
theorem fW.later {w w':World} {v:Value} {l:List Int} (h:fW w v l) (hb:Below w.heap.size w w'):fW w' v l:=by
 obtain⟨a,c,e,hi⟩:=h;exact⟨a,c,e,hi.later hb⟩
end Ku
def Ku.Xw (us:List Value) (ls:List (List Int)) (x y:Int) (w:World) (e:Ending) (w':World):Prop:=
 ∃v,e= .returned (.tuple #[v,.bool ((((Ku.cI ls x y ls.length).2:Nat):Int)==1)])/\Ku.fW w' v (Ku.cI ls x y ls.length).1/\Ku.From us w v/\Below w.heap.size w w'
end
section
open Go.RowKit Go.Sort
theorem H8 {ops:Array Oper} {rest:List Oper} {o:Oper} {a:Act} {Q:Exit->Act->World->Prop} (hgd:o.guard=none) (s x:Operand)
 (ho:o.op= .call { callee:= .builtin .append,args:= #[s,x],argTypes:= #[55,55] }) (W:World) (B:Nat) (v u:Value) (l m:List Int) (hown:ak W B v l) (hu:ak W B u m)
 (hB:B<=W.heap.size) (hl:l.length+m.length<=17592186044000) (hs:a.eval s=v) (hx:a.eval x=u)
 (h:∀v' w',ak w' B v' (l++m)->Below B W w'->wpList Tryz.prog ops Q rest (a.put o.dst v') w'):
 wpList Tryz.prog ops Q (o::rest) a W:=by
 obtain⟨i0,hi,hz0,hz1,hz2⟩:=info_parts Tryz.cL;have Sv:∀b,v.ownBlock=some b->B<=b:=fun b hb=>(aaO hown b hb).1
 rcases hu.2 with ⟨rfl,hm0⟩|⟨g,cap,cur,rfl,hgB,hh,hc,hm,hsz,ht⟩
 .obtain rfl:=List.eq_nil_of_length_eq_zero hm0
  obtain⟨va,vc,rfl,-,-⟩:=hown.form;have hle:l.length<=vc:=by
   rcases hown.2 with ⟨e,h0⟩|⟨g,cap,cur,e,_,_,hc,_⟩
   .omega
   .cases e;exact hc
  refine wpList_plain hgd fun K hK=> ?_
  have hr:=run_append_nothing (P:=Tryz.prog) W 55 55 o.type 3 i0 Tryz.underlying55 hi va l.length vc hle _ (Src.ofNil (w:=W) (size:=i0.size) Tryz.underlying55 0);unfold Oper.wp execOp;simp only[ho,resolve,invoke,builtin,Sem.run_bind,Sem.run_pure,aea,aeD,acB,aen,hs,hx,hr];exact hK _ _ (h _ W (by rw[abP];exact hown) (aaG _ _))
 .refine wpList_append_own_at _ hgd s x 55 ho B 3 i0 (.int .i64 0) 1 8 Tryz.underlying55 hi hz0 hz1 hz2 rfl (by decide) _ _ _ hs hown ⟨g,0,none⟩ m.length cap (m.map (Value.int .i64)) hx (by simp) (fun j y hj=>ab5 hu (g:=g) rfl j y hj) (fun y hy=>by
   obtain⟨z,_,rfl⟩:=abO.1 hy;rfl) (by unfold maxLen;omega) (by omega) hB ?_
  intro v' w' hown' hg _ hat;refine h v' w' ?_ ((aaG B W).grown hg hB Sv);unfold ak;rw[aaZ,abt];exact hown'
namespace Ku
def z7 (l:List Int) (a b:Int):Prop:=(gI l 0=a/\gI l (l.length-1)=b)\/(gI l (l.length-1)=a/\gI l 0=b)
def kU (ls:List (List Int)) (h:List Int) (k:Nat):Prop:=(∃l∈ls,z7 l (gI h 0) (gI h k))/\0<k
open Classical in
noncomputable def fT (ls:List (List Int)) (h:List Int):Nat->List Int
 |0=>[]
 |k+1=>if kU ls h k then fT ls h k else fT ls h k++[gI h k]
open Classical in
noncomputable def jJ (ls:List (List Int)) (h:List Int):Nat->List Int
 |0=>[]
 |k+1=>if kU ls h k then jJ ls h k++[gI h k] else jJ ls h k
theorem vR (ls:List (List Int)) (h:List Int):∀k,(fT ls h k).length+(jJ ls h k).length=k
 |0=>rfl
 |k+1=>by
  have:=vR ls h k;unfold fT jJ
  split
  .rw[aaZ];simp;omega
  .rw[aaZ];simp;omega
theorem GN {ls:List (List Int)} {h:List Int} {k:Nat} (a:kU ls h k):fT ls h (k+1)=fT ls h k:=if_pos a
theorem KU {ls:List (List Int)} {h:List Int} {k:Nat} (a:¬kU ls h k):fT ls h (k+1)=fT ls h k++[gI h k]:=if_neg a
theorem Mu {ls:List (List Int)} {h:List Int} {k:Nat} (a:kU ls h k):jJ ls h (k+1)=jJ ls h k++[gI h k]:=if_pos a
theorem QI {ls:List (List Int)} {h:List Int} {k:Nat} (a:¬kU ls h k):jJ ls h (k+1)=jJ ls h k:=if_neg a
structure EG (w:World) (B:Nat) (v u:Value) (l m:List Int):Prop where
 one:ak w B v l
 two:ak w B u m
 apart:∀b,v.ownBlock=some b->u.ownBlock≠some b
theorem EG.swap {w:World} {B:Nat} {v u:Value} {l m:List Int} (h:EG w B v u l m):EG w B u v m l:=⟨h.two,h.one,fun b hb e=>h.apart b e hb⟩
theorem EG.push {w w':World} {ob:Obj} {B:Nat} {v v' u:Value} {l m:List Int} {z:Int} (h:EG w B v u l m) (ho:ak w' B v' (l++[z])) (hg:(w.alloc ob).grownBy w' v.ownBlock) (hat:v'.ownBlock=v.ownBlock\/v'.ownBlock=some (w.heap.size+1)):EG w' B v' u (l++[z]) m:=by
 refine⟨ho,h.two.same fun g hg' hlt=> ?_,fun b hb e=> ?_⟩
 .rw[hg.block g (by simp;omega) (fun e=>h.apart g e.symm hg')]
  exact heap_alloc_old w ob hlt
 .rcases hat with e1|e1
  .exact h.apart b (by rw[<-e1];exact hb) e
  .have:=(aaO h.two b e).2
   rw[hb] at e1;cases e1;omega
end Ku
end
section
open Go.RowKit Go.Sort
namespace Ku
def qV (w:World) (v:Value) (ls:List (List Int)):Prop:=∃ao c,v= .slice ao ls.length c/\∀(k:Nat) (l:List Int),ls[k]? =some l->∃b o x,ao=some ⟨b,o,none⟩/\w.cell? ⟨b,o+k,none⟩=some x/\fW w x l
theorem qV.later {w w':World} {v:Value} {ls:List (List Int)} (h:qV w v ls) (hb:Below w.heap.size w w'):qV w' v ls:=by
 obtain⟨ao,c,e,hr⟩:=h;refine⟨ao,c,e,fun k l hl=> ?_⟩;obtain⟨b,o,x,e1,hc,hs⟩:=hr k l hl;exact⟨b,o,x,e1,(hb.cell (p:=⟨b,o+k,none⟩) (block_lt_of_cell hc)).trans hc,hs.later hb⟩
theorem vS {w:World} {B:Nat} {v:Value} {vs:List Value} {ls:List (List Int)} (h:ay w B v vs ls):qV w v ls:=by
 obtain⟨ao,c,rfl⟩:=bG h;refine⟨ao,c,rfl,fun k l hl=> ?_⟩;obtain⟨x,hx⟩:=h.at' hl;obtain⟨g,c',e,hc⟩:=sB h hx;cases e;obtain⟨xa,xc,gR,fE,-⟩:=(h.row k x l hx hl).form;exact⟨g,0,x,rfl,by rw[abK];exact hc,xa,xc,gR,fE⟩
end Ku
theorem aQ {w:World} {b:Nat} {t:TypeId} {x y z:Value} (h:w.heap[b]? =some (.cells #[x,y,z] t (0,0))):w.cell? ⟨b,0,none⟩=some x/\w.cell? ⟨b,1,none⟩=some y/\w.cell? ⟨b,2,none⟩=some z/\∀i,w.frozen? ⟨b,i,none⟩=false:=by
 refine⟨by simp[World.cell?,h],by simp[World.cell?,h],by simp[World.cell?,h],fun i=> ?_⟩;simp[World.frozen?,h]
end
section
open Go.RowKit
abbrev sl (g n:Nat):Value:= .slice (some ⟨g,0,none⟩) n n
def bL (w:World) (p gd gs gh gp gt n M:Nat):Prop:=w.heap[p]? =some (.cells #[sl gd n,sl gs n,sl gh M,sl gp M,sl gt M] 276 (0,0))
section
variable {w w':World} {p gd gs gh gp gt n M:Nat}
theorem bL.lt (h:bL w p gd gs gh gp gt n M):p<w.heap.size:=lt_of_block h
theorem bL.later (h:bL w p gd gs gh gp gt n M) (hb:Below w.heap.size w w'):bL w' p gd gs gh gp gt n M:=(hb.block p h.lt).trans h
theorem bL.other (h:bL w p gd gs gh gp gt n M) {b i:Nat} (hb:p≠b) (x:Value):bL (w.setCell ⟨b,i,none⟩ x) p gd gs gh gp gt n M:=(heap_setCell_other w ⟨b,i,none⟩ p x hb).trans h
theorem bL.wrote {S:Nat->Prop} (h:bL w p gd gs gh gp gt n M) (hw:av S w w') (hp:¬S p):bL w' p gd gs gh gp gt n M:=(hw.block p h.lt hp).trans h
theorem bL.c0 (h:bL w p gd gs gh gp gt n M):w.cell? ⟨p,0,none⟩=some (.slice (some ⟨gd,0,none⟩) n n):=by unfold bL at h;simp[World.cell?,h]
theorem bL.c1 (h:bL w p gd gs gh gp gt n M):w.cell? ⟨p,1,none⟩=some (.slice (some ⟨gs,0,none⟩) n n):=by unfold bL at h;simp[World.cell?,h]
theorem bL.c2 (h:bL w p gd gs gh gp gt n M):w.cell? ⟨p,2,none⟩=some (.slice (some ⟨gh,0,none⟩) M M):=by unfold bL at h;simp[World.cell?,h]
theorem bL.c3 (h:bL w p gd gs gh gp gt n M):w.cell? ⟨p,3,none⟩=some (.slice (some ⟨gp,0,none⟩) M M):=by unfold bL at h;simp[World.cell?,h]
theorem bL.c4 (h:bL w p gd gs gh gp gt n M):w.cell? ⟨p,4,none⟩=some (.slice (some ⟨gt,0,none⟩) M M):=by unfold bL at h;simp[World.cell?,h]
end
end
end Go.Proofs.YtdbjpbjocmcpkaaGreatDoor
