import Derived.Test.YtdbjpbjocmcpkaaGreatDoorMk11
import Derived.Test.YtdbjpbjocmcpkaaGreatDoorMk10
import Derived.Test.YtdbjpbjocmcpkaaGreatDoorMk09
import Derived.Deep.Upon
import Derived.BigRegion
set_option maxHeartbeats 8000000
set_option maxRecDepth 100000
namespace Go.Proofs.YtdbjpbjocmcpkaaGreatDoor
section
namespace Ku
variable {S:Gs}
theorem Cj (f:Nat->Nat):∀{n:Nat},0<n->∃k,k<n/\∀i,i<n->f k<=f i
 |0,h=>by omega
 |1,_=>⟨0,by omega,fun i hi=>by obtain rfl:i=0:=by omega
                                exact aaD _⟩
 |n+2,_=>by
  obtain⟨k,hk,h⟩:=Cj f (n:=n+1) (by omega);by_cases hc:f k<=f (n+1)
  .refine⟨k,by omega,fun i hi=> ?_⟩
   by_cases e:i=n+1
   .rw[e];exact hc
   .exact h i (by omega)
  .refine⟨n+1,by omega,fun i hi=> ?_⟩
   by_cases e:i=n+1
   .rw[e];exact aaD _
   .have:=h i (by omega)
    omega
theorem KT {h0:Nat} (hh:h0<S.M):∃l,Cn S l/\(h0∈l\/S.tw h0∈l):=by
 obtain⟨_,_,lt,hd,_⟩:=bL (S:=S.toSys) hh;have EE:h0∈all S.toSys h0:=acG hd;rcases gm (S:=S.toSys) hh with ⟨c,hc0⟩|⟨_,_,he⟩
 .obtain⟨k,hk,hmin⟩:=Cj (fun i=>at_ (vs S (all S.toSys h0)) i) (cu c.ne)
  obtain⟨l,cl,Mc,ml,sub,_⟩:=c.turn lt hk hmin;obtain⟨l',cn,_,hin⟩:=cl.written Mc ml;exact⟨l',cn,hin h0 (sub h0 EE)⟩
 .obtain⟨l,o,h1,Mc,_⟩:=yF hh he
  obtain⟨l',cn,_,hin⟩:=o.written Mc;exact⟨l',cn,hin h0 h1⟩
section
variable {es:List (Int×Int)} {n:Int} {hv:Si.Val n es}
def By (l:List Nat) (e:Nat):Prop:=∃x∈l,x/2=e
theorem lz (h:Nat):Cs.twin h/2=h/2:=by unfold Cs.twin;split<;>omega
theorem tB {e:Nat} (he:e<es.length):Cn (gs es hv) (ch es hv e)/\By (ch es hv e) e:=by
 obtain⟨l,c,h⟩:=KT (S:=gs es hv) (h0:=2*e) (show 2*e<2*es.length by omega);obtain⟨x,hx,mH⟩:∃x,x∈l/\x/2=e:=by
  rcases h with h|h
  .exact⟨_,h,by omega⟩
  .exact⟨_,h,by show Cs.twin (2*e)/2=e;rw[lz];omega⟩
 rw[Cu c hx mH];exact⟨c,x,hx,mH⟩
theorem yC {e e':Nat} (he:e<es.length) (h:By (ch es hv e) e'):ch es hv e'=ch es hv e:=by
 obtain⟨x,hx,mH⟩:=h;exact Cu (tB he).1 hx mH
def First (es:List (Int×Int)) {n:Int} (hv:Si.Val n es) (e:Nat):Prop:=∀e',By (ch es hv e) e'->e<=e'
theorem s9 {e:Nat} (he:e<es.length):∃e0,e0<=e/\First es hv e0/\By (ch es hv e0) e:=by
 induction e using Nat.strongRecOn with
 |_ e ih=>
  by_cases h:First es hv e
  .exact⟨e,aaD _,h,(tB he).2⟩
  .obtain⟨e',h1,h2⟩:∃e',By (ch es hv e) e'/\e'<e:=by
    refine aa9 fun hc=>h fun e' he'=> ?_
    refine aa9 fun hlt=>hc ⟨e',he',by omega⟩
   obtain⟨e0,k1,k2,k3⟩:=ih e' h2 (by omega);refine⟨e0,by omega,k2,?_⟩;have a1:=yC he h1;have a2:=yC (by omega) k3;rw[<-a2,a1];exact(tB he).2
open Classical in
noncomputable def fO (es:List (Int×Int)) {n:Int} (hv:Si.Val n es):Nat->List (List Nat)
 |0=>[]
 |k+1=>if First es hv k then fO es hv k++[ch es hv k] else fO es hv k
theorem kU:∀{k:Nat} {l:List Nat},l∈fO es hv k↔∃e,e<k/\First es hv e/\l=ch es hv e
 |0,l=>by simp[fO]
 |k+1,l=>by
  unfold fO
  split
  .rename_i hf
   rw[abl,kU,aa6];constructor
   .rintro(⟨e,h1,h2,h3⟩|h)
    .exact⟨e,by omega,h2,h3⟩
    .exact⟨k,by omega,hf,h⟩
   .rintro⟨e,h1,h2,h3⟩
    by_cases hk:e=k
    .subst hk;exact .inr h3
    .exact .inl ⟨e,by omega,h2,h3⟩
  .rename_i hf
   rw[kU];constructor
   .rintro⟨e,h1,h2,h3⟩
    exact⟨e,by omega,h2,h3⟩
   .rintro⟨e,h1,h2,h3⟩
    by_cases hk:e=k
    .subst hk;exact absurd h2 hf
    .exact⟨e,by omega,h2,h3⟩
theorem JU {k:Nat} (hk:k<es.length):(∃l∈fO es hv k,By l k)↔¬First es hv k:=by
 constructor
 .rintro⟨l,hl,hb⟩ hf
  obtain⟨e,h1,h2,rfl⟩:=kU.1 hl;have a1:=yC (by omega) hb;have:=hf e (by rw[a1];exact(tB (by omega)).2);omega
 .intro hf
  obtain⟨e0,h1,h2,h3⟩:=s9 (hv:=hv) hk;have hne:e0≠k:=fun e=>hf (e▸h2)
  exact⟨_,kU.2 ⟨e0,by omega,h2,rfl⟩,h3⟩
theorem uK (k:Nat):(fO es hv k).length<=k:=by
 induction k with
 |zero=>simp[fO]
 |succ k ih=>
  unfold fO
  split
  .simp;omega
  .omega
end
end Ku
end
section
open Go.RowKit Go.Sort
namespace Ku
def gI (l:List Int) (i:Nat):Int:=l.getD i 0
theorem dL {l:List Int} {i:Nat} {x:Int} (h:l[i]? =some x):gI l i=x:=by unfold gI;rw[aaI,h];rfl
def dJ (l:List Int):List Int:=if gI l (l.length-1)<gI l 0\/(gI l 0=gI l (l.length-1)/\gI l (l.length-2)<gI l 1) then l.reverse else l
def ZL (c:List Nat):List Int:=c.map fun x:Nat=>(x:Int)
theorem fB (c:List Nat):(ZL c).length=c.length:=by simp[ZL]
theorem ND (c:List Nat) (i:Nat):(ZL c)[i]? =(c[i]?).map fun x:Nat=>(x:Int):=by simp[ZL]
theorem SG (c:List Nat) (i:Nat):gI (ZL c) i=(at_ c i:Int):=by
 unfold gI at_;rw[aaI,aaI,ND];cases c[i]? <;>rfl
theorem CV (c:List Nat):dJ (ZL c)=ZL (written c):=by
 unfold dJ written;simp only[SG,fB];by_cases h:at_ c (c.length-1)<at_ c 0\/(at_ c 0=at_ c (c.length-1)/\at_ c (c.length-2)<at_ c 1)
 .rw[if_pos h,if_pos (by omega)]
  simp[ZL,List.map_reverse]
 .rw[if_neg h,if_neg (by omega)]
end Ku
end
section
namespace Ku
section
variable {S:Sys} {h0 j x k:Nat}
theorem NA (hh:h0<S.M):0<(all S h0).length:=by
 obtain⟨_,_,_,hd,_⟩:=bL hh;cases hA:all S h0 with
 |nil=>rw[hA] at hd;cases hd
 |cons=>simp
theorem all_zero (hh:h0<S.M):(all S h0)[0]? =some h0:=by
 obtain⟨_,_,_,hd,_⟩:=bL hh;rw[<-List.head?_eq_getElem?];exact hd
theorem all_none (hh:h0<S.M) (hx:(all S h0)[j]? =some x) (e:S.nx x=none):j+1=(all S h0).length:=by
 obtain⟨t,_⟩:=bL hh;have hj:=(aaF.1 hx).1;refine aa9 fun hc=> ?_
 obtain⟨y,hy⟩:∃y,(all S h0)[j+1]? =some y:=⟨_,aaC (by omega)⟩;have:=t j x y hx hy;rw[e] at this;cases this
theorem A8 (hh:h0<S.M) (hx:(all S h0)[j]? =some x) (e:S.nx x=some h0):j+1=(all S h0).length:=by
 obtain⟨t,nd,_⟩:=bL hh;have hj:=(aaF.1 hx).1;refine aa9 fun hc=> ?_
 obtain⟨y,hy⟩:∃y,(all S h0)[j+1]? =some y:=⟨_,aaC (by omega)⟩;have h1:=t j x y hx hy;rw[e] at h1;cases h1;have h2:=all_zero hh;obtain⟨a1,a2⟩:=aaF.1 hy;obtain⟨b1,b2⟩:=aaF.1 h2;have:=(List.getElem_inj nd).1 (a2.trans b2.symm);omega
theorem Jv (hh:h0<S.M) (hx:(all S h0)[j]? =some x) (e:S.nx x=some k) (hk:k≠h0):(all S h0)[j+1]? =some k:=by
 obtain⟨t,_,_,_,z,hz,he⟩:=bL hh;have hj:=(aaF.1 hx).1;by_cases hl:j+1<(all S h0).length
 .obtain⟨y,hy⟩:∃y,(all S h0)[j+1]? =some y:=⟨_,aaC hl⟩
  have:=t j x y hx hy;rw[e] at this;rw[hy,<-aaQ this]
 .exfalso
  have:(all S h0)[(all S h0).length-1]? =some z:=by rw[<-ac0];exact hz
  rw[show(all S h0).length-1=j by omega,hx] at this;cases this;rw[e] at he;rcases he with he|he
  .cases he
  .exact hk (aaQ he)
end
section
variable {S:Gs}
theorem wm {l:List Nat} {j k:Nat} (h:l[j]? =some k):l.take (j+1)=l.take j++[k]:=by
 rw[abG,h];rfl
end
section
open Cs
end
end Ku
end
section
open Go.RowKit Go.Sort
namespace Ku
section
variable {es:List (Int×Int)} {n:Int} {hv:Si.Val n es}
noncomputable def rows (es:List (Int×Int)) {n:Int} (hv:Si.Val n es) (k:Nat):List (List Int):=(fO es hv k).map fun l=>ZL (vs (gs es hv) l)
theorem JX {k:Nat} (h:First es hv k):rows es hv (k+1)=rows es hv k++[ZL (vs (gs es hv) (ch es hv k))]:=by
 unfold rows;simp only[fO];rw[if_pos h,abh];rfl
theorem LK {k:Nat} (h:¬First es hv k):rows es hv (k+1)=rows es hv k:=by
 unfold rows;simp only[fO];rw[if_neg h]
theorem qM (k:Nat):(rows es hv k).length=(fO es hv k).length:=by simp[rows]
theorem LL {k t:Nat} {l:List Int} (h:(rows es hv k)[t]? =some l):∃c,(fO es hv k)[t]? =some c/\l=ZL (vs (gs es hv) c):=by
 unfold rows at h;rw[aaY] at h;obtain⟨c,hc,rfl⟩:=abg.1 h;exact⟨c,hc,rfl⟩
theorem PC {k:Nat} (hk:k<=es.length) {c:List Nat} (h:c∈fO es hv k):Cn (gs es hv) c:=by
 obtain⟨e,h1,_,rfl⟩:=kU.1 h;exact(tB (by omega)).1
end
theorem DX {w:World} {B:Nat} {v:Value} {vs:List Value} {ls:List (List Int)} (h:ay w B v vs ls) {k:Nat} {x:Value} (hx:vs[k]? =some x):∃g c,v= .slice (some ⟨g,0,none⟩) ls.length c/\w.cell? ⟨g,k,none⟩=some x:=by
 have hk:=(aaF.1 hx).1;have hl:=h.len;rcases h.outer.2 with ⟨_,h0⟩|⟨g,c,cur,e,_⟩
 .omega
 .refine⟨g,c,e,?_⟩
  have:=abP h.outer (g:=g) (by rw[e];rfl) k x hx;have ea:((⟨g,0,none⟩:Addr).add k)=⟨g,k,none⟩:=by
   by_cases h0:k=0<;>simp[Addr.add,h0]
  rw[ea] at this;exact this
end Ku
end
section
open Go.RowKit Go.Sort
namespace Ku
def Rl (l:List Int) (d:Int):Nat->List Int
 |0=>[]
 |k+1=>if gI l k=d then Rl l d k++[(k:Int)] else Rl l d k
def hit (l:List Int) (x y:Int):Option (List Int):=if gI l 0=x/\gI l (l.length-1)=y then some l else if gI l 0=y/\gI l (l.length-1)=x then some l.reverse else none
def Ny (ls:List (List Int)) (x y:Int):Nat->List Int×Nat
 |0=>([],0)
 |k+1=>match hit (ls.getD k []) x y with
  |some r=>(r,(Ny ls x y k).2+1)
  |none=>Ny ls x y k
def CA (w:World) (v:Value) (l:List Int):Prop:=∃a c,v= .slice a l.length c/\aZ w a l
theorem CA.later {w w':World} {v:Value} {l:List Int} (h:CA w v l) (hb:Below w.heap.size w w'):CA w' v l:=by
 obtain⟨a,c,e,hi⟩:=h;exact⟨a,c,e,hi.later hb⟩
end Ku
end
section
open Go.RowKit Go.Sort
namespace Ku
def nI (w:World) (v:Value) (ls:List (List Int)):Prop:=∃ao c,v= .slice ao ls.length c/\∀(k:Nat) (l:List Int),ls[k]? =some l->∃b o x,ao=some ⟨b,o,none⟩/\w.cell? ⟨b,o+k,none⟩=some x/\CA w x l
theorem nI.later {w w':World} {v:Value} {ls:List (List Int)} (h:nI w v ls) (hb:Below w.heap.size w w'):nI w' v ls:=by
 obtain⟨ao,c,e,hr⟩:=h;refine⟨ao,c,e,fun k l hl=> ?_⟩;obtain⟨b,o,x,e1,hc,hs⟩:=hr k l hl;exact⟨b,o,x,e1,(hb.cell (p:=⟨b,o+k,none⟩) (block_lt_of_cell hc)).trans hc,hs.later hb⟩
theorem pQ {w:World} {B:Nat} {v:Value} {vs:List Value} {ls:List (List Int)} (h:ay w B v vs ls):nI w v ls:=by
 obtain⟨ao,c,rfl⟩:=bJ h;refine⟨ao,c,rfl,fun k l hl=> ?_⟩;obtain⟨x,hx⟩:=h.at' hl;obtain⟨g,c',e,hc⟩:=DX h hx;cases e;obtain⟨xa,xc,mH,mX,-⟩:=(h.row k x l hx hl).form;exact⟨g,0,x,rfl,by rw[aa7];exact hc,xa,xc,mH,mX⟩
end Ku
theorem bw {w:World} {b:Nat} {t:TypeId} {x y z:Value} (h:w.heap[b]? =some (.cells #[x,y,z] t (0,0))):w.cell? ⟨b,0,none⟩=some x/\w.cell? ⟨b,1,none⟩=some y/\w.cell? ⟨b,2,none⟩=some z/\∀i,w.frozen? ⟨b,i,none⟩=false:=by
 refine⟨by simp[World.cell?,h],by simp[World.cell?,h],by simp[World.cell?,h],fun i=> ?_⟩;simp[World.frozen?,h]
end
section
open Go.RowKit Go.Sort
namespace Ku
def way (R:List (List Int)) (br:List Int) (p:Nat×Nat):List Int×Nat:=Ny R (gI br p.1) (gI br p.2) R.length
end Ku
namespace Ku
section
end
end Ku
theorem dn {fn:Func} {P:Program} {p q r:Tmp} (h:fn.results= #[.cell p 82,.tmp q,.tmp r]) (hP:P=Tryz.prog) (tmps:Array Value) (w:World) (b:Nat) (x y z u v:Value) (hp:tmps.getD p undef= .pointer (some ⟨b,0,none⟩)) (hq:tmps.getD q undef=u) (hr:tmps.getD r undef=v) (h0:w.cell? ⟨b,0,none⟩=some x) (h1:w.cell? ⟨b,1,none⟩=some y) (h2:w.cell? ⟨b,2,none⟩=some z):(results fn tmps).run P w= .ok (.tuple #[.agg #[x,y,z],u,v]) w:=by
 subst hP;have hp':tmps[p]?.getD undef= .pointer (some ⟨b,0,none⟩):=by simpa using hp
 have hq':tmps[q]?.getD undef=u:=by simpa using hq
 have hr':tmps[r]?.getD undef=v:=by simpa using hr
 simp[results,h,go_sem,hp',hq',hr',h0,h1,h2]
theorem aA {w:World} {b:Nat} {s t u:Value} (hs:w.cell? ⟨b,0,none⟩=some s) (ht:w.cell? ⟨b,1,none⟩=some t) (hu:w.cell? ⟨b,2,none⟩=some u) (x y z:Value):(((w.setCell ⟨b,0,none⟩ x).setCell ⟨b,1,none⟩ y).setCell ⟨b,2,none⟩ z).cell? ⟨b,0,none⟩=some x/\(((w.setCell ⟨b,0,none⟩ x).setCell ⟨b,1,none⟩ y).setCell ⟨b,2,none⟩ z).cell? ⟨b,1,none⟩=some y/\(((w.setCell ⟨b,0,none⟩ x).setCell ⟨b,1,none⟩ y).setCell ⟨b,2,none⟩ z).cell? ⟨b,2,none⟩=some z:=by
 refine⟨?_,?_,?_⟩<;>simp[go_sem,hs,ht,hu]
theorem cL {B:Nat} {w W:World} {b:Nat} (h:Below B w W) (hb:B<=b) (x y z:Value):Below B w (((W.setCell ⟨b,0,none⟩ x).setCell ⟨b,1,none⟩ y).setCell ⟨b,2,none⟩ z):=
 ((h.setCell (p:=⟨b,0,none⟩) hb _).setCell (p:=⟨b,1,none⟩) hb _).setCell (p:=⟨b,2,none⟩) hb _
end
section
open Go.RowKit
theorem qq:Tryz.prog.cellsOf 66=2:=by kernel_rfl
theorem l7:Tryz.prog.cellsOf 3=1:=by kernel_rfl
def dI (e:Int×Int):Prop:=(-9223372036854775808<=e.1/\e.1<=9223372036854775807)/\-9223372036854775808<=e.2/\e.2<=9223372036854775807
theorem Lv {x:Int} (h: -9223372036854775808<=x/\x<=9223372036854775807):(Lit.int .i64 x).wf=true:=WalkArith.wf_i64 (by omega)
end
section
open Go.RowKit
abbrev sl (g n:Nat):Value:= .slice (some ⟨g,0,none⟩) n n
def aV (w:World) (p gd gs gh gp gt n M:Nat):Prop:=w.heap[p]? =some (.cells #[sl gd n,sl gs n,sl gh M,sl gp M,sl gt M] 276 (0,0))
section
variable {w w':World} {p gd gs gh gp gt n M:Nat}
theorem aV.lt (h:aV w p gd gs gh gp gt n M):p<w.heap.size:=lt_of_block h
theorem aV.later (h:aV w p gd gs gh gp gt n M) (hb:Below w.heap.size w w'):aV w' p gd gs gh gp gt n M:=(hb.block p h.lt).trans h
theorem aV.other (h:aV w p gd gs gh gp gt n M) {b i:Nat} (hb:p≠b) (x:Value):aV (w.setCell ⟨b,i,none⟩ x) p gd gs gh gp gt n M:=(heap_setCell_other w ⟨b,i,none⟩ p x hb).trans h
theorem aV.wrote {S:Nat->Prop} (h:aV w p gd gs gh gp gt n M) (hw:aj S w w') (hp:¬S p):aV w' p gd gs gh gp gt n M:=(hw.block p h.lt hp).trans h
theorem aV.c0 (h:aV w p gd gs gh gp gt n M):w.cell? ⟨p,0,none⟩=some (.slice (some ⟨gd,0,none⟩) n n):=by unfold aV at h;simp[World.cell?,h]
theorem aV.c1 (h:aV w p gd gs gh gp gt n M):w.cell? ⟨p,1,none⟩=some (.slice (some ⟨gs,0,none⟩) n n):=by unfold aV at h;simp[World.cell?,h]
theorem aV.c2 (h:aV w p gd gs gh gp gt n M):w.cell? ⟨p,2,none⟩=some (.slice (some ⟨gh,0,none⟩) M M):=by unfold aV at h;simp[World.cell?,h]
theorem aV.c3 (h:aV w p gd gs gh gp gt n M):w.cell? ⟨p,3,none⟩=some (.slice (some ⟨gp,0,none⟩) M M):=by unfold aV at h;simp[World.cell?,h]
theorem aV.c4 (h:aV w p gd gs gh gp gt n M):w.cell? ⟨p,4,none⟩=some (.slice (some ⟨gt,0,none⟩) M M):=by unfold aV at h;simp[World.cell?,h]
end
end
section
open Go.Proofs.Tryz
open Go.RowKit
theorem KY (p gd gs gh gp gt gf cf n M:Nat) (H Pl T F:List Int) (h u v q:Nat) (w:World) (hA:aV w p gd gs gh gp gt n M) (iH:aB w gh H) (iP:aB w gp Pl) (iT:aB w gt T) (iF:aB w gf F)
 (lH:H.length=M) (lP:Pl.length=M) (lT:T.length=M) (lF:F.length=n) (hh:h<M) (hu:u<n) (hq:F[u]? =some (q:Int)) (hqM:q<M) (hM:M<=8388608)
 (d2:p≠gp) (d3:p≠gt) (d5:gh≠gp) (d6:gh≠gt) (d7:gp≠gt) (d8:gf≠gh) (d9:gf≠gp) (d10:gf≠gt):
 Calls prog 233 #[.pointer (some ⟨p,0,none⟩),.int .i64 h,.int .i64 u,.int .i64 v,.slice (some ⟨gf,0,none⟩) n cf] w fun e w'=>
  e= .returned (.tuple #[])/\aB w' gh (H.set q h)/\aB w' gp (Pl.set h q)/\aB w' gt (T.set h v)/\aB w' gf (F.set u ((q:Int)+1))/\aj (fun b=>b=gh\/b=gp\/b=gt\/b=gf) w w':=by
 obtain⟨w1,hw1⟩:∃w1,w1=w.setCell ⟨gt,h,none⟩ (.int .i64 v):=⟨_,rfl⟩;obtain⟨w2,hw2⟩:∃w2,w2=w1.setCell ⟨gp,h,none⟩ (.int .i64 q):=⟨_,rfl⟩;obtain⟨w3,hw3⟩:∃w3,w3=w2.setCell ⟨gh,q,none⟩ (.int .i64 h):=⟨_,rfl⟩;obtain⟨x0,hx0⟩:∃x,T[h]? =some x:=⟨_,aaC (by omega)⟩;obtain⟨x1,hx1⟩:∃x,Pl[h]? =some x:=⟨_,aaC (by omega)⟩;obtain⟨x2,hx2⟩:∃x,H[q]? =some x:=⟨_,aaC (by omega)⟩;have A1:=hA.other (i:=h) d3 (.int .i64 v);have H1:=iH.other (i:=h) d6 (.int .i64 v);have P1:=iP.other (i:=h) d7 (.int .i64 v);have T1:=iT.set (i:=h) (by omega) (v:Int);have F1:=iF.other (i:=h) d10 (.int .i64 v);rw[<-hw1] at A1 H1 P1 T1 F1;have A2:=A1.other (i:=h) d2 (.int .i64 q);have H2:=H1.other (i:=h) d5 (.int .i64 q);have P2:=P1.set (i:=h) (by omega) (q:Int);have T2:=T1.other (i:=h) (abM d7) (.int .i64 q);have F2:=F1.other (i:=h) d9 (.int .i64 q);rw[<-hw2] at A2 H2 P2 T2 F2;have H3:=H2.set (i:=q) (by omega) (h:Int);have P3:=P2.other (i:=q) (abM d5) (.int .i64 h);have T3:=T2.other (i:=q) (abM d6) (.int .i64 h);have F3:=F2.other (i:=q) d8 (.int .i64 h);rw[<-hw3] at H3 P3 T3 F3;have H4:=H3.other (i:=u) (abM d8) (.int .i64 ((q:Int)+1));have P4:=P3.other (i:=u) (abM d9) (.int .i64 ((q:Int)+1));have T4:=T3.other (i:=u) (abM d10) (.int .i64 ((q:Int)+1));have F4:=F3.set (i:=u) (by omega) ((q:Int)+1);have VA:aj (fun b=>b=gh\/b=gp\/b=gt\/b=gf) w (w3.setCell ⟨gf,u,none⟩ (.int .i64 ((q:Int)+1))):=by
  rw[hw3,hw2,hw1];exact((((aj.refl _ w).setCell (.inr (.inr (.inl rfl))) _).setCell (.inr (.inl rfl)) _).setCell (.inl rfl) _).setCell (.inr (.inr (.inr rfl))) _
 have jE:=ζ (And.intro H4 (And.intro P4 (And.intro T4 (And.intro F4 VA))));have a4:=hA.c4;have a3:=A1.c3;have a2:=A2.c2;have t0:=iT.cell hx0;have tf:=iT.free;have p0:=P1.cell hx1;have pf:=P1.free;have f1:=F1.cell hq;have h0:=H2.cell hx2;have hf:=H2.free;have f2:=F2.cell hq;have f3:=F3.cell hq;have f3f:=F3.free;have yP:=ζ hw1;have Il:=ζ hw2;have qx:=ζ hw3;have s1:w1.heap.size=w.heap.size:=by rw[hw1];simp
 have i0:(0:Int)<=(h:Int):=by omega
 have i1:(h:Int)<(M:Int):=by omega
 have i2:(0:Int)<=(u:Int):=by omega
 have i3:(u:Int)<(n:Int):=by omega
 have i4:(0:Int)<=(q:Int):=by omega
 have i5:(q:Int)<(M:Int):=by omega
 clear hA iH iP iT iF A1 H1 P1 T1 F1 A2 H2 P2 T2 F2 H3 P3 T3 F3 H4 P4 T4 F4 VA hw1 hw2 hw3 hx0 hx1 hx2 hq lH lP lT lF d2 d3 d5 d6 d7 d8 d9 d10;go_enter func233,ntmps233;go_wp2_with fail;rw[<-yP.out];go_big_region;rw[<-Il.out];go_wp2_with fail;go_big_region;rw[<-qx.out];go_wp2
 go_end0
 exact⟨rfl,jE.out.1,jE.out.2.1,jE.out.2.2.1,jE.out.2.2.2.1,jE.out.2.2.2.2.drew.drew⟩
theorem Bv {w:World} {g n:Nat} {S:List Int} (h:aB w g S) (hl:S.length=n) (hn:n<=8388608) (hw:∀x∈S,-9223372036854775808<=x/\x<=9223372036854775807):tD .i64 8 w (some ⟨g,0,none⟩) n n S:=by
 refine .inr ⟨_,rfl,aaD _,by omega,hl,fun i hi=> ?_,fun x hx=>WalkArith.wf_i64 (by have:=hw x hx;omega)⟩;have e:((⟨g,0,none⟩:Addr).add i)=⟨g,i,none⟩:=by
  by_cases h0:i=0<;>simp[Addr.add,h0]
 rw[e];exact h.cell (by rw[aaI,aaC hi];rfl)
theorem Ht (g n:Nat) (S:List Int) (w:World) (h:aB w g S) (hl:S.length=n) (hn:n<=8388608) (hw:∀x∈S,-9223372036854775808<=x/\x<=9223372036854775807):
 Calls prog 92 #[.slice (some ⟨g,0,none⟩) n n] w fun e w'=>∃gf cf,e= .returned (.slice (some ⟨gf,0,none⟩) n cf)/\w.heap.size<=gf/\aB w' gf S/\Below w.heap.size w w':=by
 obtain⟨i0,hi,hz0,hz1,hz2⟩:=info_parts Tryz.ck;have hr:=Bv h hl hn hw;have HR:=ζ hr;have hnil:=fun w=>Lib.run_eql_slice_nil (P:=prog) w 55 3 (some ⟨g,0,none⟩) n n 0 0 Tryz.underlying55
 clear hr h hw;go_enter func92,ntmps92;go_wp2_with (at_builtin;refine Bh rfl _ _ 55 rfl 3 .i64 i0 8 Tryz.underlying55 hi hz0 hz1 hz2 (by decide) w (some ⟨g,0,none⟩) n n S rfl rfl HR.out ?_;refine aaH ?_);refine ζ ?_;intro gb c w1 hrow hgb hlt hc hb;have HX:=ζ hrow;have HB:=ζ hb;have HG:=ζ hgb;clear hrow hb hgb;go_wp2;go_ret;refine⟨gb,c,rfl,HG.out,?_,HB.out⟩;have:=HX.out;rw[aa3 (by simp;omega)] at this;exact B3 this
def Fq (es:List (Int×Int)) (n M:Nat) (w:World) (e:Ending) (w':World):Prop:=
 ∃(gs:Nat) (S:List Int),e= .returned (.slice (some ⟨gs,0,none⟩) n n)/\w.heap.size<=gs/\gs<w'.heap.size/\aB w' gs S/\S.length=n/\(∀v,v<n->S[v]? =some (Cs.st es M v:Int))/\Below w.heap.size w w'
theorem Db (es:List (Int×Int)) (gd n M:Nat) (D:List Int) (w:World) (hD:aB w gd D) (hl:D.length=n) (hn:n<=1048576) (hM:M<=8388608) (hd:∀v,v<n->D[v]? =some ((Cs.out es v M).length:Int)) (hf:∀i,i<M->Cs.fr es i<n):
 Calls prog 174 #[.slice (some ⟨gd,0,none⟩) n n] w (Fq es n M w):=by
 obtain⟨i0,hi,hz0,hz1,hz2⟩:=info_parts Tryz.ck;have HD:=ζ hD;have IA:=ζ hd;have HF:=ζ hf;have hlt:=hD.lt;clear hD hd hf;go_enter func174,ntmps174;go_wp2_with (at_make;refine wpList_make_full _ rfl _ _ 55 rfl w.heap.size 3 i0 (.int .i64 0) 1 Tryz.underlying55 hi hz0 hz1 _ _ _ _ n rfl rfl rfl rfl (by rw[hz2];omega) (by unfold maxLen;omega) (aaD _) ?_;refine aaH ?_);refine ζ ?_;intro w2 hrow hg2;rw[dz] at hrow;have hik:=(fJ hrow).ins;have hb2:Below w.heap.size w w2:=(aaE _ _).grown hg2 (aaD _) (fun j hj=>by cases hj);have zX:=ζ hik;have aC:=ζ hb2;clear hrow hg2 hik hb2;go_wp2;go_loopw [4,11] (fun s c wr=>∃(k:Nat) (S:List Int),k<=n/\c= .int .i64 k/\s= .int .i64 (Cs.st es M k)/\S.length=n/\(∀v,v<k->S[v]? =some (Cs.st es M v:Int))/\aB wr w.heap.size S/\Below w.heap.size w wr) (fun _ c _=>n-(intOf c).toNat)
 case atStart=>exact⟨0,_,aaL _,rfl,rfl,by simp,fun v hv=>by omega,zX.out,aC.out⟩
 case round=>
  obtain⟨k,S,hk,rfl,rfl,VD,hS,sW,hb⟩:=hrel;have hsz:=sW.lt;have HS:=ζ hS;have HIS:=ζ sW;have HB:=ζ hb;by_cases hkn:k<n
  .have hk0:(0:Int)<=(k:Int):=by omega
   have hk1:(k:Int)<(n:Int):=by omega
   obtain⟨x,hx⟩:∃x,S[k]? =some x:=⟨_,aaC (by omega)⟩;have c0:=sW.cell hx;have c1:=sW.free;have n1:=sW.set (i:=k) (by omega) (Cs.st es M k:Int);have tH:=ζ n1;have d1:(wr.setCell ⟨w.heap.size,k,none⟩ (.int .i64 (Cs.st es M k))).cell? ⟨gd,k,none⟩=some (.int .i64 ((Cs.out es k M).length:Int)):=by
    have:=(HD.out.later hb).cell (IA.out k hkn);rw[<-this];simp[World.cell?,heap_setCell_other wr ⟨w.heap.size,k,none⟩ gd _ (by simp;omega)]
   have Xn:=ζ (hb.setCell (p:=⟨w.heap.size,k,none⟩) (aaD _) (.int .i64 (Cs.st es M k:Int)));have hle:=Cs.wz HF.out hkn;have hst:Cs.st es M (k+1)=Cs.st es M k+(Cs.out es k M).length:=rfl;have HST:=ζ hst;have Yi:∃y,y=(Cs.out es k M).length:=⟨_,rfl⟩;obtain⟨y,hy⟩:=Yi;have hnz:∃z,z=Cs.st es M k:=⟨_,rfl⟩;obtain⟨z,hz⟩:=hnz;have HZ:=ζ hz.symm;rw[<-hy] at d1 hle hst HST;rw[<-hz] at d1 hle hst HST tH Xn n1 ⊢;clear hS sW hb n1 hx hst hy hz;go_wp2;go_roundw
   case rel=>
    refine⟨k+1,S.set k z,by omega,by go_num,by rw[HST.out];go_num,by simp[VD],fun v hv=> ?_,tH.out,Xn.out⟩;rw[aaR];by_cases e:k=v
    .subst e
     rw[if_pos rfl,if_pos (by omega),HZ.out]
    .rw[if_neg e]
     exact HS.out v (by omega)
   case measure=>simp[intOf];omega
  .have hd:¬((k:Int)<(n:Int)):=by omega
   clear hS sW hb;go_wp2;go_ret;exact⟨w.heap.size,S,rfl,aaD _,hsz,HIS.out,VD,fun v hv=>HS.out v (by omega),HB.out⟩
def Be (es:List (Int×Int)) (n M gh gp gt:Nat) (w:World) (e:Ending) (w':World):Prop:=
 e= .returned (.tuple #[])/\(∃H Pl T F:List Int,Cs.jZ es n M M H Pl T F/\aB w' gh H/\aB w' gp Pl/\aB w' gt T)/\aj (fun b=>b=gh\/b=gp\/b=gt) w w'
theorem aj.next {S S':Nat->Prop} {w0 w w':World} (h:aj S w0 w) (k:aj S' w w') (hS:∀b,b<w0.heap.size->S' b->S b):aj S w0 w':=
 ⟨k.os.trans h.os,k.tape.trans h.tape,k.output.trans h.output,aaM h.size k.size,fun i hi hn=>(k.block i (aa0 hi h.size) (fun hs=>hn (hS i hi hs))).trans (h.block i hi hn)⟩
def mg (es:List (Int×Int)) (p gd gs gh gp gt gf n M k:Nat) (w:World):Prop:=
 aV w p gd gs gh gp gt n M/\∃H Pl T F:List Int,Cs.jZ es n M k H Pl T F/\aB w gh H/\aB w gp Pl/\aB w gt T/\aB w gf F
theorem mg.later {es:List (Int×Int)} {p gd gs gh gp gt gf n M k:Nat} {w w':World} (h:mg es p gd gs gh gp gt gf n M k w) (hb:Below w.heap.size w w'):mg es p gd gs gh gp gt gf n M k w':=by
 obtain⟨hA,H,Pl,T,F,hf,h1,h2,h3,h4⟩:=h;exact⟨hA.later hb,H,Pl,T,F,hf,h1.later hb,h2.later hb,h3.later hb,h4.later hb⟩
structure JA (p gh gp gt gf:Nat):Prop where
 d1:p≠gh
 d2:p≠gp
 d3:p≠gt
 d4:p≠gf
 d5:gh≠gp
 d6:gh≠gt
 d7:gp≠gt
 d8:gf≠gh
 d9:gf≠gp
 d10:gf≠gt
theorem DV (es:List (Int×Int)) (p gd gs gh gp gt gf cf n M k:Nat) (w:World) (hL:mg es p gd gs gh gp gt gf n M k w) (hlt:∀i,i<M->Cs.fr es i<n) (hk:k<M) (hM:M<=8388608) (hd:JA p gh gp gt gf):
 Calls prog 233 #[.pointer (some ⟨p,0,none⟩),.int .i64 k,.int .i64 (Cs.fr es k:Int),.int .i64 (Cs.to es k:Int),.slice (some ⟨gf,0,none⟩) n cf] w fun e w'=>
  e= .returned (.tuple #[])/\mg es p gd gs gh gp gt gf n M (k+1) w'/\aj (fun b=>b=gh\/b=gp\/b=gt\/b=gf) w w':=by
 obtain⟨hA,H,Pl,T,F,hf,h1,h2,h3,h4⟩:=hL;refine(KY p gd gs gh gp gt gf cf n M H Pl T F k (Cs.fr es k) (Cs.to es k) (Cs.pos es M k) w hA h1 h2 h3 h4 hf.lH hf.lP hf.lT hf.lF hk (hlt k hk) (hf.at (hlt k hk)) (Cs.IV hlt hk) hM hd.d2 hd.d3 hd.d5 hd.d6 hd.d7 hd.d8 hd.d9 hd.d10).mono ?_;rintro e w' ⟨he,k1,k2,k3,k4,hw⟩;refine⟨he,⟨hA.wrote hw (fun h=> ?_),_,_,_,_,hf.step hlt hk,k1,k2,k3,k4⟩,hw⟩;rcases h with h|h|h|h
 .exact hd.d1 h
 .exact hd.d2 h
 .exact hd.d3 h
 .exact hd.d4 h
theorem KR (es:List (Int×Int)) (ao:Option Addr) (cap p gd gs gh gp gt n M:Nat) (S H Pl T:List Int) (w0 w:World) (hv:Si.Val n es) (hM:M=2*es.length) (he:ah w0 ao es) (hb:Below w0.heap.size w0 w)
 (hA:aV w p gd gs gh gp gt n M) (iS:aB w gs S) (iH:aB w gh H) (iP:aB w gp Pl) (iT:aB w gt T) (lS:S.length=n) (hS:∀v,v<n->S[v]? =some (Cs.st es M v:Int)) (lH:H.length=M) (lP:Pl.length=M) (lT:T.length=M)
 (b1:w0.heap.size<=gh) (b2:w0.heap.size<=gp) (b3:w0.heap.size<=gt) (d1:p≠gh) (d2:p≠gp) (d3:p≠gt) (d5:gh≠gp) (d6:gh≠gt) (d7:gp≠gt):
 Calls prog 175 #[.pointer (some ⟨p,0,none⟩),.slice ao es.length cap] w (Be es n M gh gp gt w):=by
 have dA:=hv.few;have hhi:=hv.hi;have hlt:∀i,i<M->Cs.fr es i<n:=fun i hi=>(Cs.dG hv (by omega)).1
 have hwf:∀x∈S,-9223372036854775808<=x/\x<=9223372036854775807:=fun x hx=>by
  obtain⟨v,hv',rfl⟩:=List.getElem_of_mem hx;have h1:=hS v (by omega);rw[aaC hv'] at h1;have h2:=Cs.wz (v:=v) hlt (by omega);have h3:=aaQ h1;omega
 have hcl:=Ht gs n S w iS lS (by omega) hwf;have qA:=ζ hcl;have a1:=hA.c1;have s1:=iH.lt;have s2:=iP.lt;have s3:=iT.lt;have s4:=hA.lt;have HV:=ζ hv;have mK:=ζ hlt;have HE:=ζ he;have HB:=ζ hb;have VM:Cs.jZ es n M 0 H Pl T S:=⟨lH,lP,lT,lS,fun i hi=>by omega,fun i hi=>by omega,fun i hi=>by omega,fun v hv=>by rw[hS v hv];simp[Cs.out]⟩;have Zg:Hid (∀gf,w.heap.size<=gf->JA p gh gp gt gf):=fun gf Vi=>⟨d1,d2,d3,by omega,d5,d6,d7,by omega,by omega,by omega⟩
 have yZ:Hid (∀gf w2,Below w.heap.size w w2->aB w2 gf S->mg es p gd gs gh gp gt gf n M 0 w2):=fun gf w2 hb hi=>⟨hA.later hb,H,Pl,T,S,VM,iH.later hb,iP.later hb,iT.later hb,hi⟩
 clear hcl hv hlt he hb hA VM iS iH iP iT hS hwf lH lP lT lS d1 d2 d3 d5 d6 d7;go_enter func175,ntmps175;go_wp2_with (go_at_call 92;refine qA.out.mono ?_;rintro e w2 ⟨gf,cf,rfl,Vi,j6,hb2⟩;refine aaH ?_);refine ζ ?_;have aC:=ζ hb2;have nP:=ζ (yZ.out gf w2 hb2 j6);have Iu:=ζ (Zg.out gf Vi);have Eo:=j6.lt;clear hb2 j6 qA;go_wp2;go_loopw [14] (fun c wr=>∃k:Nat,k<=es.length/\c= .int .i64 k/\mg es p gd gs gh gp gt gf n M (2*k) wr/\aj (fun b=>b=gh\/b=gp\/b=gt) w wr) (fun c _=>es.length-(intOf c).toNat)
 case atStart=>exact⟨0,aaL _,rfl,nP.out,(aj.refl _ _).later aC.out⟩
 case round=>
  obtain⟨k,hk,rfl,El,hwr⟩:=hrel;have WV:=ζ El;have ke:=ζ hwr;by_cases hlt:k<es.length
  .have aX:(k:Int)<(es.length:Int):=by omega
   have hk0:(0:Int)<=(k:Int):=by omega
   obtain⟨q,hq⟩:∃q,es[k]? =some q:=⟨_,aaC hlt⟩;have hb3:Below w0.heap.size w0 wr:=HB.out.trans (hwr.below HB.out.size (fun b hb=>by rcases hb with rfl|rfl|rfl<;>assumption));obtain⟨b,o,rfl,c0,c1⟩:=(HE.out.later hb3) k q hq;have hbl:b<wr.heap.size:=block_lt_of_cell c0;have hok:=HV.out.each k q hq;unfold Si.ok at hok;obtain⟨qu,qv⟩:=q;dsimp only at c0 c1 hok;obtain⟨u,rfl⟩:∃u:Nat,qu=(u:Int):=⟨qu.toNat,by omega⟩;obtain⟨v,rfl⟩:∃v:Nat,qv=(v:Int):=⟨qv.toNat,by omega⟩;obtain⟨e1,e2⟩:=Cs.eu hq;obtain⟨e3,e4⟩:=Cs.jQ hq;dsimp only[Int.toNat_natCast] at e1 e2 e3 e4;have sU:=DV es p gd gs gh gp gt gf cf n M (2*k) _ (El.later ((aaE _ _).alloc (aaD _) (.cells #[.int .i64 u,.int .i64 v] 66))) mK.out (by omega) (by omega) Iu.out;rw[e1,e2,show((2*k:Nat):Int)=2*(k:Int) by omega] at sU;have hl2:=fun W hW=>DV es p gd gs gh gp gt gf cf n M (2*k+1) W hW mK.out (by omega) (by omega) Iu.out
   rw[e3,e4,show((2*k+1:Nat):Int)=2*(k:Int)+1 by omega] at hl2;have yY:=ζ sU;have QZ:=ζ hl2;have hnew:(wr.alloc (.cells #[.int .i64 u,.int .i64 v] 66)).heap[wr.heap.size]? =some (.cells #[.int .i64 u,.int .i64 v] 66 (0,0)):=heap_alloc_new wr _;have hsw:=hwr.size;have hpf:=Iu.out;have aaq:gf<wr.heap.size:=by
    obtain⟨_,_,_,_,_,_,_,_,_,h4⟩:=El;exact h4.lt
   have rQ:Hid (¬(wr.heap.size=gh\/wr.heap.size=gp\/wr.heap.size=gt\/wr.heap.size=gf)):=by
    show ¬_;omega
   have jB:=ζ hnew;clear sU hl2 El hwr hb3 hok hq hnew hpf;go_wp2_with (go_at_call 233;refine yY.out.mono ?_;rintro e w3 ⟨rfl,MP,hw3⟩;refine aaH ?_);refine ζ ?_;have KC:=(hw3.block wr.heap.size (by simp) rQ.out).trans jB.out;obtain⟨x0,x1,-⟩:=af KC;have QY:=ζ (QZ.out w3 MP);have qx:=ζ (((ke.out.alloc _).next hw3 (fun b hb h=>by rcases h with h|h|h|h;exact .inl h;exact .inr (.inl h);exact .inr (.inr h);omega)));have hs3:=hw3.size;have aar:=lt_of_block KC;clear hw3 MP KC yY QZ jB;go_wp2_with (go_at_call 233;refine QY.out.mono ?_;rintro e w4 ⟨rfl,MO,hw4⟩;refine aaH ?_);refine ζ ?_;have Y2:=ζ (qx.out.next hw4 (fun b hb h=>by rcases h with h|h|h|h;exact .inl h;exact .inr (.inl h);exact .inr (.inr h);omega));have Zv:=ζ MO;clear hw4 MO QY;go_wp2;go_roundw
   case rel=>exact⟨k+1,by omega,by go_num,Zv.out,Y2.out⟩
   case measure=>simp[intOf];omega
  .have hd:¬((k:Int)<(es.length:Int)):=by omega
   obtain rfl:k=es.length:=by omega
   clear El hwr;go_wp2
   go_end0
   obtain⟨_,H1,P1,T1,F1,hf,i1,i2,i3,_⟩:=WV.out;rw[hM] at hf;exact⟨rfl,⟨H1,P1,T1,F1,hf,i1,i2,i3⟩,ke.out⟩
end
section
namespace Ku
theorem gU.follow {S:Sys} {o t:List Nat} (ho:gU S o) (ht:Tr S t) {a:Nat} (h0:t[0]? =some a) (ha:a∈o):∀(i x:Nat),t[i]? =some x->x∈o
 |0,x,hx=>by rw[h0] at hx;cases hx;exact ha
 |i+1,x,hx=>by
  have hi:=(aaF.1 hx).1;obtain⟨y,hy⟩:∃y,t[i]? =some y:=⟨_,aaC (by omega)⟩;have XY:=ho.follow ht h0 ha i y hy;obtain⟨j,hj,ej⟩:=aaT.1 XY;have gj:o[j]? =some y:=by rw[<-ej];exact aaC hj
  have hn:=ht i y x hy hx;by_cases hl:j+1<o.length
  .obtain⟨z,hz⟩:∃z,o[j+1]? =some z:=⟨_,aaC hl⟩
   have:=ho.tr j y z gj hz;rw[hn] at this;rw[aaQ this];exact aaG hz
  .have:=ho.oQ y (by rw[show o.length-1=j by omega];exact gj)
   rw[hn] at this;cases this
theorem gU.nodup {S:Sys} {c:List Nat} (o:gU S c):c.Nodup:=o.tr.nodup fun i hi e=>by
 have hp:=cu o.ne;obtain⟨a,ha⟩:∃a,c[0]? =some a:=⟨_,aaC hp⟩;rw[ha] at e;obtain⟨b,hb⟩:∃b,c[i-1]? =some b:=⟨_,aaC (by have:=(aaF.1 e).1;omega)⟩;have h1:=o.tr (i-1) b a hb (by rw[show i-1+1=i by omega];exact e);have h2:=S.rev b a h1;rw[o.fst a ha] at h2;cases h2
section
variable {S:Gs}
theorem K9 {h0 x:Nat} (hh:h0<S.M) (hx:(all S.toSys (S.tw h0))[(all S.toSys (S.tw h0)).length-1]? =some x) (he:S.nx x=none):
 S.tw x<S.M/\gU S.toSys (all S.toSys (S.tw x))/\h0∈all S.toSys (S.tw x):=by
 have zK:=S.tl h0 hh;obtain⟨t',_,lt',_,_⟩:=bL (S:=S.toSys) zK;have X4:=lt' x (aaG hx);have RF:=S.tl x X4;obtain⟨_,_,lt,hd,_⟩:=bL (S:=S.toSys) hh;have EE:h0∈all S.toSys h0:=acG hd;have hend:∀a,(all S.toSys h0)[(all S.toSys h0).length-1]? =some a->S.nx a=none:=by
  rcases gm (S:=S.toSys) hh with ⟨c,hc0⟩|⟨_,_,h⟩
  .exfalso
   refine t'.gL (fun a ha=> ?_) c.rv (aaG (all_zero zK)) (cZ.2 (by rw[S.tt];exact aaG hc0));rw[hx] at ha;cases ha;exact he
  .exact h
 obtain⟨l,o,hl0,_⟩:=yF hh hend;have hr:S.tw h0∈rv S.toSys l:=cZ.2 (by rw[S.tt];exact hl0);have Rw:=o.rv.follow t' (all_zero zK) hr _ x hx;have hxl:=cZ.1 Rw;have hO:gU S.toSys (all S.toSys (S.tw x)):=by
  rcases gm (S:=S.toSys) RF with ⟨c,hc0⟩|⟨t,h0',h⟩
  .exfalso
   have hp:=cu c.ne;obtain⟨p,hp'⟩:∃p,(all S.toSys (S.tw x))[(all S.toSys (S.tw x)).length-1]? =some p:=⟨_,aaC (by omega)⟩;have h1:=S.rev p _ (c.LM p _ hp' hc0);rw[S.tt,he] at h1;cases h1
  .exact⟨t,fun e=>by rw[e] at h0';simp at h0',fun a ha=>by rw[h0'] at ha;cases ha;rw[S.tt];exact he,h⟩
 refine⟨RF,hO,?_⟩;rw[hO.unique o (aaG (all_zero RF)) hxl];exact hl0
theorem H8 {h0 x:Nat} (hh:h0<S.M) (hx:(all S.toSys (S.tw h0))[(all S.toSys (S.tw h0)).length-1]? =some x) (he:S.nx x=some (S.tw h0)):cY S.toSys (all S.toSys h0):=by
 have zK:=S.tl h0 hh;have c':cY S.toSys (all S.toSys (S.tw h0)):=by
  rcases gm (S:=S.toSys) zK with ⟨c,_⟩|⟨_,_,h⟩
  .exact c
  .have:=h x hx
   rw[he] at this;cases this
 obtain⟨t,_,_,_,_⟩:=bL (S:=S.toSys) hh;rcases gm (S:=S.toSys) hh with ⟨c,_⟩|⟨t,h0',h⟩
 .exact c
 .exact(t.gL h c'.rv (aaG h0') (cZ.2 (aaG (all_zero zK)))).elim
theorem K2 {T l:List Nat} (t:Tr S.toSys T) (hn:T≠[]) (lt:∀x∈T,x<S.M) (c:Cn S l) (e:vs S l=written (vs S T)):l=T\/l=rv S.toSys T:=by
 unfold Ku.written at e
 split at e
 .refine .inr (IJ c.tr t.rv c.lt (fun x hx=> ?_) (by rw[e,j4 t hn]))
  have:=S.tl _ (lt _ (cZ.1 hx));rw[S.tt] at this;exact this
 .exact .inl (IJ c.tr t c.lt lt e)
end
section
variable {es:List (Int×Int)} {n:Int} {hv:Si.Val n es}
theorem SQ {T:List Nat} {e:Nat}:By (rv (gs es hv).toSys T) e↔By T e:=by
 constructor
 .rintro⟨x,hx,h⟩
  exact⟨_,cZ.1 hx,by show Cs.twin x/2=e;rw[lz];exact h⟩
 .rintro⟨x,hx,h⟩
  exact⟨Cs.twin x,cZ.2 (by show Cs.twin (Cs.twin x)∈T;rw[iO];exact hx),by rw[lz];exact h⟩
theorem SH {e e':Nat} (hv:Si.Val n es) (h:e<=e') (he':e'<es.length) {x:Nat} (hx:x/2=e'):Cs.fr es (2*e)<=Cs.fr es x:=by
 obtain⟨p,hp⟩:∃p,es[e]? =some p:=⟨_,aaC (by omega)⟩;obtain⟨q,hq⟩:∃q,es[e']? =some q:=⟨_,aaC he'⟩;have oP:=hv.each _ p hp;have uY:=hv.each _ q hq;unfold Si.ok at oP uY;have hle:p.1<=q.1:=by
  by_cases e1:e=e'
  .subst e1
   rw[hp] at hq;cases hq;exact aci _
  .have:=hv.mono e' e p q (by omega) hp hq
   unfold Si.lt at this;omega
 have f1:=(Cs.eu hp).1;have f2:=(Cs.eu hq).1;have f3:=(Cs.jQ hq).1;rcases abt x with h2|h2
 .rw[show x=2*e' by omega]
  omega
 .rw[show x=2*e'+1 by omega]
  omega
theorem A7 {e b:Nat} (hf:First es hv e) (hb:b<2*es.length) (hin:∃x∈all (gs es hv).toSys b,x/2=e) (hk:gU (gs es hv).toSys (all (gs es hv).toSys b)\/(b=2*e/\cY (gs es hv).toSys (all (gs es hv).toSys b))):
 vs (gs es hv) (ch es hv e)=written (vs (gs es hv) (all (gs es hv).toSys b))/\∀e',By (ch es hv e) e'↔By (all (gs es hv).toSys b) e':=by
 obtain⟨T,hT⟩:∃T,T=all (gs es hv).toSys b:=⟨_,rfl⟩;obtain⟨t,nd,lt,_,_⟩:=bL (S:=(gs es hv).toSys) hb;rw[<-hT] at hin hk t nd lt ⊢;have key:∀l,Cn (gs es hv) l->vs (gs es hv) l=written (vs (gs es hv) T)->T≠[]->vs (gs es hv) (ch es hv e)=written (vs (gs es hv) T)/\∀e',By (ch es hv e) e'↔By T e':=fun l c e1 hn=>by
  have hby:∀e',By l e'↔By T e':=fun e'=>by
   rcases K2 t hn lt c e1 with rfl|rfl
   .exact Iff.rfl
   .exact SQ
  obtain⟨x,hx,mH⟩:=(hby e).2 hin;rw[Cu c hx mH];exact⟨e1,hby⟩
 rcases hk with o|⟨hb2,c⟩
 .obtain⟨l,cn,e1,_⟩:=o.written lt
  exact key l cn e1 o.ne
 .have hm:∀x∈T,at_ (vs (gs es hv) T) 0<=(gs es hv).fr x:=fun x hx=>by
   have h0:T[0]? =some b:=by rw[hT];exact all_zero hb
   rw[iI h0,hb2];obtain⟨k,hk,hmin⟩:=Cj (fun i=>at_ (vs (gs es hv) T) i) (cu c.ne);obtain⟨l,cl,Mc,ml,sub,_⟩:=c.turn lt hk hmin;obtain⟨l',cn,_,hall⟩:=cl.written Mc ml;have hby:∀y∈T,By l' (y/2):=fun y hy=>by
    rcases hall y (sub y hy) with h|h
    .exact⟨y,h,rfl⟩
    .exact⟨_,h,lz y⟩
   obtain⟨y,hy,D8⟩:=hin;obtain⟨z,hz,XV⟩:=hby y hy;have e1:=Cu (hv:=hv) (e:=e) cn hz (by rw[XV,D8]);have:=hf (x/2) (by rw[e1];exact hby x hx);have hxl:x<2*es.length:=lt x hx;exact SH hv this (by omega) rfl
  obtain⟨l,cn,e1,_⟩:=c.written lt hm;exact key l cn e1 c.ne
theorem ER {k e':Nat} (hk:k<es.length) (hf:First es hv k) (h:By (ch es hv k) e'):¬ ∃l∈fO es hv k,By l e':=by
 rintro⟨l,hl,hb⟩;obtain⟨e,h1,h2,rfl⟩:=kU.1 hl;have a1:=yC hk h;have a2:=yC (by omega) hb;have:=hf e (by rw[<-a1,a2];exact(tB (by omega)).2);omega
theorem C6 {S:Sys} {T:List Nat} (t:Tr S T) (nd:T.Nodup) (X9:∀x y,x/2=y/2->x=y\/y=S.tw x) {i j x y:Nat} (hij:i<j) (hx:T[i]? =some x) (hy:T[j]? =some y):x/2≠y/2:=by
 intro e;rcases X9 x y e with rfl|h
 .obtain⟨a1,a2⟩:=aaF.1 hx
  obtain⟨b1,b2⟩:=aaF.1 hy;have:=(List.getElem_inj nd).1 (a2.trans b2.symm);omega
 .exact t.wY (aaG hx) (aaG hy) h
theorem KH (x y:Nat) (e:x/2=y/2):x=y\/y=Cs.twin x:=by
 unfold Cs.twin
 split<;>omega
end
end Ku
end
end Go.Proofs.YtdbjpbjocmcpkaaGreatDoor
