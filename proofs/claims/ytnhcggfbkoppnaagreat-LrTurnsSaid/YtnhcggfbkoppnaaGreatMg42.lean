import Derived.Test.YtnhcggfbkoppnaaGreatMg16
import Derived.Test.YtnhcggfbkoppnaaGreatMg31
import Derived.Test.YtnhcggfbkoppnaaGreatMg23
import Derived.Test.YtnhcggfbkoppnaaGreatMg21
import Derived.Test.YtnhcggfbkoppnaaGreatMg17
namespace Go.Proofs.YtnhcggfbkoppnaaGreat
section
namespace Lo
open Df
section
variable {n:Nat} {es:List (Int×Int)} {s:St}
theorem mz (hv:Si.Val n es) (nN:VF n es s):∀k,k≤es.length→∀(v:Nat) (L:List Int),(bR n es s k)[v]? =some L→∀x,x∈L↔∃b,b<k∧fr es s b=v∧x=at_ s.aJ b
 |0,_,v,L,hL,x=>by
  unfold bR at hL
  rw[List.getElem?_replicate] at hL
  split at hL
  ·cases hL
   simp
  ·cases hL
 |k+1,hk,v,L,hL,x=>by
  have ih:=mz hv nN k (by omega)
  have hlt:fr es s k<(bR n es s k).length:=by rw[dw];exact(bK hv nN (by omega)).1
  unfold bR at hL
  rw[List.getElem?_set] at hL
  by_cases e:fr es s k=v
  ·rw[if_pos e,if_pos hlt] at hL
   have hL':=Option.some.inj hL
   rw[←hL',Gi]
   have adD:(bR n es s k)[fr es s k]? =some ((bR n es s k).getD (fr es s k) []):=by
    rw[List.getD_eq_getElem?_getD,List.getElem?_eq_getElem hlt]
    rfl
   rw[ih (fr es s k) _ adD x]
   constructor
   ·rintro(h1|⟨b,h1,h2,h3⟩)
    ·exact⟨k,by omega,e,h1⟩
    ·exact⟨b,by omega,by rw[h2,e],h3⟩
   ·rintro⟨b,h1,h2,h3⟩
    by_cases eb:b=k
    ·exact .inl (by rw[h3,eb])
    ·exact .inr ⟨b,by omega,by rw[h2,e],h3⟩
  ·rw[if_neg e] at hL
   rw[ih v L hL x]
   constructor
   ·rintro⟨b,h1,h2,h3⟩
    exact⟨b,by omega,h2,h3⟩
   ·rintro⟨b,h1,h2,h3⟩
    refine⟨b,?_,h2,h3⟩
    have:b≠k:=fun eb=>e (by rw[←eb];exact h2)
    omega
def Fy (es:List (Int×Int)) (s:St) (x y:Int):Prop:=nest es s (x.toNat/2)<nest es s (y.toNat/2)∨(nest es s (x.toNat/2)=nest es s (y.toNat/2)∧x<y)
theorem eO (nN:VF n es s) {b:Nat} (hb:b<es.length):(at_ s.aJ b).toNat/2=b∧0≤at_ s.aJ b∧at_ s.aJ b<2*(es.length:Int):=by
 obtain⟨h1,h2,h3,h4⟩:=cN nN hb
 rw[h1,Int.toNat_natCast]
 exact⟨h4,by omega,by omega⟩
theorem pF (hv:Si.Val n es) (nN:VF n es s):∀k,k≤es.length→∀L∈bR n es s k,List.Pairwise (Fy es s) L
 |0,_,L,hL=>by
  unfold bR at hL
  rw[List.mem_replicate] at hL
  rw[hL.2]
  exact List.Pairwise.nil
 |k+1,hk,L,hL=>by
  have ih:=pF hv nN k (by omega)
  unfold bR at hL
  rcases List.mem_or_eq_of_mem_set hL with h1|h1
  ·exact ih L h1
  ·have hlt:fr es s k<(bR n es s k).length:=by rw[dw];exact(bK hv nN (by omega)).1
   have hmem:(bR n es s k).getD (fr es s k) []∈bR n es s k:=by
    rw[List.getD_eq_getElem?_getD,List.getElem?_eq_getElem hlt]
    exact List.getElem_mem hlt
   have hp:=ih _ hmem
   have hh:=(xH hv nN k (by omega) _ hmem).1
   obtain⟨M,hM⟩:∃M,(bR n es s k).getD (fr es s k) []=M:=⟨_,rfl⟩
   rw[hM] at hp hh h1
   rw[h1]
   obtain⟨p,hpd⟩:∃p,(fun x:Int=>decide (nest es s k<nest es s (x.toNat/2)))=p:=⟨_,rfl⟩
   rw[hpd]
   have hpx:∀x,p x=true↔nest es s k<nest es s (x.toNat/2):=fun x=>by rw[←hpd];simp
   have hfs:=ve p M
   have iM:=hp
   rw[←hfs,List.pairwise_append] at iM
   obtain⟨p1,p2,p3⟩:=iM
   obtain⟨k1,k2,_⟩:=eO nN (show k<es.length by omega)
   obtain⟨o1,o2,_,_⟩:=cN nN (show k<es.length by omega)
   have dZ:∀x∈M,x<at_ s.aJ k:=fun x hx=>by
    obtain⟨b,hb,e⟩:=hh x hx
    obtain⟨q1,q2,_,_⟩:=cN nN (show b<es.length by omega)
    rw[e,q1,o1]
    omega
   have acQ:∀y∈snd p M,nest es s k<nest es s (y.toNat/2):=fun y hy=>by
    cases hs:snd p M with
    |nil=>rw[hs] at hy;simp at hy
    |cons z D=>
     have hz:=(hpx z).1 (F0 p M z D hs)
     rw[hs] at hy p2
     rcases List.mem_cons.1 hy with rfl|hy
     ·exact hz
     ·rcases(List.pairwise_cons.1 p2).1 y hy with h|⟨h,_⟩
      ·omega
      ·omega
   unfold put
   rw[List.pairwise_append]
   refine⟨p1,List.pairwise_cons.2 ⟨fun y hy=> .inl (by rw[k1];exact acQ y hy),p2⟩,fun x hx y hy=> ?_⟩
   have Cx:¬nest es s k<nest es s (x.toNat/2):=fun h=>by
    have:=(hpx x).2 h
    rw[Mt p M x hx] at this
    cases this
   rcases List.mem_cons.1 hy with rfl|hy
   ·have hxM:x∈M:=by rw[←hfs];exact List.mem_append_left _ hx
    have hlt2:=dZ x hxM
    by_cases heq:nest es s (x.toNat/2)=nest es s k
    ·exact .inr ⟨by rw[k1];exact heq,hlt2⟩
    ·exact .inl (by rw[k1];omega)
   ·exact p3 x hx y hy
theorem GN {x:Int}:¬Fy es s x x:=by
 rintro(h|⟨_,h⟩)<;>omega
end
end Lo
end
section
open Go.RowKit Lt Pl
noncomputable def Wp.oe (c:Wp) (v:Nat):List Nat:=((Lo.bR c.n c.es c.s c.es.length)[v]?.getD []).map fun x=>x.toNat/2
section
variable {c:Wp} (hv:Si.Val c.n c.es) (h:Df.VF c.n c.es c.s)
include hv h
omit hv h in
theorem Wp.mM {e:Nat} (he:e<c.es.length):g c.lw e=Lo.low c.es c.s e:=by
 unfold g
 rw[show c.lw[e]? =some (Lo.low c.es c.s e) from gR he]
 rfl
theorem Wp.Ab {v:Nat} {e:Nat}:e∈c.oe v↔e<c.es.length∧Lo.fr c.es c.s e=v:=by
 unfold Wp.oe
 cases hl:(Lo.bR c.n c.es c.s c.es.length)[v]? with
 |none=>
  rw[List.getElem?_eq_none_iff,Lo.dw] at hl
  constructor
  ·intro q;simp at q
  ·rintro⟨q1,q2⟩
   have:=(Lo.bK hv h q1).1
   omega
 |some l=>
  have hm:=Lo.mz hv h c.es.length (Nat.le_refl _) v l hl
  rw[Option.getD_some,List.mem_map]
  constructor
  ·rintro⟨x,hx,rfl⟩
   obtain⟨b,hb,hf,rfl⟩:=(hm x).1 hx
   rw[(Lo.eO h hb).1]
   exact⟨hb,hf⟩
  ·rintro⟨q1,q2⟩
   exact⟨Df.at_ c.s.aJ e,(hm _).2 ⟨e,q1,q2,rfl⟩,(Lo.eO h q1).1⟩
theorem Wp.Ac {v:Nat} {l:List Int} (hl:(Lo.bR c.n c.es c.s c.es.length)[v]? =some l):(c.oe v).map (fun e=>Df.at_ c.s.aJ e)=l:=by
 have hm:=Lo.mz hv h c.es.length (Nat.le_refl _) v l hl
 unfold Wp.oe
 rw[hl,Option.getD_some,List.map_map]
 conv=>rhs;rw[←List.map_id l]
 refine List.map_congr_left fun x hx=> ?_
 obtain⟨b,hb,hf,rfl⟩:=(hm x).1 hx
 show Df.at_ c.s.aJ ((Df.at_ c.s.aJ b).toNat/2)=_
 rw[(Lo.eO h hb).1]
 rfl
theorem Wp.rP (v:Nat):List.Pairwise (fun e f=>Lo.nest c.es c.s e≤Lo.nest c.es c.s f∧e≠f) (c.oe v):=by
 unfold Wp.oe
 cases hl:(Lo.bR c.n c.es c.s c.es.length)[v]? with
 |none=>simp
 |some l=>
  have hm:=Lo.mz hv h c.es.length (Nat.le_refl _) v l hl
  have hr:=Lo.pF hv h c.es.length (Nat.le_refl _) l (List.mem_of_getElem? hl)
  rw[Option.getD_some,List.pairwise_map]
  refine List.Pairwise.imp_of_mem ?_ hr
  intro x y hx hy hxy
  obtain⟨a,ha,_,rfl⟩:=(hm x).1 hx
  obtain⟨b,hb,_,rfl⟩:=(hm y).1 hy
  unfold Lo.Fy at hxy
  rw[(Lo.eO h ha).1,(Lo.eO h hb).1] at hxy ⊢
  refine⟨?_,fun e=> ?_⟩
  ·rcases hxy with q|q
   ·omega
   ·omega
  ·subst e
   rcases hxy with q|q
   ·omega
   ·exact absurd q.2 (by omega)
theorem Wp.ab1:eI (Lr.df hv h) c.lw:=by
 refine⟨fG _ _,fun e he=> ?_,fun e b he hb=> ?_,fun e he hl=> ?_⟩
 ·rw[Wp.mM he]
  exact(Lo.least_le _ _).1
 ·rw[Wp.mM he]
  have:=(Lr.uH hv h he).1 hb
  exact(Lo.least_le _ _).2 _ (List.mem_map.2 ⟨b,this,rfl⟩)
 ·rw[Wp.mM he] at hl ⊢
  rcases Lo.Gz (es:=c.es) (s:=c.s) e with q|q
  ·rw[q] at hl
   exact absurd hl (Int.lt_irrefl _)
  ·obtain⟨b,hb,hb2⟩:=List.mem_map.1 q
   exact⟨b,(Lr.uH hv h he).2 hb,hb2⟩
theorem Wp.Cq {e f:Nat} (he:e<c.es.length) (hf:f<c.es.length) (hn:Lo.nest c.es c.s e≤Lo.nest c.es c.s f):Fx (Lr.df hv h) c.lw e f:=by
 unfold Fx
 rw[Wp.mM he,Wp.mM hf]
 have hle:Lo.low c.es c.s e≤Lo.low c.es c.s f:=by
  unfold Lo.nest at hn
  split at hn<;>split at hn<;>omega
 refine⟨hle,fun heq=> ?_⟩
 rintro⟨x,hx,hlx⟩
 have hx':=(Lr.uH hv h he).1 hx
 obtain⟨xm,xt,xh⟩:=Lo.qz hv h he hx'
 rw[Wp.mM xm,Lo.rT hv h xm xt] at hlx
 have h2:Lo.cj c.es c.s e≤Lo.ht c.es c.s x:=(Lo.least_le _ _).2 _ (List.mem_filter.2 ⟨List.mem_map.2 ⟨x,hx',rfl⟩,by simpa using hlx⟩)
 have h3:Lo.low c.es c.s e<Lo.cj c.es c.s e:=by
  rcases Lo.oz (es:=c.es) (s:=c.s) e with q|q
  ·rw[q];omega
  ·exact q.2
 have h4:Lo.low c.es c.s f<Lo.cj c.es c.s f∧Lo.cj c.es c.s f<Lo.hf c.es c.s f:=by
  unfold Lo.nest at hn
  rw[if_pos ⟨h3,by omega⟩] at hn
  split at hn
  ·assumption
  ·omega
 rcases Lo.oz (es:=c.es) (s:=c.s) f with q|⟨q,q2⟩
 ·rw[q] at h4
  exact absurd h4.2 (Int.lt_irrefl _)
 ·obtain⟨b,hb,hb2⟩:=List.mem_map.1 q
  obtain⟨bm,bt,bh⟩:=Lo.qz hv h hf hb
  refine⟨b,(Lr.uH hv h hf).2 hb,?_⟩
  rw[Wp.mM bm,Lo.rT hv h bm bt,hb2]
  exact q2
theorem Wp.Bi:dN (Lr.df hv h) c.env c.oe (fun e=>Df.at_ c.s.aJ e):=by
 have hl:=h.lens
 refine⟨Wp.ab1 hv h,fun e he=>(Lo.eO h he).2.1,fun e he=> ?_,fun e he=> ?_,fun e he=> ?_,fun v dh=> ?_,fun v e=>Wp.Ab hv h,fun v=> ?_,fun v=> ?_,fun v dh=> ?_,fun v dh=> ?_⟩
 ·obtain⟨h1,-,-,h4⟩:=Lo.cN h he
  show(Df.at_ c.s.aJ e).tdiv 2=_
  rw[h1]
  exact(eC h4).1
 ·obtain⟨h1,-,h3,h4⟩:=Lo.cN h he
  show MU c.env (Df.at_ c.s.aJ e)=_
  rw[h1]
  exact(mh hv h3).2
 ·obtain⟨h1,-,h3,h4⟩:=Lo.cN h he
  show KI c.env (Df.at_ c.s.aJ e)=_
  rw[h1]
  exact(mh hv h3).1
 ·obtain⟨l,pO⟩:∃l,(Lo.bR c.n c.es c.s c.es.length)[v]? =some l:=⟨_,List.getElem?_eq_getElem (by rw[Lo.dw];exact dh)⟩
  rw[Wp.Ac hv h pO]
  exact pO
 ·exact(Wp.rP hv h v).imp fun q=>q.2
 ·refine List.Pairwise.imp_of_mem ?_ (Wp.rP hv h v)
  intro e f he hf q
  exact Wp.Cq hv h ((Wp.Ab hv h).1 he).1 ((Wp.Ab hv h).1 hf).1 q.1
 ·exact at_at (by show _<c.s.ay.length;rw[hl.2.1];exact dh)
 ·have hp:bz c.env.par (v:Int)=some (Df.at_ c.s.par v):=at_at (by show _<c.s.par.length;rw[hl.1];exact dh)
  rw[hp]
  rcases h.hang v dh with ⟨q,-⟩|⟨u,hu,q1,q2,q3,-⟩
  ·refine .inr ⟨fun a am ta ga=> ?_,by rw[q]⟩
   have zI:Lo.tree c.es c.s a=true:=ta
   have KG:Lo.bJ c.es c.s a=v:=ga
   unfold Lo.tree at zI
   rw[KG,decide_eq_true_iff,q] at zI
   have:=(Lo.eO h am).2.1
   omega
  ·have am:u/2<c.es.length:=by omega
   have ho:Lo.oh c.s (u/2)=u:=by
    unfold Lo.oh
    rw[q3]
    simp
   have hg:Lo.bJ c.es c.s (u/2)=v:=by
    unfold Lo.bJ
    rw[ho]
    exact q2
   refine .inl ⟨u/2,am,?_,hg,by rw[q1,q3]⟩
   show Lo.tree c.es c.s (u/2)=true
   unfold Lo.tree
   rw[hg,q1,q3]
   simp
end
end
section
open Go.RowKit Lt
section
variable {c:Wp} {p j:Nat} {pa:Option Addr} {pc:Nat} {ps:List Int} {W:World}
def oM (c:Wp) (ao:Option Addr) (l:List Nat) (W:World):Prop:=∀V,Below W.heap.size W V→∀k (hk:k<l.length),∃b,ao=some ⟨b,0,none⟩∧V.cell? ⟨b,k,none⟩=some (.int .i64 ((Lo.oh c.s l[k]:Nat):Int))
theorem oM.later {ao:Option Addr} {l:List Nat} {V:World} (h:oM c ao l W) (hb:Below W.heap.size W V):oM c ao l V:=fun X hX=>h X (hb.trans (hX.mono hb.size))
set_option maxRecDepth 100000 in
set_option maxHeartbeats 4000000 in
theorem GM (h:mQ c p j pa pc ps W) {l:List Nat} (yC:∀e∈l,e<c.es.length) {ao:Option Addr} {ca:Nat} (hrow:oM c ao l W) (h2:1<l.length) (i:Nat):
 Calls Tryz.prog 106 #[.pointer (some ⟨j,0,none⟩),.slice ao l.length ca,.int .i64 (i:Int)] W fun e w'=>e= .returned (.int .i64 (gu (Lo.low c.es c.s) l i))∧Below W.heap.size W w':=by
 have cq:=h.wk.val.few
 by_cases h0:i=0
 ·subst h0
  have cT:1<l.length:=by omega
  obtain⟨e,he⟩:∃e,l[1]=e:=⟨_,rfl⟩
  have hem:e<c.es.length:=by rw[←he];exact yC _ (List.getElem_mem cT)
  obtain⟨o1,-,o3,o4⟩:=Lo.cN h.wk.vf hem
  obtain⟨q,hq⟩:∃q,Lo.oh c.s e=q:=⟨_,rfl⟩
  rw[hq] at o4
  have Uo:=(eC o4).1
  obtain⟨lb,lc,wV,dZ⟩:=h.wk.Ds hem
  obtain⟨b,eb,-⟩:=hrow W (Below.refl _ _) 1 cT
  have y0:∀D:LW W,D.val.cell? ⟨j,0,none⟩=some (.pointer (some ⟨p,0,none⟩)):=fun D=>(h.later D.h).cells.1
  have y1:∀D:LW W,D.val.cell? ⟨p,6,none⟩=some (.slice (some ⟨lb,0,none⟩) c.es.length lc):=fun D=>by
   rw[←wV]
   exact(h.later D.h).wk.c6
  have y2:∀D:LW W,D.val.cell? ⟨b,1,none⟩=some (.int .i64 (q:Int)):=fun D=>by
   obtain⟨b',e1,e2⟩:=hrow D.val D.h 1 cT
   rw[eb] at e1
   cases e1
   rw[he,hq] at e2
   exact e2
  have y3:∀D:LW W,D.val.cell? ⟨lb,e,none⟩=some (.int .i64 (Lo.low c.es c.s e)):=fun D=>dZ D.val D.h e hem
  have hne:=LW.any W
  have HO:Hid (gu (Lo.low c.es c.s) l 0=Lo.low c.es c.s e):=by
   show _=_
   unfold gu
   rw[if_pos rfl,List.getElem?_eq_getElem cT,Option.getD_some,he]
  obtain⟨z,hz⟩:∃z,Lo.low c.es c.s e=z:=⟨_,rfl⟩
  rw[hz] at y3 HO
  have e0:(0:Int)≤(e:Int):=by omega
  have e1:(e:Int)<(c.es.length:Int):=by omega
  have l1:((1:Nat):Int)<(l.length:Int):=by omega
  have JY:(1:Int)<(l.length:Int):=by omega
  have PT:IntKind.i64.wrap (e:Int)=(e:Int):=by rw[IntKind.wrap_i64];omega
  obtain⟨L,hL⟩:∃L,l.length=L:=⟨_,rfl⟩
  rw[hL] at l1 JY ⊢
  rw[eb]
  rw[HO.out]
  clear h yC hrow h2 cT he o1 o3 o4 hq wV dZ eb hz hL hem HO
  go_enter Tryz.func106,Tryz.ntmps106
  go_wp2_with fail
  refine aC (by kernel_rfl) (by kernel_rfl) ?_
  repeat (go_big_quiet_step (fail))
  refine wpQuiet_nil ?_
  rintro _ ⟨D,rfl⟩
  have HB:=Nu.hid D.h
  clear y0 y1 y2 y3 hne
  go_wp2_with fail
  go_ret
  exact⟨rfl,HB.out⟩
 ·have NN:((i:Int)==0)=false:=by simp;omega
  have cT:0<l.length:=by omega
  obtain⟨e,he⟩:∃e,l[0]=e:=⟨_,rfl⟩
  have hem:e<c.es.length:=by rw[←he];exact yC _ (List.getElem_mem cT)
  obtain⟨o1,-,o3,o4⟩:=Lo.cN h.wk.vf hem
  obtain⟨q,hq⟩:∃q,Lo.oh c.s e=q:=⟨_,rfl⟩
  rw[hq] at o4
  have Uo:=(eC o4).1
  obtain⟨lb,lc,wV,dZ⟩:=h.wk.Ds hem
  obtain⟨b,eb,-⟩:=hrow W (Below.refl _ _) 0 cT
  have y0:∀D:LW W,D.val.cell? ⟨j,0,none⟩=some (.pointer (some ⟨p,0,none⟩)):=fun D=>(h.later D.h).cells.1
  have y1:∀D:LW W,D.val.cell? ⟨p,6,none⟩=some (.slice (some ⟨lb,0,none⟩) c.es.length lc):=fun D=>by
   rw[←wV]
   exact(h.later D.h).wk.c6
  have y2:∀D:LW W,D.val.cell? ⟨b,0,none⟩=some (.int .i64 (q:Int)):=fun D=>by
   obtain⟨b',e1,e2⟩:=hrow D.val D.h 0 cT
   rw[eb] at e1
   cases e1
   rw[he,hq] at e2
   exact e2
  have y3:∀D:LW W,D.val.cell? ⟨lb,e,none⟩=some (.int .i64 (Lo.low c.es c.s e)):=fun D=>dZ D.val D.h e hem
  have hne:=LW.any W
  have HO:Hid (gu (Lo.low c.es c.s) l i=Lo.low c.es c.s e):=by
   show _=_
   unfold gu
   rw[if_neg h0,List.getElem?_eq_getElem cT,Option.getD_some,he]
  obtain⟨z,hz⟩:∃z,Lo.low c.es c.s e=z:=⟨_,rfl⟩
  rw[hz] at y3 HO
  have e0:(0:Int)≤(e:Int):=by omega
  have e1:(e:Int)<(c.es.length:Int):=by omega
  have l1:((0:Nat):Int)<(l.length:Int):=by omega
  have JY:(0:Int)<(l.length:Int):=by omega
  have PT:IntKind.i64.wrap (e:Int)=(e:Int):=by rw[IntKind.wrap_i64];omega
  obtain⟨L,hL⟩:∃L,l.length=L:=⟨_,rfl⟩
  rw[hL] at l1 JY ⊢
  rw[eb]
  rw[HO.out]
  clear h yC hrow h2 cT he o1 o3 o4 hq wV dZ eb hz hL hem HO
  go_enter Tryz.func106,Tryz.ntmps106
  go_wp2_with fail
  refine aC (by kernel_rfl) (by kernel_rfl) ?_
  repeat (go_big_quiet_step (fail))
  refine wpQuiet_nil ?_
  rintro _ ⟨D,rfl⟩
  have HB:=Nu.hid D.h
  clear y0 y1 y2 y3 hne
  go_wp2_with fail
  go_ret
  exact⟨rfl,HB.out⟩
end
end
end Go.Proofs.YtnhcggfbkoppnaaGreat
