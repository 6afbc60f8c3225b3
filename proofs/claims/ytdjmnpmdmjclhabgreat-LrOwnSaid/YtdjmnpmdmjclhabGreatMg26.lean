import Derived.Test.YtdjmnpmdmjclhabGreatMg08
import Derived.Test.YtdjmnpmdmjclhabGreatMg25
import Derived.Test.YtdjmnpmdmjclhabGreatMg17
import Derived.Test.YtdjmnpmdmjclhabGreatMg15
import Derived.Test.YtdjmnpmdmjclhabGreatMg13
namespace Go.Proofs.YtdjmnpmdmjclhabGreat
section
namespace Lo
open Df
section
variable {n:Nat} {es:List (Int×Int)} {s:St}
theorem mJ (hv:Si.Val n es) (nW:VF n es s):∀k,k≤es.length→∀(v:Nat) (L:List Int),(bS n es s k)[v]? =some L→∀x,x∈L↔∃b,b<k∧fr es s b=v∧x=at_ s.aJ b
 |0,_,v,L,hL,x=>by
  unfold bS at hL
  rw[aaI] at hL
  split at hL
  ·cases hL
   simp
  ·cases hL
 |k+1,hk,v,L,hL,x=>by
  have ih:=mJ hv nW k (by omega)
  have hlt:fr es s k<(bS n es s k).length:=by rw[dw];exact(bK hv nW (by omega)).1
  unfold bS at hL
  rw[aaq] at hL
  by_cases e:fr es s k=v
  ·rw[if_pos e,if_pos hlt] at hL
   have hL':=aak hL
   rw[←hL',GW]
   have aeT:(bS n es s k)[fr es s k]? =some ((bS n es s k).getD (fr es s k) []):=by
    rw[aai,aac hlt]
    rfl
   rw[ih (fr es s k) _ aeT x]
   constructor
   ·rintro(h1|⟨b,h1,h2,h3⟩)
    ·exact⟨k,by omega,e,h1⟩
    ·exact⟨b,by omega,by rw[h2,e],h3⟩
   ·rintro⟨b,h1,h2,h3⟩
    by_cases eb:b=k
    ·exact .inl (by rw[h3,eb])
    ·exact .inr ⟨b,by omega,by rw[h2,e],h3⟩
  ·rw[if_neg e] at hL
   rw[ih v L hL x]
   constructor
   ·rintro⟨b,h1,h2,h3⟩
    exact⟨b,by omega,h2,h3⟩
   ·rintro⟨b,h1,h2,h3⟩
    refine⟨b,?_,h2,h3⟩
    have:b≠k:=fun eb=>e (by rw[←eb];exact h2)
    omega
def FY (es:List (Int×Int)) (s:St) (x y:Int):Prop:=nest es s (x.toNat/2)<nest es s (y.toNat/2)∨(nest es s (x.toNat/2)=nest es s (y.toNat/2)∧x<y)
theorem eO (nW:VF n es s) {b:Nat} (hb:b<es.length):(at_ s.aJ b).toNat/2=b∧0≤at_ s.aJ b∧at_ s.aJ b<2*(es.length:Int):=by
 obtain⟨h1,h2,h3,h4⟩:=cO nW hb
 rw[h1,aaF]
 exact⟨h4,by omega,by omega⟩
theorem pI (hv:Si.Val n es) (nW:VF n es s):∀k,k≤es.length→∀L∈bS n es s k,List.Pairwise (FY es s) L
 |0,_,L,hL=>by
  unfold bS at hL
  rw[List.mem_replicate] at hL
  rw[hL.2]
  exact List.Pairwise.nil
 |k+1,hk,L,hL=>by
  have ih:=pI hv nW k (by omega)
  unfold bS at hL
  rcases adB hL with h1|h1
  ·exact ih L h1
  ·have hlt:fr es s k<(bS n es s k).length:=by rw[dw];exact(bK hv nW (by omega)).1
   have hmem:(bS n es s k).getD (fr es s k) []∈bS n es s k:=by
    rw[aai,aac hlt]
    exact aaX hlt
   have hp:=ih _ hmem
   have hh:=(yh hv nW k (by omega) _ hmem).1
   obtain⟨M,hM⟩:∃M,(bS n es s k).getD (fr es s k) []=M:=⟨_,rfl⟩
   rw[hM] at hp hh h1
   rw[h1]
   obtain⟨p,hpd⟩:∃p,(fun x:Int=>decide (nest es s k<nest es s (x.toNat/2)))=p:=⟨_,rfl⟩
   rw[hpd]
   have hpx:∀x,p x=true↔nest es s k<nest es s (x.toNat/2):=fun x=>by rw[←hpd];simp
   have hfs:=vD p M
   have iQ:=hp
   rw[←hfs,abN] at iQ
   obtain⟨p1,p2,p3⟩:=iQ
   obtain⟨k1,k2,_⟩:=eO nW (show k<es.length by omega)
   obtain⟨o1,o2,_,_⟩:=cO nW (show k<es.length by omega)
   have dH:∀x∈M,x<at_ s.aJ k:=fun x hx=>by
    obtain⟨b,hb,e⟩:=hh x hx
    obtain⟨q1,q2,_,_⟩:=cO nW (show b<es.length by omega)
    rw[e,q1,o1]
    omega
   have ad6:∀y∈snd p M,nest es s k<nest es s (y.toNat/2):=fun y hy=>by
    cases hs:snd p M with
    |nil=>rw[hs] at hy;simp at hy
    |cons z D=>
     have hz:=(hpx z).1 (GF p M z D hs)
     rw[hs] at hy p2
     rcases aaj.1 hy with rfl|hy
     ·exact hz
     ·rcases(aa4.1 p2).1 y hy with h|⟨h,_⟩
      ·omega
      ·omega
   unfold put
   rw[abN]
   refine⟨p1,aa4.2 ⟨fun y hy=> .inl (by rw[k1];exact ad6 y hy),p2⟩,fun x hx y hy=> ?_⟩
   have CX:¬nest es s k<nest es s (x.toNat/2):=fun h=>by
    have:=(hpx x).2 h
    rw[MZ p M x hx] at this
    cases this
   rcases aaj.1 hy with rfl|hy
   ·have hxM:x∈M:=by rw[←hfs];exact aaN _ hx
    have hlt2:=dH x hxM
    by_cases heq:nest es s (x.toNat/2)=nest es s k
    ·exact .inr ⟨by rw[k1];exact heq,hlt2⟩
    ·exact .inl (by rw[k1];omega)
   ·exact p3 x hx y hy
theorem Hu {x:Int}:¬FY es s x x:=by
 rintro(h|⟨_,h⟩)<;>omega
end
end Lo
end
section
open Go.RowKit Lt Pl
noncomputable def Wp.oe (c:Wp) (v:Nat):List Nat:=((Lo.bS c.n c.es c.s c.es.length)[v]?.getD []).map fun x=>x.toNat/2
section
variable {c:Wp} (hv:Si.Val c.n c.es) (h:Df.VF c.n c.es c.s)
include hv h
omit hv h in
theorem Wp.mV {e:Nat} (he:e<c.es.length):g c.lw e=Lo.low c.es c.s e:=by
 unfold g
 rw[show c.lw[e]? =some (Lo.low c.es c.s e) from gT he]
 rfl
theorem Wp.AA {v:Nat} {e:Nat}:e∈c.oe v↔e<c.es.length∧Lo.fr c.es c.s e=v:=by
 unfold Wp.oe
 cases hl:(Lo.bS c.n c.es c.s c.es.length)[v]? with
 |none=>
  rw[adC,Lo.dw] at hl
  constructor
  ·intro q;simp at q
  ·rintro⟨q1,q2⟩
   have:=(Lo.bK hv h q1).1
   omega
 |some l=>
  have hm:=Lo.mJ hv h c.es.length (aad _) v l hl
  rw[aa8,aa2]
  constructor
  ·rintro⟨x,hx,rfl⟩
   obtain⟨b,hb,hf,rfl⟩:=(hm x).1 hx
   rw[(Lo.eO h hb).1]
   exact⟨hb,hf⟩
  ·rintro⟨q1,q2⟩
   exact⟨Df.at_ c.s.aJ e,(hm _).2 ⟨e,q1,q2,rfl⟩,(Lo.eO h q1).1⟩
theorem Wp.AB {v:Nat} {l:List Int} (hl:(Lo.bS c.n c.es c.s c.es.length)[v]? =some l):(c.oe v).map (fun e=>Df.at_ c.s.aJ e)=l:=by
 have hm:=Lo.mJ hv h c.es.length (aad _) v l hl
 unfold Wp.oe
 rw[hl,aa8,List.map_map]
 conv=>rhs;rw[←List.map_id l]
 refine abT fun x hx=> ?_
 obtain⟨b,hb,hf,rfl⟩:=(hm x).1 hx
 show Df.at_ c.s.aJ ((Df.at_ c.s.aJ b).toNat/2)=_
 rw[(Lo.eO h hb).1]
 rfl
theorem Wp.rZ (v:Nat):List.Pairwise (fun e f=>Lo.nest c.es c.s e≤Lo.nest c.es c.s f∧e≠f) (c.oe v):=by
 unfold Wp.oe
 cases hl:(Lo.bS c.n c.es c.s c.es.length)[v]? with
 |none=>simp
 |some l=>
  have hm:=Lo.mJ hv h c.es.length (aad _) v l hl
  have hr:=Lo.pI hv h c.es.length (aad _) l (aaG hl)
  rw[aa8,List.pairwise_map]
  refine List.Pairwise.imp_of_mem ?_ hr
  intro x y hx hy hxy
  obtain⟨a,ha,_,rfl⟩:=(hm x).1 hx
  obtain⟨b,hb,_,rfl⟩:=(hm y).1 hy
  unfold Lo.FY at hxy
  rw[(Lo.eO h ha).1,(Lo.eO h hb).1] at hxy ⊢
  refine⟨?_,fun e=> ?_⟩
  ·rcases hxy with q|q
   ·omega
   ·omega
  ·subst e
   rcases hxy with q|q
   ·omega
   ·exact absurd q.2 (by omega)
theorem Wp.adp:eI (Lr.df hv h) c.lw:=by
 refine⟨fE _ _,fun e he=> ?_,fun e b he hb=> ?_,fun e he hl=> ?_⟩
 ·rw[Wp.mV he]
  exact(Lo.least_le _ _).1
 ·rw[Wp.mV he]
  have:=(Lr.uR hv h he).1 hb
  exact(Lo.least_le _ _).2 _ (aa2.2 ⟨b,this,rfl⟩)
 ·rw[Wp.mV he] at hl ⊢
  rcases Lo.Hj (es:=c.es) (s:=c.s) e with q|q
  ·rw[q] at hl
   exact absurd hl (Int.lt_irrefl _)
  ·obtain⟨b,hb,hb2⟩:=aa2.1 q
   exact⟨b,(Lr.uR hv h he).2 hb,hb2⟩
theorem Wp.CR {e f:Nat} (he:e<c.es.length) (hf:f<c.es.length) (hn:Lo.nest c.es c.s e≤Lo.nest c.es c.s f):FX (Lr.df hv h) c.lw e f:=by
 unfold FX
 rw[Wp.mV he,Wp.mV hf]
 have hle:Lo.low c.es c.s e≤Lo.low c.es c.s f:=by
  unfold Lo.nest at hn
  split at hn<;>split at hn<;>omega
 refine⟨hle,fun heq=> ?_⟩
 rintro⟨x,hx,hlx⟩
 have hx':=(Lr.uR hv h he).1 hx
 obtain⟨xm,xt,xh⟩:=Lo.qG hv h he hx'
 rw[Wp.mV xm,Lo.sk hv h xm xt] at hlx
 have h2:Lo.cz c.es c.s e≤Lo.ht c.es c.s x:=(Lo.least_le _ _).2 _ (abe.2 ⟨aa2.2 ⟨x,hx',rfl⟩,by simpa using hlx⟩)
 have h3:Lo.low c.es c.s e<Lo.cz c.es c.s e:=by
  rcases Lo.oD (es:=c.es) (s:=c.s) e with q|q
  ·rw[q];omega
  ·exact q.2
 have h4:Lo.low c.es c.s f<Lo.cz c.es c.s f∧Lo.cz c.es c.s f<Lo.hf c.es c.s f:=by
  unfold Lo.nest at hn
  rw[if_pos ⟨h3,by omega⟩] at hn
  split at hn
  ·assumption
  ·omega
 rcases Lo.oD (es:=c.es) (s:=c.s) f with q|⟨q,q2⟩
 ·rw[q] at h4
  exact absurd h4.2 (Int.lt_irrefl _)
 ·obtain⟨b,hb,hb2⟩:=aa2.1 q
  obtain⟨bm,bt,bh⟩:=Lo.qG hv h hf hb
  refine⟨b,(Lr.uR hv h hf).2 hb,?_⟩
  rw[Wp.mV bm,Lo.sk hv h bm bt,hb2]
  exact q2
theorem Wp.BN:dM (Lr.df hv h) c.env c.oe (fun e=>Df.at_ c.s.aJ e):=by
 have hl:=h.lens
 refine⟨Wp.adp hv h,fun e he=>(Lo.eO h he).2.1,fun e he=> ?_,fun e he=> ?_,fun e he=> ?_,fun v dh=> ?_,fun v e=>Wp.AA hv h,fun v=> ?_,fun v=> ?_,fun v dh=> ?_,fun v dh=> ?_⟩
 ·obtain⟨h1,-,-,h4⟩:=Lo.cO h he
  show(Df.at_ c.s.aJ e).tdiv 2=_
  rw[h1]
  exact(eC h4).1
 ·obtain⟨h1,-,h3,h4⟩:=Lo.cO h he
  show NA c.env (Df.at_ c.s.aJ e)=_
  rw[h1]
  exact(mD hv h3).2
 ·obtain⟨h1,-,h3,h4⟩:=Lo.cO h he
  show Lh c.env (Df.at_ c.s.aJ e)=_
  rw[h1]
  exact(mD hv h3).1
 ·obtain⟨l,pT⟩:∃l,(Lo.bS c.n c.es c.s c.es.length)[v]? =some l:=⟨_,aac (by rw[Lo.dw];exact dh)⟩
  rw[Wp.AB hv h pT]
  exact pT
 ·exact(Wp.rZ hv h v).imp fun q=>q.2
 ·refine List.Pairwise.imp_of_mem ?_ (Wp.rZ hv h v)
  intro e f he hf q
  exact Wp.CR hv h ((Wp.AA hv h).1 he).1 ((Wp.AA hv h).1 hf).1 q.1
 ·exact at_at (by show _<c.s.az.length;rw[hl.2.1];exact dh)
 ·have hp:bz c.env.par (v:Int)=some (Df.at_ c.s.par v):=at_at (by show _<c.s.par.length;rw[hl.1];exact dh)
  rw[hp]
  rcases h.hang v dh with ⟨q,-⟩|⟨u,hu,q1,q2,q3,-⟩
  ·refine .inr ⟨fun a am ta ga=> ?_,by rw[q]⟩
   have Ac:Lo.tree c.es c.s a=true:=ta
   have Lf:Lo.bJ c.es c.s a=v:=ga
   unfold Lo.tree at Ac
   rw[Lf,decide_eq_true_iff,q] at Ac
   have:=(Lo.eO h am).2.1
   omega
  ·have am:u/2<c.es.length:=by omega
   have ho:Lo.oh c.s (u/2)=u:=by
    unfold Lo.oh
    rw[q3]
    simp
   have hg:Lo.bJ c.es c.s (u/2)=v:=by
    unfold Lo.bJ
    rw[ho]
    exact q2
   refine .inl ⟨u/2,am,?_,hg,by rw[q1,q3]⟩
   show Lo.tree c.es c.s (u/2)=true
   unfold Lo.tree
   rw[hg,q1,q3]
   simp
end
end
section
open Go.RowKit Lt
section
variable {c:Wp} {p j:Nat} {pa:Option Addr} {pc:Nat} {ps:List Int} {W:World}
def oO (c:Wp) (ao:Option Addr) (l:List Nat) (W:World):Prop:=∀V,Below W.heap.size W V→∀k (hk:k<l.length),∃b,ao=some ⟨b,0,none⟩∧V.cell? ⟨b,k,none⟩=some (.int .i64 ((Lo.oh c.s l[k]:Nat):Int))
theorem oO.later {ao:Option Addr} {l:List Nat} {V:World} (h:oO c ao l W) (hb:Below W.heap.size W V):oO c ao l V:=fun X hX=>h X (hb.trans (hX.mono hb.size))
set_option maxRecDepth 100000 in
set_option maxHeartbeats 4000000 in
theorem Ht (h:mY c p j pa pc ps W) {l:List Nat} (xk:∀e∈l,e<c.es.length) {ao:Option Addr} {ca:Nat} (hrow:oO c ao l W) (h2:1<l.length) (i:Nat):
 Calls Tryz.prog 71 #[.pointer (some ⟨j,0,none⟩),.slice ao l.length ca,.int .i64 (i:Int)] W fun e w'=>e= .returned (.int .i64 (gj (Lo.low c.es c.s) l i))∧Below W.heap.size W w':=by
 have cj:=h.wk.val.few
 by_cases h0:i=0
 ·subst h0
  have cU:1<l.length:=by omega
  obtain⟨e,he⟩:∃e,l[1]=e:=⟨_,rfl⟩
  have hem:e<c.es.length:=by rw[←he];exact xk _ (aaX cU)
  obtain⟨o1,-,o3,o4⟩:=Lo.cO h.wk.vf hem
  obtain⟨q,hq⟩:∃q,Lo.oh c.s e=q:=⟨_,rfl⟩
  rw[hq] at o4
  have Vh:=(eC o4).1
  obtain⟨lb,lc,xD,dH⟩:=h.wk.DX hem
  obtain⟨b,eb,-⟩:=hrow W (aae _ _) 1 cU
  have y0:∀D:LW W,D.val.cell? ⟨j,0,none⟩=some (.pointer (some ⟨p,0,none⟩)):=fun D=>(h.later D.h).cells.1
  have y1:∀D:LW W,D.val.cell? ⟨p,6,none⟩=some (.slice (some ⟨lb,0,none⟩) c.es.length lc):=fun D=>by
   rw[←xD]
   exact(h.later D.h).wk.c6
  have y2:∀D:LW W,D.val.cell? ⟨b,1,none⟩=some (.int .i64 (q:Int)):=fun D=>by
   obtain⟨b',e1,e2⟩:=hrow D.val D.h 1 cU
   rw[eb] at e1
   cases e1
   rw[he,hq] at e2
   exact e2
  have y3:∀D:LW W,D.val.cell? ⟨lb,e,none⟩=some (.int .i64 (Lo.low c.es c.s e)):=fun D=>dH D.val D.h e hem
  have hne:=LW.any W
  have HO:Hid (gj (Lo.low c.es c.s) l 0=Lo.low c.es c.s e):=by
   show _=_
   unfold gj
   rw[if_pos rfl,aac cU,aa8,he]
  obtain⟨z,hz⟩:∃z,Lo.low c.es c.s e=z:=⟨_,rfl⟩
  rw[hz] at y3 HO
  have e0:(0:Int)≤(e:Int):=by omega
  have e1:(e:Int)<(c.es.length:Int):=by omega
  have l1:((1:Nat):Int)<(l.length:Int):=by omega
  have Kw:(1:Int)<(l.length:Int):=by omega
  have QB:IntKind.i64.wrap (e:Int)=(e:Int):=by rw[aa1];omega
  obtain⟨L,hL⟩:∃L,l.length=L:=⟨_,rfl⟩
  rw[hL] at l1 Kw ⊢
  rw[eb]
  rw[HO.out]
  clear h xk hrow h2 cU he o1 o3 o4 hq xD dH eb hz hL hem HO
  go_enter Tryz.func71,Tryz.ntmps71
  go_wp2_with fail
  refine aB (by kernel_rfl) (by kernel_rfl) ?_
  repeat (go_big_quiet_step (fail))
  refine wpQuiet_nil ?_
  rintro _ ⟨D,rfl⟩
  have HB:=Nu.hid D.h
  clear y0 y1 y2 y3 hne
  go_wp2_with fail
  go_ret
  exact⟨rfl,HB.out⟩
 ·have Ou:((i:Int)==0)=false:=by simp;omega
  have cU:0<l.length:=by omega
  obtain⟨e,he⟩:∃e,l[0]=e:=⟨_,rfl⟩
  have hem:e<c.es.length:=by rw[←he];exact xk _ (aaX cU)
  obtain⟨o1,-,o3,o4⟩:=Lo.cO h.wk.vf hem
  obtain⟨q,hq⟩:∃q,Lo.oh c.s e=q:=⟨_,rfl⟩
  rw[hq] at o4
  have Vh:=(eC o4).1
  obtain⟨lb,lc,xD,dH⟩:=h.wk.DX hem
  obtain⟨b,eb,-⟩:=hrow W (aae _ _) 0 cU
  have y0:∀D:LW W,D.val.cell? ⟨j,0,none⟩=some (.pointer (some ⟨p,0,none⟩)):=fun D=>(h.later D.h).cells.1
  have y1:∀D:LW W,D.val.cell? ⟨p,6,none⟩=some (.slice (some ⟨lb,0,none⟩) c.es.length lc):=fun D=>by
   rw[←xD]
   exact(h.later D.h).wk.c6
  have y2:∀D:LW W,D.val.cell? ⟨b,0,none⟩=some (.int .i64 (q:Int)):=fun D=>by
   obtain⟨b',e1,e2⟩:=hrow D.val D.h 0 cU
   rw[eb] at e1
   cases e1
   rw[he,hq] at e2
   exact e2
  have y3:∀D:LW W,D.val.cell? ⟨lb,e,none⟩=some (.int .i64 (Lo.low c.es c.s e)):=fun D=>dH D.val D.h e hem
  have hne:=LW.any W
  have HO:Hid (gj (Lo.low c.es c.s) l i=Lo.low c.es c.s e):=by
   show _=_
   unfold gj
   rw[if_neg h0,aac cU,aa8,he]
  obtain⟨z,hz⟩:∃z,Lo.low c.es c.s e=z:=⟨_,rfl⟩
  rw[hz] at y3 HO
  have e0:(0:Int)≤(e:Int):=by omega
  have e1:(e:Int)<(c.es.length:Int):=by omega
  have l1:((0:Nat):Int)<(l.length:Int):=by omega
  have Kw:(0:Int)<(l.length:Int):=by omega
  have QB:IntKind.i64.wrap (e:Int)=(e:Int):=by rw[aa1];omega
  obtain⟨L,hL⟩:∃L,l.length=L:=⟨_,rfl⟩
  rw[hL] at l1 Kw ⊢
  rw[eb]
  rw[HO.out]
  clear h xk hrow h2 cU he o1 o3 o4 hq xD dH eb hz hL hem HO
  go_enter Tryz.func71,Tryz.ntmps71
  go_wp2_with fail
  refine aB (by kernel_rfl) (by kernel_rfl) ?_
  repeat (go_big_quiet_step (fail))
  refine wpQuiet_nil ?_
  rintro _ ⟨D,rfl⟩
  have HB:=Nu.hid D.h
  clear y0 y1 y2 y3 hne
  go_wp2_with fail
  go_ret
  exact⟨rfl,HB.out⟩
end
end
end Go.Proofs.YtdjmnpmdmjclhabGreat
