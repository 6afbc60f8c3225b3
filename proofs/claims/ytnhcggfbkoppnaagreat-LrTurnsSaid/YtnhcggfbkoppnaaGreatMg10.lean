import Derived.Test.YtnhcggfbkoppnaaGreatMg09
import Derived.BigRegion
import Derived.Test.YtnhcggfbkoppnaaGreatMg05
import Derived.Deep.RegionHeld3
import Derived.Deep.CutBlock
import Derived.Deep.CutRange
namespace Go.Proofs.YtnhcggfbkoppnaaGreat
section
open Go.RowKit Go.Sort
namespace Df
section
variable {n r:Nat} {es:List (Int×Int)} {s s':St} {h u v:Nat}
theorem Kr (b:Bd n es r s) (hval:Si.Val n es) (hl:h<2*es.length) (hw:s.dir (h/2)= -1) (u:Nat):(s.go es h).height u=if u=Cs.to es h then s.height (Cs.fr es h)+1 else s.height u:=
 bM (b.mark hl hw) (Cs.bH hval hl).2 _ _ u
theorem R.stays {k:Nat} {L:List Nat} (hval:Si.Val n es) (h:R es k s L s'):(∀x∈L,x<2*es.length)→Bd n es r s→s.height u≠-1→s'.height u=s.height u:=by
 induction h with
 |nil s=>exact fun _ _ _=>rfl
 |old hw hr ih=>exact fun hl b hu=>ih (fun x hx=>hl x (List.mem_cons_of_mem _ hx)) b hu
 |back hw hv hr ih=>exact fun hl b hu=>ih (fun x hx=>hl x (List.mem_cons_of_mem _ hx)) (b.mark (hl _ List.mem_cons_self) hw) hu
 | @tree j k s s1 s' x L hw hv h1 h2 ih1 ih2=>
   intro hl b hu
   have hh:=hl _ List.mem_cons_self
   have b1:=b.go hval hh hw
   have e:(s.go es x).height u=s.height u:=by
    rw[Kr b hval hh hw,if_neg]
    intro e
    rw[e] at hu
    exact hu hv
   have h3:=ih1 e8 b1 (by rw[e];exact hu)
   have h4:=ih2 (fun y hy=>hl y (List.mem_cons_of_mem _ hy)) (h1.bd hval e8 b1) (by rw[h3,e];exact hu)
   rw[h4,h3,e]
theorem Gd (b:Bd n es r s) (hv:v<n) (hh:s.height v≠-1):(iO s)[v]? =some (s.height v):=by
 have hl:v<s.ay.length:=by rw[b.lh];exact hv
 have e:s.ay[v]=s.height v:=by
  unfold St.height
  rw[List.getD_eq_getElem?_getD,List.getElem?_eq_getElem hl]
  rfl
 unfold iO
 rw[List.getElem?_map,List.getElem?_eq_getElem hl,e,Option.map_some,if_neg hh]
theorem vZ (b:Bd n es r s) (hv:v<n):(gU s)[v]? =some (s.height v != -1):=by
 have hl:v<s.ay.length:=by rw[b.lh];exact hv
 have e:s.ay[v]=s.height v:=by
  unfold St.height
  rw[List.getD_eq_getElem?_getD,List.getElem?_eq_getElem hl]
  rfl
 unfold gU
 rw[List.getElem?_map,List.getElem?_eq_getElem hl,e]
 rfl
theorem wq (s:St):(iO s).length=s.ay.length:=by simp[iO]
theorem zS (s:St):(gU s).length=s.ay.length:=by simp[gU]
theorem xF (s:St) (v:Nat) (x y:Int) (hy:y≠-1):iO (s.reach v x y)=(iO s).set v y:=by
 unfold iO St.reach
 dsimp only
 rw[List.map_set,if_neg hy]
theorem uG (s:St) (v:Nat) (x y:Int) (hy:y≠-1):gU (s.reach v x y)=(gU s).set v true:=by
 unfold gU St.reach
 dsimp only
 rw[List.map_set]
 congr 1
 simpa using hy
end
end Df
def Vl (w0:World) (F gp gh gr gs:Nat) (ov:Value) (n m:Nat) (s':Df.St) (w:World) (e:Ending) (w':World):Prop:=
 e= .returned (.tuple #[])∧∃dS,RW w0 w' F gp gh gr gs dS n m s'.par (Df.iO s') s'.ord s'.aJ (Df.gU s')∧(dS.ownBlock=ov.ownBlock∨∃g,dS.ownBlock=some g∧w.heap.size≤g)∧aF (BL F gp gh gr gs ov) w w'
structure BO (w0 w:World) (F gp gh gr gs:Nat) (ov:Value) (n r k v i:Nat) (es:List (Int×Int)) (s':Df.St) (ao:Option Addr) (ca:Nat) (wr:World) (s:Df.St) (kk:Nat) (dS:Value):Prop where
 run:Df.R es kk s ((Cs.out es v (2*es.length)).drop i) s'
 few:kk≤k
 bd:Df.Bd n es r s
 here:s.height v≠-1
 sZ:RW w0 wr F gp gh gr gs dS n es.length s.par (Df.iO s) s.ord s.aJ (Df.gU s)
 box:wr.heap[w.heap.size]? =some (.cells #[.int .i64 (n:Int),.slice ao es.length ca] 24 (0,0))
 far:dS.ownBlock≠some w.heap.size
 wrote:aF (BL F gp gh gr gs ov) w wr
 at_:dS.ownBlock=ov.ownBlock∨∃g,dS.ownBlock=some g∧w.heap.size≤g
theorem BL.old {w0 w:World} {F gp gh gr gs:Nat} {ov:Value} {n m:Nat} {P H O R:List Int} {S:List Bool} (h:RW w0 w F gp gh gr gs ov n m P H O R S) {b:Nat} (hb:BL F gp gh gr gs ov b):b<w.heap.size:=by
 rcases hb with rfl|rfl|rfl|rfl|rfl|hb
 ·exact h.lt
 ·exact h.ip.lt
 ·exact h.ih.lt
 ·exact h.ir.lt
 ·exact h.is.lt
 ·exact(h.ow.lt hb).2
theorem Yz {h jh:Nat} (e:h/2=jh):(h:Int).tdiv 2=(jh:Int):=by rw[Int.tdiv_eq_ediv_of_nonneg (by omega)];omega
section
variable {w0:World} {F gp gh gr gs:Nat} {n r:Nat} {es:List (Int×Int)} {ao:Option Addr} {ca G:Nat} {vs:List Value}
set_option maxRecDepth 100000 in
set_option maxHeartbeats 16000000 in
theorem Gb (hE:aL w0 ao es) (hV:Si.Val n es) (hR:iN w0 G vs es (2*es.length)) (hvl:vs.length=n) (hr:r≤1048576):
 ∀(k:Nat) (s1 s':Df.St) (v:Nat) (ov:Value) (O:List Int) (S:List Bool) (w:World),Df.R es k s1 (Cs.out es v (2*es.length)) s'→Df.Bd n es r s1→v<n→s1.height v≠-1→s1.ord=O++[(v:Int)]→S.set v true=Df.gU s1→S.length=n→
  RW w0 w F gp gh gr gs ov n es.length s1.par (Df.iO s1) O s1.aJ S→
  Calls Tryz.prog 33 #[.agg #[.int .i64 (n:Int),.slice ao es.length ca],.slice (some ⟨G,0,none⟩) n n,.pointer (some ⟨F,0,none⟩),.slice (some ⟨gs,0,none⟩) n n,.int .i64 (v:Int)] w (Vl w0 F gp gh gr gs ov n es.length s' w):=by
 intro k
 induction k using Nat.strongRecOn with
 |_ k ih=>
 intro s1 s' v ov O S w hrun b hv hh hO hS KB hW
 obtain⟨i0,hi,hz0,hz1,hz2⟩:=info_parts Tryz.bS
 have cq:=hV.few
 have hhi:=hV.hi
 have nu:=b.hr
 have pO:O.length≤17592186044000:=by
  rw[hO] at nu
  simp at nu
  omega
 obtain⟨W,sr⟩:∃W,W=w.alloc (.cells #[.int .i64 (n:Int),.slice ao es.length ca] 24):=⟨_,rfl⟩
 have dU:Below w.heap.size w W:=by rw[sr];exact(Below.refl _ _).alloc (Nat.le_refl _) _
 have Wx:W.heap.size=w.heap.size+1:=by rw[sr];simp
 have hgW:W.heap[w.heap.size]? =some (.cells #[.int .i64 (n:Int),.slice ao es.length ca] 24 (0,0)):=by rw[sr];exact heap_alloc_new w _
 have h1:=hW.later dU
 have h2:=h1.O6 v true
 rw[hS] at h2
 obtain⟨y0,hy0⟩:∃y,S[v]? =some y:=⟨_,List.getElem?_eq_getElem (by omega)⟩
 have d1:=h1.is.cell hy0
 have f1:=h1.is.free v
 obtain⟨W2,hW2⟩:∃W2,W2=W.setCell ⟨gs,v,none⟩ (.bool true):=⟨_,rfl⟩
 rw[←hW2] at h2
 obtain⟨-,-,q2,-,-⟩:=h2.cells
 have adb:=h1.is.lt
 have xP:aF (BL F gp gh gr gs ov) w W2:=by
  rw[hW2]
  exact((aF.refl _ w).later dU).setCell (.inr (.inr (.inr (.inr (.inl rfl))))) _
 have Qx:∀b,BL F gp gh gr gs ov b→b<w.heap.size:=fun b hb=>BL.old hW hb
 have hg2:W2.heap[w.heap.size]? =some (.cells #[.int .i64 (n:Int),.slice ao es.length ca] 24 (0,0)):=by
  rw[hW2,cM (fun e=>by have:=Qx gs (.inr (.inr (.inr (.inr (.inl rfl)))));omega)]
  exact hgW
 have AE:W2.heap.size=w.heap.size+1:=by rw[hW2];simpa using Wx
 have e0:(0:Int)≤(v:Int):=by omega
 have e1:(v:Int)<(n:Int):=by omega
 have hrow:W2.ownsRow w0.heap.size 3 1 ov O.length (O.map (Value.int .i64)):=h2.ow
 have lN:=Nu.hid hrow
 have H2:=Nu.hid h2
 have CW:=Nu.hid sr
 have kR:=Nu.hid hW2
 have XK:=Nu.hid xP
 have kT:=Nu.hid hg2
 have sO:=Nu.hid Qx
 have hB2:=h2.aI.size
 have MI:=Nu.hid hrun
 have I1:=Nu.hid b
 have HO:=Nu.hid hO
 have HH:=Nu.hid hh
 have HE:=Nu.hid hE
 have HV:=Nu.hid hV
 have HR:=Nu.hid hR
 have HVL:=Nu.hid hvl
 have HIH:=Nu.hid ih
 have HNF:Hid (ov.ownBlock≠some w.heap.size):=fun e=>by have:=(hW.ow.lt e).2;omega
 rw[sr] at d1 f1
 rw[hW2,sr] at q2
 clear dU hgW h1 h2 hS KB hW hrow sr hW2 xP hg2 Qx hrun b hO hh hE hV hR hvl ih nu hy0 adb Wx
 go_enter Tryz.func33,Tryz.ntmps33
 go_wp2_with (at_builtin;rw[←CW.out,←kR.out];refine Hid.out ?_)
 refine Nu.hid ?_
 have PX:(⟨w.heap.size+1,0,none⟩:Addr)=⟨W2.heap.size,0,none⟩:=by rw[AE]
 refine wpList_append_own_at _ rfl _ _ 27 rfl w0.heap.size 3 i0 (.int .i64 0) 1 8 Tryz.underlying27 hi hz0 hz1 hz2 rfl (by decide) ov _ _ rfl (World.ownsRow.alloc lN.out _) ⟨w.heap.size+1,0,none⟩ 1 1 [.int .i64 (v:Int)] rfl rfl (by rw[PX];exact cell_one_new _ _ _) (by simp[Value.oneCell']) (by unfold maxLen;omega) (by omega) (by simp;omega) ?_
 intro Pk w3 hown hg _ hat
 have hz:aS w3 w0.heap.size Pk (O++[(v:Int)]):=by
  unfold aS
  rw[List.length_append,List.map_append]
  exact hown
 have hat':Pk.ownBlock=ov.ownBlock∨Pk.ownBlock=some (W2.heap.size+1):=by simpa using hat
 obtain⟨h3,c5,f5,L0⟩:=H2.out.ED hz hg hat'
 rw[←HO.out] at h3
 obtain⟨g3,jT,hv3⟩:=iy hown
 subst hv3
 obtain⟨w4,hw4⟩:∃w4,w4=w3.setCell ⟨F,2,none⟩ (.slice (some ⟨g3,0,none⟩) (O.length+1) jT):=⟨_,rfl⟩
 rw[←hw4] at h3 L0
 have QY:(Value.slice (some ⟨g3,0,none⟩) (O.length+1) jT).ownBlock≠some w.heap.size:=by
  rcases hat' with e|e
  ·rw[e];exact HNF.out
  ·rw[e];intro e2;have:=Option.some.inj e2;omega
 have Qz:BO w0 w F gp gh gr gs ov n r k v 0 es s' ao ca w4 s1 k (.slice (some ⟨g3,0,none⟩) (O.length+1) jT):=by
  refine⟨MI.out,Nat.le_refl _,I1.out,HH.out,h3,?_,QY,XK.out.trans L0,?_⟩
  ·exact(L0.block w.heap.size (by omega) (fun hb=>by have:=sO.out _ hb;omega)).trans kT.out
  ·rcases hat' with e|e
   ·exact .inl e
   ·exact .inr ⟨_,e,by omega⟩
 have aa2:=Nu.hid Qz
 have nU:=Nu.hid hw4
 clear hown hg hat hat' hz h3 L0 hw4 Qz QY d1 f1 q2 lN H2 CW kR kT MI XK HO
 go_wp2
 rw[←nU.out]
 clear c5 f5
 obtain⟨L,hL⟩:∃L,Cs.out es v (2*es.length)=L:=⟨_,rfl⟩
 have Z5:Cs.jB es v (2*es.length)=L.map fun i:Nat=>(i:Int):=by unfold Cs.jB;rw[hL]
 obtain⟨lo,ajM,JX,JS⟩:=HR.out.look HVL.out hv
 rw[Z5,List.length_map] at JX
 rw[Z5] at JS
 have hLl:L.length≤8388608:=by rw[←hL];have:=Cs.kJ (es:=es) (v:=v) (2*es.length);omega
 have aee:=HR.out.lt
 have HL:=Nu.hid hL
 have aax:=Nu.hid JX
 have aaw:=Nu.hid JS
 clear hL Z5 JX JS
 go_loopw [10] (fun c wr=>∃(i:Nat) (s:Df.St) (kk:Nat) (dS:Value),i≤L.length∧c= .int .i64 i∧BO w0 w F gp gh gr gs ov n r k v i es s' ao ca wr s kk dS) (fun c _=>L.length-(intOf c).toNat)
 case atStart=>exact⟨0,s1,k,_,Nat.zero_le _,rfl,aa2.out⟩
 case round=>
  obtain⟨i,s,kk,dS,hiL,rfl,hl⟩:=hrel
  have dg:=hl.sZ.aI
  have c0:=(dg.cell (p:=⟨G,v,none⟩) aee).trans aax.out
  obtain⟨x0,x1,-⟩:=az hl.box
  by_cases hlt:i<L.length
  ·have oA:(i:Int)<(L.length:Int):=by omega
   have hk0:(0:Int)≤(i:Int):=by omega
   obtain⟨h,E5⟩:∃h,L[i]? =some h:=⟨_,List.getElem?_eq_getElem hlt⟩
   obtain⟨hh,hfr,-⟩:=Cs.nr (es:=es) (v:=v) (k:=2*es.length) (j:=i) (i:=h) (by rw[HL.out];exact E5)
   obtain⟨b,o,rfl,d0⟩:=aaw.out i (h:Int) (by rw[List.getElem?_map,E5];rfl)
   have qT:L.drop i=h::L.drop (i+1):=by
    obtain⟨h1,h2⟩:=List.getElem?_eq_some_iff.1 E5
    rw[List.drop_eq_getElem_cons h1,h2]
   have hrun:=hl.run
   rw[HL.out,qT] at hrun
   have d1:=(dg.cell (p:=⟨b,o+i,none⟩) (block_lt_of_cell d0)).trans d0
   obtain⟨jh,mH⟩:∃jh,h/2=jh:=⟨_,rfl⟩
   have wH:=Yz mH
   have AD:(h:Int)/2=(jh:Int):=by omega
   have j0:(0:Int)≤(jh:Int):=by omega
   have j1:(jh:Int)<(es.length:Int):=by omega
   have j2:(0:Int)≤(h:Int):=by omega
   have Qo:=hl.bd.lo
   have d3:=hl.sZ.ir.cell (cP (-1) (by omega:jh<s.aJ.length))
   have A6:s.aJ.getD jh (-1)=s.dir (h/2):=by rw[mH]
   rw[A6] at d3
   obtain⟨q0,q1,q2,q3,-⟩:=hl.sZ.cells
   have ht:=(Cs.bH HV.out hh).2
   have Hv:=hl.bd.ho jh (by omega)
   have Mn:s.dir jh=s.dir (h/2):=by rw[mH]
   rw[Mn] at Hv
   have IX:=Nu.hid hl
   cases hrun with
   | @old k1 _ _ _ _ hw hr'=>
     have hge:(0:Int)≤s.dir (h/2):=by omega
     obtain⟨y,hy⟩:∃y,s.dir (h/2)=y:=⟨_,rfl⟩
     rw[hy] at hge d3
     have kA:Hid (BO w0 w F gp gh gr gs ov n r k v (i+1) es s' ao ca wr s k1 dS):=⟨by rw[HL.out];exact hr',by have:=hl.few;omega,hl.bd,hl.here,hl.sZ,hl.box,hl.far,hl.wrote,hl.at_⟩
     clear hl hr' hw hy A6 Hv Mn dg E5 qT d0 Qo
     go_wp2
     go_roundw
     case rel=>exact⟨i+1,s,_,dS,by omega,by go_num,kA.out⟩
     case measure=>simp[intOf];omega
   | @back k1 _ _ _ _ hw hv' hr'=>
     have hm:s.aJ.set jh (h:Int)=(s.mark h).aJ:=by unfold Df.St.mark;rw[mH]
     have h5:=hl.sZ.rL jh (h:Int)
     rw[hm] at h5
     have f4:=hl.sZ.ir.free jh
     have qj:aF (BL F gp gh gr gs ov) w (wr.setCell ⟨gr,jh,none⟩ (.int .i64 (h:Int))):=hl.wrote.setCell (.inr (.inr (.inr (.inl rfl)))) _
     have uU:(wr.setCell ⟨gr,jh,none⟩ (.int .i64 (h:Int))).heap[w.heap.size]? =some (.cells #[.int .i64 (n:Int),.slice ao es.length ca] 24 (0,0)):=(cM (fun e=>by have:=sO.out gr (.inr (.inr (.inr (.inl rfl))));omega) _).trans hl.box
     obtain⟨w5,uR⟩:∃w5,w5=wr.setCell ⟨gr,jh,none⟩ (.int .i64 (h:Int)):=⟨_,rfl⟩
     rw[←uR] at h5 qj uU
     have hto:=Dq n ao ca es h w5 (HE.out.later h5.aI) HV.out hh
     obtain⟨x0,x1,-⟩:=az uU
     obtain⟨t,Cy⟩:∃t,Cs.to es h=t:=⟨_,rfl⟩
     rw[Cy] at hto ht hv'
     have lX:=hl.bd.mark hh hw
     have t0:(0:Int)≤(t:Int):=by omega
     have t1:(t:Int)<(n:Int):=by omega
     rw[hw] at d3
     have jx:=Nu.hid hto
     have H5:=Nu.hid h5
     have yM:=Nu.hid qj
     have vK:=Nu.hid uU
     have Sw:=Nu.hid uR
     rw[uR] at x0 x1
     have lV:=Df.vZ lX ht
     have EU:((s.mark h).height t != -1)=true:=by
      show(s.height t != -1)=true
      simpa using hv'
     rw[EU] at lV
     have kA:Hid (∀w6,Below w5.heap.size w5 w6→BO w0 w F gp gh gr gs ov n r k v (i+1) es s' ao ca w6 (s.mark h) k1 dS):=fun w6 cg=>⟨by rw[HL.out];exact hr',by have:=hl.few;omega,lX,hl.here,H5.out.later cg,(cg.block w.heap.size (lt_of_block vK.out)).trans vK.out,hl.far,yM.out.later cg,hl.at_⟩
     have Fz:Hid (∀w6,Below w5.heap.size w5 w6→w6.cell? ⟨gs,t,none⟩=some (.bool true)):=fun w6 cg=>(H5.out.later cg).is.cell lV
     clear hl hr' hw hv' A6 Hv Mn dg E5 qT d0 Qo h5 qj uU uR hto hm lX lV EU Cy
     go_wp2_with (go_at_call 35;rw[←Sw.out];refine jx.out.mono ?_;rintro e w6 ⟨rfl,cg⟩;have z6:=Fz.out w6 cg;have HL6:=Nu.hid (kA.out w6 cg);clear cg)
     go_roundw
     case rel=>exact⟨i+1,_,_,dS,by omega,by go_num,HL6.out⟩
     case measure=>simp[intOf];omega
   | @tree j1 k1 _ s2 _ _ _ hw hv' hr1 hr2=>
     have hm:s.aJ.set jh (h:Int)=(s.mark h).aJ:=by unfold Df.St.mark;rw[mH]
     have h5:=hl.sZ.rL jh (h:Int)
     rw[hm] at h5
     have f4:=hl.sZ.ir.free jh
     have qj:aF (BL F gp gh gr gs ov) w (wr.setCell ⟨gr,jh,none⟩ (.int .i64 (h:Int))):=hl.wrote.setCell (.inr (.inr (.inr (.inl rfl)))) _
     have uU:(wr.setCell ⟨gr,jh,none⟩ (.int .i64 (h:Int))).heap[w.heap.size]? =some (.cells #[.int .i64 (n:Int),.slice ao es.length ca] 24 (0,0)):=(cM (fun e=>by have:=sO.out gr (.inr (.inr (.inr (.inl rfl))));omega) _).trans hl.box
     obtain⟨w5,uR⟩:∃w5,w5=wr.setCell ⟨gr,jh,none⟩ (.int .i64 (h:Int)):=⟨_,rfl⟩
     rw[←uR] at h5 qj uU
     have hto:=Dq n ao ca es h w5 (HE.out.later h5.aI) HV.out hh
     obtain⟨x0,x1,-⟩:=az uU
     obtain⟨t,Cy⟩:∃t,Cs.to es h=t:=⟨_,rfl⟩
     rw[Cy] at hto ht hv'
     have lX:=hl.bd.mark hh hw
     have t0:(0:Int)≤(t:Int):=by omega
     have t1:(t:Int)<(n:Int):=by omega
     rw[hw] at d3
     have jx:=Nu.hid hto
     have H5:=Nu.hid h5
     have yM:=Nu.hid qj
     have vK:=Nu.hid uU
     have Sw:=Nu.hid uR
     rw[uR] at x0 x1
     have lV:=Df.vZ lX ht
     have EU:((s.mark h).height t != -1)=false:=by
      show(s.height t != -1)=false
      simpa using hv'
     rw[EU] at lV
     have Fz:Hid (∀w6,Below w5.heap.size w5 w6→w6.cell? ⟨gs,t,none⟩=some (.bool false)):=fun w6 cg=>(H5.out.later cg).is.cell lV
     have hhv:=hl.bd.hh v hv
     have A0:=hl.here
     obtain⟨x,hx⟩:∃x,s.height v=x:=⟨_,rfl⟩
     rw[hx] at hhv A0
     have hgo:s.go es h=(s.mark h).reach t h (x+1):=by unfold Df.St.go;rw[Cy,hfr,hx]
     rw[hgo,Cy] at hr1
     have H7:=hl.bd.go HV.out hh hw
     rw[hgo] at H7
     have Km:((s.mark h).reach t h (x+1)).height t≠-1:=by
      rw[Df.bM lX ht,if_pos rfl]
      omega
     have ug:Hid (∀w6,Below w5.heap.size w5 w6→(∀j,w6.cell? ⟨F,j,none⟩=w5.cell? ⟨F,j,none⟩)∧(∃y,w6.cell? ⟨gp,t,none⟩=some (.int .i64 y))∧w6.frozen? ⟨gp,t,none⟩=false∧((∃y,(w6.setCell ⟨gp,t,none⟩ (.int .i64 (h:Int))).cell? ⟨gh,t,none⟩=some (.int .i64 y))∧(w6.setCell ⟨gp,t,none⟩ (.int .i64 (h:Int))).frozen? ⟨gh,t,none⟩=false∧(w6.setCell ⟨gp,t,none⟩ (.int .i64 (h:Int))).cell? ⟨gh,v,none⟩=some (.int .i64 x)∧(w6.setCell ⟨gp,t,none⟩ (.int .i64 (h:Int))).cell? ⟨F,1,none⟩=some (.slice (some ⟨gh,0,none⟩) n n))):=fun w6 cg=>by
      have h6:=H5.out.later cg
      have h7:=h6.uC t (h:Int)
      refine⟨fun j=>cg.cell (p:=⟨F,j,none⟩) H5.out.lt,⟨_,h6.ip.cell (cP (-1) (by have:=lX.lp;have e:(s.mark h).par.length=s.par.length:=rfl;omega))⟩,h6.ip.free t,⟨_,h7.ih.cell (cP (-1) (by have:=lX.lh;have e:(s.mark h).ay.length=s.ay.length:=rfl;have e2:=Df.wq s;omega))⟩,h7.ih.free t,?_,h7.cells.2.1⟩
      have:=h7.ih.cell (Df.Gd hl.bd hv (by rw[hx];exact A0))
      rw[this]
      exact congrArg (fun z=>some (Value.int .i64 z)) hx
     have XU:Hid (∀w6 W8,Below w5.heap.size w5 w6→W8=((w6.setCell ⟨gp,t,none⟩ (.int .i64 (h:Int))).setCell ⟨gh,t,none⟩ (.int .i64 (x+1))).drew→W8.heap[w.heap.size]? =some (.cells #[.int .i64 (n:Int),.slice ao es.length ca] 24 (0,0))∧Calls Tryz.prog 33 #[.agg #[.int .i64 (n:Int),.slice ao es.length ca],.slice (some ⟨G,0,none⟩) n n,.pointer (some ⟨F,0,none⟩),.slice (some ⟨gs,0,none⟩) n n,.int .i64 (t:Int)] W8 fun e w8=>e= .returned (.tuple #[])∧∃Pj,BO w0 w F gp gh gr gs ov n r k v (i+1) es s' ao ca w8 s2 k1 Pj):=fun w6 W8 cg uW=>by
      have h6:=H5.out.later cg
      have h8:=((h6.uC t (h:Int)).Ez t (x+1)).later (Below.refl _ _).drew
      have e1:(Df.iO s).set t (x+1)=Df.iO ((s.mark h).reach t h (x+1)):=(Df.xF (s.mark h) t h (x+1) (by omega)).symm
      rw[e1,←uW] at h8
      have Me:w.heap.size<w6.heap.size:=Nat.lt_of_lt_of_le (lt_of_block vK.out) cg.size
      have Hz:W8.heap[w.heap.size]? =some (.cells #[.int .i64 (n:Int),.slice ao es.length ca] 24 (0,0)):=by
       rw[uW]
       show((w6.setCell ⟨gp,t,none⟩ (.int .i64 (h:Int))).setCell ⟨gh,t,none⟩ (.int .i64 (x+1))).heap[w.heap.size]? =_
       rw[cM (fun e=>by have:=sO.out gh (.inr (.inr (.inl rfl)));omega),cM (fun e=>by have:=sO.out gp (.inr (.inl rfl));omega)]
       exact(cg.block w.heap.size (lt_of_block vK.out)).trans vK.out
      have acF:aF (BL F gp gh gr gs ov) w W8:=by
       rw[uW]
       exact(((yM.out.later cg).setCell (.inr (.inl rfl)) _).setCell (.inr (.inr (.inl rfl))) _).drew
      have hs8:w6.heap.size=W8.heap.size:=by
       rw[uW]
       show _=((w6.setCell ⟨gp,t,none⟩ (.int .i64 (h:Int))).setCell ⟨gh,t,none⟩ (.int .i64 (x+1))).heap.size
       simp
      refine⟨Hz,?_⟩
      refine(HIH.out j1 (by have:=hl.few;omega) _ s2 t dS s.ord (Df.gU (s.mark h)) _ hr1 H7 ht Km rfl (Df.uG (s.mark h) t h (x+1) (by omega)).symm (by rw[Df.zS];exact lX.lh) h8).mono ?_
      rintro e w8 ⟨he,Pj,hrw,Xu,hwr⟩
      refine⟨he,Pj,by rw[HL.out];exact hr2,by have:=hl.few;omega,hr1.bd HV.out Df.e8 H7,?_,hrw,?_,?_,?_,?_⟩
      ·have e2:=hr1.stays HV.out Df.e8 H7 (u:=v) (by
        rw[Df.bM lX ht]
        split
        ·omega
        ·show s.height v≠-1;rw[hx];exact A0)
       rw[e2,Df.bM lX ht]
       split
       ·omega
       ·show s.height v≠-1;rw[hx];exact A0
      ·refine(hwr.block w.heap.size (by omega) fun hb=> ?_).trans Hz
       rcases hb with hb|hb|hb|hb|hb|hb
       ·have:=sO.out F (.inl rfl);omega
       ·have:=sO.out gp (.inr (.inl rfl));omega
       ·have:=sO.out gh (.inr (.inr (.inl rfl)));omega
       ·have:=sO.out gr (.inr (.inr (.inr (.inl rfl))));omega
       ·have:=sO.out gs (.inr (.inr (.inr (.inr (.inl rfl)))));omega
       ·exact IX.out.far hb
      ·rcases Xu with e|⟨g,e,hge⟩
       ·rw[e];exact IX.out.far
       ·rw[e];intro e2;have:=Option.some.inj e2;omega
      ·refine acF.next hwr fun b hb hs=> ?_
       rcases hs with hs|hs|hs|hs|hs|hs
       ·exact .inl hs
       ·exact .inr (.inl hs)
       ·exact .inr (.inr (.inl hs))
       ·exact .inr (.inr (.inr (.inl hs)))
       ·exact .inr (.inr (.inr (.inr (.inl hs))))
       ·rcases IX.out.at_ with e|⟨g,e,hge⟩
        ·exact .inr (.inr (.inr (.inr (.inr (e▸hs)))))
        ·rw[e] at hs;have:=Option.some.inj hs;omega
      ·rcases Xu with e|⟨g,e,hge⟩
       ·rw[e];exact IX.out.at_
       ·exact .inr ⟨g,e,by omega⟩
     have hxw:IntKind.i64.wrap (x+1)=x+1:=by rw[IntKind.wrap_i64];omega
     obtain⟨-,-,-,-,fF⟩:=H5.out.cells
     have Q5:=Nu.hid H5.out.cells
     clear hl hr1 hr2 hw hv' A6 Hv Mn dg E5 qT d0 Qo h5 qj uU uR hto hm lX lV EU Cy hx hgo H7 Km fF A0
     go_wp2_with (go_at_call 35;rw[←Sw.out];refine jx.out.mono ?_;rintro e w6 ⟨rfl,cg⟩;refine Hid.out ?_)
     refine Nu.hid ?_
     have z6:=Fz.out w6 cg
     obtain⟨u1,⟨y1,u2⟩,u3,⟨y2,u4⟩,u5,u6,u7⟩:=ug.out w6 cg
     obtain⟨W8,uW⟩:∃W8,W8=((w6.setCell ⟨gp,t,none⟩ (.int .i64 (h:Int))).setCell ⟨gh,t,none⟩ (.int .i64 (x+1))).drew:=⟨_,rfl⟩
     obtain⟨Hz,Qb⟩:=XU.out w6 W8 cg uW
     obtain⟨x0,x1,-⟩:=az Hz
     have aaN:=Nu.hid Qb
     have HW8:=Nu.hid uW
     clear Hz Qb uW
     have k0:=(u1 0).trans Q5.out.1
     have aj3:=(cg.block w.heap.size (lt_of_block vK.out)).trans vK.out
     have Me:w.heap.size<w6.heap.size:=Nat.lt_of_lt_of_le (lt_of_block vK.out) cg.size
     clear cg u1 XU ug Fz q0 q1 q2 q3 d1 d3 c0
     go_wp2_with fail
     go_big_region
     rw[←HW8.out]
     go_wp2_with (go_at_call 33;refine aaN.out.mono ?_;rintro e w9 ⟨rfl,Pj,G9⟩;have HL9:=Nu.hid G9;clear G9)
     go_roundw
     case rel=>exact⟨i+1,_,_,Pj,by omega,by go_num,HL9.out⟩
     case measure=>simp[intOf];omega
  ·obtain rfl:i=L.length:=by omega
   have hd:¬((L.length:Int)<(L.length:Int)):=by omega
   have hend:s=s':=by
    have h1:=hl.run
    rw[HL.out,List.drop_length] at h1
    cases h1
    rfl
   subst hend
   have IX:=Nu.hid hl
   clear hl dg x0 x1
   go_wp2
   go_end0
   exact⟨rfl,dS,IX.out.sZ,IX.out.at_,IX.out.wrote⟩
end
end
section
open Go.RowKit Go.Sort
theorem Tryz.Nz:(Tryz.prog.info? 4).map (fun i=>(i.zero,i.size,i.bytes))=some (some (.bool false),1,1):=by kernel_rfl
namespace Df
section
variable {n:Nat} {es:List (Int×Int)} {s:St}
theorem Wk.all (hval:Si.Val n es) {i:Nat} (h:Wk n es i s):i≤n→∀v,v<i→s.height v≠-1:=by
 induction h with
 |zero=>intro _ v hv;omega
 | @pass i s h hv ih=>
   intro hi v Zj
   by_cases e:v=i
   ·rw[e];exact hv
   ·exact ih (by omega) v (by omega)
 | @walk i k s s' h hv hr ih=>
   intro hi v Zj
   have b:=(h.bd hval (by omega)).root (v:=i) (by omega)
   have h1:(s.reach i (-1) 0).height v≠-1:=by
    rw[bM (h.bd hval (by omega)) (by omega)]
    split
    ·omega
    ·exact ih (by omega) v (by omega)
   rw[hr.stays hval e8 b h1]
   exact h1
theorem M9 {r:Nat} (b:Bd n es r s) (h:∀v,v<n→s.height v≠-1):iO s=s.ay:=by
 refine List.ext_getElem? fun v=> ?_
 by_cases hv:v<n
 ·rw[Gd b hv (h v hv)]
  exact(cP (-1) (by rw[b.lh];exact hv)).symm
 ·rw[List.getElem?_eq_none (by rw[wq,b.lh];omega),List.getElem?_eq_none (by rw[b.lh];omega)]
theorem M7 {r:Nat} (b:Bd n es r s) {v:Nat} (hv:v<n) (hh:s.height v= -1):s.par.set v (-1)=s.par:=by
 refine List.ext_getElem? fun u=> ?_
 rw[List.getElem?_set]
 by_cases e:v=u
 ·subst e
  rw[if_pos rfl,if_pos (by rw[b.lp];exact hv),cP 0 (by rw[b.lp];exact hv),b.hu v hv hh]
 ·rw[if_neg e]
theorem M8 {r:Nat} (b:Bd n es r s) {v:Nat} (hv:v<n) (hh:s.height v= -1):(iO s).set v 0=iO s:=by
 refine List.ext_getElem? fun u=> ?_
 rw[List.getElem?_set]
 by_cases e:v=u
 ·subst e
  have hl:v<s.ay.length:=by rw[b.lh];exact hv
  rw[if_pos rfl,if_pos (by rw[wq];exact hl)]
  unfold iO
  rw[List.getElem?_map,cP (-1) hl]
  have:s.ay.getD v (-1)= -1:=hh
  rw[this]
  rfl
 ·rw[if_neg e]
end
end Df
def K5 (n:Nat) (es:List (Int×Int)) (w:World) (e:Ending) (w':World):Prop:=
 ∃f s,e= .returned (For.val f s)∧Df.Wk n es n s∧dF w' f s∧Below w.heap.size w w'
def XJ (n m:Nat) (w wr:World) (p:Nat):Prop:=
 ∃gp gh gr,wr.heap[p]? =some (.cells #[.slice (some ⟨gp,0,none⟩) n n,.slice (some ⟨gh,0,none⟩) n n,.slice none 0 0,.slice (some ⟨gr,0,none⟩) m m] 36 (0,0))∧aq wr gp (List.replicate n 0)∧aq wr gh (List.replicate n 0)∧aq wr gr (List.replicate m 0)∧
  (w.heap.size≤p∧w.heap.size≤gp∧w.heap.size≤gh∧w.heap.size≤gr)∧(p≠gp∧p≠gh∧p≠gr∧gp≠gh∧gp≠gr∧gh≠gr)∧Below w.heap.size w wr
theorem BC {w V:World} (h:Below w.heap.size w V) (o:Obj):Below w.heap.size w (V.alloc o):=h.alloc h.size o
theorem D7 {w V:World} (h:Below w.heap.size w V):Below w.heap.size w V.drew:=h.drew
theorem tB {w:World} {g:Nat} {l:List Int} (h:aq w g l):aq w.drew g l:=h
theorem Oa {w:World} {g:Nat} {o:Obj} (h:w.heap[g]? =some o):w.drew.heap[g]? =some o:=h
theorem KW {w:World} {g:Nat} {o o':Obj} (h:w.heap[g]? =some o):(w.alloc o').heap[g]? =some o:=(Below.heap_alloc w o' g (lt_of_block h)).trans h
theorem Gv (n:Nat):(madeCells #[.bool false] n)=(List.replicate n (Value.bool false)).toArray:=by
 apply Array.ext'
 rw[toList_madeCells_one]
theorem O8 {n m p gp gh gr:Nat} {w wr:World} (h1:wr.heap[p]? =some (.cells #[.slice (some ⟨gp,0,none⟩) n n,.slice (some ⟨gh,0,none⟩) n n,.slice none 0 0,.slice (some ⟨gr,0,none⟩) m m] 36 (0,0))) (h2:aq wr gp (List.replicate n 0)) (h3:aq wr gh (List.replicate n 0)) (h4:aq wr gr (List.replicate m 0))
 (h5:w.heap.size≤p∧w.heap.size≤gp∧w.heap.size≤gh∧w.heap.size≤gr) (h6:p≠gp∧p≠gh∧p≠gr∧gp≠gh∧gp≠gr∧gh≠gr) (h7:Below w.heap.size w wr):XJ n m w wr p:=⟨gp,gh,gr,h1,h2,h3,h4,h5,h6,h7⟩
theorem tA {W:World} {k M:Nat} (h:W.heap.size=k):aq (W.alloc (.cells (madeCells #[.int .i64 0] M) 3)) k (List.replicate M 0):=by
 subst h
 unfold aq
 rw[heap_alloc_new,←cD]
theorem I7 {n:Nat} {es:List (Int×Int)} {s:Df.St} (hv:Si.Val n es) (h:Df.Wk n es n s):s.par.length≤17592186043904∧s.ay.length≤17592186043904∧s.ord.length≤17592186043904∧s.aJ.length≤17592186043904:=by
 have b:=h.bd hv (Nat.le_refl _)
 have h1:=b.lp
 have h2:=b.lh
 have h3:=b.lo
 have h4:=b.hr
 have h5:=hv.hi
 have h6:=hv.few
 omega
theorem dc.dY {w:World} {R:Nat} {a b c d:Value} {ao:Option Addr} {l:List Int} (h:dc w ao l) (hf:∀x,ao=some x→x.block≠R):dc (dY w R a b c d) ao l:=fun j x hj=>by
 obtain⟨b',o,e,hc⟩:=h j x hj
 refine⟨b',o,e,?_⟩
 rw[←hc]
 exact World.cell?_of_block (a:=⟨b',o+j,none⟩) (kH (hf _ e) a b c d)
theorem dF.dY {w:World} {R g1 g2 g4 c1 c2 c3 c4:Nat} {a b c d:Value} {ao:Option Addr} {s:Df.St} (h:dF w ⟨some ⟨g1,0,none⟩,some ⟨g2,0,none⟩,ao,some ⟨g4,0,none⟩,c1,c2,c3,c4⟩ s) (h1:g1≠R) (h2:g2≠R) (h4:g4≠R) (h3:∀x,ao=some x→x.block≠R):dF (Go.Proofs.YtnhcggfbkoppnaaGreat.dY w R a b c d) ⟨some ⟨g1,0,none⟩,some ⟨g2,0,none⟩,ao,some ⟨g4,0,none⟩,c1,c2,c3,c4⟩ s:=
 ⟨⟨h.l1.len,h.l1.ints.dY (fun x hx=>by cases hx;exact h1),h.l1.none⟩,⟨h.l2.len,h.l2.ints.dY (fun x hx=>by cases hx;exact h2),h.l2.none⟩,⟨h.l3.len,h.l3.ints.dY h3,h.l3.none⟩,⟨h.l4.len,h.l4.ints.dY (fun x hx=>by cases hx;exact h4),h.l4.none⟩,h.n1,h.n2,h.n3,h.n4⟩
set_option maxRecDepth 100000 in
set_option maxHeartbeats 16000000 in
theorem Jw (n:Nat) (ao:Option Addr) (ca:Nat) (es:List (Int×Int)) (w:World) (he:aL w ao es) (hv:Si.Val n es):
 Calls Tryz.prog 16 #[.agg #[.int .i64 (n:Int),.slice ao es.length ca]] w (K5 n es w):=by
 obtain⟨i0,hi,hz0,hz1,hz2⟩:=info_parts Tryz.bS
 obtain⟨i1,hi1,hy0,hy1,hy2⟩:=info_parts Tryz.Nz
 have cq:=hv.few
 have hhi:=hv.hi
 obtain⟨W,hW⟩:∃W,W=(w.alloc (.cells #[.int .i64 (n:Int),.slice ao es.length ca] 24)).alloc (.cells #[.slice none 0 0,.slice none 0 0,.slice none 0 0,.slice none 0 0] 36):=⟨_,rfl⟩
 have hB0:Below w.heap.size w W:=by rw[hW];exact((Below.refl _ _).alloc (Nat.le_refl _) _).alloc (by simp) _
 have hsz:W.heap.size=w.heap.size+2:=by rw[hW];simp
 have g1:W.heap[w.heap.size]? =some (.cells #[.int .i64 (n:Int),.slice ao es.length ca] 24 (0,0)):=by
  rw[hW,Below.heap_alloc _ _ _ (by simp)]
  exact heap_alloc_new w _
 have g2:W.heap[w.heap.size+1]? =some (.cells #[.slice none 0 0,.slice none 0 0,.slice none 0 0,.slice none 0 0] 36 (0,0)):=by
  rw[hW]
  exact alloc_at (by simp)
 have IU:=Nu.hid (M6 n ao ca es W (he.later hB0) hv)
 obtain⟨x0,x1,-⟩:=az g1
 rw[hW] at x0 x1
 have HE:=Nu.hid (he.later hB0)
 have HV:=Nu.hid hv
 have dm:=Nu.hid hB0
 have nW:=Nu.hid g1
 have kT:=Nu.hid g2
 have lZ:=Nu.hid hW
 have Qw:∀V (k:Nat),k≤8388608→(Instr.makeSlice 27 (.int .i64 (k:Int)) (.int .i64 (k:Int))).run Tryz.prog V= .ok (.slice (some ⟨V.heap.size,0,none⟩) k k) (V.alloc (.cells (madeCells #[.int .i64 0] k) 3)):=fun V k hk=>by
  have:=run_make (P:=Tryz.prog) V 27 3 i0 (.int .i64 0) Tryz.underlying27 hi hz0 .i64 .i64 (k:Int) (k:Int) (by omega) (Int.le_refl _) (by rw[hz2];omega) (by omega)
  rw[this,hz1]
  simp[Value.cells]
 have WX:=fun V=>Qw V n (by omega)
 have WY:=fun V=>Qw V es.length (by omega)
 have WZ:∀V,(Instr.makeSlice 64 (.int .i64 (n:Int)) (.int .i64 (n:Int))).run Tryz.prog V= .ok (.slice (some ⟨V.heap.size,0,none⟩) n n) (V.alloc (.cells (Array.replicate n (Value.bool false)) 4)):=fun V=>by
  have:=run_make (P:=Tryz.prog) V 64 4 i1 (.bool false) Tryz.underlying64 hi1 hy0 .i64 .i64 (n:Int) (n:Int) (by omega) (Int.le_refl _) (by rw[hy2];omega) (by omega)
  rw[this,hy1]
  simp[Value.cells,Gv]
 clear he hv hB0 g1 g2 hW Qw
 go_enter Tryz.func16,Tryz.ntmps16
 go_wp2_with (go_at_call 32;rw[←lZ.out];refine IU.out.mono ?_;rintro e w2 ⟨G,vs,rfl,hvl,hrows,hG,hb2⟩;refine Hid.out ?_)
 refine Nu.hid ?_
 have k1:=(hb2.block w.heap.size (by omega)).trans nW.out
 have k2:=(hb2.block (w.heap.size+1) (by omega)).trans kT.out
 have hs2:=hb2.size
 have cz:=Nu.hid (dm.out.trans (hb2.mono dm.out.size))
 have xw:=Nu.hid (HE.out.later hb2)
 have ud:=Nu.hid hrows
 have HVL:=Nu.hid hvl
 have C8:=Nu.hid k1
 have xq:=Nu.hid k2
 obtain⟨y0,y1,-⟩:=az k1
 clear hrows hvl hG hb2 k1 k2 x0 x1 IU dm HE nW kT
 go_upto_region 2 with fail
 go_cut [4] from 11 to 21 (fun x wr=>∃p:Nat,x= .pointer (some ⟨p,0,none⟩)∧XJ n es.length w2 wr p)
 case first=>
  have HS:Hid (∀V,Below w2.heap.size w2 V→V.cell? ⟨w.heap.size,0,none⟩=some (.int .i64 (n:Int))∧V.cell? ⟨w.heap.size,1,none⟩=some (.slice ao es.length ca)):=fun V hV=>by
   obtain⟨y0,y1,-⟩:=az ((hV.block w.heap.size (by omega)).trans C8.out)
   exact⟨y0,y1⟩
  go_region_held3 (fun V=>V.cell? ⟨w.heap.size,0,none⟩=some (.int .i64 (n:Int))∧V.cell? ⟨w.heap.size,1,none⟩=some (.slice ao es.length ca)) (exact HS.out _ (by repeat (first|exact Below.refl _ _|with_reducible refine D7 ?_|with_reducible refine BC ?_ _))) (fail)
  all_goals
   clear HS WX WY WZ
   go_wp2_with fail
   go_meet
   refine⟨_,rfl,?_⟩
   apply O8
   ·repeat (first|exact alloc_at (by simp)|with_reducible refine Oa ?_|with_reducible refine KW ?_)
   ·repeat (first|(refine tA ?_;simp;done)|with_reducible refine tB ?_|with_reducible refine aq.alloc ?_ _)
   ·repeat (first|(refine tA ?_;simp;done)|with_reducible refine tB ?_|with_reducible refine aq.alloc ?_ _)
   ·repeat (first|(refine tA ?_;simp;done)|with_reducible refine tB ?_|with_reducible refine aq.alloc ?_ _)
   ·refine⟨?_,?_,?_,?_⟩<;>omega
   ·refine⟨?_,?_,?_,?_,?_,?_⟩<;>omega
   ·repeat (first|exact Below.refl _ _|with_reducible refine D7 ?_|with_reducible refine BC ?_ _)
 case rest=>
  obtain⟨p,rfl,gp,gh,gr,hblk,ip,ih,ir,⟨b1,b2,b3,b4⟩,⟨d1,d2,d3,d4,d5,d6⟩,dg⟩:=hcut
  have hsc:=dg.size
  have y0:=(az ((dg.block w.heap.size (by omega)).trans C8.out)).1
  have Uu:=lt_of_block hblk
  have mF:=ip.lt
  have hl2:=ih.lt
  have hl3:=ir.lt
  obtain⟨w3,hw3⟩:∃w3,w3=wc.alloc (.cells (Array.replicate n (Value.bool false)) 4):=⟨_,rfl⟩
  have hb3:Below wc.heap.size wc w3:=by rw[hw3];exact(Below.refl _ _).alloc (Nat.le_refl _) _
  have hrw:RW w2 w3 p gp gh gr wc.heap.size (.slice none 0 0) n es.length (List.replicate n 0) (List.replicate n 0) [] (List.replicate es.length 0) (List.replicate n false):=by
   refine⟨dg.trans (hb3.mono hsc),(hb3.block p Uu).trans hblk,ip.later hb3,ih.later hb3,ir.later hb3,?_,.nil _ _,⟨b1,b2,b3,b4,hsc⟩,⟨d1,d2,d3,by omega,d4,d5,by omega,d6,by omega,by omega⟩,by simp[Value.ownBlock]⟩
   unfold bX
   rw[hw3,heap_alloc_new,List.map_replicate]
   simp
  have HRW:=Nu.hid hrw
  have m8:=Nu.hid hw3
  have FH:Hid (∀V,Below w2.heap.size w2 V→V.cell? ⟨w.heap.size,0,none⟩=some (.int .i64 (n:Int))∧V.cell? ⟨w.heap.size,1,none⟩=some (.slice ao es.length ca)):=fun V hV=>by
   obtain⟨y0,y1,-⟩:=az ((hV.block w.heap.size (by omega)).trans C8.out)
   exact⟨y0,y1⟩
  clear hblk ip ih ir dg hb3 hrw hw3 b1 b2 b3 b4 d1 d2 d3 d4 d5 d6 WX WY y1
  go_wp2
  rw[←m8.out]
  clear WZ y0
  go_loopw [6] (fun c wr=>∃(i:Nat) (P:List Int),i≤n∧c= .int .i64 i∧P.length=n∧(∀v,v<i→P[v]? =some (-1))∧RW w2 wr p gp gh gr wc.heap.size (.slice none 0 0) n es.length P (List.replicate n 0) [] (List.replicate es.length 0) (List.replicate n false)) (fun c _=>n-(intOf c).toNat)
  case atStart=>exact⟨0,_,Nat.zero_le _,rfl,by simp,fun v hv=>(by omega),HRW.out⟩
  case round=>
   obtain⟨i,P,hin,rfl,yE,hP,hr⟩:=hrel
   obtain⟨y0,y1⟩:=FH.out wr hr.aI
   by_cases hlt:i<n
   ·have oA:(i:Int)<(n:Int):=by omega
    have hk0:(0:Int)≤(i:Int):=by omega
    obtain⟨q0,-,-,-,-⟩:=hr.cells
    have c0:=hr.ip.cell (cP 0 (by omega:i<P.length))
    have f0:=hr.ip.free i
    have HN:=Nu.hid (hr.uC i (-1))
    have HP:=Nu.hid hP
    clear hP hr
    go_wp2
    go_roundw
    case rel=>
     refine⟨i+1,P.set i (-1),by omega,by go_num,by simp[yE],fun v hv=> ?_,HN.out⟩
     rw[List.getElem?_set]
     by_cases e:i=v
     ·subst e;rw[if_pos rfl,if_pos (by omega)]
     ·rw[if_neg e];exact HP.out v (by omega)
    case measure=>simp[intOf];omega
   ·have hd:¬((i:Int)<(n:Int)):=by omega
    have hPe:P=List.replicate n (-1):=by
     refine List.ext_getElem? fun v=> ?_
     by_cases hv:v<n
     ·rw[hP v (by omega),List.getElem?_replicate,if_pos hv]
     ·rw[List.getElem?_eq_none (by omega),List.getElem?_eq_none (by simp;omega)]
    subst hPe
    have uh:=Nu.hid hr
    clear hP hr yE
    go_wp2
    clear y0 y1 hd hlt
    go_loopw [7] (fun c wr=>∃(i:Nat) (R:List Int),i≤es.length∧c= .int .i64 i∧R.length=es.length∧(∀v,v<i→R[v]? =some (-1))∧RW w2 wr p gp gh gr wc.heap.size (.slice none 0 0) n es.length (List.replicate n (-1)) (List.replicate n 0) [] R (List.replicate n false)) (fun c _=>es.length-(intOf c).toNat)
    case atStart=>exact⟨0,_,Nat.zero_le _,rfl,by simp,fun v hv=>(by omega),uh.out⟩
    case round=>
     obtain⟨i,R,hin,rfl,CM,hR,hr⟩:=hrel
     obtain⟨y0,y1⟩:=FH.out wr hr.aI
     by_cases hlt:i<es.length
     ·have oA:(i:Int)<(es.length:Int):=by omega
      have hk0:(0:Int)≤(i:Int):=by omega
      obtain⟨-,-,-,q3,-⟩:=hr.cells
      have c0:=hr.ir.cell (cP 0 (by omega:i<R.length))
      have f0:=hr.ir.free i
      have HN:=Nu.hid (hr.rL i (-1))
      have HP:=Nu.hid hR
      clear hR hr
      go_wp2
      go_roundw
      case rel=>
       refine⟨i+1,R.set i (-1),by omega,by go_num,by simp[CM],fun v hv=> ?_,HN.out⟩
       rw[List.getElem?_set]
       by_cases e:i=v
       ·subst e;rw[if_pos rfl,if_pos (by omega)]
       ·rw[if_neg e];exact HP.out v (by omega)
      case measure=>simp[intOf];omega
     ·have hd:¬((i:Int)<(es.length:Int)):=by omega
      have hRe:R=List.replicate es.length (-1):=by
       refine List.ext_getElem? fun v=> ?_
       by_cases hv:v<es.length
       ·rw[hR v (by omega),List.getElem?_replicate,if_pos hv]
       ·rw[List.getElem?_eq_none (by omega),List.getElem?_eq_none (by simp;omega)]
      subst hRe
      have su:=Nu.hid hr
      clear hR hr CM
      go_wp2
      clear y0 y1 hd hlt
      go_loopw [8] (fun c wr=>∃(i:Nat) (s:Df.St) (ov:Value),i≤n∧c= .int .i64 i∧Df.Wk n es i s∧RW w2 wr p gp gh gr wc.heap.size ov n es.length s.par (Df.iO s) s.ord s.aJ (Df.gU s)) (fun c _=>n-(intOf c).toNat)
      case atStart=>
       refine⟨0,Df.St.start n es.length,.slice none 0 0,Nat.zero_le _,rfl,.zero,?_⟩
       have e1:Df.iO (Df.St.start n es.length)=List.replicate n 0:=by simp[Df.iO,Df.St.start]
       have e2:Df.gU (Df.St.start n es.length)=List.replicate n false:=by simp[Df.gU,Df.St.start]
       rw[e1,e2]
       exact su.out
      case round=>
       obtain⟨i,s,ov,hin,rfl,hwk,hr⟩:=hrel
       obtain⟨y0,y1⟩:=FH.out wr hr.aI
       have hbd:=hwk.bd HV.out hin
       by_cases hlt:i<n
       ·have oA:(i:Int)<(n:Int):=by omega
        have hk0:(0:Int)≤(i:Int):=by omega
        have z0:=hr.is.cell (Df.vZ hbd hlt)
        by_cases hh:s.height i= -1
        ·have hb:(s.height i != -1)=false:=by simpa using hh
         rw[hb] at z0
         obtain⟨k,s2,hR,_⟩:=Df.total HV.out (s.reach i (-1) 0).left (Cs.out es i (2*es.length)) (s.reach i (-1) 0) (Nat.le_refl _) (hbd.root hlt) Df.e8
         have hr':RW w2 wr p gp gh gr wc.heap.size ov n es.length (s.reach i (-1) 0).par (Df.iO (s.reach i (-1) 0)) s.ord (s.reach i (-1) 0).aJ (Df.gU s):=by
          rw[Df.xF s i (-1) 0 (by decide),Df.M8 hbd hlt hh]
          show RW w2 wr p gp gh gr wc.heap.size ov n es.length (s.par.set i (-1)) (Df.iO s) s.ord s.aJ (Df.gU s)
          rw[Df.M7 hbd hlt hh]
          exact hr
         have eY:=Gb (r:=i+1) (ca:=ca) xw.out HV.out ud.out HVL.out (by omega) k (s.reach i (-1) 0) s2 i ov s.ord (Df.gU s) wr hR (hbd.root hlt) hlt (by rw[Df.bM hbd hlt,if_pos rfl];decide) rfl (Df.uG s i (-1) 0 (by decide)).symm (by rw[Df.zS];exact hbd.lh) hr'
         have Lx:=Nu.hid eY
         have fO:Hid (Df.Wk n es (i+1) s2):= .walk hwk hh hR
         clear eY hr' hR hb hwk hr hbd hh
         go_wp2_with (go_at_call 33;refine Lx.out.mono ?_;rintro e w5 ⟨rfl,YM,h5,_,_⟩;have H5:=Nu.hid h5;clear h5)
         go_roundw
         case rel=>exact⟨i+1,s2,YM,by omega,by go_num,fO.out,H5.out⟩
         case measure=>simp[intOf];omega
        ·have hb:(s.height i != -1)=true:=by simpa using hh
         rw[hb] at z0
         have fO:Hid (Df.Wk n es (i+1) s):= .pass hwk hh
         have H5:=Nu.hid hr
         clear hb hwk hr hbd hh
         go_wp2
         go_roundw
         case rel=>exact⟨i+1,s,ov,by omega,by go_num,fO.out,H5.out⟩
         case measure=>simp[intOf];omega
       ·obtain rfl:i=n:=by omega
        have hd:¬((i:Int)<(i:Int)):=by omega
        rw[Df.M9 hbd (hwk.all HV.out hin)] at hr
        obtain⟨q0,q1,q2,q3,-⟩:=hr.cells
        have hk3:=(hr.aI.block (w.heap.size+1) (by omega)).trans xq.out
        obtain⟨k0,k1,k2,k3,kf⟩:=au hk3
        obtain⟨yH,jT,AU,QO,_⟩:=hr.ow.form
        have hlen:=I7 HV.out hwk
        have hnil3:yH=none→s.ord.length=0∧jT=0:=fun e=>by
         subst e
         rcases hr.ow.2 with ⟨h,h0⟩|⟨g,c,cur,h,_⟩
         ·rw[AU] at h
          injection h with _ _ e3
          exact⟨h0,e3⟩
         ·rw[AU] at h;cases h
        subst AU
        have mF:dF wr ⟨some ⟨gp,0,none⟩,some ⟨gh,0,none⟩,yH,some ⟨gr,0,none⟩,s.par.length,s.ay.length,jT,s.aJ.length⟩ s:=⟨hr.ip.ct rfl,hr.ih.ct rfl,⟨rfl,QO,hnil3⟩,hr.ir.ct rfl,hlen.1,hlen.2.1,hlen.2.2.1,hlen.2.2.2⟩
        have hbz:=eA (cz.out.trans (hr.aI.mono cz.out.size)) (R:=w.heap.size+1) (by omega) (.slice (some ⟨gp,0,none⟩) i i) (.slice (some ⟨gh,0,none⟩) i i) (.slice yH s.ord.length jT) (.slice (some ⟨gr,0,none⟩) es.length es.length)
        have hlo:=hr.lo
        have hbl:∀x,yH=some x→w2.heap.size≤x.block:=fun x hx=>by
         obtain⟨_,_,e,_,h⟩:=hr.ow.form
         cases e
         exact(h x hx).1
        have hl2:dF (dY wr (w.heap.size+1) (.slice (some ⟨gp,0,none⟩) i i) (.slice (some ⟨gh,0,none⟩) i i) (.slice yH s.ord.length jT) (.slice (some ⟨gr,0,none⟩) es.length es.length)) ⟨some ⟨gp,0,none⟩,some ⟨gh,0,none⟩,yH,some ⟨gr,0,none⟩,s.par.length,s.ay.length,jT,s.aJ.length⟩ s:=mF.dY (by omega) (by omega) (by omega) fun x hx=>by have:=hbl x hx;omega
        obtain⟨R0,R1,R2,R3,-⟩:=au (gV hk3 (.slice (some ⟨gp,0,none⟩) i i) (.slice (some ⟨gh,0,none⟩) i i) (.slice yH s.ord.length jT) (.slice (some ⟨gr,0,none⟩) es.length es.length))
        have H0:=Nu.hid R0
        have H1:=Nu.hid R1
        have H2:=Nu.hid R2
        have H3:=Nu.hid R3
        have jN:=Nu.hid hl2
        have oO:=Nu.hid hbz
        have fO:=Nu.hid hwk
        have OD:=Nu.hid hbd.lp
        have Tb:=Nu.hid hbd.lh
        have HN4:=Nu.hid hbd.lo
        unfold dY at H0 H1 H2 H3 jN oO
        clear hr hk3 mF hl2 hbz hbl hnil3 QO hlen hwk R0 R1 R2 R3 hbd
        go_wp2
        refine bodyPost_ret (v:= .agg #[.slice (some ⟨gp,0,none⟩) i i,.slice (some ⟨gh,0,none⟩) i i,.slice yH s.ord.length jT,.slice (some ⟨gr,0,none⟩) es.length es.length]) (by simp[results,Tryz.results16,go_sem,H0.out,H1.out,H2.out,H3.out]) rfl ?_
        refine⟨⟨some ⟨gp,0,none⟩,some ⟨gh,0,none⟩,yH,some ⟨gr,0,none⟩,s.par.length,s.ay.length,jT,s.aJ.length⟩,s,?_,fO.out,jN.out,oO.out⟩
        show _=Ending.returned (.agg #[.slice (some ⟨gp,0,none⟩) s.par.length s.par.length,.slice (some ⟨gh,0,none⟩) s.ay.length s.ay.length,.slice yH s.ord.length jT,.slice (some ⟨gr,0,none⟩) s.aJ.length s.aJ.length])
        rw[OD.out,Tb.out,HN4.out]
end
end Go.Proofs.YtnhcggfbkoppnaaGreat
