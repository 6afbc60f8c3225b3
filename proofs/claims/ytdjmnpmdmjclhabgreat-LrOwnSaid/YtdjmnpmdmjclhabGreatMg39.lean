import Derived.Test.YtdjmnpmdmjclhabGreatMg38
import Derived.BigRegion
import Derived.Test.YtdjmnpmdmjclhabGreatMg04
import Derived.Deep.RegionHeld3
import Derived.Deep.CutBlock
import Derived.Deep.CutRange
namespace Go.Proofs.YtdjmnpmdmjclhabGreat
section
open Go.RowKit Go.Sort
namespace Df
section
variable {n r:Nat} {es:List (Int×Int)} {s s':St} {h u v:Nat}
theorem K0 (b:Bd n es r s) (hval:Si.Val n es) (hl:h<2*es.length) (hw:s.dir (h/2)= -1) (u:Nat):(s.go es h).height u=if u=Cs.to es h then s.height (Cs.fr es h)+1 else s.height u:=
 bM (b.mark hl hw) (Cs.bH hval hl).2 _ _ u
theorem R.stays {k:Nat} {L:List Nat} (hval:Si.Val n es) (h:R es k s L s'):(∀x∈L,x<2*es.length)→Bd n es r s→s.height u≠-1→s'.height u=s.height u:=by
 induction h with
 |nil s=>exact fun _ _ _=>rfl
 |old hw hr ih=>exact fun hl b hu=>ih (fun x hx=>hl x (aah _ hx)) b hu
 |back hw hv hr ih=>exact fun hl b hu=>ih (fun x hx=>hl x (aah _ hx)) (b.mark (hl _ aag) hw) hu
 | @tree j k s s1 s' x L hw hv h1 h2 ih1 ih2=>
   intro hl b hu
   have hh:=hl _ aag
   have b1:=b.go hval hh hw
   have e:(s.go es x).height u=s.height u:=by
    rw[K0 b hval hh hw,if_neg]
    intro e
    rw[e] at hu
    exact hu hv
   have h3:=ih1 eZ b1 (by rw[e];exact hu)
   have h4:=ih2 (fun y hy=>hl y (aah _ hy)) (h1.bd hval eZ b1) (by rw[h3,e];exact hu)
   rw[h4,h3,e]
theorem GP (b:Bd n es r s) (hv:v<n) (hh:s.height v≠-1):(iV s)[v]? =some (s.height v):=by
 have hl:v<s.az.length:=by rw[b.lh];exact hv
 have e:s.az[v]=s.height v:=by
  unfold St.height
  rw[aai,aac hl]
  rfl
 unfold iV
 rw[aay,aac hl,e,Option.map_some,if_neg hh]
theorem wJ (b:Bd n es r s) (hv:v<n):(gV s)[v]? =some (s.height v != -1):=by
 have hl:v<s.az.length:=by rw[b.lh];exact hv
 have e:s.az[v]=s.height v:=by
  unfold St.height
  rw[aai,aac hl]
  rfl
 unfold gV
 rw[aay,aac hl,e]
 rfl
theorem wN (s:St):(iV s).length=s.az.length:=by simp[iV]
theorem Am (s:St):(gV s).length=s.az.length:=by simp[gV]
theorem x8 (s:St) (v:Nat) (x y:Int) (hy:y≠-1):iV (s.reach v x y)=(iV s).set v y:=by
 unfold iV St.reach
 dsimp only
 rw[acT,if_neg hy]
theorem uQ (s:St) (v:Nat) (x y:Int) (hy:y≠-1):gV (s.reach v x y)=(gV s).set v true:=by
 unfold gV St.reach
 dsimp only
 rw[acT]
 congr 1
 simpa using hy
end
end Df
def Wl (w0:World) (F gp gh gr gs:Nat) (ov:Value) (n m:Nat) (s':Df.St) (w:World) (e:Ending) (w':World):Prop:=
 e= .returned (.tuple #[])∧∃dR,RW w0 w' F gp gh gr gs dR n m s'.par (Df.iV s') s'.ord s'.aJ (Df.gV s')∧(dR.ownBlock=ov.ownBlock∨∃g,dR.ownBlock=some g∧w.heap.size≤g)∧aC (B8 F gp gh gr gs ov) w w'
structure Cc (w0 w:World) (F gp gh gr gs:Nat) (ov:Value) (n r k v i:Nat) (es:List (Int×Int)) (s':Df.St) (ao:Option Addr) (ca:Nat) (wr:World) (s:Df.St) (kk:Nat) (dR:Value):Prop where
 run:Df.R es kk s ((Cs.out es v (2*es.length)).drop i) s'
 few:kk≤k
 bd:Df.Bd n es r s
 here:s.height v≠-1
 tH:RW w0 wr F gp gh gr gs dR n es.length s.par (Df.iV s) s.ord s.aJ (Df.gV s)
 box:wr.heap[w.heap.size]? =some (.cells #[.int .i64 (n:Int),.slice ao es.length ca] 24 (0,0))
 far:dR.ownBlock≠some w.heap.size
 wrote:aC (B8 F gp gh gr gs ov) w wr
 at_:dR.ownBlock=ov.ownBlock∨∃g,dR.ownBlock=some g∧w.heap.size≤g
theorem B8.old {w0 w:World} {F gp gh gr gs:Nat} {ov:Value} {n m:Nat} {P H O R:List Int} {S:List Bool} (h:RW w0 w F gp gh gr gs ov n m P H O R S) {b:Nat} (hb:B8 F gp gh gr gs ov b):b<w.heap.size:=by
 rcases hb with rfl|rfl|rfl|rfl|rfl|hb
 ·exact h.lt
 ·exact h.ip.lt
 ·exact h.ih.lt
 ·exact h.ir.lt
 ·exact h.is.lt
 ·exact(h.ow.lt hb).2
theorem ZB {h jh:Nat} (e:h/2=jh):(h:Int).tdiv 2=(jh:Int):=by rw[aaZ (by omega)];omega
section
variable {w0:World} {F gp gh gr gs:Nat} {n r:Nat} {es:List (Int×Int)} {ao:Option Addr} {ca G:Nat} {vs:List Value}
set_option maxRecDepth 100000 in
set_option maxHeartbeats 16000000 in
theorem GM (hE:aQ w0 ao es) (hV:Si.Val n es) (hR:iR w0 G vs es (2*es.length)) (hvl:vs.length=n) (hr:r≤1048576):
 ∀(k:Nat) (s1 s':Df.St) (v:Nat) (ov:Value) (O:List Int) (S:List Bool) (w:World),Df.R es k s1 (Cs.out es v (2*es.length)) s'→Df.Bd n es r s1→v<n→s1.height v≠-1→s1.ord=O++[(v:Int)]→S.set v true=Df.gV s1→S.length=n→
  RW w0 w F gp gh gr gs ov n es.length s1.par (Df.iV s1) O s1.aJ S→
  Calls Tryz.prog 31 #[.agg #[.int .i64 (n:Int),.slice ao es.length ca],.slice (some ⟨G,0,none⟩) n n,.pointer (some ⟨F,0,none⟩),.slice (some ⟨gs,0,none⟩) n n,.int .i64 (v:Int)] w (Wl w0 F gp gh gr gs ov n es.length s' w):=by
 intro k
 induction k using Nat.strongRecOn with
 |_ k ih=>
 intro s1 s' v ov O S w hrun b hv hh hO hS La hW
 obtain⟨i0,hi,hz0,hz1,hz2⟩:=info_parts Tryz.bO
 have cj:=hV.few
 have hhi:=hV.hi
 have nE:=b.hr
 have pT:O.length≤17592186044000:=by
  rw[hO] at nE
  simp at nE
  omega
 obtain⟨W,sN⟩:∃W,W=w.alloc (.cells #[.int .i64 (n:Int),.slice ao es.length ca] 24):=⟨_,rfl⟩
 have dS:Below w.heap.size w W:=by rw[sN];exact(aae _ _).alloc (aad _) _
 have XF:W.heap.size=w.heap.size+1:=by rw[sN];simp
 have hgW:W.heap[w.heap.size]? =some (.cells #[.int .i64 (n:Int),.slice ao es.length ca] 24 (0,0)):=by rw[sN];exact heap_alloc_new w _
 have h1:=hW.later dS
 have h2:=h1.PW v true
 rw[hS] at h2
 obtain⟨y0,hy0⟩:∃y,S[v]? =some y:=⟨_,aac (by omega)⟩
 have d1:=h1.is.cell hy0
 have f1:=h1.is.free v
 obtain⟨W2,hW2⟩:∃W2,W2=W.setCell ⟨gs,v,none⟩ (.bool true):=⟨_,rfl⟩
 rw[←hW2] at h2
 obtain⟨-,-,q2,-,-⟩:=h2.cells
 have aew:=h1.is.lt
 have yw:aC (B8 F gp gh gr gs ov) w W2:=by
  rw[hW2]
  exact((aC.refl _ w).later dS).setCell (.inr (.inr (.inr (.inr (.inl rfl))))) _
 have Ri:∀b,B8 F gp gh gr gs ov b→b<w.heap.size:=fun b hb=>B8.old hW hb
 have hg2:W2.heap[w.heap.size]? =some (.cells #[.int .i64 (n:Int),.slice ao es.length ca] 24 (0,0)):=by
  rw[hW2,cN (fun e=>by have:=Ri gs (.inr (.inr (.inr (.inr (.inl rfl)))));omega)]
  exact hgW
 have A8:W2.heap.size=w.heap.size+1:=by rw[hW2];simpa using XF
 have e0:(0:Int)≤(v:Int):=by omega
 have e1:(v:Int)<(n:Int):=by omega
 have hrow:W2.ownsRow w0.heap.size 3 1 ov O.length (O.map (Value.int .i64)):=h2.ow
 have j8:=Nu.hid hrow
 have H2:=Nu.hid h2
 have Dq:=Nu.hid sN
 have jD:=Nu.hid hW2
 have Nd:=Nu.hid yw
 have iN:=Nu.hid hg2
 have tA:=Nu.hid Ri
 have hB2:=h2.aI.size
 have Nj:=Nu.hid hrun
 have JC:=Nu.hid b
 have HO:=Nu.hid hO
 have HH:=Nu.hid hh
 have HE:=Nu.hid hE
 have HV:=Nu.hid hV
 have HR:=Nu.hid hR
 have HVL:=Nu.hid hvl
 have HIH:=Nu.hid ih
 have HNF:Hid (ov.ownBlock≠some w.heap.size):=fun e=>by have:=(hW.ow.lt e).2;omega
 rw[sN] at d1 f1
 rw[hW2,sN] at q2
 clear dS hgW h1 h2 hS La hW hrow sN hW2 yw hg2 Ri hrun b hO hh hE hV hR hvl ih nE hy0 aew XF
 go_enter Tryz.func31,Tryz.ntmps31
 go_wp2_with (at_builtin;rw[←Dq.out,←jD.out];refine aaB ?_)
 refine Nu.hid ?_
 have QE:(⟨w.heap.size+1,0,none⟩:Addr)=⟨W2.heap.size,0,none⟩:=by rw[A8]
 refine wpList_append_own_at _ rfl _ _ 27 rfl w0.heap.size 3 i0 (.int .i64 0) 1 8 Tryz.underlying27 hi hz0 hz1 hz2 rfl (by decide) ov _ _ rfl (abo j8.out _) ⟨w.heap.size+1,0,none⟩ 1 1 [.int .i64 (v:Int)] rfl rfl (by rw[QE];exact cell_one_new _ _ _) (by simp[Value.oneCell']) (by unfold maxLen;omega) (by omega) (by simp;omega) ?_
 intro Qd w3 hown hg _ hat
 have hz:aP w3 w0.heap.size Qd (O++[(v:Int)]):=by
  unfold aP
  rw[aaA,abl]
  exact hown
 have hat':Qd.ownBlock=ov.ownBlock∨Qd.ownBlock=some (W2.heap.size+1):=by simpa using hat
 obtain⟨h3,c5,f5,Mz⟩:=H2.out.E0 hz hg hat'
 rw[←HO.out] at h3
 obtain⟨g3,jZ,hv3⟩:=iB hown
 subst hv3
 obtain⟨w4,hw4⟩:∃w4,w4=w3.setCell ⟨F,2,none⟩ (.slice (some ⟨g3,0,none⟩) (O.length+1) jZ):=⟨_,rfl⟩
 rw[←hw4] at h3 Mz
 have RN:(Value.slice (some ⟨g3,0,none⟩) (O.length+1) jZ).ownBlock≠some w.heap.size:=by
  rcases hat' with e|e
  ·rw[e];exact HNF.out
  ·rw[e];intro e2;have:=aak e2;omega
 have Rk:Cc w0 w F gp gh gr gs ov n r k v 0 es s' ao ca w4 s1 k (.slice (some ⟨g3,0,none⟩) (O.length+1) jZ):=by
  refine⟨Nj.out,aad _,JC.out,HH.out,h3,?_,RN,Nd.out.trans Mz,?_⟩
  ·exact(Mz.block w.heap.size (by omega) (fun hb=>by have:=tA.out _ hb;omega)).trans iN.out
  ·rcases hat' with e|e
   ·exact .inl e
   ·exact .inr ⟨_,e,by omega⟩
 have aci:=Nu.hid Rk
 have om:=Nu.hid hw4
 clear hown hg hat hat' hz h3 Mz hw4 Rk RN d1 f1 q2 j8 H2 Dq jD iN Nj Nd HO
 go_wp2
 rw[←om.out]
 clear c5 f5
 obtain⟨L,hL⟩:∃L,Cs.out es v (2*es.length)=L:=⟨_,rfl⟩
 have hLm:Cs.jI es v (2*es.length)=L.map fun i:Nat=>(i:Int):=by unfold Cs.jI;rw[hL]
 obtain⟨lo,ak3,Kv,Kq⟩:=HR.out.look HVL.out hv
 rw[hLm,aa3] at Kv
 rw[hLm] at Kq
 have hLl:L.length≤8388608:=by rw[←hL];have:=Cs.kU (es:=es) (v:=v) (2*es.length);omega
 have afu:=HR.out.lt
 have HL:=Nu.hid hL
 have abH:=Nu.hid Kv
 have abG:=Nu.hid Kq
 clear hL hLm Kv Kq
 go_loopw [10] (fun c wr=>∃(i:Nat) (s:Df.St) (kk:Nat) (dR:Value),i≤L.length∧c= .int .i64 i∧Cc w0 w F gp gh gr gs ov n r k v i es s' ao ca wr s kk dR) (fun c _=>L.length-(intOf c).toNat)
 case atStart=>exact⟨0,s1,k,_,aax _,rfl,aci.out⟩
 case round=>
  obtain⟨i,s,kk,dR,hiL,rfl,hl⟩:=hrel
  have dg:=hl.tH.aI
  have c0:=(dg.cell (p:=⟨G,v,none⟩) afu).trans abH.out
  obtain⟨x0,x1,-⟩:=ay hl.box
  by_cases hlt:i<L.length
  ·have lV:(i:Int)<(L.length:Int):=by omega
   have hk0:(0:Int)≤(i:Int):=by omega
   obtain⟨h,Fu⟩:∃h,L[i]? =some h:=⟨_,aac hlt⟩
   obtain⟨hh,hfr,-⟩:=Cs.nD (es:=es) (v:=v) (k:=2*es.length) (j:=i) (i:=h) (by rw[HL.out];exact Fu)
   obtain⟨b,o,rfl,d0⟩:=abG.out i (h:Int) (by rw[aay,Fu];rfl)
   have q9:L.drop i=h::L.drop (i+1):=by
    obtain⟨h1,h2⟩:=aas.1 Fu
    rw[abJ h1,h2]
   have hrun:=hl.run
   rw[HL.out,q9] at hrun
   have d1:=(dg.cell (p:=⟨b,o+i,none⟩) (block_lt_of_cell d0)).trans d0
   obtain⟨jh,mP⟩:∃jh,h/2=jh:=⟨_,rfl⟩
   have xd:=ZB mP
   have A7:(h:Int)/2=(jh:Int):=by omega
   have j0:(0:Int)≤(jh:Int):=by omega
   have j1:(jh:Int)<(es.length:Int):=by omega
   have j2:(0:Int)≤(h:Int):=by omega
   have Q9:=hl.bd.lo
   have d3:=hl.tH.ir.cell (cQ (-1) (by omega:jh<s.aJ.length))
   have BB:s.aJ.getD jh (-1)=s.dir (h/2):=by rw[mP]
   rw[BB] at d3
   obtain⟨q0,q1,q2,q3,-⟩:=hl.tH.cells
   have ht:=(Cs.bH HV.out hh).2
   have IE:=hl.bd.ho jh (by omega)
   have MQ:s.dir jh=s.dir (h/2):=by rw[mP]
   rw[MQ] at IE
   have Jv:=Nu.hid hl
   cases hrun with
   | @old k1 _ _ _ _ hw hr'=>
     have hge:(0:Int)≤s.dir (h/2):=by omega
     obtain⟨y,hy⟩:∃y,s.dir (h/2)=y:=⟨_,rfl⟩
     rw[hy] at hge d3
     have kK:Hid (Cc w0 w F gp gh gr gs ov n r k v (i+1) es s' ao ca wr s k1 dR):=⟨by rw[HL.out];exact hr',by have:=hl.few;omega,hl.bd,hl.here,hl.tH,hl.box,hl.far,hl.wrote,hl.at_⟩
     clear hl hr' hw hy BB IE MQ dg Fu q9 d0 Q9
     go_wp2
     go_roundw
     case rel=>exact⟨i+1,s,_,dR,by omega,by go_num,kK.out⟩
     case measure=>simp[intOf];omega
   | @back k1 _ _ _ _ hw hv' hr'=>
     have hm:s.aJ.set jh (h:Int)=(s.mark h).aJ:=by unfold Df.St.mark;rw[mP]
     have h5:=hl.tH.rV jh (h:Int)
     rw[hm] at h5
     have f4:=hl.tH.ir.free jh
     have qq:aC (B8 F gp gh gr gs ov) w (wr.setCell ⟨gr,jh,none⟩ (.int .i64 (h:Int))):=hl.wrote.setCell (.inr (.inr (.inr (.inl rfl)))) _
     have vq:(wr.setCell ⟨gr,jh,none⟩ (.int .i64 (h:Int))).heap[w.heap.size]? =some (.cells #[.int .i64 (n:Int),.slice ao es.length ca] 24 (0,0)):=(cN (fun e=>by have:=tA.out gr (.inr (.inr (.inr (.inl rfl))));omega) _).trans hl.box
     obtain⟨w5,ve⟩:∃w5,w5=wr.setCell ⟨gr,jh,none⟩ (.int .i64 (h:Int)):=⟨_,rfl⟩
     rw[←ve] at h5 qq vq
     have hto:=DV n ao ca es h w5 (HE.out.later h5.aI) HV.out hh
     obtain⟨x0,x1,-⟩:=ay vq
     obtain⟨t,CY⟩:∃t,Cs.to es h=t:=⟨_,rfl⟩
     rw[CY] at hto ht hv'
     have mh:=hl.bd.mark hh hw
     have t0:(0:Int)≤(t:Int):=by omega
     have t1:(t:Int)<(n:Int):=by omega
     rw[hw] at d3
     have jF:=Nu.hid hto
     have H5:=Nu.hid h5
     have vQ:=Nu.hid qq
     have vX:=Nu.hid vq
     have Tq:=Nu.hid ve
     rw[ve] at x0 x1
     have l9:=Df.wJ mh ht
     have Fj:((s.mark h).height t != -1)=true:=by
      show(s.height t != -1)=true
      simpa using hv'
     rw[Fj] at l9
     have kK:Hid (∀w6,Below w5.heap.size w5 w6→Cc w0 w F gp gh gr gs ov n r k v (i+1) es s' ao ca w6 (s.mark h) k1 dR):=fun w6 cq=>⟨by rw[HL.out];exact hr',by have:=hl.few;omega,mh,hl.here,H5.out.later cq,(cq.block w.heap.size (lt_of_block vX.out)).trans vX.out,hl.far,vQ.out.later cq,hl.at_⟩
     have F5:Hid (∀w6,Below w5.heap.size w5 w6→w6.cell? ⟨gs,t,none⟩=some (.bool true)):=fun w6 cq=>(H5.out.later cq).is.cell l9
     clear hl hr' hw hv' BB IE MQ dg Fu q9 d0 Q9 h5 qq vq ve hto hm mh l9 Fj CY
     go_wp2_with (go_at_call 53;rw[←Tq.out];refine jF.out.mono ?_;rintro e w6 ⟨rfl,cq⟩;have z6:=F5.out w6 cq;have HL6:=Nu.hid (kK.out w6 cq);clear cq)
     go_roundw
     case rel=>exact⟨i+1,_,_,dR,by omega,by go_num,HL6.out⟩
     case measure=>simp[intOf];omega
   | @tree j1 k1 _ s2 _ _ _ hw hv' hr1 hr2=>
     have hm:s.aJ.set jh (h:Int)=(s.mark h).aJ:=by unfold Df.St.mark;rw[mP]
     have h5:=hl.tH.rV jh (h:Int)
     rw[hm] at h5
     have f4:=hl.tH.ir.free jh
     have qq:aC (B8 F gp gh gr gs ov) w (wr.setCell ⟨gr,jh,none⟩ (.int .i64 (h:Int))):=hl.wrote.setCell (.inr (.inr (.inr (.inl rfl)))) _
     have vq:(wr.setCell ⟨gr,jh,none⟩ (.int .i64 (h:Int))).heap[w.heap.size]? =some (.cells #[.int .i64 (n:Int),.slice ao es.length ca] 24 (0,0)):=(cN (fun e=>by have:=tA.out gr (.inr (.inr (.inr (.inl rfl))));omega) _).trans hl.box
     obtain⟨w5,ve⟩:∃w5,w5=wr.setCell ⟨gr,jh,none⟩ (.int .i64 (h:Int)):=⟨_,rfl⟩
     rw[←ve] at h5 qq vq
     have hto:=DV n ao ca es h w5 (HE.out.later h5.aI) HV.out hh
     obtain⟨x0,x1,-⟩:=ay vq
     obtain⟨t,CY⟩:∃t,Cs.to es h=t:=⟨_,rfl⟩
     rw[CY] at hto ht hv'
     have mh:=hl.bd.mark hh hw
     have t0:(0:Int)≤(t:Int):=by omega
     have t1:(t:Int)<(n:Int):=by omega
     rw[hw] at d3
     have jF:=Nu.hid hto
     have H5:=Nu.hid h5
     have vQ:=Nu.hid qq
     have vX:=Nu.hid vq
     have Tq:=Nu.hid ve
     rw[ve] at x0 x1
     have l9:=Df.wJ mh ht
     have Fj:((s.mark h).height t != -1)=false:=by
      show(s.height t != -1)=false
      simpa using hv'
     rw[Fj] at l9
     have F5:Hid (∀w6,Below w5.heap.size w5 w6→w6.cell? ⟨gs,t,none⟩=some (.bool false)):=fun w6 cq=>(H5.out.later cq).is.cell l9
     have hhv:=hl.bd.hh v hv
     have Bt:=hl.here
     obtain⟨x,hx⟩:∃x,s.height v=x:=⟨_,rfl⟩
     rw[hx] at hhv Bt
     have hgo:s.go es h=(s.mark h).reach t h (x+1):=by unfold Df.St.go;rw[CY,hfr,hx]
     rw[hgo,CY] at hr1
     have IM:=hl.bd.go HV.out hh hw
     rw[hgo] at IM
     have KW:((s.mark h).reach t h (x+1)).height t≠-1:=by
      rw[Df.bM mh ht,if_pos rfl]
      omega
     have uB:Hid (∀w6,Below w5.heap.size w5 w6→(∀j,w6.cell? ⟨F,j,none⟩=w5.cell? ⟨F,j,none⟩)∧(∃y,w6.cell? ⟨gp,t,none⟩=some (.int .i64 y))∧w6.frozen? ⟨gp,t,none⟩=false∧((∃y,(w6.setCell ⟨gp,t,none⟩ (.int .i64 (h:Int))).cell? ⟨gh,t,none⟩=some (.int .i64 y))∧(w6.setCell ⟨gp,t,none⟩ (.int .i64 (h:Int))).frozen? ⟨gh,t,none⟩=false∧(w6.setCell ⟨gp,t,none⟩ (.int .i64 (h:Int))).cell? ⟨gh,v,none⟩=some (.int .i64 x)∧(w6.setCell ⟨gp,t,none⟩ (.int .i64 (h:Int))).cell? ⟨F,1,none⟩=some (.slice (some ⟨gh,0,none⟩) n n))):=fun w6 cq=>by
      have h6:=H5.out.later cq
      have h7:=h6.uN t (h:Int)
      refine⟨fun j=>cq.cell (p:=⟨F,j,none⟩) H5.out.lt,⟨_,h6.ip.cell (cQ (-1) (by have:=mh.lp;have e:(s.mark h).par.length=s.par.length:=rfl;omega))⟩,h6.ip.free t,⟨_,h7.ih.cell (cQ (-1) (by have:=mh.lh;have e:(s.mark h).az.length=s.az.length:=rfl;have e2:=Df.wN s;omega))⟩,h7.ih.free t,?_,h7.cells.2.1⟩
      have:=h7.ih.cell (Df.GP hl.bd hv (by rw[hx];exact Bt))
      rw[this]
      exact congrArg (fun z=>some (Value.int .i64 z)) hx
     have Y0:Hid (∀w6 W8,Below w5.heap.size w5 w6→W8=((w6.setCell ⟨gp,t,none⟩ (.int .i64 (h:Int))).setCell ⟨gh,t,none⟩ (.int .i64 (x+1))).drew→W8.heap[w.heap.size]? =some (.cells #[.int .i64 (n:Int),.slice ao es.length ca] 24 (0,0))∧Calls Tryz.prog 31 #[.agg #[.int .i64 (n:Int),.slice ao es.length ca],.slice (some ⟨G,0,none⟩) n n,.pointer (some ⟨F,0,none⟩),.slice (some ⟨gs,0,none⟩) n n,.int .i64 (t:Int)] W8 fun e w8=>e= .returned (.tuple #[])∧∃Qc,Cc w0 w F gp gh gr gs ov n r k v (i+1) es s' ao ca w8 s2 k1 Qc):=fun w6 W8 cq vu=>by
      have h6:=H5.out.later cq
      have h8:=((h6.uN t (h:Int)).EW t (x+1)).later (aae _ _).drew
      have e1:(Df.iV s).set t (x+1)=Df.iV ((s.mark h).reach t h (x+1)):=(Df.x8 (s.mark h) t h (x+1) (by omega)).symm
      rw[e1,←vu] at h8
      have MH:w.heap.size<w6.heap.size:=aa7 (lt_of_block vX.out) cq.size
      have IK:W8.heap[w.heap.size]? =some (.cells #[.int .i64 (n:Int),.slice ao es.length ca] 24 (0,0)):=by
       rw[vu]
       show((w6.setCell ⟨gp,t,none⟩ (.int .i64 (h:Int))).setCell ⟨gh,t,none⟩ (.int .i64 (x+1))).heap[w.heap.size]? =_
       rw[cN (fun e=>by have:=tA.out gh (.inr (.inr (.inl rfl)));omega),cN (fun e=>by have:=tA.out gp (.inr (.inl rfl));omega)]
       exact(cq.block w.heap.size (lt_of_block vX.out)).trans vX.out
      have adW:aC (B8 F gp gh gr gs ov) w W8:=by
       rw[vu]
       exact(((vQ.out.later cq).setCell (.inr (.inl rfl)) _).setCell (.inr (.inr (.inl rfl))) _).drew
      have hs8:w6.heap.size=W8.heap.size:=by
       rw[vu]
       show _=((w6.setCell ⟨gp,t,none⟩ (.int .i64 (h:Int))).setCell ⟨gh,t,none⟩ (.int .i64 (x+1))).heap.size
       simp
      refine⟨IK,?_⟩
      refine(HIH.out j1 (by have:=hl.few;omega) _ s2 t dR s.ord (Df.gV (s.mark h)) _ hr1 IM ht KW rfl (Df.uQ (s.mark h) t h (x+1) (by omega)).symm (by rw[Df.Am];exact mh.lh) h8).mono ?_
      rintro e w8 ⟨he,Qc,hrw,Yz,hwr⟩
      refine⟨he,Qc,by rw[HL.out];exact hr2,by have:=hl.few;omega,hr1.bd HV.out Df.eZ IM,?_,hrw,?_,?_,?_,?_⟩
      ·have e2:=hr1.stays HV.out Df.eZ IM (u:=v) (by
        rw[Df.bM mh ht]
        split
        ·omega
        ·show s.height v≠-1;rw[hx];exact Bt)
       rw[e2,Df.bM mh ht]
       split
       ·omega
       ·show s.height v≠-1;rw[hx];exact Bt
      ·refine(hwr.block w.heap.size (by omega) fun hb=> ?_).trans IK
       rcases hb with hb|hb|hb|hb|hb|hb
       ·have:=tA.out F (.inl rfl);omega
       ·have:=tA.out gp (.inr (.inl rfl));omega
       ·have:=tA.out gh (.inr (.inr (.inl rfl)));omega
       ·have:=tA.out gr (.inr (.inr (.inr (.inl rfl))));omega
       ·have:=tA.out gs (.inr (.inr (.inr (.inr (.inl rfl)))));omega
       ·exact Jv.out.far hb
      ·rcases Yz with e|⟨g,e,hge⟩
       ·rw[e];exact Jv.out.far
       ·rw[e];intro e2;have:=aak e2;omega
      ·refine adW.next hwr fun b hb hs=> ?_
       rcases hs with hs|hs|hs|hs|hs|hs
       ·exact .inl hs
       ·exact .inr (.inl hs)
       ·exact .inr (.inr (.inl hs))
       ·exact .inr (.inr (.inr (.inl hs)))
       ·exact .inr (.inr (.inr (.inr (.inl hs))))
       ·rcases Jv.out.at_ with e|⟨g,e,hge⟩
        ·exact .inr (.inr (.inr (.inr (.inr (e▸hs)))))
        ·rw[e] at hs;have:=aak hs;omega
      ·rcases Yz with e|⟨g,e,hge⟩
       ·rw[e];exact Jv.out.at_
       ·exact .inr ⟨g,e,by omega⟩
     have hxw:IntKind.i64.wrap (x+1)=x+1:=by rw[aa1];omega
     obtain⟨-,-,-,-,fF⟩:=H5.out.cells
     have Q5:=Nu.hid H5.out.cells
     clear hl hr1 hr2 hw hv' BB IE MQ dg Fu q9 d0 Q9 h5 qq vq ve hto hm mh l9 Fj CY hx hgo IM KW fF Bt
     go_wp2_with (go_at_call 53;rw[←Tq.out];refine jF.out.mono ?_;rintro e w6 ⟨rfl,cq⟩;refine aaB ?_)
     refine Nu.hid ?_
     have z6:=F5.out w6 cq
     obtain⟨u1,⟨y1,u2⟩,u3,⟨y2,u4⟩,u5,u6,u7⟩:=uB.out w6 cq
     obtain⟨W8,vu⟩:∃W8,W8=((w6.setCell ⟨gp,t,none⟩ (.int .i64 (h:Int))).setCell ⟨gh,t,none⟩ (.int .i64 (x+1))).drew:=⟨_,rfl⟩
     obtain⟨IK,QT⟩:=Y0.out w6 W8 cq vu
     obtain⟨x0,x1,-⟩:=ay IK
     have abX:=Nu.hid QT
     have HW8:=Nu.hid vu
     clear IK QT vu
     have k0:=(u1 0).trans Q5.out.1
     have alp:=(cq.block w.heap.size (lt_of_block vX.out)).trans vX.out
     have MH:w.heap.size<w6.heap.size:=aa7 (lt_of_block vX.out) cq.size
     clear cq u1 Y0 uB F5 q0 q1 q2 q3 d1 d3 c0
     go_wp2_with fail
     go_big_region
     rw[←HW8.out]
     go_wp2_with (go_at_call 31;refine abX.out.mono ?_;rintro e w9 ⟨rfl,Qc,Ik⟩;have HL9:=Nu.hid Ik;clear Ik)
     go_roundw
     case rel=>exact⟨i+1,_,_,Qc,by omega,by go_num,HL9.out⟩
     case measure=>simp[intOf];omega
  ·obtain rfl:i=L.length:=by omega
   have hd:¬((L.length:Int)<(L.length:Int)):=by omega
   have hend:s=s':=by
    have h1:=hl.run
    rw[HL.out,List.drop_length] at h1
    cases h1
    rfl
   subst hend
   have Jv:=Nu.hid hl
   clear hl dg x0 x1
   go_wp2
   go_end0
   exact⟨rfl,dR,Jv.out.tH,Jv.out.at_,Jv.out.wrote⟩
end
end
section
open Go.RowKit Go.Sort
theorem Tryz.Oe:(Tryz.prog.info? 4).map (fun i=>(i.zero,i.size,i.bytes))=some (some (.bool false),1,1):=by kernel_rfl
namespace Df
section
variable {n:Nat} {es:List (Int×Int)} {s:St}
theorem Wk.all (hval:Si.Val n es) {i:Nat} (h:Wk n es i s):i≤n→∀v,v<i→s.height v≠-1:=by
 induction h with
 |zero=>intro _ v hv;omega
 | @pass i s h hv ih=>
   intro hi v hvi
   by_cases e:v=i
   ·rw[e];exact hv
   ·exact ih (by omega) v (by omega)
 | @walk i k s s' h hv hr ih=>
   intro hi v hvi
   have b:=(h.bd hval (by omega)).root (v:=i) (by omega)
   have h1:(s.reach i (-1) 0).height v≠-1:=by
    rw[bM (h.bd hval (by omega)) (by omega)]
    split
    ·omega
    ·exact ih (by omega) v (by omega)
   rw[hr.stays hval eZ b h1]
   exact h1
theorem NP {r:Nat} (b:Bd n es r s) (h:∀v,v<n→s.height v≠-1):iV s=s.az:=by
 refine aa6 fun v=> ?_
 by_cases hv:v<n
 ·rw[GP b hv (h v hv)]
  exact(cQ (-1) (by rw[b.lh];exact hv)).symm
 ·rw[aat (by rw[wN,b.lh];omega),aat (by rw[b.lh];omega)]
theorem NM {r:Nat} (b:Bd n es r s) {v:Nat} (hv:v<n) (hh:s.height v= -1):s.par.set v (-1)=s.par:=by
 refine aa6 fun u=> ?_
 rw[aaq]
 by_cases e:v=u
 ·subst e
  rw[if_pos rfl,if_pos (by rw[b.lp];exact hv),cQ 0 (by rw[b.lp];exact hv),b.hu v hv hh]
 ·rw[if_neg e]
theorem NN {r:Nat} (b:Bd n es r s) {v:Nat} (hv:v<n) (hh:s.height v= -1):(iV s).set v 0=iV s:=by
 refine aa6 fun u=> ?_
 rw[aaq]
 by_cases e:v=u
 ·subst e
  have hl:v<s.az.length:=by rw[b.lh];exact hv
  rw[if_pos rfl,if_pos (by rw[wN];exact hl)]
  unfold iV
  rw[aay,cQ (-1) hl]
  have:s.az.getD v (-1)= -1:=hh
  rw[this]
  rfl
 ·rw[if_neg e]
end
end Df
def LM (n:Nat) (es:List (Int×Int)) (w:World) (e:Ending) (w':World):Prop:=
 ∃f s,e= .returned (For.val f s)∧Df.Wk n es n s∧dI w' f s∧Below w.heap.size w w'
def YQ (n m:Nat) (w wr:World) (p:Nat):Prop:=
 ∃gp gh gr,wr.heap[p]? =some (.cells #[.slice (some ⟨gp,0,none⟩) n n,.slice (some ⟨gh,0,none⟩) n n,.slice none 0 0,.slice (some ⟨gr,0,none⟩) m m] 36 (0,0))∧aq wr gp (List.replicate n 0)∧aq wr gh (List.replicate n 0)∧aq wr gr (List.replicate m 0)∧
  (w.heap.size≤p∧w.heap.size≤gp∧w.heap.size≤gh∧w.heap.size≤gr)∧(p≠gp∧p≠gh∧p≠gr∧gp≠gh∧gp≠gr∧gh≠gr)∧Below w.heap.size w wr
theorem BX {w V:World} (h:Below w.heap.size w V) (o:Obj):Below w.heap.size w (V.alloc o):=h.alloc h.size o
theorem Es {w V:World} (h:Below w.heap.size w V):Below w.heap.size w V.drew:=h.drew
theorem tN {w:World} {g:Nat} {l:List Int} (h:aq w g l):aq w.drew g l:=h
theorem OV {w:World} {g:Nat} {o:Obj} (h:w.heap[g]? =some o):w.drew.heap[g]? =some o:=h
theorem LD {w:World} {g:Nat} {o o':Obj} (h:w.heap[g]? =some o):(w.alloc o').heap[g]? =some o:=(aap w o' g (lt_of_block h)).trans h
theorem He (n:Nat):(madeCells #[.bool false] n)=(List.replicate n (Value.bool false)).toArray:=by
 apply Array.ext'
 rw[toList_madeCells_one]
theorem PZ {n m p gp gh gr:Nat} {w wr:World} (h1:wr.heap[p]? =some (.cells #[.slice (some ⟨gp,0,none⟩) n n,.slice (some ⟨gh,0,none⟩) n n,.slice none 0 0,.slice (some ⟨gr,0,none⟩) m m] 36 (0,0))) (h2:aq wr gp (List.replicate n 0)) (h3:aq wr gh (List.replicate n 0)) (h4:aq wr gr (List.replicate m 0))
 (h5:w.heap.size≤p∧w.heap.size≤gp∧w.heap.size≤gh∧w.heap.size≤gr) (h6:p≠gp∧p≠gh∧p≠gr∧gp≠gh∧gp≠gr∧gh≠gr) (h7:Below w.heap.size w wr):YQ n m w wr p:=⟨gp,gh,gr,h1,h2,h3,h4,h5,h6,h7⟩
theorem tM {W:World} {k M:Nat} (h:W.heap.size=k):aq (W.alloc (.cells (madeCells #[.int .i64 0] M) 3)) k (List.replicate M 0):=by
 subst h
 unfold aq
 rw[heap_alloc_new,←cD]
theorem JG {n:Nat} {es:List (Int×Int)} {s:Df.St} (hv:Si.Val n es) (h:Df.Wk n es n s):s.par.length≤17592186043904∧s.az.length≤17592186043904∧s.ord.length≤17592186043904∧s.aJ.length≤17592186043904:=by
 have b:=h.bd hv (aad _)
 have h1:=b.lp
 have h2:=b.lh
 have h3:=b.lo
 have h4:=b.hr
 have h5:=hv.hi
 have h6:=hv.few
 omega
theorem cK.dY {w:World} {R:Nat} {a b c d:Value} {ao:Option Addr} {l:List Int} (h:cK w ao l) (hf:∀x,ao=some x→x.block≠R):cK (dY w R a b c d) ao l:=fun j x hj=>by
 obtain⟨b',o,e,hc⟩:=h j x hj
 refine⟨b',o,e,?_⟩
 rw[←hc]
 exact adj (a:=⟨b',o+j,none⟩) (kR (hf _ e) a b c d)
theorem dI.dY {w:World} {R g1 g2 g4 c1 c2 c3 c4:Nat} {a b c d:Value} {ao:Option Addr} {s:Df.St} (h:dI w ⟨some ⟨g1,0,none⟩,some ⟨g2,0,none⟩,ao,some ⟨g4,0,none⟩,c1,c2,c3,c4⟩ s) (h1:g1≠R) (h2:g2≠R) (h4:g4≠R) (h3:∀x,ao=some x→x.block≠R):dI (Go.Proofs.YtdjmnpmdmjclhabGreat.dY w R a b c d) ⟨some ⟨g1,0,none⟩,some ⟨g2,0,none⟩,ao,some ⟨g4,0,none⟩,c1,c2,c3,c4⟩ s:=
 ⟨⟨h.l1.len,h.l1.ints.dY (fun x hx=>by cases hx;exact h1),h.l1.none⟩,⟨h.l2.len,h.l2.ints.dY (fun x hx=>by cases hx;exact h2),h.l2.none⟩,⟨h.l3.len,h.l3.ints.dY h3,h.l3.none⟩,⟨h.l4.len,h.l4.ints.dY (fun x hx=>by cases hx;exact h4),h.l4.none⟩,h.n1,h.n2,h.n3,h.n4⟩
set_option maxRecDepth 100000 in
set_option maxHeartbeats 16000000 in
theorem J3 (n:Nat) (ao:Option Addr) (ca:Nat) (es:List (Int×Int)) (w:World) (he:aQ w ao es) (hv:Si.Val n es):
 Calls Tryz.prog 19 #[.agg #[.int .i64 (n:Int),.slice ao es.length ca]] w (LM n es w):=by
 obtain⟨i0,hi,hz0,hz1,hz2⟩:=info_parts Tryz.bO
 obtain⟨i1,hi1,hy0,hy1,hy2⟩:=info_parts Tryz.Oe
 have cj:=hv.few
 have hhi:=hv.hi
 obtain⟨W,hW⟩:∃W,W=(w.alloc (.cells #[.int .i64 (n:Int),.slice ao es.length ca] 24)).alloc (.cells #[.slice none 0 0,.slice none 0 0,.slice none 0 0,.slice none 0 0] 36):=⟨_,rfl⟩
 have hB0:Below w.heap.size w W:=by rw[hW];exact((aae _ _).alloc (aad _) _).alloc (by simp) _
 have hsz:W.heap.size=w.heap.size+2:=by rw[hW];simp
 have g1:W.heap[w.heap.size]? =some (.cells #[.int .i64 (n:Int),.slice ao es.length ca] 24 (0,0)):=by
  rw[hW,aap _ _ _ (by simp)]
  exact heap_alloc_new w _
 have g2:W.heap[w.heap.size+1]? =some (.cells #[.slice none 0 0,.slice none 0 0,.slice none 0 0,.slice none 0 0] 36 (0,0)):=by
  rw[hW]
  exact alloc_at (by simp)
 have Js:=Nu.hid (NL n ao ca es W (he.later hB0) hv)
 obtain⟨x0,x1,-⟩:=ay g1
 rw[hW] at x0 x1
 have HE:=Nu.hid (he.later hB0)
 have HV:=Nu.hid hv
 have cZ:=Nu.hid hB0
 have nh:=Nu.hid g1
 have iN:=Nu.hid g2
 have lg:=Nu.hid hW
 have Rh:∀V (k:Nat),k≤8388608→(Instr.makeSlice 27 (.int .i64 (k:Int)) (.int .i64 (k:Int))).run Tryz.prog V= .ok (.slice (some ⟨V.heap.size,0,none⟩) k k) (V.alloc (.cells (madeCells #[.int .i64 0] k) 3)):=fun V k hk=>by
  have:=run_make (P:=Tryz.prog) V 27 3 i0 (.int .i64 0) Tryz.underlying27 hi hz0 .i64 .i64 (k:Int) (k:Int) (by omega) (abE _) (by rw[hz2];omega) (by omega)
  rw[this,hz1]
  simp[Value.cells]
 have X9:=fun V=>Rh V n (by omega)
 have Ya:=fun V=>Rh V es.length (by omega)
 have Yb:∀V,(Instr.makeSlice 74 (.int .i64 (n:Int)) (.int .i64 (n:Int))).run Tryz.prog V= .ok (.slice (some ⟨V.heap.size,0,none⟩) n n) (V.alloc (.cells (Array.replicate n (Value.bool false)) 4)):=fun V=>by
  have:=run_make (P:=Tryz.prog) V 74 4 i1 (.bool false) Tryz.underlying74 hi1 hy0 .i64 .i64 (n:Int) (n:Int) (by omega) (abE _) (by rw[hy2];omega) (by omega)
  rw[this,hy1]
  simp[Value.cells,He]
 clear he hv hB0 g1 g2 hW Rh
 go_enter Tryz.func19,Tryz.ntmps19
 go_wp2_with (go_at_call 30;rw[←lg.out];refine Js.out.mono ?_;rintro e w2 ⟨G,vs,rfl,hvl,hrows,hG,hb2⟩;refine aaB ?_)
 refine Nu.hid ?_
 have k1:=(hb2.block w.heap.size (by omega)).trans nh.out
 have k2:=(hb2.block (w.heap.size+1) (by omega)).trans iN.out
 have hs2:=hb2.size
 have ct:=Nu.hid (cZ.out.trans (hb2.mono cZ.out.size))
 have xR:=Nu.hid (HE.out.later hb2)
 have uy:=Nu.hid hrows
 have HVL:=Nu.hid hvl
 have Dx:=Nu.hid k1
 have xP:=Nu.hid k2
 obtain⟨y0,y1,-⟩:=ay k1
 clear hrows hvl hG hb2 k1 k2 x0 x1 Js cZ HE nh iN
 go_upto_region 2 with fail
 go_cut [4] from 11 to 21 (fun x wr=>∃p:Nat,x= .pointer (some ⟨p,0,none⟩)∧YQ n es.length w2 wr p)
 case first=>
  have HS:Hid (∀V,Below w2.heap.size w2 V→V.cell? ⟨w.heap.size,0,none⟩=some (.int .i64 (n:Int))∧V.cell? ⟨w.heap.size,1,none⟩=some (.slice ao es.length ca)):=fun V hV=>by
   obtain⟨y0,y1,-⟩:=ay ((hV.block w.heap.size (by omega)).trans Dx.out)
   exact⟨y0,y1⟩
  go_region_held3 (fun V=>V.cell? ⟨w.heap.size,0,none⟩=some (.int .i64 (n:Int))∧V.cell? ⟨w.heap.size,1,none⟩=some (.slice ao es.length ca)) (exact HS.out _ (by repeat (first|exact aae _ _|with_reducible refine Es ?_|with_reducible refine BX ?_ _))) (fail)
  all_goals
   clear HS X9 Ya Yb
   go_wp2_with fail
   go_meet
   refine⟨_,rfl,?_⟩
   apply PZ
   ·repeat (first|exact alloc_at (by simp)|with_reducible refine OV ?_|with_reducible refine LD ?_)
   ·repeat (first|(refine tM ?_;simp;done)|with_reducible refine tN ?_|with_reducible refine aq.alloc ?_ _)
   ·repeat (first|(refine tM ?_;simp;done)|with_reducible refine tN ?_|with_reducible refine aq.alloc ?_ _)
   ·repeat (first|(refine tM ?_;simp;done)|with_reducible refine tN ?_|with_reducible refine aq.alloc ?_ _)
   ·refine⟨?_,?_,?_,?_⟩<;>omega
   ·refine⟨?_,?_,?_,?_,?_,?_⟩<;>omega
   ·repeat (first|exact aae _ _|with_reducible refine Es ?_|with_reducible refine BX ?_ _)
 case rest=>
  obtain⟨p,rfl,gp,gh,gr,hblk,ip,ih,ir,⟨b1,b2,b3,b4⟩,⟨d1,d2,d3,d4,d5,d6⟩,dg⟩:=hcut
  have hsc:=dg.size
  have y0:=(ay ((dg.block w.heap.size (by omega)).trans Dx.out)).1
  have Vm:=lt_of_block hblk
  have qY:=ip.lt
  have hl2:=ih.lt
  have hl3:=ir.lt
  obtain⟨w3,hw3⟩:∃w3,w3=wc.alloc (.cells (Array.replicate n (Value.bool false)) 4):=⟨_,rfl⟩
  have hb3:Below wc.heap.size wc w3:=by rw[hw3];exact(aae _ _).alloc (aad _) _
  have hrw:RW w2 w3 p gp gh gr wc.heap.size (.slice none 0 0) n es.length (List.replicate n 0) (List.replicate n 0) [] (List.replicate es.length 0) (List.replicate n false):=by
   refine⟨dg.trans (hb3.mono hsc),(hb3.block p Vm).trans hblk,ip.later hb3,ih.later hb3,ir.later hb3,?_,.nil _ _,⟨b1,b2,b3,b4,hsc⟩,⟨d1,d2,d3,by omega,d4,d5,by omega,d6,by omega,by omega⟩,by simp[Value.ownBlock]⟩
   unfold bY
   rw[hw3,heap_alloc_new,ads]
   simp
  have HRW:=Nu.hid hrw
  have nu:=Nu.hid hw3
  have Gf:Hid (∀V,Below w2.heap.size w2 V→V.cell? ⟨w.heap.size,0,none⟩=some (.int .i64 (n:Int))∧V.cell? ⟨w.heap.size,1,none⟩=some (.slice ao es.length ca)):=fun V hV=>by
   obtain⟨y0,y1,-⟩:=ay ((hV.block w.heap.size (by omega)).trans Dx.out)
   exact⟨y0,y1⟩
  clear hblk ip ih ir dg hb3 hrw hw3 b1 b2 b3 b4 d1 d2 d3 d4 d5 d6 X9 Ya y1
  go_wp2
  rw[←nu.out]
  clear Yb y0
  go_loopw [6] (fun c wr=>∃(i:Nat) (P:List Int),i≤n∧c= .int .i64 i∧P.length=n∧(∀v,v<i→P[v]? =some (-1))∧RW w2 wr p gp gh gr wc.heap.size (.slice none 0 0) n es.length P (List.replicate n 0) [] (List.replicate es.length 0) (List.replicate n false)) (fun c _=>n-(intOf c).toNat)
  case atStart=>exact⟨0,_,aax _,rfl,by simp,fun v hv=>(by omega),HRW.out⟩
  case round=>
   obtain⟨i,P,hin,rfl,zx,hP,hr⟩:=hrel
   obtain⟨y0,y1⟩:=Gf.out wr hr.aI
   by_cases hlt:i<n
   ·have lV:(i:Int)<(n:Int):=by omega
    have hk0:(0:Int)≤(i:Int):=by omega
    obtain⟨q0,-,-,-,-⟩:=hr.cells
    have c0:=hr.ip.cell (cQ 0 (by omega:i<P.length))
    have f0:=hr.ip.free i
    have HN:=Nu.hid (hr.uN i (-1))
    have HP:=Nu.hid hP
    clear hP hr
    go_wp2
    go_roundw
    case rel=>
     refine⟨i+1,P.set i (-1),by omega,by go_num,by simp[zx],fun v hv=> ?_,HN.out⟩
     rw[aaq]
     by_cases e:i=v
     ·subst e;rw[if_pos rfl,if_pos (by omega)]
     ·rw[if_neg e];exact HP.out v (by omega)
    case measure=>simp[intOf];omega
   ·have hd:¬((i:Int)<(n:Int)):=by omega
    have hPe:P=List.replicate n (-1):=by
     refine aa6 fun v=> ?_
     by_cases hv:v<n
     ·rw[hP v (by omega),aaI,if_pos hv]
     ·rw[aat (by omega),aat (by simp;omega)]
    subst hPe
    have uC:=Nu.hid hr
    clear hP hr zx
    go_wp2
    clear y0 y1 hd hlt
    go_loopw [7] (fun c wr=>∃(i:Nat) (R:List Int),i≤es.length∧c= .int .i64 i∧R.length=es.length∧(∀v,v<i→R[v]? =some (-1))∧RW w2 wr p gp gh gr wc.heap.size (.slice none 0 0) n es.length (List.replicate n (-1)) (List.replicate n 0) [] R (List.replicate n false)) (fun c _=>es.length-(intOf c).toNat)
    case atStart=>exact⟨0,_,aax _,rfl,by simp,fun v hv=>(by omega),uC.out⟩
    case round=>
     obtain⟨i,R,hin,rfl,De,hR,hr⟩:=hrel
     obtain⟨y0,y1⟩:=Gf.out wr hr.aI
     by_cases hlt:i<es.length
     ·have lV:(i:Int)<(es.length:Int):=by omega
      have hk0:(0:Int)≤(i:Int):=by omega
      obtain⟨-,-,-,q3,-⟩:=hr.cells
      have c0:=hr.ir.cell (cQ 0 (by omega:i<R.length))
      have f0:=hr.ir.free i
      have HN:=Nu.hid (hr.rV i (-1))
      have HP:=Nu.hid hR
      clear hR hr
      go_wp2
      go_roundw
      case rel=>
       refine⟨i+1,R.set i (-1),by omega,by go_num,by simp[De],fun v hv=> ?_,HN.out⟩
       rw[aaq]
       by_cases e:i=v
       ·subst e;rw[if_pos rfl,if_pos (by omega)]
       ·rw[if_neg e];exact HP.out v (by omega)
      case measure=>simp[intOf];omega
     ·have hd:¬((i:Int)<(es.length:Int)):=by omega
      have hRe:R=List.replicate es.length (-1):=by
       refine aa6 fun v=> ?_
       by_cases hv:v<es.length
       ·rw[hR v (by omega),aaI,if_pos hv]
       ·rw[aat (by omega),aat (by simp;omega)]
      subst hRe
      have qy:=Nu.hid hr
      clear hR hr De
      go_wp2
      clear y0 y1 hd hlt
      go_loopw [8] (fun c wr=>∃(i:Nat) (s:Df.St) (ov:Value),i≤n∧c= .int .i64 i∧Df.Wk n es i s∧RW w2 wr p gp gh gr wc.heap.size ov n es.length s.par (Df.iV s) s.ord s.aJ (Df.gV s)) (fun c _=>n-(intOf c).toNat)
      case atStart=>
       refine⟨0,Df.St.start n es.length,.slice none 0 0,aax _,rfl,.zero,?_⟩
       have e1:Df.iV (Df.St.start n es.length)=List.replicate n 0:=by simp[Df.iV,Df.St.start]
       have e2:Df.gV (Df.St.start n es.length)=List.replicate n false:=by simp[Df.gV,Df.St.start]
       rw[e1,e2]
       exact qy.out
      case round=>
       obtain⟨i,s,ov,hin,rfl,hwk,hr⟩:=hrel
       obtain⟨y0,y1⟩:=Gf.out wr hr.aI
       have hbd:=hwk.bd HV.out hin
       by_cases hlt:i<n
       ·have lV:(i:Int)<(n:Int):=by omega
        have hk0:(0:Int)≤(i:Int):=by omega
        have z0:=hr.is.cell (Df.wJ hbd hlt)
        by_cases hh:s.height i= -1
        ·have hb:(s.height i != -1)=false:=by simpa using hh
         rw[hb] at z0
         obtain⟨k,s2,hR,_⟩:=Df.total HV.out (s.reach i (-1) 0).left (Cs.out es i (2*es.length)) (s.reach i (-1) 0) (aad _) (hbd.root hlt) Df.eZ
         have hr':RW w2 wr p gp gh gr wc.heap.size ov n es.length (s.reach i (-1) 0).par (Df.iV (s.reach i (-1) 0)) s.ord (s.reach i (-1) 0).aJ (Df.gV s):=by
          rw[Df.x8 s i (-1) 0 (by decide),Df.NN hbd hlt hh]
          show RW w2 wr p gp gh gr wc.heap.size ov n es.length (s.par.set i (-1)) (Df.iV s) s.ord s.aJ (Df.gV s)
          rw[Df.NM hbd hlt hh]
          exact hr
         have dZ:=GM (r:=i+1) (ca:=ca) xR.out HV.out uy.out HVL.out (by omega) k (s.reach i (-1) 0) s2 i ov s.ord (Df.gV s) wr hR (hbd.root hlt) hlt (by rw[Df.bM hbd hlt,if_pos rfl];decide) rfl (Df.uQ s i (-1) 0 (by decide)).symm (by rw[Df.Am];exact hbd.lh) hr'
         have Cx:=Nu.hid dZ
         have fN:Hid (Df.Wk n es (i+1) s2):= .walk hwk hh hR
         clear dZ hr' hR hb hwk hr hbd hh
         go_wp2_with (go_at_call 31;refine Cx.out.mono ?_;rintro e w5 ⟨rfl,ZQ,h5,_,_⟩;have H5:=Nu.hid h5;clear h5)
         go_roundw
         case rel=>exact⟨i+1,s2,ZQ,by omega,by go_num,fN.out,H5.out⟩
         case measure=>simp[intOf];omega
        ·have hb:(s.height i != -1)=true:=by simpa using hh
         rw[hb] at z0
         have fN:Hid (Df.Wk n es (i+1) s):= .pass hwk hh
         have H5:=Nu.hid hr
         clear hb hwk hr hbd hh
         go_wp2
         go_roundw
         case rel=>exact⟨i+1,s,ov,by omega,by go_num,fN.out,H5.out⟩
         case measure=>simp[intOf];omega
       ·obtain rfl:i=n:=by omega
        have hd:¬((i:Int)<(i:Int)):=by omega
        rw[Df.NP hbd (hwk.all HV.out hin)] at hr
        obtain⟨q0,q1,q2,q3,-⟩:=hr.cells
        have hk3:=(hr.aI.block (w.heap.size+1) (by omega)).trans xP.out
        obtain⟨k0,k1,k2,k3,kf⟩:=au hk3
        obtain⟨zB,jZ,Bh,Rz,_⟩:=hr.ow.form
        have hlen:=JG HV.out hwk
        have hnil3:zB=none→s.ord.length=0∧jZ=0:=fun e=>by
         subst e
         rcases hr.ow.2 with ⟨h,h0⟩|⟨g,c,cur,h,_⟩
         ·rw[Bh] at h
          injection h with _ _ e3
          exact⟨h0,e3⟩
         ·rw[Bh] at h;cases h
        subst Bh
        have qY:dI wr ⟨some ⟨gp,0,none⟩,some ⟨gh,0,none⟩,zB,some ⟨gr,0,none⟩,s.par.length,s.az.length,jZ,s.aJ.length⟩ s:=⟨hr.ip.cG rfl,hr.ih.cG rfl,⟨rfl,Rz,hnil3⟩,hr.ir.cG rfl,hlen.1,hlen.2.1,hlen.2.2.1,hlen.2.2.2⟩
        have hbz:=eA (ct.out.trans (hr.aI.mono ct.out.size)) (R:=w.heap.size+1) (by omega) (.slice (some ⟨gp,0,none⟩) i i) (.slice (some ⟨gh,0,none⟩) i i) (.slice zB s.ord.length jZ) (.slice (some ⟨gr,0,none⟩) es.length es.length)
        have hlo:=hr.lo
        have hbl:∀x,zB=some x→w2.heap.size≤x.block:=fun x hx=>by
         obtain⟨_,_,e,_,h⟩:=hr.ow.form
         cases e
         exact(h x hx).1
        have hl2:dI (dY wr (w.heap.size+1) (.slice (some ⟨gp,0,none⟩) i i) (.slice (some ⟨gh,0,none⟩) i i) (.slice zB s.ord.length jZ) (.slice (some ⟨gr,0,none⟩) es.length es.length)) ⟨some ⟨gp,0,none⟩,some ⟨gh,0,none⟩,zB,some ⟨gr,0,none⟩,s.par.length,s.az.length,jZ,s.aJ.length⟩ s:=qY.dY (by omega) (by omega) (by omega) fun x hx=>by have:=hbl x hx;omega
        obtain⟨R0,R1,R2,R3,-⟩:=au (gW hk3 (.slice (some ⟨gp,0,none⟩) i i) (.slice (some ⟨gh,0,none⟩) i i) (.slice zB s.ord.length jZ) (.slice (some ⟨gr,0,none⟩) es.length es.length))
        have H0:=Nu.hid R0
        have H1:=Nu.hid R1
        have H2:=Nu.hid R2
        have H3:=Nu.hid R3
        have jU:=Nu.hid hl2
        have oY:=Nu.hid hbz
        have fN:=Nu.hid hwk
        have Po:=Nu.hid hbd.lp
        have T8:=Nu.hid hbd.lh
        have HN4:=Nu.hid hbd.lo
        unfold dY at H0 H1 H2 H3 jU oY
        clear hr hk3 qY hl2 hbz hbl hnil3 Rz hlen hwk R0 R1 R2 R3 hbd
        go_wp2
        refine bodyPost_ret (v:= .agg #[.slice (some ⟨gp,0,none⟩) i i,.slice (some ⟨gh,0,none⟩) i i,.slice zB s.ord.length jZ,.slice (some ⟨gr,0,none⟩) es.length es.length]) (by simp[results,Tryz.results19,go_sem,H0.out,H1.out,H2.out,H3.out]) rfl ?_
        refine⟨⟨some ⟨gp,0,none⟩,some ⟨gh,0,none⟩,zB,some ⟨gr,0,none⟩,s.par.length,s.az.length,jZ,s.aJ.length⟩,s,?_,fN.out,jU.out,oY.out⟩
        show _=Ending.returned (.agg #[.slice (some ⟨gp,0,none⟩) s.par.length s.par.length,.slice (some ⟨gh,0,none⟩) s.az.length s.az.length,.slice zB s.ord.length jZ,.slice (some ⟨gr,0,none⟩) s.aJ.length s.aJ.length])
        rw[Po.out,T8.out,HN4.out]
end
end Go.Proofs.YtdjmnpmdmjclhabGreat
