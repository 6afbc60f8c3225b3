import Derived.Test.YtdjmnpmdmjclhabGreatMg20
namespace Go.Proofs.YtdjmnpmdmjclhabGreat
section
open Go.RowKit Lt
def aD (c:Wp) (p t:Nat) (W0:World) (O:Nat→Prop) (W:World) (B:Nat→Prop) (st:TS) (wr:World):Prop:=
 (W0.heap.size≤W.heap.size∧(∀b,O b→W0.heap.size≤b∧b<W.heap.size)∧∀b,B b→W.heap.size≤b)∧aC O W wr∧∃O',(∀b,O' b→O b∨W.heap.size≤b)∧(∀b,B b→¬O' b)∧Ts c p t W0 O' st wr
section
variable {c:Wp} {p t:Nat} {W0 W wr w':World} {O B B':Nat→Prop} {st st':TS} {L U Z:Nat} {vp vw:Value}
theorem aD.start (h:aR c p t W0 O st L U Z vp vw W):aD c p t W0 O W (fun _=>False) st W:=
 ⟨⟨h.aI.size,fun b hb=>⟨h.oB b hb,h.oX b hb⟩,fun _ hb=>hb.elim⟩,aC.refl _ _,O,fun _ hb=> .inl hb,fun _ hb=>hb.elim,L,U,Z,vp,vw,h⟩
theorem aD.post (h:aD c p t W0 O W B st wr):aT c p t W0 O W st wr:=by
 obtain⟨⟨h0,tV,-⟩,h1,O',h2,-,L,U,Z,vp,vw,h3⟩:=h
 exact⟨h1,L,U,Z,vp,vw,h3.more (fun b hb=>⟨h2 b hb,h3.oX b hb⟩) (fun b hb=>hb.1.elim (fun q=>(tV b q).1) fun q=>by omega) (fun b hb=>hb.2)⟩
theorem aD.less (h:aD c p t W0 O W B st wr) (hB:∀b,B' b→B b):aD c p t W0 O W B' st wr:=by
 obtain⟨⟨h0,tV,FA⟩,h1,O',h2,h3,h4⟩:=h
 exact⟨⟨h0,tV,fun b hb=>FA b (hB b hb)⟩,h1,O',h2,fun b hb=>h3 b (hB b hb),h4⟩
theorem aD.later (h:aD c p t W0 O W B st wr) (hb:Below wr.heap.size wr w'):aD c p t W0 O W B st w':=by
 obtain⟨h0,h1,O',h2,h3,L,U,Z,vp,vw,h4⟩:=h
 exact⟨h0,h1.later hb,O',h2,h3,L,U,Z,vp,vw,h4.later hb⟩
theorem aD.box (h:aD c p t W0 O W B st wr) (o:Obj):aD c p t W0 O W (fun b=>B b∨b=wr.heap.size) st (wr.alloc o):=by
 have h':=h.later ((aae _ _).alloc (aad _) o)
 obtain⟨⟨h0,tV,FA⟩,h1,O',h2,h3,L,U,Z,vp,vw,h4⟩:=h'
 obtain⟨-,k1,O1,k2,k3,L1,U1,Z1,Zx,Zv,k4⟩:=h
 have k5:=k4.later ((aae _ _).alloc (aad _) o)
 refine⟨⟨h0,tV,fun b hb=> ?_⟩,h1,O1,k2,fun b hb=> ?_,L1,U1,Z1,Zx,Zv,k5⟩
 ·rcases hb with hb|hb
  ·exact FA b hb
  ·have:=k1.size
   omega
 ·rcases hb with hb|hb
  ·exact k3 b hb
  ·intro q
   have:=k4.oX b q
   omega
theorem aD.UZ (h:aD c p t W0 O W B st wr) (hb:Below wr.heap.size wr w') {b0:Nat} (h0:wr.heap.size≤b0):aD c p t W0 O W (fun b=>B b∨b=b0) st w':=by
 have h':=h.later hb
 obtain⟨⟨k0,k00,k01⟩,k1,O1,k2,k3,L1,U1,Z1,Zx,Zv,k4⟩:=h
 have k5:=k4.later hb
 obtain⟨-,h1,-⟩:=h'
 refine⟨⟨k0,k00,fun b hb=> ?_⟩,h1,O1,k2,fun b hb=> ?_,L1,U1,Z1,Zx,Zv,k5⟩
 ·rcases hb with hb|hb
  ·exact k01 b hb
  ·have:=k1.size
   omega
 ·rcases hb with hb|hb
  ·exact k3 b hb
  ·intro q
   have:=k4.oX b q
   omega
theorem aD.set (h:aD c p t W0 O W B st wr) {b i:Nat} (hb:B b) (x:Value):aD c p t W0 O W B st (wr.setCell ⟨b,i,none⟩ x):=by
 obtain⟨⟨h0,tV,FA⟩,h1,O',h2,h3,L,U,Z,vp,vw,h4⟩:=h
 exact⟨⟨h0,tV,FA⟩,fP h1 (FA b hb) x,O',h2,h3,L,U,Z,vp,vw,h4.far (h3 b hb) (by have:=FA b hb;omega) x⟩
theorem aD.drew (h:aD c p t W0 O W B st wr):aD c p t W0 O W B st wr.drew:=h.later ((aae _ _).drew)
theorem aD.drewN (h:aD c p t W0 O W B st wr) (k:Nat):aD c p t W0 O W B st (wr.drewN k):=h.later (below_drewN (aae _ _) k)
theorem aD.calls {f:FuncId} {args:Array Value} {R:Ending→Prop} (h:aD c p t W0 O W B st wr) (hB:∀b,B b→b<wr.heap.size)
 (hc:∀{O':Nat→Prop} {L U Z:Nat} {vp vw:Value},aR c p t W0 O' st L U Z vp vw wr→Calls Tryz.prog f args wr fun e w'=>R e∧aT c p t W0 O' wr st' w'):
 Calls Tryz.prog f args wr fun e w'=>R e∧aD c p t W0 O W B st' w'∧∀b,B b→w'.heap[b]? =wr.heap[b]? :=by
 obtain⟨⟨h0,tV,FA⟩,h1,O',h2,h3,L,U,Z,vp,vw,h4⟩:=h
 refine(hc h4).mono fun e w' ⟨he,hw,L',U',Z',o9,qA,h5⟩=>⟨he,⟨⟨h0,tV,FA⟩,?_,_,fun b hb=> ?_,fun b hb q=> ?_,L',U',Z',o9,qA,h5⟩,fun b hb=>hw.block b (hB b hb) (h3 b hb)⟩
 ·refine⟨hw.os.trans h1.os,hw.tape.trans h1.tape,hw.output.trans h1.output,abb h1.size hw.size,fun k hk hn=> ?_⟩
  have hs:=h1.size
  exact(hw.block k (by omega) (fun q=>(h2 k q).elim hn fun q=>by omega)).trans (h1.block k hk hn)
 ·have hs:=h1.size
  rcases hb.1 with q|q
  ·exact h2 b q
  ·exact .inr (by omega)
 ·rcases q.1 with q|q
  ·exact h3 b hb q
  ·have:=hB b hb
   omega
theorem aD.reads {f:FuncId} {args:Array Value} {R:Ending→Prop} (h:aD c p t W0 O W B st wr) (hB:∀b,B b→b<wr.heap.size)
 (hc:∀{O':Nat→Prop} {L U Z:Nat} {vp vw:Value},aR c p t W0 O' st L U Z vp vw wr→Calls Tryz.prog f args wr fun e w'=>R e∧Below wr.heap.size wr w'):
 Calls Tryz.prog f args wr fun e w'=>R e∧aD c p t W0 O W B st w'∧(∀b,B b→w'.heap[b]? =wr.heap[b]?)∧Below wr.heap.size wr w':=by
 have h':=h
 obtain⟨-,h1,O',h2,h3,L,U,Z,vp,vw,h4⟩:=h'
 exact(hc h4).mono fun e w' ⟨he,hw⟩=>⟨he,h.later hw,fun b hb=>hw.block b (hB b hb),hw⟩
theorem aD.Mw (h:aD c p t W0 O W B st wr) {k:Nat} (hk:k<st.like.length):∃g,wr.cell? ⟨t,1,none⟩=some (.slice (some ⟨g,0,none⟩) c.es.length c.es.length)∧wr.cell? ⟨g,k,none⟩=some (.int .i64 (st.like[k]?.getD 0))∧wr.frozen? ⟨g,k,none⟩=false∧(∀b,B b→g≠b)∧k<c.es.length∧g≠t∧∀z,aD c p t W0 O W B { st with like:=st.like.set k z } (wr.setCell ⟨g,k,none⟩ (.int .i64 z)):=by
 obtain⟨h0,h1,O',h2,h3,L,U,Z,vp,vw,h4⟩:=h
 refine⟨L,h4.cells.2.1,nY h4.like hk,h4.like.free k,fun b hb e=>h3 b hb (by rw[←e];exact h4.oL),by rw[←h4.ll];exact hk,?_,fun z=>⟨h0,?_,O',h2,h3,L,U,Z,vp,vw,h4.Aj k z⟩⟩
 ·have:=h4.n1
  omega
 ·rcases h2 L h4.oL with q|q
  ·exact h1.setCell q _
  ·exact fP h1 q _
theorem aD.UK (h:aD c p t W0 O W B st wr) {k:Nat} (hk:k<st.turn.length):∃g,wr.cell? ⟨t,2,none⟩=some (.slice (some ⟨g,0,none⟩) c.es.length c.es.length)∧wr.cell? ⟨g,k,none⟩=some (.int .i64 (st.turn[k]?.getD 0))∧wr.frozen? ⟨g,k,none⟩=false∧(∀b,B b→g≠b)∧k<c.es.length∧g≠t∧∀z,aD c p t W0 O W B { st with turn:=st.turn.set k z } (wr.setCell ⟨g,k,none⟩ (.int .i64 z)):=by
 obtain⟨h0,h1,O',h2,h3,L,U,Z,vp,vw,h4⟩:=h
 refine⟨U,h4.cells.2.2.1,nY h4.turn hk,h4.turn.free k,fun b hb e=>h3 b hb (by rw[←e];exact h4.oU),by rw[←h4.lu];exact hk,?_,fun z=>⟨h0,?_,O',h2,h3,L,U,Z,vp,vw,h4.GL k z⟩⟩
 ·have:=h4.n1
  omega
 ·rcases h2 U h4.oU with q|q
  ·exact h1.setCell q _
  ·exact fP h1 q _
theorem aD.Qp (h:aD c p t W0 O W B st wr) {k:Nat} (hk:k<st.lowest.length):∃g,wr.cell? ⟨t,5,none⟩=some (.slice (some ⟨g,0,none⟩) c.es.length c.es.length)∧wr.cell? ⟨g,k,none⟩=some (.int .i64 (st.lowest[k]?.getD 0))∧wr.frozen? ⟨g,k,none⟩=false∧(∀b,B b→g≠b)∧k<c.es.length∧g≠t∧∀z,aD c p t W0 O W B { st with lowest:=st.lowest.set k z } (wr.setCell ⟨g,k,none⟩ (.int .i64 z)):=by
 obtain⟨h0,h1,O',h2,h3,L,U,Z,vp,vw,h4⟩:=h
 refine⟨Z,h4.cells.2.2.2.2.2.1,nY h4.lowest hk,h4.lowest.free k,fun b hb e=>h3 b hb (by rw[←e];exact h4.oZ),by rw[←h4.lz];exact hk,?_,fun z=>⟨h0,?_,O',h2,h3,L,U,Z,vp,vw,h4.tG k z⟩⟩
 ·have:=h4.n1
  omega
 ·rcases h2 Z h4.oZ with q|q
  ·exact h1.setCell q _
  ·exact fP h1 q _
def dP (t:Nat) (w:World):Nat:=match w.cell? ⟨t,3,none⟩ with|some (.slice _ n _)=>n|_=>0
theorem aD.dP (h:aD c p t W0 O W B st wr):dP t wr=st.stk.length:=by
 obtain⟨-,-,O',-,-,L,U,Z,vp,vw,h4⟩:=h
 obtain⟨ao,cap,e,-⟩:=h4.qJ.form
 have:=h4.cells.2.2.2.1
 rw[e] at this
 unfold Go.Proofs.YtdjmnpmdmjclhabGreat.dP
 rw[this]
 simp
end
end
section
open Go.RowKit Lt
section
variable {c:Wp} {p t:Nat} {W0 W:World} {O:Nat→Prop} {st:TS} {L U Z:Nat} {vp vw:Value}
abbrev bZ (q:Pr):Obj:= .cells #[.int .i64 q.1.1,.int .i64 q.1.2,.int .i64 q.2.1,.int .i64 q.2.2] 143 (0,0)
theorem G7 {q:Pr} (h:q≠dG):(!(q.1.1== -1)|| !(q.1.2== -1)||(!(q.2.1== -1)|| !(q.2.2== -1)))=true:=by
 obtain⟨⟨a,b⟩,a',b'⟩:=q
 cases hc:(!(a== -1)|| !(b== -1)||(!(a'== -1)|| !(b'== -1))) with
 |true=>rfl
 |false=>
  simp at hc
  exact absurd (by rw[hc.1.1,hc.1.2,hc.2.1,hc.2.2]) h
theorem BK {w:World} {b:Nat} {t:TypeId} {x y z u:Value} (h:w.heap[b]? =some (.cells #[x,y,z,u] t (0,0))) (x' y':Value):((w.setCell ⟨b,0,none⟩ x').setCell ⟨b,1,none⟩ y').heap[b]? =some (.cells #[x',y',z,u] t (0,0)):=by
 have h1:=heap_setCell_same w b 0 _ _ x' h
 have h2:=heap_setCell_same _ b 1 _ _ y' h1
 simpa using h2
theorem BL {w:World} {b:Nat} {t:TypeId} {x y z u:Value} (h:w.heap[b]? =some (.cells #[x,y,z,u] t (0,0))) (x' y':Value):((w.setCell ⟨b,2,none⟩ x').setCell ⟨b,3,none⟩ y').heap[b]? =some (.cells #[x,y,x',y'] t (0,0)):=by
 have h1:=heap_setCell_same w b 2 _ _ x' h
 have h2:=heap_setCell_same _ b 3 _ _ y' h1
 simpa using h2
set_option maxRecDepth 100000 in
set_option maxHeartbeats 16000000 in
theorem JM (h:aR c p t W0 O st L U Z vp vw W) {hh:Int} {st':TS} (hlen:st.stk.length≤8388607) (ht:trim c.lw hh st=some st'):Calls Tryz.prog 109 #[.pointer (some ⟨t,0,none⟩),.int .i64 hh] W fun e w'=>e= .returned (.tuple #[])∧aT c p t W0 O W st' w':=by
 have VV:=SZ
 have hin:=aD.start h
 obtain⟨R,hR⟩:∃R,iO c.lw hh st.stk st.turn=R:=⟨_,rfl⟩
 have HR:=Nu.hid hR
 have HT:=Nu.hid ht
 have sO:=Nu.hid hin
 have HLEN:=Nu.hid hlen
 have lY:=Nu.hid (aD.reads hin (fun b hb=>hb.elim) (f:=83) (args:= #[.pointer (some ⟨t,0,none⟩)]) (R:=fun e=>e= .returned (fK (top st.stk))) (fun hT=>iz hT (by omega)))
 clear h hin hlen hR ht
 go_enter Tryz.func109,Tryz.ntmps109
 go_wp2_with (go_at_call 83;refine lY.out.mono ?_;rintro e w1 ⟨rfl,mQ,-,-⟩;have nN:=Nu.hid mQ;clear mQ)
 go_loopw [4] (fun bp wr=>∃bx ps tn,bp= .pointer (some ⟨bx,0,none⟩)∧aD c p t W0 O W (fun b=>b=bx) { st with stk:=ps,turn:=tn } wr∧wr.heap[bx]? =some (bZ (top ps))∧iO c.lw hh ps tn=R∧ps.length≤8388607) (fun _ wr=>dP t wr)
 case atStart=>exact⟨w1.heap.size,st.stk,st.turn,rfl,(nN.out.box _).less (fun b hb=> .inr hb),heap_alloc_new _ _,HR.out,HLEN.out⟩
 case round=>
  obtain⟨bx,ps,tn,rfl,ig,K5,hR2,hl2⟩:=hrel
  have hbl:=lt_of_block K5
  have hB:∀b,b=bx→b<wr.heap.size:=fun b hb=>by omega
  have xN:Hid (∀D:LW wr,Calls Tryz.prog 108 #[] D.val fun e w'=>e= .returned (fK dG)∧Below D.val.heap.size D.val w'):=fun D=>oC D.val
  have jW:=Nu.hid K5
  have fq:=Nu.hid ig
  have qy:=Nu.hid hR2
  have jU:=Nu.hid hl2
  have hne:=LW.any wr
  have hcs:∀D:LW wr,D.val.heap[bx]? =some (bZ (top ps)):=fun D=>(D.h.block _ hbl).trans K5
  cases ps with
  |nil=>
   have y0:∀D:LW wr,D.val.cell? ⟨bx,0,none⟩=some (.int .i64 (-1)):=fun D=>(au (hcs D)).1
   have y1:∀D:LW wr,D.val.cell? ⟨bx,1,none⟩=some (.int .i64 (-1)):=fun D=>(au (hcs D)).2.1
   have y2:∀D:LW wr,D.val.cell? ⟨bx,2,none⟩=some (.int .i64 (-1)):=fun D=>(au (hcs D)).2.2.1
   have y3:∀D:LW wr,D.val.cell? ⟨bx,3,none⟩=some (.int .i64 (-1)):=fun D=>(au (hcs D)).2.2.2.1
   have hst:st'={ st with stk:=[],turn:=tn }:=by
    have h1:=HT.out
    unfold trim at h1
    rw[HR.out,←qy.out] at h1
    exact(aak h1).symm
   have HST:=Nu.hid hst
   clear ig K5 hR2 hl2 hcs hbl hB hst
   refine(show Code.wp _ _ _ _ _ from ?_)
   go_wp2_with fail
   refine aB (by kernel_rfl) (by kernel_rfl) ?_
   repeat (go_big_quiet_step ((first|(go_at_call 108;exact Calls.lw (xN.out _)))))
   refine wpQuiet_nil ?_
   rintro _ ⟨D,rfl⟩
   clear y0 y1 y2 y3
   have q7:=fq.out.later D.h
   have abQ:=Nu.hid (aD.reads (q7.less (B':=fun _=>False) (fun _ hb=>hb.elim)) (fun b hb=>hb.elim) (f:=83) (args:= #[.pointer (some ⟨t,0,none⟩)]) (R:=fun e=>e= .returned (fK dG)) (fun hT=>iz hT (by simp)))
   clear q7
   go_wp2_with (go_at_call 83;refine abQ.out.mono ?_;rintro e w3 ⟨rfl,g9,-,-⟩;have ql:=Nu.hid g9;clear g9)
   obtain⟨W4,lM⟩:∃W4,W4=w3.alloc (bZ dG):=⟨_,rfl⟩
   have hb4:W4.heap[w3.heap.size]? =some (bZ dG):=by rw[lM];exact heap_alloc_new _ _
   have hl4:=lt_of_block hb4
   have qj:Hid (aD c p t W0 O W (fun _=>False) { st with stk:=[],turn:=tn } W4):=by rw[lM];exact(ql.out.box _).less (fun _ hb=>hb.elim)
   have TZ:Hid (∀D:LW W4,Calls Tryz.prog 108 #[] D.val fun e w'=>e= .returned (fK dG)∧Below D.val.heap.size D.val w'):=fun D=>oC D.val
   have y0:∀D:LW W4,D.val.cell? ⟨w3.heap.size,0,none⟩=some (.int .i64 (-1)):=fun D=>(au ((D.h.block _ hl4).trans hb4)).1
   have y1:∀D:LW W4,D.val.cell? ⟨w3.heap.size,1,none⟩=some (.int .i64 (-1)):=fun D=>(au ((D.h.block _ hl4).trans hb4)).2.1
   have y2:∀D:LW W4,D.val.cell? ⟨w3.heap.size,2,none⟩=some (.int .i64 (-1)):=fun D=>(au ((D.h.block _ hl4).trans hb4)).2.2.1
   have y3:∀D:LW W4,D.val.cell? ⟨w3.heap.size,3,none⟩=some (.int .i64 (-1)):=fun D=>(au ((D.h.block _ hl4).trans hb4)).2.2.2.1
   have Rc:=LW.any W4
   have om:=Nu.hid lM
   clear lM hb4 hl4
   change Code.wp _ _ _ _ (w3.alloc (bZ dG))
   rw[←om.out]
   refine aB (by kernel_rfl) (by kernel_rfl) ?_
   repeat (go_big_quiet_step ((first|(go_at_call 108;exact Calls.lw (TZ.out _)))))
   refine wpQuiet_nil ?_
   rintro _ ⟨D4,rfl⟩
   clear y0 y1 y2 y3
   go_wp2
   go_end0
   refine⟨rfl,?_⟩
   rw[HST.out]
   exact(qj.out.later D4.h).post
  |cons q ps=>
   have VL:R≠none:=fun e=>by
    have h1:=HT.out
    unfold trim at h1
    rw[HR.out,e] at h1
    cases h1
   have hq:q≠dG:=fun e=>VL (by rw[←qy.out,e];unfold iO;rw[if_pos rfl])
   obtain⟨a,ha,hRa⟩:∃a,least c.lw q=some a∧(if a=hh then (if q.1=aO then iO c.lw hh ps tn else match eT tn q.1.2 (-1) with|none=>none|some aZ=>iO c.lw hh ps aZ) else some (q::ps,tn))=R:=by
    have h1:=qy.out
    unfold iO at h1
    rw[if_neg hq] at h1
    cases hl:least c.lw q with
    |none=>rw[hl] at h1;exact absurd h1.symm VL
    |some a=>rw[hl] at h1;exact⟨a,rfl,h1⟩
   have Dw:Hid (∀D:LW wr,Calls Tryz.prog 135 #[.pointer (some ⟨t,0,none⟩),fK q] D.val fun e w'=>e= .returned (.int .i64 a)∧Below D.val.heap.size D.val w'):=fun D=>by
    obtain⟨-,-,O',-,-,L',U',Z',o9,qA,hT⟩:=fq.out.later D.h
    exact Gw hT ha
   have HRA:=Nu.hid hRa
   have HQ:=Nu.hid hq
   have HRS:=Nu.hid VL
   have hdec:=G7 hq
   have HB:=Nu.hid hB
   obtain⟨⟨qa,qb⟩,qc,qd⟩:=q
   dsimp only at hdec
   have y0:∀D:LW wr,D.val.cell? ⟨bx,0,none⟩=some (.int .i64 qa):=fun D=>(au (hcs D)).1
   have y1:∀D:LW wr,D.val.cell? ⟨bx,1,none⟩=some (.int .i64 qb):=fun D=>(au (hcs D)).2.1
   have y2:∀D:LW wr,D.val.cell? ⟨bx,2,none⟩=some (.int .i64 qc):=fun D=>(au (hcs D)).2.2.1
   have y3:∀D:LW wr,D.val.cell? ⟨bx,3,none⟩=some (.int .i64 qd):=fun D=>(au (hcs D)).2.2.2.1
   clear ig K5 hR2 hl2 hcs hbl hB VL hRa hq ha
   by_cases Fx:a=hh
   ·have hae:(a==hh)=true:=by simp[Fx]
    go_wp2_with fail
    refine aB (by kernel_rfl) (by kernel_rfl) ?_
    repeat (go_big_quiet_step ((first|(go_at_call 108;exact Calls.lw (xN.out _))|(go_at_call 135;exact Calls.lw (Dw.out _)))))
    refine wpQuiet_nil ?_
    rintro _ ⟨D,rfl⟩
    clear y0 y1 y2 y3
    have q7:=fq.out.later D.h
    have xw:D.val.heap[bx]? =some (bZ ((qa,qb),qc,qd)):=(D.h.block _ (lt_of_block jW.out)).trans jW.out
    have hBD:∀b,b=bx→b<D.val.heap.size:=fun b hb=>by have:=lt_of_block xw;omega
    have jT:=Nu.hid (aD.calls q7 hBD (f:=136) (args:= #[.pointer (some ⟨t,0,none⟩)]) (R:=fun e=>e= .returned (.tuple #[])) (st':={ st with stk:=ps,turn:=tn }) (fun hT=>ou hT rfl (by have:=jU.out;simp at this ⊢;omega)))
    have JC:=Nu.hid xw
    obtain⟨z0,z1,z2,z3,zf⟩:=au xw
    clear q7 xw hBD
    by_cases hl:(qa,qb)=aO
    ·have hle:decide ((qa,qb)=aO)=true:=decide_eq_true hl
     have fY:Hid (∀w,Calls Tryz.prog 137 #[.agg #[.int .i64 qa,.int .i64 qb]] w fun e w'=>e= .returned (.bool true)∧Below w.heap.size w w'):=fun w=>by rw[←hle];exact fV (qa,qb) w
     have xM:Hid (iO c.lw hh ps tn=R):=by
      have h1:=HRA.out
      rw[if_pos Fx] at h1
      rw[if_pos hl] at h1
      exact h1
     have HHL:=Nu.hid hl
     clear hle hl hdec
     go_wp2_with (first
      |(go_at_call 136;refine jT.out.mono ?_;rintro e w3 ⟨rfl,g9,hk3⟩;have hb3:=(hk3 bx rfl).trans JC.out;have ql:=Nu.hid g9;have dm:=Nu.hid hb3;obtain⟨z0,z1,z2,z3,zf⟩:=au hb3;clear g9 hk3 hb3)
      |(go_at_call 137;refine(fY.out _).mono ?_;rintro e w4 ⟨rfl,hb4⟩;have qj:=Nu.hid (ql.out.later hb4);have hb5:=(hb4.block _ (lt_of_block dm.out)).trans dm.out;have gJ:=Nu.hid hb5;obtain⟨z0,z1,z2,z3,zf⟩:=au hb5;clear hb4 hb5))
     have kX:=(qj.out.less (B':=fun _=>False) (fun _ hb=>hb.elim)).box (bZ ((qa,qb),qc,qd))
     have hb5:(w4.alloc (bZ ((qa,qb),qc,qd))).heap[w4.heap.size]? =some (bZ ((qa,qb),qc,qd)):=heap_alloc_new _ _
     have Cj:=Nu.hid (aD.reads kX (fun b hb=>hb.elim (fun q=>q.elim) fun q=>by have:=lt_of_block hb5;omega) (f:=83) (args:= #[.pointer (some ⟨t,0,none⟩)]) (R:=fun e=>e= .returned (fK (top ps))) (fun hT=>iz hT (by have:=jU.out;simp at this ⊢;omega)))
     have jX:=Nu.hid hb5
     clear kX hb5
     go_at_call 83
     refine Cj.out.mono ?_
     rintro e w6 ⟨rfl,eY,kW,-⟩
     have cq:=(kW w4.heap.size (.inr rfl)).trans jX.out
     obtain⟨x0,x1,x2,x3,xf⟩:=au cq
     have rM:=Nu.hid eY
     have nj:=Nu.hid cq
     clear eY kW cq
     obtain⟨q',hq'⟩:∃q',top ps=q':=⟨_,rfl⟩
     have HQ':=Nu.hid hq'
     rw[hq']
     clear hq'
     go_wp2
     go_roundw
     case rel=>
      refine⟨w4.heap.size,ps,tn,rfl,?_,?_,xM.out,by have:=jU.out;simp at this;omega⟩
      ·exact((((rM.out.less (B':=fun b=>b=w4.heap.size) (fun _ hb=> .inr hb)).set rfl _).set rfl _).set rfl _).set rfl _
      ·rw[HQ'.out]
       exact iI nj.out _ _ _ _
     case measure=>
      have h1:=(((((rM.out.less (B':=fun b=>b=w4.heap.size) (fun _ hb=> .inr hb)).set (i:=0) rfl (.int .i64 q'.1.1)).set (i:=1) rfl (.int .i64 q'.1.2)).set (i:=2) rfl (.int .i64 q'.2.1)).set (i:=3) rfl (.int .i64 q'.2.2)).dP
      have h2:=fq.out.dP
      rw[h2]
      dsimp only at h1 ⊢
      rw[h1]
      simp
    ·have hle:decide ((qa,qb)=aO)=false:=decide_eq_false hl
     have fY:Hid (∀w,Calls Tryz.prog 137 #[.agg #[.int .i64 qa,.int .i64 qb]] w fun e w'=>e= .returned (.bool false)∧Below w.heap.size w w'):=fun w=>by rw[←hle];exact fV (qa,qb) w
     obtain⟨k,hkb,Vo,xM⟩:∃k:Nat,qb=(k:Int)∧k<tn.length∧Hid (iO c.lw hh ps (tn.set k (-1))=R):=by
      have h1:=HRA.out
      rw[if_pos Fx] at h1
      rw[if_neg hl] at h1
      cases hp:eT tn ((qa,qb),qc,qd).1.2 (-1) with
      |none=>rw[hp] at h1;exact absurd h1.symm HRS.out
      |some tn'=>
       rw[hp] at h1
       obtain⟨k,e1,e2,e3⟩:=ju hp
       refine⟨k,e1,e2,?_⟩
       rw[←e3]
       exact h1
     subst hkb
     clear hle hl hdec
     go_wp2_with (first
      |(go_at_call 136;refine jT.out.mono ?_;rintro e w3 ⟨rfl,g9,hk3⟩;have hb3:=(hk3 bx rfl).trans JC.out;have ql:=Nu.hid g9;have dm:=Nu.hid hb3;obtain⟨z0,z1,z2,z3,zf⟩:=au hb3;clear g9 hk3 hb3)
      |(go_at_call 137;refine(fY.out _).mono ?_;rintro e zX ⟨rfl,hb4⟩;have qj:=Nu.hid (ql.out.later hb4);have hb5:=(hb4.block _ (lt_of_block dm.out)).trans dm.out;have gJ:=Nu.hid hb5;obtain⟨z0,z1,z2,z3,zf⟩:=au hb5;clear hb4 hb5))
     obtain⟨U',u0,u1,u2,u3,u4,u5,u6⟩:=qj.out.UK (k:=k) Vo
     have acw:=Nu.hid (u6 (-1)).drew
     have n1:U'≠bx:=u3 bx rfl
     have v0:(0:Int)≤(k:Int):=by omega
     have v1:(k:Int)<(c.es.length:Int):=by omega
     have BG:(zX.setCell ⟨U',k,none⟩ (.int .i64 (-1))).drew.heap[bx]? =some (bZ ((qa,(k:Int)),qc,qd)):=(heap_setCell_other zX ⟨U',k,none⟩ _ _ (fun e=>n1 e.symm)).trans gJ.out
     have PA:=Nu.hid BG
     clear u3 u6 BG
     go_big_region
     go_wp2_with fail
     have kX:aD c p t W0 O W (fun b=>b=zX.heap.size) { st with stk:=ps,turn:=tn.set k (-1) } ((zX.setCell ⟨U',k,none⟩ (.int .i64 (-1))).alloc (bZ ((qa,(k:Int)),qc,qd))).drew:=((acw.out.less (B':=fun _=>False) (fun _ hb=>hb.elim)).box (bZ ((qa,(k:Int)),qc,qd))).less (fun b hb=> .inr (by rw[hb];simp[World.drew]))
     have hb5:((zX.setCell ⟨U',k,none⟩ (.int .i64 (-1))).alloc (bZ ((qa,(k:Int)),qc,qd))).drew.heap[zX.heap.size]? =some (bZ ((qa,(k:Int)),qc,qd)):=by
      have h1:=heap_alloc_new (zX.setCell ⟨U',k,none⟩ (.int .i64 (-1))) (bZ ((qa,(k:Int)),qc,qd))
      have h2:(zX.setCell ⟨U',k,none⟩ (.int .i64 (-1))).heap.size=zX.heap.size:=by simp
      rw[h2] at h1
      exact h1
     have Cj:=Nu.hid (aD.reads kX (fun b hb=>by have:=lt_of_block hb5;omega) (f:=83) (args:= #[.pointer (some ⟨t,0,none⟩)]) (R:=fun e=>e= .returned (fK (top ps))) (fun hT=>iz hT (by have:=jU.out;simp at this ⊢;omega)))
     have jX:=Nu.hid hb5
     clear kX hb5
     go_at_call 83
     refine Cj.out.mono ?_
     rintro e w6 ⟨rfl,eY,kW,-⟩
     have cq:=(kW zX.heap.size rfl).trans jX.out
     obtain⟨x0,x1,x2,x3,xf⟩:=au cq
     have rM:=Nu.hid eY
     have nj:=Nu.hid cq
     clear eY kW cq
     obtain⟨q',hq'⟩:∃q',top ps=q':=⟨_,rfl⟩
     have HQ':=Nu.hid hq'
     rw[hq']
     clear hq'
     go_wp2
     go_roundw
     case rel=>
      refine⟨zX.heap.size,ps,tn.set k (-1),rfl,?_,?_,xM.out,by have:=jU.out;simp at this;omega⟩
      ·exact(((rM.out.set rfl _).set rfl _).set rfl _).set rfl _
      ·rw[HQ'.out]
       exact iI nj.out _ _ _ _
     case measure=>
      have h1:=((((rM.out.set (i:=0) rfl (.int .i64 q'.1.1)).set (i:=1) rfl (.int .i64 q'.1.2)).set (i:=2) rfl (.int .i64 q'.2.1)).set (i:=3) rfl (.int .i64 q'.2.2)).dP
      have h2:=fq.out.dP
      rw[h2]
      dsimp only at h1 ⊢
      rw[h1]
      simp
   ·have hae:(a==hh)=false:=by simp[Fx]
    have hR3:R=some (((qa,qb),qc,qd)::ps,tn):=by
     have h1:=HRA.out
     rw[if_neg Fx] at h1
     exact h1.symm
    obtain⟨gY,JT,i1,gG,JS,i2,hc1,hc2,hst⟩:∃gY JT i1 gG JS i2,cut c.lw hh st.like tn (qa,qb) (qc,qd)=some (gY,JT,i1)∧cut c.lw hh gY JT (qc,qd) i1=some (gG,JS,i2)∧st'={ st with stk:=(i1,i2)::ps,like:=gG,turn:=JS }:=by
     have h1:=HT.out
     unfold trim at h1
     rw[HR.out,hR3] at h1
     dsimp only at h1
     rw[if_neg HQ.out] at h1
     cases e1:cut c.lw hh st.like tn (qa,qb) (qc,qd) with
     |none=>rw[e1] at h1;cases h1
     |some r1=>
      obtain⟨gY,JT,i1⟩:=r1
      rw[e1] at h1
      dsimp only at h1
      cases e2:cut c.lw hh gY JT (qc,qd) i1 with
      |none=>rw[e2] at h1;cases h1
      |some r2=>
       obtain⟨gG,JS,i2⟩:=r2
       rw[e2] at h1
       exact⟨gY,JT,i1,gG,JS,i2,rfl,e2,(aak h1).symm⟩
    have qz:=Nu.hid hc1
    have uG:=Nu.hid hc2
    have HST:=Nu.hid hst
    clear hR3 hc1 hc2 hst
    go_wp2_with fail
    refine aB (by kernel_rfl) (by kernel_rfl) ?_
    repeat (go_big_quiet_step ((first|(go_at_call 108;exact Calls.lw (xN.out _))|(go_at_call 135;exact Calls.lw (Dw.out _)))))
    refine wpQuiet_nil ?_
    rintro _ ⟨D,rfl⟩
    clear y0 y1 y2 y3
    have q7:=(fq.out.later D.h).less (B':=fun _=>False) (fun _ hb=>hb.elim)
    have Cj:=Nu.hid (aD.reads q7 (fun b hb=>hb.elim) (f:=83) (args:= #[.pointer (some ⟨t,0,none⟩)]) (R:=fun e=>e= .returned (fK ((qa,qb),qc,qd))) (fun hT=>iz hT (by have:=jU.out;simp at this ⊢;omega)))
    clear q7
    go_wp2_with (go_at_call 83;refine Cj.out.mono ?_;rintro e w3 ⟨rfl,g9,-,-⟩;have ql:=Nu.hid g9;clear g9)
    obtain⟨W4,lM⟩:∃W4,W4=w3.alloc (bZ ((qa,qb),qc,qd)):=⟨_,rfl⟩
    obtain⟨bb,BG⟩:∃bb,w3.heap.size=bb:=⟨_,rfl⟩
    have hb4:W4.heap[bb]? =some (bZ ((qa,qb),qc,qd)):=by rw[lM,←BG];exact heap_alloc_new _ _
    have hl4:=lt_of_block hb4
    have qj:Hid (aD c p t W0 O W (fun b=>b=bb) { st with stk:=((qa,qb),qc,qd)::ps,turn:=tn } W4):=by rw[lM];exact(ql.out.box _).less (fun b hb=> .inr (by omega))
    have TZ:Hid (∀D:LW W4,Calls Tryz.prog 108 #[] D.val fun e w'=>e= .returned (fK dG)∧Below D.val.heap.size D.val w'):=fun D=>oC D.val
    have y0:∀D:LW W4,D.val.cell? ⟨bb,0,none⟩=some (.int .i64 qa):=fun D=>(au ((D.h.block _ hl4).trans hb4)).1
    have y1:∀D:LW W4,D.val.cell? ⟨bb,1,none⟩=some (.int .i64 qb):=fun D=>(au ((D.h.block _ hl4).trans hb4)).2.1
    have y2:∀D:LW W4,D.val.cell? ⟨bb,2,none⟩=some (.int .i64 qc):=fun D=>(au ((D.h.block _ hl4).trans hb4)).2.2.1
    have y3:∀D:LW W4,D.val.cell? ⟨bb,3,none⟩=some (.int .i64 qd):=fun D=>(au ((D.h.block _ hl4).trans hb4)).2.2.2.1
    have Rc:=LW.any W4
    have om:=Nu.hid lM
    have gJ:=Nu.hid hb4
    change Code.wp _ _ _ _ (w3.alloc (bZ ((qa,qb),qc,qd)))
    rw[←om.out,BG]
    clear lM hb4 hl4 BG
    refine aB (by kernel_rfl) (by kernel_rfl) ?_
    repeat (go_big_quiet_step ((first|(go_at_call 108;exact Calls.lw (TZ.out _)))))
    refine wpQuiet_nil ?_
    rintro _ ⟨D4,rfl⟩
    clear y0 y1 y2 y3
    have Iw:=qj.out.later D4.h
    have hb4:D4.val.heap[bb]? =some (bZ ((qa,qb),qc,qd)):=(D4.h.block _ (lt_of_block gJ.out)).trans gJ.out
    have jT:=Nu.hid (aD.calls Iw (fun b hb=>by have:=lt_of_block hb4;omega) (f:=136) (args:= #[.pointer (some ⟨t,0,none⟩)]) (R:=fun e=>e= .returned (.tuple #[])) (st':={ st with stk:=ps,turn:=tn }) (fun hT=>ou hT rfl (by have:=jU.out;simp at this ⊢;omega)))
    have ahn:=Nu.hid hb4
    clear Iw hb4
    go_wp2_with (go_at_call 136;refine jT.out.mono ?_;rintro e w5 ⟨rfl,kX,hk5⟩;have hb5:=(hk5 bb rfl).trans ahn.out;have JA:=Nu.hid kX;have jX:=Nu.hid hb5;obtain⟨z0,z1,z2,z3,zf⟩:=au hb5;clear kX hk5 hb5)
    have acI:=Nu.hid (aD.calls JA.out (fun b hb=>by have:=lt_of_block jX.out;omega) (f:=138) (args:= #[.pointer (some ⟨t,0,none⟩),dF (qa,qb),dF (qc,qd),.int .i64 hh]) (R:=fun e=>e= .returned (dF i1)) (st':={ st with stk:=ps,like:=gY,turn:=JT }) (fun hT=>DJ hT qz.out))
    obtain⟨KB,KA⟩:=i1
    obtain⟨Kz,Ky⟩:=i2
    go_at_call 138
    refine acI.out.mono ?_
    rintro e w6 ⟨rfl,eY,kW⟩
    have cq:=(kW bb rfl).trans jX.out
    have rM:=Nu.hid eY
    have nj:=Nu.hid cq
    obtain⟨z0,z1,z2,z3,zf⟩:=au cq
    clear eY kW cq
    go_wp2_with fail
    have Iu:=(rM.out.set (b:=bb) (i:=0) rfl (.int .i64 KB)).set (b:=bb) (i:=1) rfl (.int .i64 KA)
    have kY:=BK nj.out (.int .i64 KB) (.int .i64 KA)
    generalize (w6.setCell ⟨bb,0,none⟩ (.int .i64 KB)).setCell ⟨bb,1,none⟩ (.int .i64 KA)=w7 at*
    have acH:=Nu.hid (aD.calls Iu (fun b hb=>by have:=lt_of_block kY;omega) (f:=138) (args:= #[.pointer (some ⟨t,0,none⟩),dF (qc,qd),dF (KB,KA),.int .i64 hh]) (R:=fun e=>e= .returned (dF (Kz,Ky))) (st':={ st with stk:=ps,like:=gG,turn:=JS }) (fun hT=>DJ hT uG.out))
    have Dz:=Nu.hid kY
    clear Iu kY z0 z1 z2 z3 zf
    go_at_call 138
    refine acH.out.mono ?_
    rintro e w8 ⟨rfl,yC,Ip⟩
    have dV:=(Ip bb rfl).trans Dz.out
    have Cr:=Nu.hid yC
    have Xa:=Nu.hid dV
    obtain⟨z0,z1,z2,z3,zf⟩:=au dV
    clear yC Ip dV
    go_wp2_with fail
    have Yi:=(Cr.out.set (b:=bb) (i:=2) rfl (.int .i64 Kz)).set (b:=bb) (i:=3) rfl (.int .i64 Ky)
    have gm:=BL Xa.out (.int .i64 Kz) (.int .i64 Ky)
    generalize (w8.setCell ⟨bb,2,none⟩ (.int .i64 Kz)).setCell ⟨bb,3,none⟩ (.int .i64 Ky)=w9 at*
    have ab4:=Nu.hid (aD.calls Yi (fun b hb=>by have:=lt_of_block gm;omega) (f:=111) (args:= #[.pointer (some ⟨t,0,none⟩),fK ((KB,KA),Kz,Ky)]) (R:=fun e=>e= .returned (.tuple #[])) (st':={ st with stk:=((KB,KA),Kz,Ky)::ps,like:=gG,turn:=JS }) (fun hT=>tE hT ((KB,KA),Kz,Ky) (by have:=jU.out;simp at this ⊢;omega)))
    clear Yi gm z0 z1 z2 z3 zf
    go_at_call 111
    refine ab4.out.mono ?_
    rintro e wa ⟨rfl,aeI,-⟩
    go_wp2
    go_end0
    refine⟨rfl,?_⟩
    rw[HST.out]
    exact aeI.post
end
end
end Go.Proofs.YtdjmnpmdmjclhabGreat
