import Derived.Test.YtdjmnpmdmjclhabGreatMg13
import Derived.Test.YtdjmnpmdmjclhabGreatMg26
import Derived.Test.YtdjmnpmdmjclhabGreatMg12
import Derived.Test.YtdjmnpmdmjclhabGreatMg16
import Derived.Test.YtdjmnpmdmjclhabGreatMg05
import Derived.Test.YtdjmnpmdmjclhabGreatMg18
namespace Go.Proofs.YtdjmnpmdmjclhabGreat
section
open Go.RowKit Go.Shelf Lt Pl
attribute [local go_sem] Oper.semAt_some
theorem qH {fn:Func} {p:Tmp} {ty:TypeId} {P:Program} (h:fn.results= #[.cell p ty]) (tmps:Array Value) (w:World) (a:Addr) (v:Value) (hp:tmps.getD p undef= .pointer (some a)) (hc:w.cell? a=some v) (hag:(isAgg ty).run P w= .ok false w):(results fn tmps).run P w= .ok v w:=by
 have hp':tmps[p]?.getD undef= .pointer (some a):=by simpa using hp
 simp[results,h,go_sem,hp',hc,hag]
theorem Qb {β:Type} (B g1:Nat) (c:Prop) (P:β→List Int→Prop):OwnFrom B (fun (b:β) X=>c→∃A,aF X g1 A∧P b A):=fun b X Y row h hg hr hc=>by
 obtain⟨A,⟨r,h1⟩,h2⟩:=h hc
 refine⟨A,⟨r,(hg.block g1 (lt_of_block h1) (fun e=> ?_)).trans h1⟩,h2⟩
 obtain⟨_,o,ho,hcc⟩:=hr g1 e.symm
 rw[h1] at ho
 cases ho
 cases hcc
structure Mh (n:Nat) (es:List (Int×Int)) (s:Df.St) (T:DF n es.length) (lw:List Int) (sd:Nat→Bool) (i:Nat) (A:List Int):Prop where
 len:A.length=es.length
 back:∀e,e<es.length→T.tree e=false→g A e=eF T sd e
 done:∀e,e<es.length→T.tree e=true→(∃a,i≤a∧a<n∧Df.at_ s.ord a=(T.go e:Int))→g lw e<T.az (T.fr e)→LJ T sd (g A) e
section
variable {c:Wp} {p j:Nat} {pa:Option Addr} {pc:Nat} {ps:List Int} {W:World} {sd:Nat→Bool}
set_option maxRecDepth 100000 in
set_option maxHeartbeats 16000000 in
theorem FU (h:mY c p j pa pc ps W) (hps:∀e,e<c.es.length→ps[e]?.getD 0=eF (Lr.df h.wk.val h.wk.vf) sd e):
 Calls Tryz.prog 24 #[.pointer (some ⟨j,0,none⟩)] W fun e w'=>∃b,e= .returned (.bool b)∧(b=true↔(Lr.df h.wk.val h.wk.vf).Aligned sd)∧Below W.heap.size W w':=by
 obtain⟨AP,hAP⟩:∃AP:Prop,AP=(Lr.df h.wk.val h.wk.vf).Aligned sd:=⟨_,rfl⟩
 rw[←hAP]
 have Xc:=Nu.hid hAP
 clear hAP
 have cj:=h.wk.val.few
 have hhi:=h.wk.val.hi
 have Ge:Hid (∀V,Below W.heap.size W V→Calls Tryz.prog 39 #[.slice pa c.es.length pc] V fun e w'=>∃bo cb,e= .returned (.slice bo c.es.length cb)∧aP w' V.heap.size (.slice bo c.es.length cb) ps∧Below V.heap.size V w'):=fun V hV=>GZ pa c.es.length pc ps V (h.later hV).nk (by omega)
 have UA:Hid (∀X,Calls Tryz.prog 40 #[.slice c.f.a3 c.n c.f.c3] X (o7 c.f.a3 c.n c.f.c3 X)):=fun X=>kO _ _ _ X
 obtain⟨W1,hW1⟩:∃W1,W1=(W.alloc (.cells #[.pointer (some ⟨j,0,none⟩)] 64)).alloc (.cells #[.bool false] 4):=⟨_,rfl⟩
 have hs1:W1.heap.size=W.heap.size+2:=by rw[hW1];simp
 have hb1:Below W.heap.size W W1:=by rw[hW1];exact((aae _ _).alloc (aad _) _).alloc (by simp) _
 have a0:Boxed W1 W.heap.size 64 (.pointer (some ⟨j,0,none⟩)):=by
  rw[hW1]
  show _=_
  rw[aap _ _ _ (by simp)]
  exact heap_alloc_new W _
 have a1:Boxed W1 (W.heap.size+1) 4 (.bool false):=by
  rw[hW1]
  have:=heap_alloc_new (W.alloc (.cells #[.pointer (some ⟨j,0,none⟩)] 64)) (.cells #[.bool false] 4)
  rw[show(W.alloc (.cells #[.pointer (some ⟨j,0,none⟩)] 64)).heap.size=W.heap.size+1 by simp] at this
  exact this
 have x0:=a0.cell
 have x1:=(h.later hb1).cells.2
 have qz:=Nu.hid (Ge.out W1 hb1)
 have HJ:=Nu.hid h
 have WH:=Nu.hid hps
 have jE:=Nu.hid hW1
 have aY:=Nu.hid hb1
 have CB:=Nu.hid a0
 have CA:=Nu.hid a1
 have F8:=Nu.hid hs1
 rw[hW1] at x0 x1 qz
 clear hb1 a0 a1 hW1 hs1
 refine(callsIn_wide (n:=9)).1 ?_
 refine callsIn_of_wp_marks Tryz.func24 rfl trivial ?_ rfl
 simp only[Tryz.ntmps24,abR,aar,aaS,Nat.reduceAdd,Nat.reduceSub,abA,abB,abS,abK,aaE,abi]
 refine wpIn_wide.2 ?_
 go_wp2_with fail
 go_at_call 39
 refine qz.out.mono ?_
 rw[←jE.out]
 rintro e W2 ⟨bo,cb,rfl,ho2,b2⟩
 obtain⟨W3,hW3⟩:∃W3,W3=W2.alloc (.cells #[.slice bo c.es.length cb] 37):=⟨_,rfl⟩
 have b3:Below W2.heap.size W2 W3:=by rw[hW3];exact(aae _ _).alloc (aad _) _
 have s3:W3.heap.size=W2.heap.size+1:=by rw[hW3];simp
 have k3:Boxed W3 W2.heap.size 37 (.slice bo c.es.length cb):=by rw[hW3];exact heap_alloc_new W2 _
 have Wb:Below W1.heap.size W1 W3:=b2.trans (b3.mono b2.size)
 have hJ3:=HJ.out.later (aY.out.trans (Wb.mono aY.out.size))
 have y0:=(show Boxed W3 W.heap.size 64 (.pointer (some ⟨j,0,none⟩)) from(Wb.block _ CB.out.lt).trans CB.out).cell
 have y1:=hJ3.cells.1
 have y2:=hJ3.wk.c4
 have uD:=Nu.hid k3
 have yY:=Nu.hid Wb
 have vT:=Nu.hid s3
 have HO3:=Nu.hid (ho2.later b3)
 have nu:=Nu.hid hW3
 have TE:=Nu.hid b2.size
 rw[hW3] at y0 y1 y2
 clear ho2 b2 hW3 b3 s3 k3 Wb hJ3 x0 x1 qz
 simp only[]
 go_wp2_with (go_at_call 40;refine(UA.out _).mono ?_;rw[←nu.out];rintro e1 V1 ⟨Bs,rfl,tT,bs,dV⟩)
 obtain⟨T,xy⟩:∃T,T=Lr.df HJ.out.wk.val HJ.out.wk.vf:=⟨_,rfl⟩
 have uw:=Nu.hid xy
 have hvl:=HJ.out.wk.val
 have gP:=HJ.out.wk.vf
 have s8:=dV.size
 have t1:=F8.out
 have t2:=TE.out
 have t3:=vT.out
 have Fv:Below W1.heap.size W1 V1:=yY.out.trans (dV.mono yY.out.size)
 have MU:Below W.heap.size W V1:=aY.out.trans (Fv.mono aY.out.size)
 have q0:Boxed V1 W.heap.size 64 (.pointer (some ⟨j,0,none⟩)):=(Fv.block _ CB.out.lt).trans CB.out
 have q1:Boxed V1 (W.heap.size+1) 4 (.bool false):=(Fv.block _ CA.out.lt).trans CA.out
 have q2:Boxed V1 W2.heap.size 37 (.slice bo c.es.length cb):=(dV.block _ uD.out.lt).trans uD.out
 have hpl:=HJ.out.nk.len
 obtain⟨SB,sb1,sb2,sb3⟩:∃SB,W1.heap.size≤SB∧(SB≠W2.heap.size∧SB≠Bs)∧(0<c.es.length→bo=some ⟨SB,0,none⟩∧SB<V1.heap.size∧aF V1 SB ps):=by
  by_cases h0:0<c.es.length
  ·have ho:=HO3.out
   unfold aP at ho
   rw[hpl] at ho
   obtain⟨g1,cap,e⟩:∃g1 cap,Value.slice bo c.es.length cb= .slice (some ⟨g1,0,none⟩) c.es.length cap:=by
    rcases ho.2 with ⟨e,h0'⟩|⟨g1,cap,cur,e,_⟩
    ·omega
    ·exact⟨g1,cap,e⟩
   cases e
   have hin:=pS ho
   obtain⟨hgB,hlt⟩:=aa9 ho g1 rfl
   have aeU:g1≠W2.heap.size:=fun q=>by
    obtain⟨r,hh⟩:=hin
    rw[q,show W3.heap[W2.heap.size]? =_ from uD.out] at hh
    obtain⟨-,h28,-⟩:=Obj.cells.inj (aak hh)
    exact absurd h28 (by decide)
   refine⟨g1,hgB,⟨aeU,by omega⟩,fun _=>⟨rfl,by omega,hin.later dV⟩⟩
  ·exact⟨V1.heap.size+1,by omega,⟨by omega,by have:=bs.lt;omega⟩,fun q=>absurd q h0⟩
 have hcs:∀i,i<c.n→∃b o,c.f.a3=some ⟨b,o,none⟩∧∀X,bE W.heap.size (fun b=>b=SB) V1 X→X.cell? ⟨b,o+i,none⟩=some (.int .i64 (Df.at_ c.s.ord i)):=fun i hi=>by
  obtain⟨b,o,e,hc⟩:=HJ.out.wk.ord hi
  exact⟨b,o,e,fun X hX=>hc X (MU.trans hX.1) i hi⟩
 have hEK:=Wp.BN hvl gP
 have VN:eI T c.lw:=by rw[xy];exact hEK.lw
 have Sn:Mh c.n c.es c.s T c.lw sd c.n ps:=by
  refine⟨hpl,fun e he te=> ?_,fun e he te ⟨a,a1,a2,_⟩ _=>by omega⟩
  have:=WH.out e he
  rw[xy]
  exact this
 refine(wpIn_wide (n:=9)).1 ?_
 refine sr (n:=9) (gf:=66) (lb:= #[.pointer (some ⟨Bs,0,none⟩)]) (by rfl) (enters_of Tryz.func66 (by kernel_rfl) rfl)
  (xH Bs W.heap.size c.f.c3 c.n (fun b=>b=SB) c.f.a3 c.s.ord (by omega) V1 (by omega) bs hcs (by omega)) (by omega) (fun _=>rfl)
  (fun pre X=>(0<c.es.length→∃A,aF X SB A∧Mh c.n c.es c.s T c.lw sd (c.n-pre.length) A)∧bE W.heap.size (fun b=>b=SB) V1 X) (fun cc _ X=>cc= .ret∧(¬T.Aligned sd∧Boxed X (W.heap.size+1) 4 (.bool false))∧bE W.heap.size (fun b=>b=SB∨b=W.heap.size+1) V1 X)
  (ab0 (Qb _ SB _ (fun (pre:List Nat) A=>Mh c.n c.es c.s T c.lw sd (c.n-pre.length) A)) (bE.own (by omega) (by omega))) (fun cc=>ab0 (fun _ _ _ _ hs _ _=>hs) (ab0 (ab0 (fun _ _ _ _ hs _ _=>hs) (Own.from (boxed_own _ _ _) _)) (bE.own (by omega) (by omega))))
  ⟨fun h0=>⟨ps,(sb3 h0).2.2,by rw[aaS,Nat.sub_zero];exact Sn⟩,bE.refl _ _ _⟩
  (fun x a' _=>a'={ tmps:= #[.pointer (some ⟨j,0,none⟩),.pointer (some ⟨W.heap.size,0,none⟩),.pointer (some ⟨W.heap.size+1,0,none⟩),.pointer (some ⟨W2.heap.size,0,none⟩),undef,.int .i64 (Df.at_ c.s.ord x),undef,undef,undef,.pointer (some ⟨j,0,none⟩),.pointer (some ⟨j,0,none⟩),.pointer (some ⟨j,1,none⟩),.slice pa c.es.length pc,.slice bo c.es.length cb,.pointer (some ⟨j,0,none⟩),.pointer (some ⟨j,0,none⟩),.pointer (some ⟨j,0,none⟩),.pointer (some ⟨p,0,none⟩),.pointer (some ⟨p,0,none⟩),.pointer (some ⟨p,2,none⟩),.pointer (some ⟨p,4,none⟩),.slice c.f.a3 c.n c.f.c3,.func (.func 66) #[] #[.pointer (some ⟨Bs,0,none⟩)],.int .i64 (x:Int),.int .i64 (Df.at_ c.s.ord x),undef,undef,undef,undef,undef,undef,undef,undef,undef,undef,undef,undef,undef,undef,undef,undef,undef,undef,undef,undef,undef,undef,undef,undef,undef,undef,undef,undef,undef,undef,undef,undef,undef,undef,undef,undef,undef,undef,undef,undef,undef,undef,undef,undef,undef,undef,undef,undef,undef,undef,undef,undef,undef,undef,undef,undef,undef,undef,undef,undef,undef,undef,undef,undef,undef,undef,undef,undef,undef,undef,undef,undef,undef,undef,undef,undef,undef,undef,undef,undef,undef,undef,undef,undef,undef,undef,undef,undef,undef,undef,undef,undef,undef,undef,undef,undef,undef,undef],defers:=[] })
  (fun x a'=>ownFrom_pure _ _) ?assign ?body ?done ?stop
 case assign=>
  intro l pre x X K _ hi hK
  gi_wp2
  exact hK _ _ (ab6 _ _) (bE.refl _ _ _) hi rfl
 case body=>
  rintro lq pre x0 a' C ⟨hl,-⟩-hpx ⟨hA,hkp⟩ rfl
  obtain⟨aem,uZ⟩:=pZ hpx
  have hx0:x0<c.n:=by omega
  obtain⟨v,hv⟩:∃v:Nat,Df.at_ c.s.ord x0=(v:Int):=⟨(Df.at_ c.s.ord x0).toNat,by have:=(gP.once x0 hx0).1;omega⟩
  have dh:v<c.n:=by have:=(gP.once x0 hx0).1;omega
  rw[hv]
  have LU:Hid (c.n-(pre++[x0]).length=x0):=by show _=_;simp;omega
  have Xw:c.n-pre.length=x0+1:=by omega
  rw[Xw] at hA
  have hCs:V1.heap.size≤C.heap.size:=hkp.1.size
  have Fw:Below W.heap.size W C:=MU.trans hkp.1
  have VP:=HJ.out.later Fw
  have ZM:=hkp.boxed q0 (by omega)
  have q1C:=hkp.boxed q1 (by omega)
  have q2C:=hkp.boxed q2 (by omega)
  have kj:=ZM.cell
  have kp:=VP.cells.1
  have k2:=VP.wk.c2
  obtain⟨bp,op,ep,pW⟩:=HJ.out.wk.par dh
  have zp:=pW C Fw v dh
  rw[ep] at k2
  have v0:(0:Int)≤(v:Int):=by omega
  have v1:(v:Int)<(c.n:Int):=by omega
  have YI:∀e,T.go e=Lo.bJ c.es c.s e:=fun e=>by rw[xy];rfl
  have YJ:∀e,T.fr e=Lo.fr c.es c.s e:=fun e=>by rw[xy];rfl
  have YG:∀e,T.tree e=Lo.tree c.es c.s e:=fun e=>by rw[xy];rfl
  have YH:∀z,T.az z=Df.at_ c.s.az z:=fun z=>by rw[xy];rfl
  have QH:(∀e,e<c.es.length→T.tree e=true→T.go e=v→¬g c.lw e<T.az (T.fr e))→0<c.es.length→∃A,aF C SB A∧Mh c.n c.es c.s T c.lw sd x0 A:=fun hno h0=>by
   obtain⟨A,i1,mj⟩:=hA h0
   refine⟨A,i1,mj.len,mj.back,fun e he te ⟨a,a1,a2,a3⟩ hr=> ?_⟩
   by_cases q:a=x0
   ·subst q
    rw[hv] at a3
    exact absurd hr (hno e he te (by omega))
   ·exact mj.done e he te ⟨a,by omega,a2,a3⟩ hr
  have ot:=Nu.hid hkp
  have HAA:=Nu.hid hA
  have TA:=Nu.hid QH
  have Nh:=Nu.hid YI
  have Tu:=Nu.hid YJ
  have Ng:=Nu.hid YG
  have agf:=Nu.hid YH
  have HV:=Nu.hid hv
  have Dv:=Nu.hid VN
  have WE:=Nu.hid ZM
  have Pj:=Nu.hid q1C
  have HQ2:=Nu.hid q2C
  have HJC:=Nu.hid VP
  have Nq:=Nu.hid Fw
  clear hA QH YI YJ YG YH hkp hv uZ hpx aem Xw pW ep hcs Sn hEK xy VN ZM q1C q2C VP
  rcases gP.hang v dh with ⟨gQ,-⟩|⟨qe,u1,u2,u3,u4,-⟩
  ·rw[gQ] at zp
   have bI:Hid (0<c.es.length→∃A,aF C SB A∧Mh c.n c.es c.s T c.lw sd (c.n-(pre++[x0]).length) A):=by
    rw[LU.out]
    refine TA.out fun e he te hg=> ?_
    rw[Ng.out] at te
    rw[Nh.out] at hg
    unfold Lo.tree at te
    rw[hg,gQ,decide_eq_true_iff] at te
    have:=(Lo.eO gP he).2.1
    omega
   clear gQ Fw
   gi_wp2
   all_goals (try (refine⟨trivial,?_⟩))
   all_goals (try gi_wp2)
   all_goals (first|exact⟨ab6 _ _,bE.refl _ _ _,bI.out,ot.out⟩|skip)
  ·obtain⟨e,aS⟩:∃e,qe/2=e:=⟨_,rfl⟩
   have hem:e<c.es.length:=by omega
   have Fo:Lo.oh c.s e=qe:=by
    unfold Lo.oh
    rw[←aS,u4]
    simp
   have hge:Lo.bJ c.es c.s e=v:=by
    unfold Lo.bJ
    rw[Fo]
    exact u3
   have hte:Lo.tree c.es c.s e=true:=by
    unfold Lo.tree
    rw[hge,u2,←aS,u4]
    simp
   have pV:Cs.fr c.es qe=Lo.fr c.es c.s e:=by unfold Lo.fr;rw[Fo]
   have hone:∀e',e'<c.es.length→T.tree e'=true→T.go e'=v→e'=e:=fun e' he' qo hg'=>T.one e' e he' hem qo (by rw[Ng.out];exact hte) (by rw[hg',Nh.out,hge])
   have IB:g c.lw e=Lo.low c.es c.s e:=Wp.mV hem
   rw[u2] at zp
   have uA:Hid (∀V,bV c p V→Calls Tryz.prog 41 #[.pointer (some ⟨p,0,none⟩),.int .i64 (qe:Int)] V fun e' w'=>e'= .returned (.bool (decide (Lo.low c.es c.s e<T.az (T.fr e))))∧Below V.heap.size V w'):=fun V hV=>by
    have:=sP hV u1
    rw[aS,pV,←Tu.out,←agf.out] at this
    exact this
   have ni:=Nu.hid (uA.out C HJC.out.wk)
   have Vi:((qe:Int)== -1)=false:=by simp only[beq_eq_false_iff_ne,ne_eq];omega
   have h0:0<c.es.length:=by omega
   obtain⟨UO,sbl,-⟩:=sb3 h0
   by_cases g8:Lo.low c.es c.s e<T.az (T.fr e)
   ·have hd:decide (Lo.low c.es c.s e<T.az (T.fr e))=true:=by simp only[decide_eq_true_eq];exact g8
    rw[hd] at ni
    obtain⟨A,iA,mj⟩:=HAA.out h0
    obtain⟨l,eK⟩:∃l,l=c.oe v:=⟨_,rfl⟩
    have yD:T.tree e=true:=by rw[Ng.out];exact hte
    have oG:T.go e=v:=by rw[Nh.out];exact hge
    have KO:g c.lw e<T.az (T.fr e):=by rw[IB];exact g8
    have hmem:∀k,k∈l↔k<c.es.length∧T.fr k=T.go e:=fun k=>by
     rw[eK,Wp.AA hvl gP,Tu.out,oG]
    have XY:List.Pairwise (FX T c.lw) l:=by
     rw[eK]
     have:=(Wp.BN hvl gP).CR v
     rw[uw.out]
     exact this
    obtain⟨k0,l',hl0,MI⟩:=Li Dv.out hem yD KO hmem XY
    obtain⟨U6,k0f⟩:=(hmem k0).1 (by rw[hl0];exact aag)
    obtain⟨tH,hrw⟩:∃l,(Lo.bS c.n c.es c.s c.es.length)[v]? =some l:=⟨_,aac (by rw[Lo.dw];exact dh)⟩
    obtain⟨go,co,ao,ca,I8,hout⟩:=HJ.out.wk.outs hrw
    have hmap:tH=l.map fun e=>((Lo.oh c.s e:Nat):Int):=by
     rw[←Wp.AB hvl gP hrw,←eK]
     exact abT fun e he=>(Lo.cO gP ((hmem e).1 he).1).1
    have hlen:tH.length=l.length:=by rw[hmap];simp
    have hrow:oO c ao l W:=fun V hV k hk=>by
     exact(hout V hV).2 k ((Lo.oh c.s l[k]:Nat):Int) (by rw[hmap,aay,aac hk];rfl)
    rw[hlen] at hout
    have hlk:l.length≤c.es.length:=fG (by rw[eK];exact(Wp.rZ hvl gP v).imp fun q=>q.2) fun x hx=>((hmem x).1 hx).1
    have hl0':0<l.length:=by rw[hl0];simp
    have Yc:l[0]=k0:=by simp[hl0]
    obtain⟨rb,erb,-⟩:=hrow W (aae _ _) 0 hl0'
    subst erb
    obtain⟨z0,hz0⟩:∃z,A[k0]? =some z:=⟨_,aac (by rw[mj.len];exact U6)⟩
    obtain⟨ze,hze⟩:∃z,A[e]? =some z:=⟨_,aac (by rw[mj.len];exact hem)⟩
    have xl:∀k,T.fr k=T.go e→k≠e:=fun k hk q=>by
     rw[q] at hk
     exact T.ne hem hk
    have Vu:∀k,k≠e→g (A.set e z0) k=g A k:=fun k hk=>aU hk
    have Yl:g (A.set e z0) k0=z0:=by rw[Vu k0 (xl k0 k0f)];unfold g;rw[hz0];rfl
    have QO:∀k,k<c.es.length→T.fr k=T.go e→g c.lw k=g c.lw e→LJ T sd (g (A.set e z0)) k:=fun k hkm mO cU=>by
     have hgk:=Vu k (xl k mO)
     cases kB:T.tree k with
     |false=>exact NQ hkm kB (by rw[hgk];exact mj.back k hkm kB)
     |true=>
      have hgn:T.go k<c.n:=(T.lt k hkm).2
      obtain⟨a,ha,ea⟩:=gP.once.sZ hgn
      have hpl:x0<a:=Lo.xX hvl gP hkm (by rw[←Ng.out];exact kB) hx0 ha (by rw[HV.out,←Tu.out,mO,oG]) (by rw[←Nh.out];exact ea)
      have eP:=(T.dN e hem yD).1
      obtain⟨b,b1,b2,b3⟩:=mj.done k hkm kB ⟨a,by omega,ha,ea⟩ (by rw[cU,mO];omega)
      exact⟨b,b1,by rw[hgk];exact b2,b3⟩
    obtain⟨q0,QY⟩:∃q,Lo.oh c.s k0=q:=⟨_,rfl⟩
    have hq0:=(eC (u:=q0) (k:=k0) (by rw[←QY];exact(Lo.cO gP U6).2.2.2)).1
    have hqe:=(eC aS).1
    obtain⟨lb,lc,xD,dH⟩:=HJ.out.wk.DX hem
    have Uv:Hid (∀V,Below W.heap.size W V→V.cell? ⟨p,9,none⟩=some (.slice (some ⟨go,0,none⟩) c.n co)):=fun V hV=>by rw[←I8];exact(HJ.out.later hV).wk.c9
    have Pz:Hid (∀V,Below W.heap.size W V→V.cell? ⟨p,6,none⟩=some (.slice (some ⟨lb,0,none⟩) c.es.length lc)):=fun V hV=>by rw[←xD];exact(HJ.out.later hV).wk.c6
    have Jw:=Nu.hid dH
    have Js:Hid (∀V,Below W.heap.size W V→V.cell? ⟨go,v,none⟩=some (.slice (some ⟨rb,0,none⟩) l.length ca)):=fun V hV=>(hout V hV).1
    have j8:Hid (∀V,Below W.heap.size W V→∀k (hk:k<l.length),V.cell? ⟨rb,k,none⟩=some (.int .i64 ((Lo.oh c.s l[k]:Nat):Int))):=fun V hV k hk=>by
     obtain⟨b,e1,e2⟩:=hrow V hV k hk
     cases e1
     exact e2
    have Y6:=Nu.hid hmem
    have L6:=Nu.hid QO
    have HGA:=Nu.hid Vu
    have Ug:=Nu.hid Yl
    have Cu:=Nu.hid mj
    have HIA:=Nu.hid iA
    have YU:=Nu.hid yD
    have alz:=Nu.hid oG
    have EA:=Nu.hid KO
    have Uc:=Nu.hid MI
    have Gb:=Nu.hid (And.intro U6 k0f)
    have agC:=Nu.hid hone
    have HKE:=Nu.hid xl
    have ag7:=Nu.hid IB
    have HZ0:=Nu.hid hz0
    have HZE:=Nu.hid hze
    have agy:=Nu.hid QY
    have agK:Hid (∀h:0<l.length,l[0]=k0):=fun _=>Yc
    have QB:IntKind.i64.wrap (e:Int)=(e:Int):=by rw[aa1];omega
    have hwk:IntKind.i64.wrap (k0:Int)=(k0:Int):=by rw[aa1];omega
    have Dl:(0:Int)≤(e:Int):=by omega
    have Dk:(e:Int)<(c.es.length:Int):=by omega
    have kk0:(0:Int)≤(k0:Int):=by omega
    have kk1:(k0:Int)<(c.es.length:Int):=by omega
    have l0:(0:Int)<(l.length:Int):=by omega
    have aeA:¬l=[]:=fun q=>by rw[q] at l0;simp at l0
    rw[UO]
    have Ni:Hid (Boxed C W2.heap.size 37 (.slice (some ⟨SB,0,none⟩) c.es.length cb)):=by
     rw[←UO]
     exact HQ2.out
    clear g8 hd hone IB pV hte hge Fo aS u1 u2 u3 u4 Fw UO iA mj eK yD oG KO hmem XY hl0 MI U6 k0f hrw I8 hout hmap hlen hrow Yc hl0' hz0 hze xl Vu Yl QO QY xD dH
    gi_wp2_with (refine⟨trivial,?_⟩;gi_at_call 41;refine(acJ lq (callsIn_wide.2 ni.out)).mono ?_;rintro e5 C5 ⟨rfl,hb5⟩;have jX:=Nu.hid hb5;clear hb5)
    have Yu:Below W.heap.size W C5:=Nq.out.trans (jX.out.mono Nq.out.size)
    have BH:Below W.heap.size W C5.drew:=Yu.trans ((aae _ _).drew)
    have kS:C5.drew.cell? ⟨W2.heap.size,0,none⟩=some (.slice (some ⟨SB,0,none⟩) c.es.length cb):=(show Boxed C5 W2.heap.size 37 (.slice (some ⟨SB,0,none⟩) c.es.length cb) from(jX.out.block _ Ni.out.lt).trans Ni.out).cell
    clear kj kp k2 zp
    have q05:Boxed C5 W.heap.size 64 (.pointer (some ⟨j,0,none⟩)):=(jX.out.block _ WE.out.lt).trans WE.out
    have kj:C5.drew.cell? ⟨W.heap.size,0,none⟩=some (.pointer (some ⟨j,0,none⟩)):=q05.cell
    have kp:C5.drew.cell? ⟨j,0,none⟩=some (.pointer (some ⟨p,0,none⟩)):=(HJ.out.later BH).cells.1
    have k9:=Uv.out _ BH
    have kr:=Js.out _ BH
    have kq:C5.drew.cell? ⟨rb,0,none⟩=some (.int .i64 (q0:Int)):=by
     have hl0':0<l.length:=by omega
     have:=j8.out _ BH 0 hl0'
     have e1:l[0]=k0:=agK.out hl0'
     rw[e1,agy.out] at this
     exact this
    have Qu:aF C5.drew SB A:=HIA.out.later (jX.out.trans ((aae _ _).drew))
    have kz:C5.drew.cell? ⟨SB,k0,none⟩=some (.int .i64 z0):=Qu.cell HZ0.out
    have ke:C5.drew.cell? ⟨SB,e,none⟩=some (.int .i64 ze):=Qu.cell HZE.out
    have kf:C5.drew.frozen? ⟨SB,e,none⟩=false:=Qu.free e
    have agW:=Nu.hid Qu
    refine wpIn_region_any (by kernel_rfl) ?_
    refine aj.B6 (fun ix=>match ix with|0=> .slice (some ⟨SB,0,none⟩) c.es.length cb|1=> .int .i64 (qe:Int)|2=> .int .i64 (e:Int)|3=> .slice (some ⟨SB,0,none⟩) c.es.length cb|4=> .pointer (some ⟨j,0,none⟩)|5=> .pointer (some ⟨j,0,none⟩)|6=> .pointer (some ⟨j,0,none⟩)|7=> .pointer (some ⟨p,0,none⟩)|8=> .pointer (some ⟨p,0,none⟩)|9=> .pointer (some ⟨p,6,none⟩)|10=> .pointer (some ⟨p,9,none⟩)|11=> .slice (some ⟨go,0,none⟩) c.n co|12=> .int .i64 (v:Int)|13=> .pointer (some ⟨go,v,none⟩)|14=> .slice (some ⟨rb,0,none⟩) l.length ca|15=> .pointer (some ⟨rb,0,none⟩)|16=> .int .i64 (q0:Int)|17=> .int .i64 (k0:Int)|18=> .pointer (some ⟨SB,k0,none⟩)|19=> .int .i64 z0|20=> .pointer (some ⟨SB,e,none⟩)|_=>undef) (AnyM.bG C5.drew [(21,C5.drew.setCell ⟨SB,e,none⟩ (.int .i64 z0))]) 123 rfl (by kernel_rfl) (by kernel_rfl) rfl ?_ ?_
    ·intro ix o' Ls V ev ho bP hC bU hdc aA aS lG iW
     have hc:ix=0∨ix=1∨ix=2∨ix=3∨ix=4∨ix=5∨ix=6∨ix=7∨ix=8∨ix=9∨ix=10∨ix=11∨ix=12∨ix=13∨ix=14∨ix=15∨ix=16∨ix=17∨ix=18∨ix=19∨ix=20∨ix=21:=by
      have:ix<22:=(aam.1 ho).1
      omega
     have hst:Ls 21=false:=by
      cases h:Ls 21 with
      |false=>rfl
      |true=>
       exfalso
       have hq:Ls ix=true:=by
        rcases hc with rfl|rfl|rfl|rfl|rfl|rfl|rfl|rfl|rfl|rfl|rfl|rfl|rfl|rfl|rfl|rfl|rfl|rfl|rfl|rfl|rfl|rfl
        ·exact hdc 21 _ rfl h ⟨0,.phase⟩ (by simp) rfl
        ·exact hdc 21 _ rfl h ⟨1,.phase⟩ (by simp) rfl
        ·exact hdc 21 _ rfl h ⟨2,.phase⟩ (by simp) rfl
        ·exact hdc 21 _ rfl h ⟨3,.phase⟩ (by simp) rfl
        ·exact hdc 21 _ rfl h ⟨4,.phase⟩ (by simp) rfl
        ·exact hdc 21 _ rfl h ⟨5,.phase⟩ (by simp) rfl
        ·exact hdc 21 _ rfl h ⟨6,.phase⟩ (by simp) rfl
        ·exact hdc 21 _ rfl h ⟨7,.phase⟩ (by simp) rfl
        ·exact hdc 21 _ rfl h ⟨8,.phase⟩ (by simp) rfl
        ·exact hdc 21 _ rfl h ⟨9,.phase⟩ (by simp) rfl
        ·exact hdc 21 _ rfl h ⟨10,.phase⟩ (by simp) rfl
        ·exact hdc 21 _ rfl h ⟨11,.phase⟩ (by simp) rfl
        ·exact hdc 21 _ rfl h ⟨12,.phase⟩ (by simp) rfl
        ·exact hdc 21 _ rfl h ⟨13,.phase⟩ (by simp) rfl
        ·exact hdc 21 _ rfl h ⟨14,.phase⟩ (by simp) rfl
        ·exact hdc 21 _ rfl h ⟨15,.phase⟩ (by simp) rfl
        ·exact hdc 21 _ rfl h ⟨16,.phase⟩ (by simp) rfl
        ·exact hdc 21 _ rfl h ⟨17,.phase⟩ (by simp) rfl
        ·exact hdc 21 _ rfl h ⟨18,.phase⟩ (by simp) rfl
        ·exact hdc 21 _ rfl h ⟨19,.data⟩ (by simp) rfl
        ·exact hdc 21 _ rfl h ⟨20,.data⟩ (by simp) rfl
        ·exact h
       rw[bP] at hq
       cases hq
     have hV:V=C5.drew:=by
      simp only[AnyM.bG,hst,aau,if_false] at hC
      exact hC
     subst hV
     rcases hc with rfl|rfl|rfl|rfl|rfl|rfl|rfl|rfl|rfl|rfl|rfl|rfl|rfl|rfl|rfl|rfl|rfl|rfl|rfl|rfl|rfl|rfl<;>obtain rfl:=aak ho
     ·have e1:ev (.tmp 3)= .pointer (some ⟨W2.heap.size,0,none⟩):=aS 3 (by kernel_rfl)
      exact aj.ah (v:= .slice (some ⟨SB,0,none⟩) c.es.length cb) (w':=_) (by simp[execOp,go_sem,e1,kS]) ⟨rfl,AnyM.other rfl hC⟩
     ·have e1:ev (.tmp 6)= .int .i64 (qe:Int):=aS 6 (by kernel_rfl)
      exact aj.ah (v:= .int .i64 (qe:Int)) (w':=_) (by simp[execOp,go_sem,e1]) ⟨rfl,AnyM.other rfl hC⟩
     ·have e1:ev (.tmp 48)= .int .i64 (qe:Int):=aA 1 48 (by omega) rfl (by decide)
      exact aj.ah (v:= .int .i64 (e:Int)) (w':=_) (by simp[execOp,go_sem,e1,hqe,lG,QB]) ⟨rfl,AnyM.other rfl hC⟩
     ·have e1:ev (.tmp 3)= .pointer (some ⟨W2.heap.size,0,none⟩):=aS 3 (by kernel_rfl)
      exact aj.ah (v:= .slice (some ⟨SB,0,none⟩) c.es.length cb) (w':=_) (by simp[execOp,go_sem,e1,kS]) ⟨rfl,AnyM.other rfl hC⟩
     ·have e1:ev (.tmp 1)= .pointer (some ⟨W.heap.size,0,none⟩):=aS 1 (by kernel_rfl)
      exact aj.ah (v:= .pointer (some ⟨j,0,none⟩)) (w':=_) (by simp[execOp,go_sem,e1,kj]) ⟨rfl,AnyM.other rfl hC⟩
     ·have e1:ev (.tmp 51)= .pointer (some ⟨j,0,none⟩):=aA 4 51 (by omega) rfl (by decide)
      exact aj.ah (v:= .pointer (some ⟨j,0,none⟩)) (w':=_) (by simp[execOp,go_sem,e1]) ⟨rfl,AnyM.other rfl hC⟩
     ·have e1:ev (.tmp 52)= .pointer (some ⟨j,0,none⟩):=aA 5 52 (by omega) rfl (by decide)
      exact aj.ah (v:= .pointer (some ⟨j,0,none⟩)) (w':=_) (by simp[execOp,go_sem,e1]) ⟨rfl,AnyM.other rfl hC⟩
     ·have e1:ev (.tmp 53)= .pointer (some ⟨j,0,none⟩):=aA 6 53 (by omega) rfl (by decide)
      exact aj.ah (v:= .pointer (some ⟨p,0,none⟩)) (w':=_) (by simp[execOp,go_sem,e1,kp]) ⟨rfl,AnyM.other rfl hC⟩
     ·have e1:ev (.tmp 54)= .pointer (some ⟨p,0,none⟩):=aA 7 54 (by omega) rfl (by decide)
      exact aj.ah (v:= .pointer (some ⟨p,0,none⟩)) (w':=_) (by simp[execOp,go_sem,e1]) ⟨rfl,AnyM.other rfl hC⟩
     ·have e1:ev (.tmp 55)= .pointer (some ⟨p,0,none⟩):=aA 8 55 (by omega) rfl (by decide)
      exact aj.ah (v:= .pointer (some ⟨p,6,none⟩)) (w':=_) (by simp[execOp,go_sem,e1]) ⟨rfl,AnyM.other rfl hC⟩
     ·have e1:ev (.tmp 56)= .pointer (some ⟨p,6,none⟩):=aA 9 56 (by omega) rfl (by decide)
      exact aj.ah (v:= .pointer (some ⟨p,9,none⟩)) (w':=_) (by simp[execOp,go_sem,e1]) ⟨rfl,AnyM.other rfl hC⟩
     ·have e1:ev (.tmp 57)= .pointer (some ⟨p,9,none⟩):=aA 10 57 (by omega) rfl (by decide)
      exact aj.ah (v:= .slice (some ⟨go,0,none⟩) c.n co) (w':=_) (by simp[execOp,go_sem,e1,k9]) ⟨rfl,AnyM.other rfl hC⟩
     ·have e1:ev (.tmp 5)= .int .i64 (v:Int):=aS 5 (by kernel_rfl)
      exact aj.ah (v:= .int .i64 (v:Int)) (w':=_) (by simp[execOp,go_sem,e1]) ⟨rfl,AnyM.other rfl hC⟩
     ·have e1:ev (.tmp 58)= .slice (some ⟨go,0,none⟩) c.n co:=aA 11 58 (by omega) rfl (by decide)
      have e2:ev (.tmp 59)= .int .i64 (v:Int):=aA 12 59 (by omega) rfl (by decide)
      exact aj.ah (v:= .pointer (some ⟨go,v,none⟩)) (w':=_) (by simp[execOp,go_sem,e1,e2,v0,v1]) ⟨rfl,AnyM.other rfl hC⟩
     ·have e1:ev (.tmp 60)= .pointer (some ⟨go,v,none⟩):=aA 13 60 (by omega) rfl (by decide)
      exact aj.ah (v:= .slice (some ⟨rb,0,none⟩) l.length ca) (w':=_) (by simp[execOp,go_sem,e1,kr]) ⟨rfl,AnyM.other rfl hC⟩
     ·have e1:ev (.tmp 61)= .slice (some ⟨rb,0,none⟩) l.length ca:=aA 14 61 (by omega) rfl (by decide)
      exact aj.ah (v:= .pointer (some ⟨rb,0,none⟩)) (w':=_) (by simp[execOp,go_sem,e1,lG,aeA]) ⟨rfl,AnyM.other rfl hC⟩
     ·have e1:ev (.tmp 62)= .pointer (some ⟨rb,0,none⟩):=aA 15 62 (by omega) rfl (by decide)
      exact aj.ah (v:= .int .i64 (q0:Int)) (w':=_) (by simp[execOp,go_sem,e1,kq]) ⟨rfl,AnyM.other rfl hC⟩
     ·have e1:ev (.tmp 63)= .int .i64 (q0:Int):=aA 16 63 (by omega) rfl (by decide)
      exact aj.ah (v:= .int .i64 (k0:Int)) (w':=_) (by simp[execOp,go_sem,e1,hq0,lG,hwk]) ⟨rfl,AnyM.other rfl hC⟩
     ·have e1:ev (.tmp 50)= .slice (some ⟨SB,0,none⟩) c.es.length cb:=aA 3 50 (by omega) rfl (by decide)
      have e2:ev (.tmp 64)= .int .i64 (k0:Int):=aA 17 64 (by omega) rfl (by decide)
      exact aj.ah (v:= .pointer (some ⟨SB,k0,none⟩)) (w':=_) (by simp[execOp,go_sem,e1,e2,kk0,kk1]) ⟨rfl,AnyM.other rfl hC⟩
     ·have e1:ev (.tmp 65)= .pointer (some ⟨SB,k0,none⟩):=aA 18 65 (by omega) rfl (by decide)
      exact aj.ah (v:= .int .i64 z0) (w':=_) (by simp[execOp,go_sem,e1,kz]) ⟨rfl,AnyM.other rfl hC⟩
     ·have e1:ev (.tmp 47)= .slice (some ⟨SB,0,none⟩) c.es.length cb:=aA 0 47 (by omega) rfl (by decide)
      have e2:ev (.tmp 49)= .int .i64 (e:Int):=aA 2 49 (by omega) rfl (by decide)
      exact aj.ah (v:= .pointer (some ⟨SB,e,none⟩)) (w':=_) (by simp[execOp,go_sem,e1,e2,Dl,Dk]) ⟨rfl,AnyM.other rfl hC⟩
     ·have e1:ev (.tmp 67)= .pointer (some ⟨SB,e,none⟩):=aA 20 67 (by omega) rfl (by decide)
      have e2:ev (.tmp 66)= .int .i64 z0:=aA 19 66 (by omega) rfl (by decide)
      refine aj.bF (w':=C5.drew.setCell ⟨SB,e,none⟩ (.int .i64 z0)) (by simp[execOp,go_sem,e1,e2,ke,kf]) ⟨rfl,?_⟩
      simp[AnyM.bG,aj.bR]
    ·intro Ls V hall hC
     unfold AnyM.bG at hC
     rw[if_pos (hall 21 (by decide))] at hC
     subst hC
     obtain⟨X1,iE⟩:∃X1,X1=C5.drew.setCell ⟨SB,e,none⟩ (.int .i64 z0):=⟨_,rfl⟩
     rw[←iE]
     have A6:aC (fun b=>b=SB) C5 X1:=by rw[iE];exact((aC.refl (fun b=>b=SB) C5).drew).setCell (b:=SB) (i:=e) rfl _
     have KH:aC (fun b=>b=SB) C X1:=((aC.refl (fun b=>b=SB) C).later jX.out).trans A6
     have iX:aF X1 SB (A.set e z0):=by rw[iE];exact agW.out.set (by rw[Cu.out.len];omega) z0
     have Da:Below W.heap.size W X1:=Nq.out.trans (KH.below Nq.out.size (fun k hk=>by rw[hk];omega))
     have QK:=KH.size
     have ZL:Boxed X1 W.heap.size 64 (.pointer (some ⟨j,0,none⟩)):=(KH.block _ WE.out.lt (by omega)).trans WE.out
     have q1X:Boxed X1 (W.heap.size+1) 4 (.bool false):=(KH.block _ Pj.out.lt (by omega)).trans Pj.out
     have q2X:Boxed X1 W2.heap.size 37 (.slice (some ⟨SB,0,none⟩) c.es.length cb):=(KH.block _ Ni.out.lt (by omega)).trans Ni.out
     have kjX:=ZL.cell
     have kpX:=(HJ.out.later Da).cells.1
     have k9X:=Uv.out _ Da
     have krX:=Js.out _ Da
     have HWC:=Nu.hid KH
     have HIX:=Nu.hid iX
     have jW:=Nu.hid Da
     have Y3:=Nu.hid ZL
     have alB:=Nu.hid q1X
     have Y2:=Nu.hid q2X
     clear kS kj kp k9 kr kq kz ke kf Qu q05 hall iE A6 KH iX Da ZL q1X q2X Yu BH
     simp only[aj.canon,aj.dst,Array.size,aar,aaS]
     simp[Act.put]
     gi_wp2
     gi_loopw [80] (fun iv wr=>∃i:Nat,iv= .int .i64 (i:Int)∧i≤l.length∧(∀k,(hk:k<l.length)→k<i→g c.lw l[k]=g c.lw e→g (A.set e z0) l[k]=z0)∧Below X1.heap.size X1 wr) (fun iv _=>l.length-(intOf iv).toNat)
     case atStart=>exact⟨0,rfl,aax _,fun k _ hk=>absurd hk (by omega),aae _ _⟩
     case round=>
      obtain⟨i,rfl,hil,hall,hb⟩:=hrel
      by_cases hlt:i<l.length
      ·obtain⟨k,hk⟩:∃k,l[i]=k:=⟨_,rfl⟩
       obtain⟨km,Z8⟩:=(Y6.out k).1 (by rw[←hk];exact aaX hlt)
       have kne:=HKE.out k Z8
       obtain⟨o1,-,o3,o4⟩:=Lo.cO gP km
       have dS:∀D:LW wr,Below W.heap.size W D.val:=fun D=>(jW.out.trans (hb.mono jW.out.size)).trans (D.h.mono (jW.out.trans (hb.mono jW.out.size)).size)
       have zr:wr.cell? ⟨rb,i,none⟩=some (.int .i64 ((Lo.oh c.s k:Nat):Int)):=by
        have:=j8.out wr (jW.out.trans (hb.mono jW.out.size)) i hlt
        rw[hk] at this
        exact this
       obtain⟨qk,hqk⟩:∃q,Lo.oh c.s k=q:=⟨_,rfl⟩
       rw[hqk] at o4 zr
       have ala:=(eC o4).1
       have xw:∀D:LW wr,Below X1.heap.size X1 D.val:=fun D=>hb.trans (D.h.mono hb.size)
       obtain⟨zk,KC⟩:∃z,(A.set e z0)[k]? =some z:=⟨_,aac (by rw[aaT,Cu.out.len];exact km)⟩
       have hgz:g (A.set e z0) k=zk:=by unfold g;rw[KC];rfl
       have Xv:(A.set e z0)[e]? =some z0:=by rw[aaq,if_pos rfl,if_pos (by rw[Cu.out.len];omega)]
       have y0:∀D:LW wr,D.val.cell? ⟨W.heap.size,0,none⟩=some (.pointer (some ⟨j,0,none⟩)):=fun D=>(show Boxed D.val W.heap.size 64 (.pointer (some ⟨j,0,none⟩)) from((xw D).block _ Y3.out.lt).trans Y3.out).cell
       have y1:∀D:LW wr,D.val.cell? ⟨j,0,none⟩=some (.pointer (some ⟨p,0,none⟩)):=fun D=>(HJ.out.later (dS D)).cells.1
       have y2:∀D:LW wr,D.val.cell? ⟨p,6,none⟩=some (.slice (some ⟨lb,0,none⟩) c.es.length lc):=fun D=>Pz.out _ (dS D)
       have y3:∀D:LW wr,D.val.cell? ⟨lb,k,none⟩=some (.int .i64 (g c.lw k)):=fun D=>by rw[Wp.mV km];exact Jw.out _ (dS D) k km
       have y4:∀D:LW wr,D.val.cell? ⟨lb,e,none⟩=some (.int .i64 (g c.lw e)):=fun D=>by rw[ag7.out];exact Jw.out _ (dS D) e hem
       have y5:∀D:LW wr,D.val.cell? ⟨W2.heap.size,0,none⟩=some (.slice (some ⟨SB,0,none⟩) c.es.length cb):=fun D=>(show Boxed D.val W2.heap.size 37 (.slice (some ⟨SB,0,none⟩) c.es.length cb) from((xw D).block _ Y2.out.lt).trans Y2.out).cell
       have y6:∀D:LW wr,D.val.cell? ⟨SB,k,none⟩=some (.int .i64 zk):=fun D=>(HIX.out.later (xw D)).cell KC
       have y7:∀D:LW wr,D.val.cell? ⟨SB,e,none⟩=some (.int .i64 z0):=fun D=>(HIX.out.later (xw D)).cell Xv
       have Rb:=LW.any wr
       obtain⟨g1,hg1⟩:∃z,g c.lw k=z:=⟨_,rfl⟩
       obtain⟨g2,hg2⟩:∃z,g c.lw e=z:=⟨_,rfl⟩
       rw[hg1] at y3
       rw[hg2] at y4
       have i0:(0:Int)≤(i:Int):=by omega
       have i1:(i:Int)<(l.length:Int):=by omega
       have i2:(i:Int)+1≤4194304:=by omega
       have m0:(0:Int)≤(k:Int):=by omega
       have m1:(k:Int)<(c.es.length:Int):=by omega
       have ak4:IntKind.i64.wrap (k:Int)=(k:Int):=by rw[aa1];omega
       have qm:=Nu.hid hall
       have vY:=Nu.hid hb
       have HKI:=Nu.hid hk
       have HGZ:=Nu.hid hgz
       have nh:=Nu.hid hg1
       have iN:=Nu.hid hg2
       have WQ:=Nu.hid (And.intro km Z8)
       have F9:Hid (∀X,Below wr.heap.size wr X→(g1=g2→zk=z0)→∃i':Nat,i'=i+1∧i'≤l.length∧(∀k,(hk:k<l.length)→k<i'→g c.lw l[k]=g c.lw e→g (A.set e z0) l[k]=z0)∧Below X1.heap.size X1 X):=fun X hX hq=>by
        refine⟨i+1,rfl,hlt,fun k' hk' hki cU=> ?_,vY.out.trans (hX.mono vY.out.size)⟩
        by_cases hii:k'=i
        ·subst hii
         rw[HKI.out] at cU ⊢
         rw[HGZ.out]
         exact hq (by rw[←nh.out,←iN.out];exact cU)
        ·exact qm.out k' hk' (by omega) cU
       clear hall hb hk km Z8 kne o1 o3 o4 dS hqk xw KC hgz Xv hg1 hg2
       by_cases c1:g1=g2
       ·subst c1
        by_cases c2:zk=z0
        ·subst c2
         gi_wp2
         refine fZ (by kernel_rfl) (by kernel_rfl) (by kernel_rfl) ?_
         repeat (go_big_quiet_step (fail))
         refine wpQuiet_nil ?_
         rintro _ ⟨E,rfl⟩
         have HE:=Nu.hid E.h
         clear y0 y1 y2 y3 y4 y5 y6 y7 Rb zr
         gi_wp2
         go_roundw
         case rel=>
          obtain⟨i',rfl,r1,r2,r3⟩:=F9.out _ HE.out (fun _=>by first|rfl|trivial)
          exact⟨i+1,by simp,r1,r2,r3⟩
         case measure=>
          simp[intOf]
          omega
        ·have hd2:(zk != z0)=true:=by simp only[bne_iff_ne,ne_eq];exact c2
         have uG:=Nu.hid c2
         clear c2
         gi_wp2
         refine fZ (by kernel_rfl) (by kernel_rfl) (by kernel_rfl) ?_
         repeat (go_big_quiet_step (fail))
         refine wpQuiet_nil ?_
         rintro _ ⟨E,rfl⟩
         try rw[hd2]
         clear hd2
         obtain⟨X2,jM⟩:∃X2,X2=E.val:=⟨_,rfl⟩
         have IQ:Below wr.heap.size wr X2:=by rw[jM];exact E.h
         rw[←jM]
         have hwE:aC (fun b=>b=SB) C X2:=(HWC.out.later vY.out).later IQ
         have UR:Boxed X2 (W.heap.size+1) 4 (.bool false):=(hwE.block _ Pj.out.lt (by omega)).trans Pj.out
         have cr:=UR.cell
         have fr:=UR.frozen
         have alc:W.heap.size+1<V1.heap.size:=q1.lt
         have HNA:Hid (¬T.Aligned sd):=UQ Dv.out hem YU.out EA.out Gb.out.1 Gb.out.2 Uc.out WQ.out.1 WQ.out.2 (by rw[nh.out,iN.out]) (L6.out k0 Gb.out.1 Gb.out.2 Uc.out) (L6.out k WQ.out.1 WQ.out.2 (by rw[nh.out,iN.out])) (by rw[HGZ.out,Ug.out];exact uG.out)
         have bI:Hid (KeepsFrom V1.heap.size C (X2.setCell ⟨W.heap.size+1,0,none⟩ (.bool false))∧(¬T.Aligned sd∧Boxed (X2.setCell ⟨W.heap.size+1,0,none⟩ (.bool false)) (W.heap.size+1) 4 (.bool false))∧bE W.heap.size (fun b=>b=SB∨b=W.heap.size+1) V1 (X2.setCell ⟨W.heap.size+1,0,none⟩ (.bool false))):=by
          have hw2:aC (fun b=>b=SB∨b=W.heap.size+1) C (X2.setCell ⟨W.heap.size+1,0,none⟩ (.bool false)):=(hwE.mono fun b _ hb=> .inl hb).setCell (b:=W.heap.size+1) (i:=0) (.inr rfl) _
          have h1:bE W.heap.size (fun b=>b=SB∨b=W.heap.size+1) V1 C:=⟨ot.out.1,fun b o hb ho hn=>ot.out.2 b o hb ho (fun q=>hn (.inl q))⟩
          exact⟨fQ hw2 (fun b hb=>by rcases hb with rfl|rfl<;>omega),⟨HNA.out,UR.set _⟩,h1.trans (dQ (n₀:=W.heap.size) hw2 (by omega) (fun b hb=>by rcases hb with rfl|rfl<;>omega))⟩
         clear y0 y1 y2 y3 y4 y5 y6 y7 Rb zr jM IQ hwE UR
         gi_wp2
         exact⟨bI.out.1,rfl,bI.out.2⟩
       ·have hd2:(g1==g2)=false:=by simp only[beq_eq_false_iff_ne,ne_eq];exact c1
        have qz:=Nu.hid c1
        clear c1
        gi_wp2
        refine fZ (by kernel_rfl) (by kernel_rfl) (by kernel_rfl) ?_
        repeat (go_big_quiet_step (fail))
        refine wpQuiet_nil ?_
        rintro _ ⟨E,rfl⟩
        try rw[hd2]
        clear hd2
        have HE:=Nu.hid E.h
        clear y0 y1 y2 y3 y4 y5 y6 y7 Rb zr
        gi_wp2
        go_roundw
        case rel=>
         obtain⟨i',rfl,r1,r2,r3⟩:=F9.out _ HE.out (fun q=>absurd q qz.out)
         exact⟨i+1,by simp,r1,r2,r3⟩
        case measure=>
         simp[intOf]
         omega
      ·obtain rfl:i=l.length:=by omega
       have oQ:Hid (KeepsFrom V1.heap.size C wr∧bE W.heap.size (fun b=>b=SB) C wr∧(0<c.es.length→∃A,aF wr SB A∧Mh c.n c.es c.s T c.lw sd (c.n-(pre++[x0]).length) A)):=by
        have hw:=HWC.out.later hb
        refine⟨fQ hw (fun b hb=>by rw[hb];exact sbl),dQ (n₀:=W.heap.size) hw (by omega) (fun b hb=>by rw[hb];omega),fun _=>⟨A.set e z0,HIX.out.later hb,?_⟩⟩
        rw[LU.out]
        have aaW:∀k,k<c.es.length→T.fr k=T.go e→g c.lw k=g c.lw e→g (A.set e z0) k=g (A.set e z0) k0:=fun k hkm mO cU=>by
         obtain⟨i,hi,hki⟩:=acd.1 ((Y6.out k).2 ⟨hkm,mO⟩)
         have:=hall i hi hi (by rw[hki];exact cU)
         rw[hki] at this
         rw[this,Ug.out]
        refine⟨by rw[aaT];exact Cu.out.len,fun e' he' qo=> ?_,fun e' he' qo ⟨a,a1,a2,a3⟩ hr=> ?_⟩
        ·rw[HGA.out e' (fun q=>by rw[q,YU.out] at qo;cases qo)]
         exact Cu.out.back e' he' qo
        ·by_cases hee:e'=e
         ·subst hee
          obtain⟨b,b1,b2,b3⟩:=P0 Dv.out he' qo hr Gb.out.1 Gb.out.2 Uc.out L6.out aaW (x:=g (A.set e' z0) e') (by rw[Ug.out,dW (by rw[Cu.out.len];exact he')])
          exact⟨b,b1,b2,b3⟩
         ·have OB:a≠x0:=fun q=>by
           rw[q,HV.out] at a3
           exact hee (agC.out e' he' qo (by omega))
          obtain⟨b,b1,b2,b3⟩:=Cu.out.done e' he' qo ⟨a,by omega,a2,a3⟩ hr
          exact⟨b,b1,by rw[HGA.out e' hee];exact b2,b3⟩
       clear hall hb
       gi_wp2
       obtain⟨f1,f2,f3⟩:=oQ.out
       exact⟨f1,f2,f3,ot.out.trans f2⟩
   ·have hd:decide (Lo.low c.es c.s e<T.az (T.fr e))=false:=by simp only[decide_eq_false_iff_not];exact g8
    rw[hd] at ni
    have bI:Hid (∀X,Below C.heap.size C X→KeepsFrom V1.heap.size C X∧bE W.heap.size (fun b=>b=SB) C X∧(0<c.es.length→∃A,aF X SB A∧Mh c.n c.es c.s T c.lw sd (c.n-(pre++[x0]).length) A)):=fun X hX=>by
     refine⟨D6 hX,(bE.refl _ _ _).grow hX (by omega),fun h0=> ?_⟩
     rw[LU.out]
     obtain⟨A,i1,i2⟩:=TA.out (fun e' he' qo hg'=>by rw[hone e' he' qo hg',IB];exact g8) h0
     exact⟨A,i1.later hX,i2⟩
    clear g8 hd hone IB pV hte hge Fo aS u1 u2 u3 u4 Fw UO
    gi_wp2_with (refine⟨trivial,?_⟩;gi_at_call 41;refine(acJ lq (callsIn_wide.2 ni.out)).mono ?_;rintro e5 X4 ⟨rfl,hb5⟩;have jX:=Nu.hid hb5;clear hb5)
    obtain⟨f1,f2,f3⟩:=bI.out _ jX.out
    exact⟨f1,f2,f3,ot.out.trans f2⟩
 case done=>
  rintro Dd X hD ⟨hA,tR⟩ hK
  have mj:T.Aligned sd:=by
   by_cases h0:0<c.es.length
   ·obtain⟨A,-,mj⟩:=hA h0
    rw[jo,acP] at mj
    refine P5 VN (S:=g A) fun e he te hr=>mj.done e he te ?_ hr
    have hg:T.go e<c.n:=(T.lt e he).2
    obtain⟨a,ha,ea⟩:=gP.once.sZ hg
    exact⟨a,aax _,ha,ea⟩
   ·intro e b d he
    omega
  rw[xy] at mj
  have V5:=tR.boxed q1 (by omega)
  have cr:=V5.cell
  have fr:=V5.frozen
  have xg:=q1.lt
  have jW:=Nu.hid V5
  have Ga:=Nu.hid tR
  have HK:=Nu.hid hK
  have zJ:Hid AP:=by rw[Xc.out];exact @mj
  clear hA tR hK mj V5 hcs Sn hEK VN xy
  go_wp2
  have hK2:(X.setCell ⟨W.heap.size+1,0,none⟩ (.bool true)).heap[Dd]? =some (.deferred (some [])):=(heap_setCell_other X ⟨W.heap.size+1,0,none⟩ Dd _ (by simp;omega)).trans HK.out
  refine⟨by simp,.inl ⟨_,_,rfl,run_takeDeferred hK2,?_⟩⟩
  have K5:Boxed (X.setCell ⟨W.heap.size+1,0,none⟩ (.bool true)) (W.heap.size+1) 4 (.bool true):=jW.out.set _
  have K6:Below W.heap.size W (X.setCell ⟨W.heap.size+1,0,none⟩ (.bool true)):=(MU.trans Ga.out.1).setCell (p:=⟨W.heap.size+1,0,none⟩) (by show _≤_+1;omega) _
  refine⟨_,qH rfl _ _ ⟨W.heap.size+1,0,none⟩ (.bool true) rfl ?_ (by kernel_rfl),true,rfl,⟨fun _=>zJ.out,fun _=>rfl⟩,?_⟩
  ·exact acG (OwnFrom.putObj (β:=Unit) (B:=V1.heap.size) (I:=fun _ X=>Boxed X (W.heap.size+1) 4 (.bool true)) (Own.from (boxed_own _ _ _) _) (s:=()) _ K5 hD hK2 rfl)
  ·exact K6.trans (belowK_b (w:=W) (aad _) _ Dd _ _ (by omega) hK2 rfl rfl)
 case stop=>
  rintro Dd cc pre X hD _ ⟨rfl,⟨hex,brW⟩,hkW⟩ hK
  have K6:Below W.heap.size W X:=MU.trans hkW.1
  rw[xy] at hex
  replace hex:¬AP:=by rw[Xc.out];exact hex
  gi_wp2
  refine⟨by simp,.inl ⟨_,_,rfl,run_takeDeferred hK,?_⟩⟩
  refine⟨_,qH rfl _ _ ⟨W.heap.size+1,0,none⟩ (.bool false) rfl ?_ (by kernel_rfl),false,rfl,⟨(fun q=>by cases q),fun q=>absurd q hex⟩,?_⟩
  ·exact acG (OwnFrom.putObj (β:=Unit) (B:=V1.heap.size) (I:=fun _ X=>Boxed X (W.heap.size+1) 4 (.bool false)) (Own.from (boxed_own _ _ _) _) (s:=()) _ brW hD hK rfl)
  ·exact K6.trans (belowK_b (w:=W) (aad _) _ Dd _ _ (by omega) hK rfl rfl)
end
end
end Go.Proofs.YtdjmnpmdmjclhabGreat
