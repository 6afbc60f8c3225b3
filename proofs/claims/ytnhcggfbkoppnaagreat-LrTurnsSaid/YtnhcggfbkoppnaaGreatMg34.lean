import Derived.Test.YtnhcggfbkoppnaaGreatMg18
import Derived.Test.YtnhcggfbkoppnaaGreatMg42
import Derived.Test.YtnhcggfbkoppnaaGreatMg16
import Derived.Test.YtnhcggfbkoppnaaGreatMg23
import Derived.Test.YtnhcggfbkoppnaaGreatMg22
import Derived.Test.YtnhcggfbkoppnaaGreatMg24
namespace Go.Proofs.YtnhcggfbkoppnaaGreat
section
open Go.RowKit Go.Shelf Lt Pl
attribute [local go_sem] Oper.semAt_some
theorem qA {fn:Func} {p:Tmp} {ty:TypeId} {P:Program} (h:fn.results= #[.cell p ty]) (tmps:Array Value) (w:World) (a:Addr) (v:Value) (hp:tmps.getD p undef= .pointer (some a)) (hc:w.cell? a=some v) (hag:(isAgg ty).run P w= .ok false w):(results fn tmps).run P w= .ok v w:=by
 have hp':tmps[p]?.getD undef= .pointer (some a):=by simpa using hp
 simp[results,h,go_sem,hp',hc,hag]
theorem Ph {β:Type} (B g1:Nat) (c:Prop) (P:β→List Int→Prop):OwnFrom B (fun (b:β) X=>c→∃A,aB X g1 A∧P b A):=fun b X Y row h hg hr hc=>by
 obtain⟨A,⟨r,h1⟩,h2⟩:=h hc
 refine⟨A,⟨r,(hg.block g1 (lt_of_block h1) (fun e=> ?_)).trans h1⟩,h2⟩
 obtain⟨_,o,ho,hcc⟩:=hr g1 e.symm
 rw[h1] at ho
 cases ho
 cases hcc
structure LD (n:Nat) (es:List (Int×Int)) (s:Df.St) (T:DF n es.length) (lw:List Int) (sd:Nat→Bool) (i:Nat) (A:List Int):Prop where
 len:A.length=es.length
 back:∀e,e<es.length→T.tree e=false→g A e=cU T sd e
 done:∀e,e<es.length→T.tree e=true→(∃a,i≤a∧a<n∧Df.at_ s.ord a=(T.go e:Int))→g lw e<T.ay (T.fr e)→K2 T sd (g A) e
section
variable {c:Wp} {p j:Nat} {pa:Option Addr} {pc:Nat} {ps:List Int} {W:World} {sd:Nat→Bool}
set_option maxRecDepth 100000 in
set_option maxHeartbeats 16000000 in
theorem Fv (h:mQ c p j pa pc ps W) (hps:∀e,e<c.es.length→ps[e]?.getD 0=cU (Lr.df h.wk.val h.wk.vf) sd e):
 Calls Tryz.prog 40 #[.pointer (some ⟨j,0,none⟩)] W fun e w'=>∃b,e= .returned (.bool b)∧(b=true↔(Lr.df h.wk.val h.wk.vf).Aligned sd)∧Below W.heap.size W w':=by
 obtain⟨AP,hAP⟩:∃AP:Prop,AP=(Lr.df h.wk.val h.wk.vf).Aligned sd:=⟨_,rfl⟩
 rw[←hAP]
 have VR:=Nu.hid hAP
 clear hAP
 have cq:=h.wk.val.few
 have hhi:=h.wk.val.hi
 have FE:Hid (∀V,Below W.heap.size W V→Calls Tryz.prog 68 #[.slice pa c.es.length pc] V fun e w'=>∃bo cb,e= .returned (.slice bo c.es.length cb)∧aS w' V.heap.size (.slice bo c.es.length cb) ps∧Below V.heap.size V w'):=fun V hV=>Gk pa c.es.length pc ps V (h.later hV).mZ (by omega)
 have TE:Hid (∀X,Calls Tryz.prog 69 #[.slice c.f.a3 c.n c.f.c3] X (oQ c.f.a3 c.n c.f.c3 X)):=fun X=>kD _ _ _ X
 obtain⟨W1,hW1⟩:∃W1,W1=(W.alloc (.cells #[.pointer (some ⟨j,0,none⟩)] 78)).alloc (.cells #[.bool false] 4):=⟨_,rfl⟩
 have hs1:W1.heap.size=W.heap.size+2:=by rw[hW1];simp
 have hb1:Below W.heap.size W W1:=by rw[hW1];exact((Below.refl _ _).alloc (Nat.le_refl _) _).alloc (by simp) _
 have a0:Boxed W1 W.heap.size 78 (.pointer (some ⟨j,0,none⟩)):=by
  rw[hW1]
  show _=_
  rw[Below.heap_alloc _ _ _ (by simp)]
  exact heap_alloc_new W _
 have a1:Boxed W1 (W.heap.size+1) 4 (.bool false):=by
  rw[hW1]
  have:=heap_alloc_new (W.alloc (.cells #[.pointer (some ⟨j,0,none⟩)] 78)) (.cells #[.bool false] 4)
  rw[show(W.alloc (.cells #[.pointer (some ⟨j,0,none⟩)] 78)).heap.size=W.heap.size+1 by simp] at this
  exact this
 have x0:=a0.cell
 have x1:=(h.later hb1).cells.2
 have nY:=Nu.hid (FE.out W1 hb1)
 have HJ:=Nu.hid h
 have Vx:=Nu.hid hps
 have jR:=Nu.hid hW1
 have aV:=Nu.hid hb1
 have Cc:=Nu.hid a0
 have Cb:=Nu.hid a1
 have Lh:=Nu.hid hs1
 rw[hW1] at x0 x1 nY
 clear hb1 a0 a1 hW1 hs1
 refine(callsIn_wide (n:=9)).1 ?_
 refine callsIn_of_wp_marks Tryz.func40 rfl trivial ?_ rfl
 simp only[Tryz.ntmps40,List.size_toArray,List.length_cons,List.length_nil,Nat.reduceAdd,Nat.reduceSub,Array.replicate_succ,Array.replicate_zero,List.push_toArray,List.append_toArray,List.nil_append,List.cons_append]
 refine wpIn_wide.2 ?_
 go_wp2_with fail
 go_at_call 68
 refine nY.out.mono ?_
 rw[←jR.out]
 rintro e W2 ⟨bo,cb,rfl,ho2,b2⟩
 obtain⟨W3,hW3⟩:∃W3,W3=W2.alloc (.cells #[.slice bo c.es.length cb] 28):=⟨_,rfl⟩
 have b3:Below W2.heap.size W2 W3:=by rw[hW3];exact(Below.refl _ _).alloc (Nat.le_refl _) _
 have s3:W3.heap.size=W2.heap.size+1:=by rw[hW3];simp
 have k3:Boxed W3 W2.heap.size 28 (.slice bo c.es.length cb):=by rw[hW3];exact heap_alloc_new W2 _
 have Vf:Below W1.heap.size W1 W3:=b2.trans (b3.mono b2.size)
 have hJ3:=HJ.out.later (aV.out.trans (Vf.mono aV.out.size))
 have y0:=(show Boxed W3 W.heap.size 78 (.pointer (some ⟨j,0,none⟩)) from(Vf.block _ Cc.out.lt).trans Cc.out).cell
 have y1:=hJ3.cells.1
 have y2:=hJ3.wk.c4
 have uj:=Nu.hid k3
 have yy:=Nu.hid Vf
 have vI:=Nu.hid s3
 have HO3:=Nu.hid (ho2.later b3)
 have m8:=Nu.hid hW3
 have SL:=Nu.hid b2.size
 rw[hW3] at y0 y1 y2
 clear ho2 b2 hW3 b3 s3 k3 Vf hJ3 x0 x1 nY
 simp only[]
 go_wp2_with (go_at_call 69;refine(TE.out _).mono ?_;rw[←m8.out];rintro e1 V1 ⟨Bs,rfl,tJ,bs,dH⟩)
 obtain⟨T,wR⟩:∃T,T=Lr.df HJ.out.wk.val HJ.out.wk.vf:=⟨_,rfl⟩
 have tZ:=Nu.hid wR
 have hvl:=HJ.out.wk.val
 have gO:=HJ.out.wk.vf
 have s8:=dH.size
 have t1:=Lh.out
 have t2:=SL.out
 have t3:=vI.out
 have ZK:Below W1.heap.size W1 V1:=yy.out.trans (dH.mono yy.out.size)
 have Mr:Below W.heap.size W V1:=aV.out.trans (ZK.mono aV.out.size)
 have q0:Boxed V1 W.heap.size 78 (.pointer (some ⟨j,0,none⟩)):=(ZK.block _ Cc.out.lt).trans Cc.out
 have q1:Boxed V1 (W.heap.size+1) 4 (.bool false):=(ZK.block _ Cb.out.lt).trans Cb.out
 have q2:Boxed V1 W2.heap.size 28 (.slice bo c.es.length cb):=(dH.block _ uj.out.lt).trans uj.out
 have hpl:=HJ.out.mZ.len
 obtain⟨SB,sb1,sb2,sb3⟩:∃SB,W1.heap.size≤SB∧(SB≠W2.heap.size∧SB≠Bs)∧(0<c.es.length→bo=some ⟨SB,0,none⟩∧SB<V1.heap.size∧aB V1 SB ps):=by
  by_cases h0:0<c.es.length
  ·have ho:=HO3.out
   unfold aS at ho
   rw[hpl] at ho
   obtain⟨g1,cap,e⟩:∃g1 cap,Value.slice bo c.es.length cb= .slice (some ⟨g1,0,none⟩) c.es.length cap:=by
    rcases ho.2 with ⟨e,h0'⟩|⟨g1,cap,cur,e,_⟩
    ·omega
    ·exact⟨g1,cap,e⟩
   cases e
   have hin:=lU ho
   obtain⟨hgB,hlt⟩:=World.ownsRow.lt ho g1 rfl
   have adE:g1≠W2.heap.size:=fun q=>by
    obtain⟨r,hh⟩:=hin
    rw[q,show W3.heap[W2.heap.size]? =_ from uj.out] at hh
    obtain⟨-,h28,-⟩:=Obj.cells.inj (Option.some.inj hh)
    exact absurd h28 (by decide)
   refine⟨g1,hgB,⟨adE,by omega⟩,fun _=>⟨rfl,by omega,hin.later dH⟩⟩
  ·exact⟨V1.heap.size+1,by omega,⟨by omega,by have:=bs.lt;omega⟩,fun q=>absurd q h0⟩
 have hcs:∀i,i<c.n→∃b o,c.f.a3=some ⟨b,o,none⟩∧∀X,bE W.heap.size (fun b=>b=SB) V1 X→X.cell? ⟨b,o+i,none⟩=some (.int .i64 (Df.at_ c.s.ord i)):=fun i hi=>by
  obtain⟨b,o,e,hc⟩:=HJ.out.wk.ord hi
  exact⟨b,o,e,fun X hX=>hc X (Mr.trans hX.1) i hi⟩
 have Z9:=Wp.Bi hvl gO
 have UT:eI T c.lw:=by rw[wR];exact Z9.lw
 have Ri:LD c.n c.es c.s T c.lw sd c.n ps:=by
  refine⟨hpl,fun e he te=> ?_,fun e he te ⟨a,a1,a2,_⟩ _=>by omega⟩
  have:=Vx.out e he
  rw[wR]
  exact this
 refine(wpIn_wide (n:=9)).1 ?_
 refine rV (n:=9) (gf:=101) (lb:= #[.pointer (some ⟨Bs,0,none⟩)]) (by rfl) (enters_of Tryz.func101 (by kernel_rfl) rfl)
  (wZ Bs W.heap.size c.f.c3 c.n (fun b=>b=SB) c.f.a3 c.s.ord (by omega) V1 (by omega) bs hcs (by omega)) (by omega) (fun _=>rfl)
  (fun pre X=>(0<c.es.length→∃A,aB X SB A∧LD c.n c.es c.s T c.lw sd (c.n-pre.length) A)∧bE W.heap.size (fun b=>b=SB) V1 X) (fun cc _ X=>cc= .ret∧(¬T.Aligned sd∧Boxed X (W.heap.size+1) 4 (.bool false))∧bE W.heap.size (fun b=>b=SB∨b=W.heap.size+1) V1 X)
  (OwnFrom.and (Ph _ SB _ (fun (pre:List Nat) A=>LD c.n c.es c.s T c.lw sd (c.n-pre.length) A)) (bE.own (by omega) (by omega))) (fun cc=>OwnFrom.and (fun _ _ _ _ hs _ _=>hs) (OwnFrom.and (OwnFrom.and (fun _ _ _ _ hs _ _=>hs) (Own.from (boxed_own _ _ _) _)) (bE.own (by omega) (by omega))))
  ⟨fun h0=>⟨ps,(sb3 h0).2.2,by rw[List.length_nil,Nat.sub_zero];exact Ri⟩,bE.refl _ _ _⟩
  (fun x a' _=>a'={ tmps:= #[.pointer (some ⟨j,0,none⟩),.pointer (some ⟨W.heap.size,0,none⟩),.pointer (some ⟨W.heap.size+1,0,none⟩),.pointer (some ⟨W2.heap.size,0,none⟩),undef,.int .i64 (Df.at_ c.s.ord x),undef,undef,undef,.pointer (some ⟨j,0,none⟩),.pointer (some ⟨j,0,none⟩),.pointer (some ⟨j,1,none⟩),.slice pa c.es.length pc,.slice bo c.es.length cb,.pointer (some ⟨j,0,none⟩),.pointer (some ⟨j,0,none⟩),.pointer (some ⟨j,0,none⟩),.pointer (some ⟨p,0,none⟩),.pointer (some ⟨p,0,none⟩),.pointer (some ⟨p,2,none⟩),.pointer (some ⟨p,4,none⟩),.slice c.f.a3 c.n c.f.c3,.func (.func 101) #[] #[.pointer (some ⟨Bs,0,none⟩)],.int .i64 (x:Int),.int .i64 (Df.at_ c.s.ord x),undef,undef,undef,undef,undef,undef,undef,undef,undef,undef,undef,undef,undef,undef,undef,undef,undef,undef,undef,undef,undef,undef,undef,undef,undef,undef,undef,undef,undef,undef,undef,undef,undef,undef,undef,undef,undef,undef,undef,undef,undef,undef,undef,undef,undef,undef,undef,undef,undef,undef,undef,undef,undef,undef,undef,undef,undef,undef,undef,undef,undef,undef,undef,undef,undef,undef,undef,undef,undef,undef,undef,undef,undef,undef,undef,undef,undef,undef,undef,undef,undef,undef,undef,undef,undef,undef,undef,undef,undef,undef,undef,undef,undef,undef,undef,undef,undef,undef],defers:=[] })
  (fun x a'=>ownFrom_pure _ _) ?assign ?body ?done ?stop
 case assign=>
  intro l pre x X K _ hi hK
  gi_wp2
  exact hK _ _ (KeepsFrom.refl _ _) (bE.refl _ _ _) hi rfl
 case body=>
  rintro lq pre x0 a' C ⟨hl,-⟩-hpx ⟨hA,hkp⟩ rfl
  obtain⟨ac3,uQ⟩:=pU hpx
  have hx0:x0<c.n:=by omega
  obtain⟨v,hv⟩:∃v:Nat,Df.at_ c.s.ord x0=(v:Int):=⟨(Df.at_ c.s.ord x0).toNat,by have:=(gO.once x0 hx0).1;omega⟩
  have dh:v<c.n:=by have:=(gO.once x0 hx0).1;omega
  rw[hv]
  have La:Hid (c.n-(pre++[x0]).length=x0):=by show _=_;simp;omega
  have Wm:c.n-pre.length=x0+1:=by omega
  rw[Wm] at hA
  have hCs:V1.heap.size≤C.heap.size:=hkp.1.size
  have E6:Below W.heap.size W C:=Mr.trans hkp.1
  have UW:=HJ.out.later E6
  have YI:=hkp.boxed q0 (by omega)
  have q1C:=hkp.boxed q1 (by omega)
  have q2C:=hkp.boxed q2 (by omega)
  have kj:=YI.cell
  have kp:=UW.cells.1
  have k2:=UW.wk.c2
  obtain⟨bp,op,ep,pR⟩:=HJ.out.wk.par dh
  have zp:=pR C E6 v dh
  rw[ep] at k2
  have v0:(0:Int)≤(v:Int):=by omega
  have v1:(v:Int)<(c.n:Int):=by omega
  have XC:∀e,T.go e=Lo.bJ c.es c.s e:=fun e=>by rw[wR];rfl
  have XD:∀e,T.fr e=Lo.fr c.es c.s e:=fun e=>by rw[wR];rfl
  have XA:∀e,T.tree e=Lo.tree c.es c.s e:=fun e=>by rw[wR];rfl
  have XB:∀z,T.ay z=Df.at_ c.s.ay z:=fun z=>by rw[wR];rfl
  have P0:(∀e,e<c.es.length→T.tree e=true→T.go e=v→¬g c.lw e<T.ay (T.fr e))→0<c.es.length→∃A,aB C SB A∧LD c.n c.es c.s T c.lw sd x0 A:=fun hno h0=>by
   obtain⟨A,i1,kP⟩:=hA h0
   refine⟨A,i1,kP.len,kP.back,fun e he te ⟨a,a1,a2,a3⟩ hr=> ?_⟩
   by_cases q:a=x0
   ·subst q
    rw[hv] at a3
    exact absurd hr (hno e he te (by omega))
   ·exact kP.done e he te ⟨a,by omega,a2,a3⟩ hr
  have nV:=Nu.hid hkp
  have HAA:=Nu.hid hA
  have SI:=Nu.hid P0
  have MG:=Nu.hid XC
  have Sz:=Nu.hid XD
  have MF:=Nu.hid XA
  have ae4:=Nu.hid XB
  have HV:=Nu.hid hv
  have C6:=Nu.hid UT
  have Vw:=Nu.hid YI
  have OA:=Nu.hid q1C
  have S0:=Nu.hid q2C
  have HJC:=Nu.hid UW
  have ML:=Nu.hid E6
  clear hA P0 XC XD XA XB hkp hv uQ hpx ac3 Wm pR ep hcs Ri Z9 wR UT YI q1C q2C UW
  rcases gO.hang v dh with ⟨gP,-⟩|⟨qe,u1,u2,u3,u4,-⟩
  ·rw[gP] at zp
   have bI:Hid (0<c.es.length→∃A,aB C SB A∧LD c.n c.es c.s T c.lw sd (c.n-(pre++[x0]).length) A):=by
    rw[La.out]
    refine SI.out fun e he te hg=> ?_
    rw[MF.out] at te
    rw[MG.out] at hg
    unfold Lo.tree at te
    rw[hg,gP,decide_eq_true_iff] at te
    have:=(Lo.eO gO he).2.1
    omega
   clear gP E6
   gi_wp2
   all_goals (try (refine⟨trivial,?_⟩))
   all_goals (try gi_wp2)
   all_goals (first|exact⟨KeepsFrom.refl _ _,bE.refl _ _ _,bI.out,nV.out⟩|skip)
  ·obtain⟨e,aR⟩:∃e,qe/2=e:=⟨_,rfl⟩
   have hem:e<c.es.length:=by omega
   have EY:Lo.oh c.s e=qe:=by
    unfold Lo.oh
    rw[←aR,u4]
    simp
   have hge:Lo.bJ c.es c.s e=v:=by
    unfold Lo.bJ
    rw[EY]
    exact u3
   have hte:Lo.tree c.es c.s e=true:=by
    unfold Lo.tree
    rw[hge,u2,←aR,u4]
    simp
   have pQ:Cs.fr c.es qe=Lo.fr c.es c.s e:=by unfold Lo.fr;rw[EY]
   have hone:∀e',e'<c.es.length→T.tree e'=true→T.go e'=v→e'=e:=fun e' he' qh hg'=>T.one e' e he' hem qh (by rw[MF.out];exact hte) (by rw[hg',MG.out,hge])
   have Hs:g c.lw e=Lo.low c.es c.s e:=Wp.mM hem
   rw[u2] at zp
   have uf:Hid (∀V,bV c p V→Calls Tryz.prog 70 #[.pointer (some ⟨p,0,none⟩),.int .i64 (qe:Int)] V fun e' w'=>e'= .returned (.bool (decide (Lo.low c.es c.s e<T.ay (T.fr e))))∧Below V.heap.size V w'):=fun V hV=>by
    have:=sD hV u1
    rw[aR,pQ,←Sz.out,←ae4.out] at this
    exact this
   have mY:=Nu.hid (uf.out C HJC.out.wk)
   have Uq:((qe:Int)== -1)=false:=by simp only[beq_eq_false_iff_ne,ne_eq];omega
   have h0:0<c.es.length:=by omega
   obtain⟨TT,sbl,-⟩:=sb3 h0
   by_cases gY:Lo.low c.es c.s e<T.ay (T.fr e)
   ·have hd:decide (Lo.low c.es c.s e<T.ay (T.fr e))=true:=by simp only[decide_eq_true_eq];exact gY
    rw[hd] at mY
    obtain⟨A,iA,kP⟩:=HAA.out h0
    obtain⟨l,eH⟩:∃l,l=c.oe v:=⟨_,rfl⟩
    have xX:T.tree e=true:=by rw[MF.out];exact hte
    have oD:T.go e=v:=by rw[MG.out];exact hge
    have Ke:g c.lw e<T.ay (T.fr e):=by rw[Hs];exact gY
    have hmem:∀k,k∈l↔k<c.es.length∧T.fr k=T.go e:=fun k=>by
     rw[eH,Wp.Ab hvl gO,Sz.out,oD]
    have WR:List.Pairwise (Fx T c.lw) l:=by
     rw[eH]
     have:=(Wp.Bi hvl gO).Cq v
     rw[tZ.out]
     exact this
    obtain⟨k0,l',hl0,Mf⟩:=KJ C6.out hem xX Ke hmem WR
    obtain⟨Ud,Y4⟩:=(hmem k0).1 (by rw[hl0];exact List.mem_cons_self)
    obtain⟨sZ,hrw⟩:∃l,(Lo.bR c.n c.es c.s c.es.length)[v]? =some l:=⟨_,List.getElem?_eq_getElem (by rw[Lo.dw];exact dh)⟩
    obtain⟨go,co,ao,ca,Ip,hout⟩:=HJ.out.wk.outs hrw
    have hmap:sZ=l.map fun e=>((Lo.oh c.s e:Nat):Int):=by
     rw[←Wp.Ac hvl gO hrw,←eH]
     exact List.map_congr_left fun e he=>(Lo.cN gO ((hmem e).1 he).1).1
    have hlen:sZ.length=l.length:=by rw[hmap];simp
    have hrow:oM c ao l W:=fun V hV k hk=>by
     exact(hout V hV).2 k ((Lo.oh c.s l[k]:Nat):Int) (by rw[hmap,List.getElem?_map,List.getElem?_eq_getElem hk];rfl)
    rw[hlen] at hout
    have hlk:l.length≤c.es.length:=fH (by rw[eH];exact(Wp.rP hvl gO v).imp fun q=>q.2) fun x hx=>((hmem x).1 hx).1
    have hl0':0<l.length:=by rw[hl0];simp
    have Xa:l[0]=k0:=by simp[hl0]
    obtain⟨rb,erb,-⟩:=hrow W (Below.refl _ _) 0 hl0'
    subst erb
    obtain⟨z0,hz0⟩:∃z,A[k0]? =some z:=⟨_,List.getElem?_eq_getElem (by rw[kP.len];exact Ud)⟩
    obtain⟨ze,hze⟩:∃z,A[e]? =some z:=⟨_,List.getElem?_eq_getElem (by rw[kP.len];exact hem)⟩
    have wL:∀k,T.fr k=T.go e→k≠e:=fun k hk q=>by
     rw[q] at hk
     exact T.ne hem hk
    have UC:∀k,k≠e→g (A.set e z0) k=g A k:=fun k hk=>aU hk
    have Xj:g (A.set e z0) k0=z0:=by rw[UC k0 (wL k0 Y4)];unfold g;rw[hz0];rfl
    have Qa:∀k,k<c.es.length→T.fr k=T.go e→g c.lw k=g c.lw e→K2 T sd (g (A.set e z0)) k:=fun k hkm mG cT=>by
     have hgk:=UC k (wL k mG)
     cases jZ:T.tree k with
     |false=>exact Na hkm jZ (by rw[hgk];exact kP.back k hkm jZ)
     |true=>
      have hgn:T.go k<c.n:=(T.lt k hkm).2
      obtain⟨a,ha,ea⟩:=gO.once.sI hgn
      have hpl:x0<a:=Lo.xB hvl gO hkm (by rw[←MF.out];exact jZ) hx0 ha (by rw[HV.out,←Sz.out,mG,oD]) (by rw[←MG.out];exact ea)
      have eP:=(T.dP e hem xX).1
      obtain⟨b,b1,b2,b3⟩:=kP.done k hkm jZ ⟨a,by omega,ha,ea⟩ (by rw[cT,mG];omega)
      exact⟨b,b1,by rw[hgk];exact b2,b3⟩
    obtain⟨q0,Qg⟩:∃q,Lo.oh c.s k0=q:=⟨_,rfl⟩
    have hq0:=(eC (u:=q0) (k:=k0) (by rw[←Qg];exact(Lo.cN gO Ud).2.2.2)).1
    have hqe:=(eC aR).1
    obtain⟨lb,lc,wV,dZ⟩:=HJ.out.wk.Ds hem
    have HC9:Hid (∀V,Below W.heap.size W V→V.cell? ⟨p,9,none⟩=some (.slice (some ⟨go,0,none⟩) c.n co)):=fun V hV=>by rw[←Ip];exact(HJ.out.later hV).wk.c9
    have OO:Hid (∀V,Below W.heap.size W V→V.cell? ⟨p,6,none⟩=some (.slice (some ⟨lb,0,none⟩) c.es.length lc)):=fun V hV=>by rw[←wV];exact(HJ.out.later hV).wk.c6
    have Ya:=Nu.hid dZ
    have IU:Hid (∀V,Below W.heap.size W V→V.cell? ⟨go,v,none⟩=some (.slice (some ⟨rb,0,none⟩) l.length ca)):=fun V hV=>(hout V hV).1
    have lN:Hid (∀V,Below W.heap.size W V→∀k (hk:k<l.length),V.cell? ⟨rb,k,none⟩=some (.int .i64 ((Lo.oh c.s l[k]:Nat):Int))):=fun V hV k hk=>by
     obtain⟨b,e1,e2⟩:=hrow V hV k hk
     cases e1
     exact e2
    have XZ:=Nu.hid hmem
    have Li:=Nu.hid Qa
    have HGA:=Nu.hid UC
    have Tj:=Nu.hid Xj
    have B6:=Nu.hid kP
    have HIA:=Nu.hid iA
    have XO:=Nu.hid xX
    have ake:=Nu.hid oD
    have Eg:=Nu.hid Ke
    have Tf:=Nu.hid Mf
    have FC:=Nu.hid (And.intro Ud Y4)
    have afo:=Nu.hid hone
    have HKE:=Nu.hid wL
    have afT:=Nu.hid Hs
    have HZ0:=Nu.hid hz0
    have HZE:=Nu.hid hze
    have afm:=Nu.hid Qg
    have afw:Hid (∀h:0<l.length,l[0]=k0):=fun _=>Xa
    have PT:IntKind.i64.wrap (e:Int)=(e:Int):=by rw[IntKind.wrap_i64];omega
    have hwk:IntKind.i64.wrap (k0:Int)=(k0:Int):=by rw[IntKind.wrap_i64];omega
    have CS:(0:Int)≤(e:Int):=by omega
    have CR:(e:Int)<(c.es.length:Int):=by omega
    have kk0:(0:Int)≤(k0:Int):=by omega
    have kk1:(k0:Int)<(c.es.length:Int):=by omega
    have l0:(0:Int)<(l.length:Int):=by omega
    have adh:¬l=[]:=fun q=>by rw[q] at l0;simp at l0
    rw[TT]
    have MH:Hid (Boxed C W2.heap.size 28 (.slice (some ⟨SB,0,none⟩) c.es.length cb)):=by
     rw[←TT]
     exact S0.out
    clear gY hd hone Hs pQ hte hge EY aR u1 u2 u3 u4 E6 TT iA kP eH xX oD Ke hmem WR hl0 Mf Ud Y4 hrw Ip hout hmap hlen hrow Xa hl0' hz0 hze wL UC Xj Qa Qg wV dZ
    gi_wp2_with (refine⟨trivial,?_⟩;gi_at_call 70;refine(CallsIn.inRound lq (callsIn_wide.2 mY.out)).mono ?_;rintro e5 C5 ⟨rfl,hb5⟩;have gj:=Nu.hid hb5;clear hb5)
    have Xq:Below W.heap.size W C5:=ML.out.trans (gj.out.mono ML.out.size)
    have Bb:Below W.heap.size W C5.drew:=Xq.trans ((Below.refl _ _).drew)
    have kS:C5.drew.cell? ⟨W2.heap.size,0,none⟩=some (.slice (some ⟨SB,0,none⟩) c.es.length cb):=(show Boxed C5 W2.heap.size 28 (.slice (some ⟨SB,0,none⟩) c.es.length cb) from(gj.out.block _ MH.out.lt).trans MH.out).cell
    clear kj kp k2 zp
    have q05:Boxed C5 W.heap.size 78 (.pointer (some ⟨j,0,none⟩)):=(gj.out.block _ Vw.out.lt).trans Vw.out
    have kj:C5.drew.cell? ⟨W.heap.size,0,none⟩=some (.pointer (some ⟨j,0,none⟩)):=q05.cell
    have kp:C5.drew.cell? ⟨j,0,none⟩=some (.pointer (some ⟨p,0,none⟩)):=(HJ.out.later Bb).cells.1
    have k9:=HC9.out _ Bb
    have kr:=IU.out _ Bb
    have kq:C5.drew.cell? ⟨rb,0,none⟩=some (.int .i64 (q0:Int)):=by
     have hl0':0<l.length:=by omega
     have:=lN.out _ Bb 0 hl0'
     have e1:l[0]=k0:=afw.out hl0'
     rw[e1,afm.out] at this
     exact this
    have PJ:aB C5.drew SB A:=HIA.out.later (gj.out.trans ((Below.refl _ _).drew))
    have kz:C5.drew.cell? ⟨SB,k0,none⟩=some (.int .i64 z0):=PJ.cell HZ0.out
    have ke:C5.drew.cell? ⟨SB,e,none⟩=some (.int .i64 ze):=PJ.cell HZE.out
    have kf:C5.drew.frozen? ⟨SB,e,none⟩=false:=PJ.free e
    have afJ:=Nu.hid PJ
    refine wpIn_region_any (by kernel_rfl) ?_
    refine aj.BI (fun ix=>match ix with|0=> .slice (some ⟨SB,0,none⟩) c.es.length cb|1=> .int .i64 (qe:Int)|2=> .int .i64 (e:Int)|3=> .slice (some ⟨SB,0,none⟩) c.es.length cb|4=> .pointer (some ⟨j,0,none⟩)|5=> .pointer (some ⟨j,0,none⟩)|6=> .pointer (some ⟨j,0,none⟩)|7=> .pointer (some ⟨p,0,none⟩)|8=> .pointer (some ⟨p,0,none⟩)|9=> .pointer (some ⟨p,6,none⟩)|10=> .pointer (some ⟨p,9,none⟩)|11=> .slice (some ⟨go,0,none⟩) c.n co|12=> .int .i64 (v:Int)|13=> .pointer (some ⟨go,v,none⟩)|14=> .slice (some ⟨rb,0,none⟩) l.length ca|15=> .pointer (some ⟨rb,0,none⟩)|16=> .int .i64 (q0:Int)|17=> .int .i64 (k0:Int)|18=> .pointer (some ⟨SB,k0,none⟩)|19=> .int .i64 z0|20=> .pointer (some ⟨SB,e,none⟩)|_=>undef) (AnyM.bG C5.drew [(21,C5.drew.setCell ⟨SB,e,none⟩ (.int .i64 z0))]) 123 rfl (by kernel_rfl) (by kernel_rfl) rfl ?_ ?_
    ·intro ix o' Ls V ev ho bO hC bU hdc aA aR kW iQ
     have hc:ix=0∨ix=1∨ix=2∨ix=3∨ix=4∨ix=5∨ix=6∨ix=7∨ix=8∨ix=9∨ix=10∨ix=11∨ix=12∨ix=13∨ix=14∨ix=15∨ix=16∨ix=17∨ix=18∨ix=19∨ix=20∨ix=21:=by
      have:ix<22:=(Array.getElem?_eq_some_iff.1 ho).1
      omega
     have hst:Ls 21=false:=by
      cases h:Ls 21 with
      |false=>rfl
      |true=>
       exfalso
       have hq:Ls ix=true:=by
        rcases hc with rfl|rfl|rfl|rfl|rfl|rfl|rfl|rfl|rfl|rfl|rfl|rfl|rfl|rfl|rfl|rfl|rfl|rfl|rfl|rfl|rfl|rfl
        ·exact hdc 21 _ rfl h ⟨0,.phase⟩ (by simp) rfl
        ·exact hdc 21 _ rfl h ⟨1,.phase⟩ (by simp) rfl
        ·exact hdc 21 _ rfl h ⟨2,.phase⟩ (by simp) rfl
        ·exact hdc 21 _ rfl h ⟨3,.phase⟩ (by simp) rfl
        ·exact hdc 21 _ rfl h ⟨4,.phase⟩ (by simp) rfl
        ·exact hdc 21 _ rfl h ⟨5,.phase⟩ (by simp) rfl
        ·exact hdc 21 _ rfl h ⟨6,.phase⟩ (by simp) rfl
        ·exact hdc 21 _ rfl h ⟨7,.phase⟩ (by simp) rfl
        ·exact hdc 21 _ rfl h ⟨8,.phase⟩ (by simp) rfl
        ·exact hdc 21 _ rfl h ⟨9,.phase⟩ (by simp) rfl
        ·exact hdc 21 _ rfl h ⟨10,.phase⟩ (by simp) rfl
        ·exact hdc 21 _ rfl h ⟨11,.phase⟩ (by simp) rfl
        ·exact hdc 21 _ rfl h ⟨12,.phase⟩ (by simp) rfl
        ·exact hdc 21 _ rfl h ⟨13,.phase⟩ (by simp) rfl
        ·exact hdc 21 _ rfl h ⟨14,.phase⟩ (by simp) rfl
        ·exact hdc 21 _ rfl h ⟨15,.phase⟩ (by simp) rfl
        ·exact hdc 21 _ rfl h ⟨16,.phase⟩ (by simp) rfl
        ·exact hdc 21 _ rfl h ⟨17,.phase⟩ (by simp) rfl
        ·exact hdc 21 _ rfl h ⟨18,.phase⟩ (by simp) rfl
        ·exact hdc 21 _ rfl h ⟨19,.data⟩ (by simp) rfl
        ·exact hdc 21 _ rfl h ⟨20,.data⟩ (by simp) rfl
        ·exact h
       rw[bO] at hq
       cases hq
     have hV:V=C5.drew:=by
      simp only[AnyM.bG,hst,Bool.false_eq_true,if_false] at hC
      exact hC
     subst hV
     rcases hc with rfl|rfl|rfl|rfl|rfl|rfl|rfl|rfl|rfl|rfl|rfl|rfl|rfl|rfl|rfl|rfl|rfl|rfl|rfl|rfl|rfl|rfl<;>obtain rfl:=Option.some.inj ho
     ·have e1:ev (.tmp 3)= .pointer (some ⟨W2.heap.size,0,none⟩):=aR 3 (by kernel_rfl)
      exact aj.ah (v:= .slice (some ⟨SB,0,none⟩) c.es.length cb) (w':=_) (by simp[execOp,go_sem,e1,kS]) ⟨rfl,AnyM.other rfl hC⟩
     ·have e1:ev (.tmp 6)= .int .i64 (qe:Int):=aR 6 (by kernel_rfl)
      exact aj.ah (v:= .int .i64 (qe:Int)) (w':=_) (by simp[execOp,go_sem,e1]) ⟨rfl,AnyM.other rfl hC⟩
     ·have e1:ev (.tmp 48)= .int .i64 (qe:Int):=aA 1 48 (by omega) rfl (by decide)
      exact aj.ah (v:= .int .i64 (e:Int)) (w':=_) (by simp[execOp,go_sem,e1,hqe,kW,PT]) ⟨rfl,AnyM.other rfl hC⟩
     ·have e1:ev (.tmp 3)= .pointer (some ⟨W2.heap.size,0,none⟩):=aR 3 (by kernel_rfl)
      exact aj.ah (v:= .slice (some ⟨SB,0,none⟩) c.es.length cb) (w':=_) (by simp[execOp,go_sem,e1,kS]) ⟨rfl,AnyM.other rfl hC⟩
     ·have e1:ev (.tmp 1)= .pointer (some ⟨W.heap.size,0,none⟩):=aR 1 (by kernel_rfl)
      exact aj.ah (v:= .pointer (some ⟨j,0,none⟩)) (w':=_) (by simp[execOp,go_sem,e1,kj]) ⟨rfl,AnyM.other rfl hC⟩
     ·have e1:ev (.tmp 51)= .pointer (some ⟨j,0,none⟩):=aA 4 51 (by omega) rfl (by decide)
      exact aj.ah (v:= .pointer (some ⟨j,0,none⟩)) (w':=_) (by simp[execOp,go_sem,e1]) ⟨rfl,AnyM.other rfl hC⟩
     ·have e1:ev (.tmp 52)= .pointer (some ⟨j,0,none⟩):=aA 5 52 (by omega) rfl (by decide)
      exact aj.ah (v:= .pointer (some ⟨j,0,none⟩)) (w':=_) (by simp[execOp,go_sem,e1]) ⟨rfl,AnyM.other rfl hC⟩
     ·have e1:ev (.tmp 53)= .pointer (some ⟨j,0,none⟩):=aA 6 53 (by omega) rfl (by decide)
      exact aj.ah (v:= .pointer (some ⟨p,0,none⟩)) (w':=_) (by simp[execOp,go_sem,e1,kp]) ⟨rfl,AnyM.other rfl hC⟩
     ·have e1:ev (.tmp 54)= .pointer (some ⟨p,0,none⟩):=aA 7 54 (by omega) rfl (by decide)
      exact aj.ah (v:= .pointer (some ⟨p,0,none⟩)) (w':=_) (by simp[execOp,go_sem,e1]) ⟨rfl,AnyM.other rfl hC⟩
     ·have e1:ev (.tmp 55)= .pointer (some ⟨p,0,none⟩):=aA 8 55 (by omega) rfl (by decide)
      exact aj.ah (v:= .pointer (some ⟨p,6,none⟩)) (w':=_) (by simp[execOp,go_sem,e1]) ⟨rfl,AnyM.other rfl hC⟩
     ·have e1:ev (.tmp 56)= .pointer (some ⟨p,6,none⟩):=aA 9 56 (by omega) rfl (by decide)
      exact aj.ah (v:= .pointer (some ⟨p,9,none⟩)) (w':=_) (by simp[execOp,go_sem,e1]) ⟨rfl,AnyM.other rfl hC⟩
     ·have e1:ev (.tmp 57)= .pointer (some ⟨p,9,none⟩):=aA 10 57 (by omega) rfl (by decide)
      exact aj.ah (v:= .slice (some ⟨go,0,none⟩) c.n co) (w':=_) (by simp[execOp,go_sem,e1,k9]) ⟨rfl,AnyM.other rfl hC⟩
     ·have e1:ev (.tmp 5)= .int .i64 (v:Int):=aR 5 (by kernel_rfl)
      exact aj.ah (v:= .int .i64 (v:Int)) (w':=_) (by simp[execOp,go_sem,e1]) ⟨rfl,AnyM.other rfl hC⟩
     ·have e1:ev (.tmp 58)= .slice (some ⟨go,0,none⟩) c.n co:=aA 11 58 (by omega) rfl (by decide)
      have e2:ev (.tmp 59)= .int .i64 (v:Int):=aA 12 59 (by omega) rfl (by decide)
      exact aj.ah (v:= .pointer (some ⟨go,v,none⟩)) (w':=_) (by simp[execOp,go_sem,e1,e2,v0,v1]) ⟨rfl,AnyM.other rfl hC⟩
     ·have e1:ev (.tmp 60)= .pointer (some ⟨go,v,none⟩):=aA 13 60 (by omega) rfl (by decide)
      exact aj.ah (v:= .slice (some ⟨rb,0,none⟩) l.length ca) (w':=_) (by simp[execOp,go_sem,e1,kr]) ⟨rfl,AnyM.other rfl hC⟩
     ·have e1:ev (.tmp 61)= .slice (some ⟨rb,0,none⟩) l.length ca:=aA 14 61 (by omega) rfl (by decide)
      exact aj.ah (v:= .pointer (some ⟨rb,0,none⟩)) (w':=_) (by simp[execOp,go_sem,e1,kW,adh]) ⟨rfl,AnyM.other rfl hC⟩
     ·have e1:ev (.tmp 62)= .pointer (some ⟨rb,0,none⟩):=aA 15 62 (by omega) rfl (by decide)
      exact aj.ah (v:= .int .i64 (q0:Int)) (w':=_) (by simp[execOp,go_sem,e1,kq]) ⟨rfl,AnyM.other rfl hC⟩
     ·have e1:ev (.tmp 63)= .int .i64 (q0:Int):=aA 16 63 (by omega) rfl (by decide)
      exact aj.ah (v:= .int .i64 (k0:Int)) (w':=_) (by simp[execOp,go_sem,e1,hq0,kW,hwk]) ⟨rfl,AnyM.other rfl hC⟩
     ·have e1:ev (.tmp 50)= .slice (some ⟨SB,0,none⟩) c.es.length cb:=aA 3 50 (by omega) rfl (by decide)
      have e2:ev (.tmp 64)= .int .i64 (k0:Int):=aA 17 64 (by omega) rfl (by decide)
      exact aj.ah (v:= .pointer (some ⟨SB,k0,none⟩)) (w':=_) (by simp[execOp,go_sem,e1,e2,kk0,kk1]) ⟨rfl,AnyM.other rfl hC⟩
     ·have e1:ev (.tmp 65)= .pointer (some ⟨SB,k0,none⟩):=aA 18 65 (by omega) rfl (by decide)
      exact aj.ah (v:= .int .i64 z0) (w':=_) (by simp[execOp,go_sem,e1,kz]) ⟨rfl,AnyM.other rfl hC⟩
     ·have e1:ev (.tmp 47)= .slice (some ⟨SB,0,none⟩) c.es.length cb:=aA 0 47 (by omega) rfl (by decide)
      have e2:ev (.tmp 49)= .int .i64 (e:Int):=aA 2 49 (by omega) rfl (by decide)
      exact aj.ah (v:= .pointer (some ⟨SB,e,none⟩)) (w':=_) (by simp[execOp,go_sem,e1,e2,CS,CR]) ⟨rfl,AnyM.other rfl hC⟩
     ·have e1:ev (.tmp 67)= .pointer (some ⟨SB,e,none⟩):=aA 20 67 (by omega) rfl (by decide)
      have e2:ev (.tmp 66)= .int .i64 z0:=aA 19 66 (by omega) rfl (by decide)
      refine aj.bF (w':=C5.drew.setCell ⟨SB,e,none⟩ (.int .i64 z0)) (by simp[execOp,go_sem,e1,e2,ke,kf]) ⟨rfl,?_⟩
      simp[AnyM.bG,aj.bQ]
    ·intro Ls V hall hC
     unfold AnyM.bG at hC
     rw[if_pos (hall 21 (by decide))] at hC
     subst hC
     obtain⟨X1,iC⟩:∃X1,X1=C5.drew.setCell ⟨SB,e,none⟩ (.int .i64 z0):=⟨_,rfl⟩
     rw[←iC]
     have AA:aF (fun b=>b=SB) C5 X1:=by rw[iC];exact((aF.refl (fun b=>b=SB) C5).drew).setCell (b:=SB) (i:=e) rfl _
     have J8:aF (fun b=>b=SB) C X1:=((aF.refl (fun b=>b=SB) C).later gj.out).trans AA
     have iX:aB X1 SB (A.set e z0):=by rw[iC];exact afJ.out.set (by rw[B6.out.len];omega) z0
     have CH:Below W.heap.size W X1:=ML.out.trans (J8.below ML.out.size (fun k hk=>by rw[hk];omega))
     have Uj:=J8.size
     have YH:Boxed X1 W.heap.size 78 (.pointer (some ⟨j,0,none⟩)):=(J8.block _ Vw.out.lt (by omega)).trans Vw.out
     have q1X:Boxed X1 (W.heap.size+1) 4 (.bool false):=(J8.block _ OA.out.lt (by omega)).trans OA.out
     have q2X:Boxed X1 W2.heap.size 28 (.slice (some ⟨SB,0,none⟩) c.es.length cb):=(J8.block _ MH.out.lt (by omega)).trans MH.out
     have kjX:=YH.cell
     have kpX:=(HJ.out.later CH).cells.1
     have k9X:=HC9.out _ CH
     have krX:=IU.out _ CH
     have HWC:=Nu.hid J8
     have HIX:=Nu.hid iX
     have jP:=Nu.hid CH
     have XW:=Nu.hid YH
     have akg:=Nu.hid q1X
     have XV:=Nu.hid q2X
     clear kS kj kp k9 kr kq kz ke kf PJ q05 hall iC AA J8 iX CH YH q1X q2X Xq Bb
     simp only[aj.canon,aj.dst,Array.size,List.length_cons,List.length_nil]
     simp[Act.put]
     gi_wp2
     gi_loopw [80] (fun iv wr=>∃i:Nat,iv= .int .i64 (i:Int)∧i≤l.length∧(∀k,(hk:k<l.length)→k<i→g c.lw l[k]=g c.lw e→g (A.set e z0) l[k]=z0)∧Below X1.heap.size X1 wr) (fun iv _=>l.length-(intOf iv).toNat)
     case atStart=>exact⟨0,rfl,Nat.zero_le _,fun k _ hk=>absurd hk (by omega),Below.refl _ _⟩
     case round=>
      obtain⟨i,rfl,hil,hall,hb⟩:=hrel
      by_cases hlt:i<l.length
      ·obtain⟨k,hk⟩:∃k,l[i]=k:=⟨_,rfl⟩
       obtain⟨km,Y1⟩:=(XZ.out k).1 (by rw[←hk];exact List.getElem_mem hlt)
       have kne:=HKE.out k Y1
       obtain⟨o1,-,o3,o4⟩:=Lo.cN gO km
       have dU:∀D:LW wr,Below W.heap.size W D.val:=fun D=>(jP.out.trans (hb.mono jP.out.size)).trans (D.h.mono (jP.out.trans (hb.mono jP.out.size)).size)
       have zr:wr.cell? ⟨rb,i,none⟩=some (.int .i64 ((Lo.oh c.s k:Nat):Int)):=by
        have:=lN.out wr (jP.out.trans (hb.mono jP.out.size)) i hlt
        rw[hk] at this
        exact this
       obtain⟨qk,hqk⟩:∃q,Lo.oh c.s k=q:=⟨_,rfl⟩
       rw[hqk] at o4 zr
       have ajP:=(eC o4).1
       have wP:∀D:LW wr,Below X1.heap.size X1 D.val:=fun D=>hb.trans (D.h.mono hb.size)
       obtain⟨zk,J3⟩:∃z,(A.set e z0)[k]? =some z:=⟨_,List.getElem?_eq_getElem (by rw[List.length_set,B6.out.len];exact km)⟩
       have hgz:g (A.set e z0) k=zk:=by unfold g;rw[J3];rfl
       have Wl:(A.set e z0)[e]? =some z0:=by rw[List.getElem?_set,if_pos rfl,if_pos (by rw[B6.out.len];omega)]
       have y0:∀D:LW wr,D.val.cell? ⟨W.heap.size,0,none⟩=some (.pointer (some ⟨j,0,none⟩)):=fun D=>(show Boxed D.val W.heap.size 78 (.pointer (some ⟨j,0,none⟩)) from((wP D).block _ XW.out.lt).trans XW.out).cell
       have y1:∀D:LW wr,D.val.cell? ⟨j,0,none⟩=some (.pointer (some ⟨p,0,none⟩)):=fun D=>(HJ.out.later (dU D)).cells.1
       have y2:∀D:LW wr,D.val.cell? ⟨p,6,none⟩=some (.slice (some ⟨lb,0,none⟩) c.es.length lc):=fun D=>OO.out _ (dU D)
       have y3:∀D:LW wr,D.val.cell? ⟨lb,k,none⟩=some (.int .i64 (g c.lw k)):=fun D=>by rw[Wp.mM km];exact Ya.out _ (dU D) k km
       have y4:∀D:LW wr,D.val.cell? ⟨lb,e,none⟩=some (.int .i64 (g c.lw e)):=fun D=>by rw[afT.out];exact Ya.out _ (dU D) e hem
       have y5:∀D:LW wr,D.val.cell? ⟨W2.heap.size,0,none⟩=some (.slice (some ⟨SB,0,none⟩) c.es.length cb):=fun D=>(show Boxed D.val W2.heap.size 28 (.slice (some ⟨SB,0,none⟩) c.es.length cb) from((wP D).block _ XV.out.lt).trans XV.out).cell
       have y6:∀D:LW wr,D.val.cell? ⟨SB,k,none⟩=some (.int .i64 zk):=fun D=>(HIX.out.later (wP D)).cell J3
       have y7:∀D:LW wr,D.val.cell? ⟨SB,e,none⟩=some (.int .i64 z0):=fun D=>(HIX.out.later (wP D)).cell Wl
       have Qq:=LW.any wr
       obtain⟨g1,hg1⟩:∃z,g c.lw k=z:=⟨_,rfl⟩
       obtain⟨g2,hg2⟩:∃z,g c.lw e=z:=⟨_,rfl⟩
       rw[hg1] at y3
       rw[hg2] at y4
       have i0:(0:Int)≤(i:Int):=by omega
       have i1:(i:Int)<(l.length:Int):=by omega
       have i2:(i:Int)+1≤4194304:=by omega
       have m0:(0:Int)≤(k:Int):=by omega
       have m1:(k:Int)<(c.es.length:Int):=by omega
       have ajN:IntKind.i64.wrap (k:Int)=(k:Int):=by rw[IntKind.wrap_i64];omega
       have qg:=Nu.hid hall
       have jy:=Nu.hid hb
       have HKI:=Nu.hid hk
       have HGZ:=Nu.hid hgz
       have nW:=Nu.hid hg1
       have kT:=Nu.hid hg2
       have VD:=Nu.hid (And.intro km Y1)
       have FA:Hid (∀X,Below wr.heap.size wr X→(g1=g2→zk=z0)→∃i':Nat,i'=i+1∧i'≤l.length∧(∀k,(hk:k<l.length)→k<i'→g c.lw l[k]=g c.lw e→g (A.set e z0) l[k]=z0)∧Below X1.heap.size X1 X):=fun X hX hq=>by
        refine⟨i+1,rfl,hlt,fun k' hk' hki cT=> ?_,jy.out.trans (hX.mono jy.out.size)⟩
        by_cases hii:k'=i
        ·subst hii
         rw[HKI.out] at cT ⊢
         rw[HGZ.out]
         exact hq (by rw[←nW.out,←kT.out];exact cT)
        ·exact qg.out k' hk' (by omega) cT
       clear hall hb hk km Y1 kne o1 o3 o4 dU hqk wP J3 hgz Wl hg1 hg2
       by_cases c1:g1=g2
       ·subst c1
        by_cases c2:zk=z0
        ·subst c2
         gi_wp2
         refine gq (by kernel_rfl) (by kernel_rfl) (by kernel_rfl) ?_
         repeat (go_big_quiet_step (fail))
         refine wpQuiet_nil ?_
         rintro _ ⟨E,rfl⟩
         have HE:=Nu.hid E.h
         clear y0 y1 y2 y3 y4 y5 y6 y7 Qq zr
         gi_wp2
         go_roundw
         case rel=>
          obtain⟨i',rfl,r1,r2,r3⟩:=FA.out _ HE.out (fun _=>by first|rfl|trivial)
          exact⟨i+1,by simp,r1,r2,r3⟩
         case measure=>
          simp[intOf]
          omega
        ·have hd2:(zk != z0)=true:=by simp only[bne_iff_ne,ne_eq];exact c2
         have uq:=Nu.hid c2
         clear c2
         gi_wp2
         refine gq (by kernel_rfl) (by kernel_rfl) (by kernel_rfl) ?_
         repeat (go_big_quiet_step (fail))
         refine wpQuiet_nil ?_
         rintro _ ⟨E,rfl⟩
         try rw[hd2]
         clear hd2
         obtain⟨X2,jF⟩:∃X2,X2=E.val:=⟨_,rfl⟩
         have H9:Below wr.heap.size wr X2:=by rw[jF];exact E.h
         rw[←jF]
         have Zg:aF (fun b=>b=SB) C X2:=(HWC.out.later jy.out).later H9
         have TV:Boxed X2 (W.heap.size+1) 4 (.bool false):=(Zg.block _ OA.out.lt (by omega)).trans OA.out
         have cr:=TV.cell
         have fr:=TV.frozen
         have ajR:W.heap.size+1<V1.heap.size:=q1.lt
         have HNA:Hid (¬T.Aligned sd):=TU C6.out hem XO.out Eg.out FC.out.1 FC.out.2 Tf.out VD.out.1 VD.out.2 (by rw[nW.out,kT.out]) (Li.out k0 FC.out.1 FC.out.2 Tf.out) (Li.out k VD.out.1 VD.out.2 (by rw[nW.out,kT.out])) (by rw[HGZ.out,Tj.out];exact uq.out)
         have bI:Hid (KeepsFrom V1.heap.size C (X2.setCell ⟨W.heap.size+1,0,none⟩ (.bool false))∧(¬T.Aligned sd∧Boxed (X2.setCell ⟨W.heap.size+1,0,none⟩ (.bool false)) (W.heap.size+1) 4 (.bool false))∧bE W.heap.size (fun b=>b=SB∨b=W.heap.size+1) V1 (X2.setCell ⟨W.heap.size+1,0,none⟩ (.bool false))):=by
          have hw2:aF (fun b=>b=SB∨b=W.heap.size+1) C (X2.setCell ⟨W.heap.size+1,0,none⟩ (.bool false)):=(Zg.mono fun b _ hb=> .inl hb).setCell (b:=W.heap.size+1) (i:=0) (.inr rfl) _
          have h1:bE W.heap.size (fun b=>b=SB∨b=W.heap.size+1) V1 C:=⟨nV.out.1,fun b o hb ho hn=>nV.out.2 b o hb ho (fun q=>hn (.inl q))⟩
          exact⟨fR hw2 (fun b hb=>by rcases hb with rfl|rfl<;>omega),⟨HNA.out,TV.set _⟩,h1.trans (dR (n₀:=W.heap.size) hw2 (by omega) (fun b hb=>by rcases hb with rfl|rfl<;>omega))⟩
         clear y0 y1 y2 y3 y4 y5 y6 y7 Qq zr jF H9 Zg TV
         gi_wp2
         exact⟨bI.out.1,rfl,bI.out.2⟩
       ·have hd2:(g1==g2)=false:=by simp only[beq_eq_false_iff_ne,ne_eq];exact c1
        have nY:=Nu.hid c1
        clear c1
        gi_wp2
        refine gq (by kernel_rfl) (by kernel_rfl) (by kernel_rfl) ?_
        repeat (go_big_quiet_step (fail))
        refine wpQuiet_nil ?_
        rintro _ ⟨E,rfl⟩
        try rw[hd2]
        clear hd2
        have HE:=Nu.hid E.h
        clear y0 y1 y2 y3 y4 y5 y6 y7 Qq zr
        gi_wp2
        go_roundw
        case rel=>
         obtain⟨i',rfl,r1,r2,r3⟩:=FA.out _ HE.out (fun q=>absurd q nY.out)
         exact⟨i+1,by simp,r1,r2,r3⟩
        case measure=>
         simp[intOf]
         omega
      ·obtain rfl:i=l.length:=by omega
       have rD:Hid (KeepsFrom V1.heap.size C wr∧bE W.heap.size (fun b=>b=SB) C wr∧(0<c.es.length→∃A,aB wr SB A∧LD c.n c.es c.s T c.lw sd (c.n-(pre++[x0]).length) A)):=by
        have hw:=HWC.out.later hb
        refine⟨fR hw (fun b hb=>by rw[hb];exact sbl),dR (n₀:=W.heap.size) hw (by omega) (fun b hb=>by rw[hb];omega),fun _=>⟨A.set e z0,HIX.out.later hb,?_⟩⟩
        rw[La.out]
        have ZM:∀k,k<c.es.length→T.fr k=T.go e→g c.lw k=g c.lw e→g (A.set e z0) k=g (A.set e z0) k0:=fun k hkm mG cT=>by
         obtain⟨i,hi,hki⟩:=List.mem_iff_getElem.1 ((XZ.out k).2 ⟨hkm,mG⟩)
         have:=hall i hi hi (by rw[hki];exact cT)
         rw[hki] at this
         rw[this,Tj.out]
        refine⟨by rw[List.length_set];exact B6.out.len,fun e' he' qh=> ?_,fun e' he' qh ⟨a,a1,a2,a3⟩ hr=> ?_⟩
        ·rw[HGA.out e' (fun q=>by rw[q,XO.out] at qh;cases qh)]
         exact B6.out.back e' he' qh
        ·by_cases hee:e'=e
         ·subst hee
          obtain⟨b,b1,b2,b3⟩:=O9 C6.out he' qh hr FC.out.1 FC.out.2 Tf.out Li.out ZM (x:=g (A.set e' z0) e') (by rw[Tj.out,dW (by rw[B6.out.len];exact he')])
          exact⟨b,b1,b2,b3⟩
         ·have NT:a≠x0:=fun q=>by
           rw[q,HV.out] at a3
           exact hee (afo.out e' he' qh (by omega))
          obtain⟨b,b1,b2,b3⟩:=B6.out.done e' he' qh ⟨a,by omega,a2,a3⟩ hr
          exact⟨b,b1,by rw[HGA.out e' hee];exact b2,b3⟩
       clear hall hb
       gi_wp2
       obtain⟨f1,f2,f3⟩:=rD.out
       exact⟨f1,f2,f3,nV.out.trans f2⟩
   ·have hd:decide (Lo.low c.es c.s e<T.ay (T.fr e))=false:=by simp only[decide_eq_false_iff_not];exact gY
    rw[hd] at mY
    have bI:Hid (∀X,Below C.heap.size C X→KeepsFrom V1.heap.size C X∧bE W.heap.size (fun b=>b=SB) C X∧(0<c.es.length→∃A,aB X SB A∧LD c.n c.es c.s T c.lw sd (c.n-(pre++[x0]).length) A)):=fun X hX=>by
     refine⟨Dv hX,(bE.refl _ _ _).grow hX (by omega),fun h0=> ?_⟩
     rw[La.out]
     obtain⟨A,i1,i2⟩:=SI.out (fun e' he' qh hg'=>by rw[hone e' he' qh hg',Hs];exact gY) h0
     exact⟨A,i1.later hX,i2⟩
    clear gY hd hone Hs pQ hte hge EY aR u1 u2 u3 u4 E6 TT
    gi_wp2_with (refine⟨trivial,?_⟩;gi_at_call 70;refine(CallsIn.inRound lq (callsIn_wide.2 mY.out)).mono ?_;rintro e5 X4 ⟨rfl,hb5⟩;have gj:=Nu.hid hb5;clear hb5)
    obtain⟨f1,f2,f3⟩:=bI.out _ gj.out
    exact⟨f1,f2,f3,nV.out.trans f2⟩
 case done=>
  rintro Dd X hD ⟨hA,tG⟩ hK
  have kP:T.Aligned sd:=by
   by_cases h0:0<c.es.length
   ·obtain⟨A,-,kP⟩:=hA h0
    rw[jg,Nat.sub_self] at kP
    refine Pa UT (S:=g A) fun e he te hr=>kP.done e he te ?_ hr
    have hg:T.go e<c.n:=(T.lt e he).2
    obtain⟨a,ha,ea⟩:=gO.once.sI hg
    exact⟨a,Nat.zero_le _,ha,ea⟩
   ·intro e b d he
    omega
  rw[wR] at kP
  have Vb:=tG.boxed q1 (by omega)
  have cr:=Vb.cell
  have fr:=Vb.frozen
  have wJ:=q1.lt
  have jP:=Nu.hid Vb
  have FB:=Nu.hid tG
  have HK:=Nu.hid hK
  have yU:Hid AP:=by rw[VR.out];exact @kP
  clear hA tG hK kP Vb hcs Ri Z9 UT wR
  go_wp2
  have hK2:(X.setCell ⟨W.heap.size+1,0,none⟩ (.bool true)).heap[Dd]? =some (.deferred (some [])):=(heap_setCell_other X ⟨W.heap.size+1,0,none⟩ Dd _ (by simp;omega)).trans HK.out
  refine⟨by simp,.inl ⟨_,_,rfl,run_takeDeferred hK2,?_⟩⟩
  have Kv:Boxed (X.setCell ⟨W.heap.size+1,0,none⟩ (.bool true)) (W.heap.size+1) 4 (.bool true):=jP.out.set _
  have Kw:Below W.heap.size W (X.setCell ⟨W.heap.size+1,0,none⟩ (.bool true)):=(Mr.trans FB.out.1).setCell (p:=⟨W.heap.size+1,0,none⟩) (by show _≤_+1;omega) _
  refine⟨_,qA rfl _ _ ⟨W.heap.size+1,0,none⟩ (.bool true) rfl ?_ (by kernel_rfl),true,rfl,⟨fun _=>yU.out,fun _=>rfl⟩,?_⟩
  ·exact Boxed.cell (OwnFrom.putObj (β:=Unit) (B:=V1.heap.size) (I:=fun _ X=>Boxed X (W.heap.size+1) 4 (.bool true)) (Own.from (boxed_own _ _ _) _) (s:=()) _ Kv hD hK2 rfl)
  ·exact Kw.trans (belowK_b (w:=W) (Nat.le_refl _) _ Dd _ _ (by omega) hK2 rfl rfl)
 case stop=>
  rintro Dd cc pre X hD _ ⟨rfl,⟨hex,brW⟩,hkW⟩ hK
  have Kw:Below W.heap.size W X:=Mr.trans hkW.1
  rw[wR] at hex
  replace hex:¬AP:=by rw[VR.out];exact hex
  gi_wp2
  refine⟨by simp,.inl ⟨_,_,rfl,run_takeDeferred hK,?_⟩⟩
  refine⟨_,qA rfl _ _ ⟨W.heap.size+1,0,none⟩ (.bool false) rfl ?_ (by kernel_rfl),false,rfl,⟨(fun q=>by cases q),fun q=>absurd q hex⟩,?_⟩
  ·exact Boxed.cell (OwnFrom.putObj (β:=Unit) (B:=V1.heap.size) (I:=fun _ X=>Boxed X (W.heap.size+1) 4 (.bool false)) (Own.from (boxed_own _ _ _) _) (s:=()) _ brW hD hK rfl)
  ·exact Kw.trans (belowK_b (w:=W) (Nat.le_refl _) _ Dd _ _ (by omega) hK rfl rfl)
end
end
end Go.Proofs.YtnhcggfbkoppnaaGreat
