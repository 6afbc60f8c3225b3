import Derived.Test.YtdjmnpmdmjclhabGreatMg25
namespace Go.Proofs.YtdjmnpmdmjclhabGreat
section
open Go.RowKit Lt Pl
section
variable {c:Wp} {p t:Nat} {W0 W wr:World} {O B:Nat→Prop} {st:TS} {L U Z:Nat} {vp vw:Value}
theorem aT.into {st':TS} {w':World} (h:aR c p t W0 O st L U Z vp vw W) (hp:aT c p t W0 O W st' w'):aD c p t W0 O W (fun _=>False) st' w':=by
 obtain⟨h1,h2⟩:=hp
 exact⟨⟨h.aI.size,fun b hb=>⟨h.oB b hb,h.oX b hb⟩,fun _ hb=>hb.elim⟩,h1,_,fun b hb=>hb.1,fun _ hb=>hb.elim,h2⟩
theorem NH {E:Env} {k:Nat} {st:TS} {r:Option TS} (hne:st.way≠[]) (h:run E k st=some r):∃k',k=k'+1∧((Lt.step E st=some none∧r=none)∨∃st',Lt.step E st=some (some st')∧run E k' st'=some r):=by
 unfold run at h
 rw[if_neg hne] at h
 cases k with
 |zero=>cases h
 |succ k=>
  dsimp only at h
  refine⟨k,rfl,?_⟩
  cases hs:Lt.step E st with
  |none=>rw[hs] at h;cases h
  |some q=>
   rw[hs] at h
   cases q with
   |none=>cases h;exact .inl ⟨rfl,rfl⟩
   |some st'=>exact .inr ⟨st',rfl,h⟩
def zD (c:Wp) (p t:Nat) (W0:World) (O:Nat→Prop) (W:World) (st:TS) (g cap:Nat) (wr:World):Prop:=
 (W0.heap.size≤W.heap.size∧(∀b,O b→W0.heap.size≤b∧b<W.heap.size))∧aC O W wr∧∃O',(∀b,O' b→O b∨W.heap.size≤b)∧∃L U Z vp,aR c p t W0 O' st L U Z vp (.slice (some ⟨g,0,none⟩) st.way.length cap) wr
theorem zD.in {g cap:Nat} (h:zD c p t W0 O W st g cap wr):aD c p t W0 O W (fun _=>False) st wr:=by
 obtain⟨h0,h1,O',h2,L,U,Z,vp,h3⟩:=h
 exact⟨⟨h0.1,h0.2,fun _ hb=>hb.elim⟩,h1,O',h2,fun _ hb=>hb.elim,L,U,Z,vp,_,h3⟩
theorem zD.later {g cap:Nat} {w':World} (h:zD c p t W0 O W st g cap wr) (hb:Below wr.heap.size wr w'):zD c p t W0 O W st g cap w':=by
 obtain⟨h0,h1,O',h2,L,U,Z,vp,h3⟩:=h
 exact⟨h0,h1.later hb,O',h2,L,U,Z,vp,h3.later hb⟩
theorem zD.set {g cap:Nat} {v v':jC} {ws:List jC} {j:Nat} {u:Value} (h:zD c p t W0 O W { st with way:=v::ws } g cap wr) (hx:tW v'=(tW v).set j u):zD c p t W0 O W { st with way:=v'::ws } g cap (wr.setCell ⟨g,ws.length*6+j,none⟩ u):=by
 obtain⟨h0,h1,O',h2,L,U,Z,vp,h3⟩:=h
 refine⟨h0,?_,O',h2,L,U,Z,vp,h3.UN (v':=v') rfl rfl hx⟩
 rcases h2 g (h3.oW g rfl) with q|q
 ·exact h1.setCell q _
 ·exact fP h1 q _
theorem zD.vis {g cap:Nat} {v:jC} {ws:List jC} (h:zD c p t W0 O W { st with way:=v::ws } g cap wr):(∀i,wr.frozen? ⟨g,i,none⟩=false)∧wr.cell? ⟨g,ws.length*6,none⟩=some (.int .i64 v.1)∧wr.cell? ⟨g,ws.length*6+1,none⟩=some (.int .i64 v.2.1)∧wr.cell? ⟨g,ws.length*6+2,none⟩=some (.int .i64 v.2.2.1.1)∧wr.cell? ⟨g,ws.length*6+3,none⟩=some (.int .i64 v.2.2.1.2)∧wr.cell? ⟨g,ws.length*6+4,none⟩=some (.int .i64 v.2.2.2.1)∧wr.cell? ⟨g,ws.length*6+5,none⟩=some (.int .i64 v.2.2.2.2):=by
 obtain⟨h0,h1,O',h2,L,U,Z,vp,h3⟩:=h
 have bB:=h3.way
 dsimp only at bB
 rw[abm] at bB
 obtain⟨g',cap',e,hc,-,hfz,-⟩:=bB.snoc oI
 obtain rfl:g=g':=aak (congrArg Value.ownBlock e)
 rw[abg] at hc
 exact⟨hfz,zM hc⟩
def sH (c:Wp) (p t:Nat) (W0:World) (O:Nat→Prop) (W:World) (T:DF c.n c.es.length) (oe:Nat→List Nat) (r:Option TS) (wr:World) (k:Nat):Prop:=
 ∃st fin G ls,Inv T c.env oe st fin G ls∧aD c p t W0 O W (fun _=>False) st wr∧run c.env k st=some r
set_option maxRecDepth 100000 in
set_option maxHeartbeats 16000000 in
theorem JN {T:DF c.n c.es.length} {oe:Nat→List Nat} {hf:Nat→Int} (hE:dM T c.env oe hf) (h:aR c p t W0 O st L U Z vp vw W) {v:Nat} {fin:Nat→Prop} {G:List Nat} {ls:List Lv} (hI:Inv T c.env oe (enter st v) fin G ls) {N:Nat} {r:Option TS} (hr:run c.env N (enter st v)=some r):
 Calls Tryz.prog 51 #[.pointer (some ⟨t,0,none⟩),.int .i64 (v:Int)] W (gC c p t W0 O W r):=by
 have hn:=h.wk.val.hi
 have cj:=h.wk.val.few
 have hfit:=hI.fits hE
 have hw1:st.way.length+1≤c.n:=by
  have:=hfit.2.1
  have h2:=hfit.2.2
  unfold enter at this
  dsimp only[List.length_cons] at this
  omega
 have Dy:=Nu.hid (xY h (v:Int) (by omega))
 have sO:Hid (∀st' w',aT c p t W0 O W st' w'→aD c p t W0 O W (fun _=>False) st' w'):=fun st' w' hp=>hp.into h
 have HI:=Nu.hid hI
 have HR:=Nu.hid hr
 have HE:=Nu.hid hE
 have HN:Hid (c.n≤1048576∧c.es.length≤4194304):=⟨by omega,by omega⟩
 have m9:=Nu.hid h.wk.val
 clear h hI hr hE hn cj hfit hw1
 go_enter Tryz.func51,Tryz.ntmps51
 go_wp2_with (go_at_call 81;refine Dy.out.mono ?_;rintro e1 w1 ⟨rfl,gQ⟩;have nN:=Nu.hid (sO.out _ _ gQ);clear gQ)
 go_loopw [5] (fun _ wr=>∃k,sH c p t W0 O W T oe r wr k) (fun _ wr=>leastOf (sH c p t W0 O W T oe r wr))
 case atStart=>exact⟨N,enter st v,fin,G,ls,HI.out,nN.out,HR.out⟩
 case round=>
  obtain⟨k,hk⟩:=hrel
  obtain⟨k0,hk0⟩:∃k0,leastOf (sH c p t W0 O W T oe r wr)=k0:=⟨_,rfl⟩
  obtain⟨fC,rB,G1,ls1,xA,mQ,hr1⟩:sH c p t W0 O W T oe r wr k0:=by rw[←hk0];exact(leastOf_spec hk).1
  have Gb:=Nu.hid hk0
  have ng:=Nu.hid xA
  have uC:=Nu.hid hr1
  have fq:=Nu.hid mQ
  obtain⟨Bp,Fq,O',Fp,-,L',U',Z',o9,qA,hT⟩:=mQ
  have x4:=hT.cells.2.2.2.2.1
  cases hs:fC.way with
  |nil=>
   have QN:r=some fC:=by
    unfold run at hr1
    rw[if_pos hs] at hr1
    exact(aak hr1).symm
   have bB:=hT.way
   rw[hs] at bB
   obtain⟨ao,cap,rfl,-⟩:=bB.form
   rw[List.reverse_nil,aaS] at x4
   have xM:=Nu.hid QN
   clear hT hk hk0 xA hr1 bB QN hs Bp Fq Fp
   go_wp2_with fail
   go_ret
   rw[xM.out]
   exact⟨rfl,fq.out.post⟩
  |cons w ws=>
   obtain⟨k',hkk,hst⟩:=NH (by rw[hs];simp) hr1
   have hfit:=xA.fits HE.out
   have hwl:=hfit.2.1
   obtain⟨l,U0,rfl⟩:∃l U0,ls1=l::U0:=by
    cases ls1 with
    |nil=>rw[hs] at hwl;simp at hwl
    |cons l U0=>exact⟨l,U0,rfl⟩
   have A4:=xA.way
   rw[hs] at A4
   obtain⟨⟨hw1,hw2⟩,hjl,hlv,-⟩:=A4
   obtain⟨i,hi⟩:∃i,l.v=i:=⟨_,rfl⟩
   obtain⟨j,hj⟩:∃j,l.k=j:=⟨_,rfl⟩
   have RD:i<c.n:=by rw[←hi];exact hlv.lt
   rw[hi] at hw1 hjl
   rw[hj] at hw2 hjl
   have pT:=HE.out.outs i RD
   obtain⟨cG,yB⟩:∃cG,(oe i).map hf=cG:=⟨_,rfl⟩
   have eK:cG.length=(oe i).length:=by rw[←yB,aa3]
   rw[yB] at pT
   have xk:cG.length≤c.es.length:=by
    rw[eK]
    exact fG (HE.out.nd i) fun x hx=>((HE.out.mem i x).1 hx).1
   have hstep:Lt.step c.env fC=if (j:Int)=(cG.length:Int) then Lt.leave c.env fC else (cG[j]?).bind fun h=>Lt.yF c.env { fC with way:=((i:Int),(j:Int)+1,top fC.stk)::ws } h:=by
    unfold Lt.step
    rw[hs]
    dsimp only
    rw[hw1,hw2,if_pos ⟨by omega,by omega⟩,show((i:Int)).toNat=i from by simp,pT]
    dsimp only
    rw[show((j:Int)).toNat=j from by simp]
    cases cG[j]? <;>rfl
   obtain⟨go,co,ao,ca,eo,lI⟩:=hT.now.outs pT
   have x0:=hT.cells.1
   have x9:=hT.now.c9
   rw[eo] at x9
   obtain⟨x10,RO⟩:=lI wr (aae _ _)
   have bB:=hT.way
   rw[hs,abm] at bB
   obtain⟨g,cap,rfl,hc,-,hfz,-⟩:=bB.snoc oI
   rw[abg] at hc x4
   obtain⟨d0,d1,-,-,-,-⟩:=zM hc
   obtain⟨kw,Oq⟩:∃kw,ws.length=kw:=⟨_,rfl⟩
   rw[Oq] at d0 d1 x4
   rw[hw1] at d0
   rw[hw2] at d1
   have cU:kw+1≤1048576:=by
    have h1:=hfit.2.2
    have h2:=HN.out.1
    rw[hs,aar,Oq] at hwl
    omega
   have e1:((kw:Int)+1)-1=(kw:Int):=by omega
   have e2:(0:Int)≤(kw:Int):=by omega
   have e3:(kw:Int)<(kw:Int)+1:=by omega
   have e4:(kw:Int)+1≤1048576:=by omega
   have e5:(0:Int)<(kw:Int)+1:=by omega
   have t0:(0:Int)≤(i:Int):=by omega
   have t1:(i:Int)<(c.n:Int):=by omega
   have kK:=Nu.hid (Ad HE.out ng.out (by simp))
   have HST:=Nu.hid hst
   have WR:=Nu.hid hkk
   have jS:=Nu.hid hstep
   have EE:Hid (fC.stk.length≤4194304∧fC.way.length≤1048576):=by
    have:=HN.out
    exact⟨by omega,by omega⟩
   by_cases Vq:(j:Int)=(cG.length:Int)
   ·obtain rfl:j=cG.length:=by omega
    have Dw:Hid (∀(V:World) (r1:Option TS),Below wr.heap.size wr V→Lt.step c.env fC=some r1→Calls Tryz.prog 82 #[.pointer (some ⟨t,0,none⟩)] V (gC c p t W0 O W r1)):=fun V r1 hV h1=>by
     rw[jS.out,if_pos rfl] at h1
     exact(fq.out.later hV).says fun qx=>Gv qx (by have:=EE.out;omega) (by have:=EE.out;omega) h1
    clear hT hk hk0 xA hr1 bB hs hst hkk hfit hwl hlv hstep lI hc RO hfz pT hjl hw1 hw2 yB eK xk Oq Vq Bp Fq Fp
    go_wp2_with fail
    go_big_region
    go_wp2_with fail
    go_big_region
    go_wp2_with fail
    rcases HST.out with ⟨s1,s2⟩|⟨nP,s1,s2⟩
    ·have ni:=Nu.hid (Dw.out _ none (((aae _ _).drew).drew) s1)
     have TG:=Nu.hid s2
     clear s1 s2
     go_at_call 82
     refine ni.out.mono ?_
     rintro e1 w2 ⟨nP,rfl,iQ⟩
     have kJ:=Nu.hid iQ
     clear iQ
     go_wp2_with fail
     go_ret
     rw[TG.out]
     exact⟨nP,rfl,kJ.out⟩
    ·obtain⟨mW,G2,AO,Fy⟩:∃mW G2 AO,Inv T c.env oe nP mW G2 AO:=by
      rcases kK.out with ⟨q,-⟩|⟨st',mW,G2,AO,q1,q2,-⟩
      ·rw[q] at s1;cases s1
      ·rw[q1] at s1
       cases s1
       exact⟨mW,G2,AO,q2⟩
     have ni:=Nu.hid (Dw.out _ (some nP) (((aae _ _).drew).drew) s1)
     have TE:=Nu.hid s2
     have fX:=Nu.hid Fy
     clear s1 s2 Fy
     go_at_call 82
     refine ni.out.mono ?_
     rintro e1 w2 ⟨rfl,iQ⟩
     have kJ:=Nu.hid iQ
     clear iQ
     go_wp2_with fail
     have Tw:Hid (sH c p t W0 O W T oe r w2 k'):=⟨nP,mW,G2,AO,fX.out,sO.out _ _ kJ.out,TE.out⟩
     go_roundw
     case rel=>exact⟨k',Tw.out⟩
     case measure=>
      have m1:=(leastOf_spec Tw.out).2
      have m2:=Gb.out
      have m3:=WR.out
      omega
   ·have Yf:j<cG.length:=by omega
    obtain⟨hx,Iz⟩:∃hx,cG[j]? =some hx:=⟨_,aac Yf⟩
    obtain⟨u,hu,rfl⟩:∃u:Nat,u<2*c.es.length∧hx=(u:Int):=by
     rw[←yB,aay] at Iz
     cases he:(oe i)[j]? with
     |none=>rw[he] at Iz;cases Iz
     |some e=>
      rw[he] at Iz
      have hem:=((HE.out.mem i e).1 (aaG he)).1
      have q0:=HE.out.h0 e hem
      have q2:=HE.out.h2 e hem
      have q3:hf e=hx:=aak Iz
      rw[q3] at q0 q2
      refine⟨hx.toNat,?_,by omega⟩
      rw[aaZ q0] at q2
      omega
    obtain⟨bo,rfl,x11⟩:=RO j _ Iz
    have Mb:Hid (∀(V:World) (r1:Option TS),aD c p t W0 O W (fun _=>False) { fC with way:=((i:Int),(j:Int)+1,top fC.stk)::ws } V→Lt.step c.env fC=some r1→Calls Tryz.prog 84 #[.pointer (some ⟨t,0,none⟩),.int .i64 (u:Int)] V (gC c p t W0 O W r1)):=fun V r1 hV h1=>by
     rw[jS.out,if_neg Vq,Iz] at h1
     exact hV.says fun qx=>PM qx hu (by have:=EE.out;dsimp only;omega) (by dsimp only[List.length_cons];omega) h1
    have y0:(0:Int)≤(j:Int):=by omega
    have y1:(j:Int)<(cG.length:Int):=by omega
    have y2:(j:Int)+1≤8388608:=by have:=HN.out.2;omega
    have y3:((j:Int)==(cG.length:Int))=false:=by simp only[beq_eq_false_iff_ne,ne_eq];exact Vq
    have y4:=hfz (kw*6+1)
    obtain⟨wa,wn,wb⟩:=w
    dsimp only at hw1 hw2
    subst hw1
    subst hw2
    have HG:Hid (zD c p t W0 O W { fC with way:=((i:Int),(j:Int),wb)::ws } g cap wr):=by
     refine⟨⟨Bp.1,Bp.2.1⟩,Fq,O',Fp,L',U',Z',o9,?_⟩
     rw[←hs]
     have qY:fC.way.length=ws.length+1:=by rw[hs,aar]
     show aR c p t W0 O' fC L' U' Z' o9 (.slice (some ⟨g,0,none⟩) fC.way.length cap) wr
     have hlr:ws.reverse.length=ws.length:=abg
     rw[qY,←hlr]
     exact hT
    have iN:Hid (zD c p t W0 O W { fC with way:=((i:Int),(j:Int)+1,wb)::ws } g cap (wr.setCell ⟨g,kw*6+1,none⟩ (.int .i64 ((j:Int)+1))).drew.drew.drew):=by
     have h1:=HG.out.set (j:=1) (u:= .int .i64 ((j:Int)+1)) (v':=((i:Int),(j:Int)+1,wb)) rfl
     rw[Oq] at h1
     exact h1.later ((((aae _ _).drew).drew).drew)
    have HKW:=Nu.hid Oq
    clear hT hk hk0 xA hr1 bB hs hst hkk hfit hwl hlv hstep lI hc RO hfz pT hjl yB eK xk Oq Vq Iz Yf Bp Fq Fp
    go_wp2_with fail
    go_big_region
    go_wp2_with fail
    go_big_region
    go_wp2_with fail
    go_big_region
    go_wp2_with fail
    generalize (wr.setCell ⟨g,kw*6+1,none⟩ (.int .i64 ((j:Int)+1))).drew.drew.drew=V at*
    clear x0 x4 x9 x10 x11 d0 d1 y4
    have lY:Hid (Calls Tryz.prog 83 #[.pointer (some ⟨t,0,none⟩)] V fun e w'=>e= .returned (fK (top fC.stk))∧Below V.heap.size V w'):=by
     obtain⟨h0,h1,O',h2,L,U,Z,vp,h3⟩:=iN.out
     have h4:=iz h3 (by show fC.stk.length≤_;have:=EE.out;omega)
     exact h4
    go_at_call 83
    refine lY.out.mono ?_
    rintro e1 w2 ⟨rfl,hb2⟩
    have hg3:=iN.out.later hb2
    obtain⟨zf,-,-,z2,z3,z4,z5⟩:=hg3.vis
    rw[HKW.out] at z2 z3 z4 z5
    obtain⟨q,hq⟩:∃q,top fC.stk=q:=⟨_,rfl⟩
    have HQ:=Nu.hid hq
    rw[hq]
    obtain⟨⟨qa,qb⟩,qc,qd⟩:=q
    have Py:=Nu.hid hg3
    clear hb2 hg3 hq
    go_wp2_with fail
    have Cw:Hid (aD c p t W0 O W (fun _=>False) { fC with way:=((i:Int),(j:Int)+1,top fC.stk)::ws } ((((w2.setCell ⟨g,kw*6+2,none⟩ (.int .i64 qa)).setCell ⟨g,kw*6+2+1,none⟩ (.int .i64 qb)).setCell ⟨g,kw*6+2+2,none⟩ (.int .i64 qc)).setCell ⟨g,kw*6+2+3,none⟩ (.int .i64 qd))):=by
     rw[HQ.out]
     obtain⟨⟨ba,bb⟩,bc,bd⟩:=wb
     have h1:=Py.out.set (j:=2) (u:= .int .i64 qa) (v':=((i:Int),(j:Int)+1,(qa,bb),bc,bd)) rfl
     have h2:=h1.set (j:=3) (u:= .int .i64 qb) (v':=((i:Int),(j:Int)+1,(qa,qb),bc,bd)) rfl
     have h3:=h2.set (j:=4) (u:= .int .i64 qc) (v':=((i:Int),(j:Int)+1,(qa,qb),qc,bd)) rfl
     have h4:=h3.set (j:=5) (u:= .int .i64 qd) (v':=((i:Int),(j:Int)+1,(qa,qb),qc,qd)) rfl
     rw[HKW.out] at h4
     exact h4.in
    generalize ((((w2.setCell ⟨g,kw*6+2,none⟩ (.int .i64 qa)).setCell ⟨g,kw*6+2+1,none⟩ (.int .i64 qb)).setCell ⟨g,kw*6+2+2,none⟩ (.int .i64 qc)).setCell ⟨g,kw*6+2+3,none⟩ (.int .i64 qd))=V4 at*
    clear z2 z3 z4 z5 zf
    rcases HST.out with ⟨s1,s2⟩|⟨nP,s1,s2⟩
    ·have ni:=Nu.hid (Mb.out _ none Cw.out s1)
     have TG:=Nu.hid s2
     clear s1 s2
     go_at_call 84
     refine ni.out.mono ?_
     rintro e1 w2 ⟨nP,rfl,iQ⟩
     have kJ:=Nu.hid iQ
     clear iQ
     go_wp2_with fail
     go_ret
     rw[TG.out]
     exact⟨nP,rfl,kJ.out⟩
    ·obtain⟨mW,G2,AO,Fy⟩:∃mW G2 AO,Inv T c.env oe nP mW G2 AO:=by
      rcases kK.out with ⟨q,-⟩|⟨st',mW,G2,AO,q1,q2,-⟩
      ·rw[q] at s1;cases s1
      ·rw[q1] at s1
       cases s1
       exact⟨mW,G2,AO,q2⟩
     have ni:=Nu.hid (Mb.out _ (some nP) Cw.out s1)
     have TE:=Nu.hid s2
     have fX:=Nu.hid Fy
     clear s1 s2 Fy
     go_at_call 84
     refine ni.out.mono ?_
     rintro e1 w2 ⟨rfl,iQ⟩
     have kJ:=Nu.hid iQ
     clear iQ
     go_wp2_with fail
     have Tw:Hid (sH c p t W0 O W T oe r w2 k'):=⟨nP,mW,G2,AO,fX.out,sO.out _ _ kJ.out,TE.out⟩
     go_roundw
     case rel=>exact⟨k',Tw.out⟩
     case measure=>
      have m1:=(leastOf_spec Tw.out).2
      have m2:=Gb.out
      have m3:=WR.out
      omega
end
end
end Go.Proofs.YtdjmnpmdmjclhabGreat
