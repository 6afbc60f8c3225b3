import Derived.Test.YtnhcggfbkoppnaaGreatMg31
namespace Go.Proofs.YtnhcggfbkoppnaaGreat
section
open Go.RowKit Lt Pl
section
variable {c:Wp} {p t:Nat} {W0 W wr:World} {O B:Nat→Prop} {st:TS} {L U Z:Nat} {vp vw:Value}
theorem aT.into {st':TS} {w':World} (h:aQ c p t W0 O st L U Z vp vw W) (hp:aT c p t W0 O W st' w'):aD c p t W0 O W (fun _=>False) st' w':=by
 obtain⟨h1,h2⟩:=hp
 exact⟨⟨h.aI.size,fun b hb=>⟨h.oB b hb,h.oX b hb⟩,fun _ hb=>hb.elim⟩,h1,_,fun b hb=>hb.1,fun _ hb=>hb.elim,h2⟩
theorem M0 {E:Env} {k:Nat} {st:TS} {r:Option TS} (hne:st.way≠[]) (h:run E k st=some r):∃k',k=k'+1∧((Lt.step E st=some none∧r=none)∨∃st',Lt.step E st=some (some st')∧run E k' st'=some r):=by
 unfold run at h
 rw[if_neg hne] at h
 cases k with
 |zero=>cases h
 |succ k=>
  dsimp only at h
  refine⟨k,rfl,?_⟩
  cases hs:Lt.step E st with
  |none=>rw[hs] at h;cases h
  |some q=>
   rw[hs] at h
   cases q with
   |none=>cases h;exact .inl ⟨rfl,rfl⟩
   |some st'=>exact .inr ⟨st',rfl,h⟩
def yI (c:Wp) (p t:Nat) (W0:World) (O:Nat→Prop) (W:World) (st:TS) (g cap:Nat) (wr:World):Prop:=
 (W0.heap.size≤W.heap.size∧(∀b,O b→W0.heap.size≤b∧b<W.heap.size))∧aF O W wr∧∃O',(∀b,O' b→O b∨W.heap.size≤b)∧∃L U Z vp,aQ c p t W0 O' st L U Z vp (.slice (some ⟨g,0,none⟩) st.way.length cap) wr
theorem yI.in {g cap:Nat} (h:yI c p t W0 O W st g cap wr):aD c p t W0 O W (fun _=>False) st wr:=by
 obtain⟨h0,h1,O',h2,L,U,Z,vp,h3⟩:=h
 exact⟨⟨h0.1,h0.2,fun _ hb=>hb.elim⟩,h1,O',h2,fun _ hb=>hb.elim,L,U,Z,vp,_,h3⟩
theorem yI.later {g cap:Nat} {w':World} (h:yI c p t W0 O W st g cap wr) (hb:Below wr.heap.size wr w'):yI c p t W0 O W st g cap w':=by
 obtain⟨h0,h1,O',h2,L,U,Z,vp,h3⟩:=h
 exact⟨h0,h1.later hb,O',h2,L,U,Z,vp,h3.later hb⟩
theorem yI.set {g cap:Nat} {v v':jw} {ws:List jw} {j:Nat} {u:Value} (h:yI c p t W0 O W { st with way:=v::ws } g cap wr) (hx:tM v'=(tM v).set j u):yI c p t W0 O W { st with way:=v'::ws } g cap (wr.setCell ⟨g,ws.length*6+j,none⟩ u):=by
 obtain⟨h0,h1,O',h2,L,U,Z,vp,h3⟩:=h
 refine⟨h0,?_,O',h2,L,U,Z,vp,h3.TR (v':=v') rfl rfl hx⟩
 rcases h2 g (h3.oW g rfl) with q|q
 ·exact h1.setCell q _
 ·exact fQ h1 q _
theorem yI.vis {g cap:Nat} {v:jw} {ws:List jw} (h:yI c p t W0 O W { st with way:=v::ws } g cap wr):(∀i,wr.frozen? ⟨g,i,none⟩=false)∧wr.cell? ⟨g,ws.length*6,none⟩=some (.int .i64 v.1)∧wr.cell? ⟨g,ws.length*6+1,none⟩=some (.int .i64 v.2.1)∧wr.cell? ⟨g,ws.length*6+2,none⟩=some (.int .i64 v.2.2.1.1)∧wr.cell? ⟨g,ws.length*6+3,none⟩=some (.int .i64 v.2.2.1.2)∧wr.cell? ⟨g,ws.length*6+4,none⟩=some (.int .i64 v.2.2.2.1)∧wr.cell? ⟨g,ws.length*6+5,none⟩=some (.int .i64 v.2.2.2.2):=by
 obtain⟨h0,h1,O',h2,L,U,Z,vp,h3⟩:=h
 have bB:=h3.way
 dsimp only at bB
 rw[List.reverse_cons] at bB
 obtain⟨g',cap',e,hc,-,hfz,-⟩:=bB.snoc oG
 obtain rfl:g=g':=Option.some.inj (congrArg Value.ownBlock e)
 rw[List.length_reverse] at hc
 exact⟨hfz,yZ hc⟩
def r6 (c:Wp) (p t:Nat) (W0:World) (O:Nat→Prop) (W:World) (T:DF c.n c.es.length) (oe:Nat→List Nat) (r:Option TS) (wr:World) (k:Nat):Prop:=
 ∃st fin G ls,Inv T c.env oe st fin G ls∧aD c p t W0 O W (fun _=>False) st wr∧run c.env k st=some r
set_option maxRecDepth 100000 in
set_option maxHeartbeats 16000000 in
theorem Jg {T:DF c.n c.es.length} {oe:Nat→List Nat} {hf:Nat→Int} (hE:dN T c.env oe hf) (h:aQ c p t W0 O st L U Z vp vw W) {v:Nat} {fin:Nat→Prop} {G:List Nat} {ls:List Lv} (hI:Inv T c.env oe (enter st v) fin G ls) {N:Nat} {r:Option TS} (hr:run c.env N (enter st v)=some r):
 Calls Tryz.prog 88 #[.pointer (some ⟨t,0,none⟩),.int .i64 (v:Int)] W (gD c p t W0 O W r):=by
 have hn:=h.wk.val.hi
 have cq:=h.wk.val.few
 have hfit:=hI.fits hE
 have hw1:st.way.length+1≤c.n:=by
  have:=hfit.2.1
  have h2:=hfit.2.2
  unfold enter at this
  dsimp only[List.length_cons] at this
  omega
 have C9:=Nu.hid (xC h (v:Int) (by omega))
 have mW:Hid (∀st' w',aT c p t W0 O W st' w'→aD c p t W0 O W (fun _=>False) st' w'):=fun st' w' hp=>hp.into h
 have HI:=Nu.hid hI
 have HR:=Nu.hid hr
 have HE:=Nu.hid hE
 have HN:Hid (c.n≤1048576∧c.es.length≤4194304):=⟨by omega,by omega⟩
 have mV:=Nu.hid h.wk.val
 clear h hI hr hE hn cq hfit hw1
 go_enter Tryz.func88,Tryz.ntmps88
 go_wp2_with (go_at_call 116;refine C9.out.mono ?_;rintro e1 w1 ⟨rfl,gP⟩;have nD:=Nu.hid (mW.out _ _ gP);clear gP)
 go_loopw [5] (fun _ wr=>∃k,r6 c p t W0 O W T oe r wr k) (fun _ wr=>leastOf (r6 c p t W0 O W T oe r wr))
 case atStart=>exact⟨N,enter st v,fin,G,ls,HI.out,nD.out,HR.out⟩
 case round=>
  obtain⟨k,hk⟩:=hrel
  obtain⟨k0,hk0⟩:∃k0,leastOf (r6 c p t W0 O W T oe r wr)=k0:=⟨_,rfl⟩
  obtain⟨fC,qX,G1,ls1,wS,mI,hr1⟩:r6 c p t W0 O W T oe r wr k0:=by rw[←hk0];exact(leastOf_spec hk).1
  have FC:=Nu.hid hk0
  have mX:=Nu.hid wS
  have uh:=Nu.hid hr1
  have fo:=Nu.hid mI
  obtain⟨AY,E0,O',EZ,-,L',U',Z',oY,qo,hT⟩:=mI
  have x4:=hT.cells.2.2.2.2.1
  cases hs:fC.way with
  |nil=>
   have P9:r=some fC:=by
    unfold run at hr1
    rw[if_pos hs] at hr1
    exact(Option.some.inj hr1).symm
   have bB:=hT.way
   rw[hs] at bB
   obtain⟨ao,cap,rfl,-⟩:=bB.form
   rw[List.reverse_nil,List.length_nil] at x4
   have xk:=Nu.hid P9
   clear hT hk hk0 wS hr1 bB P9 hs AY E0 EZ
   go_wp2_with fail
   go_ret
   rw[xk.out]
   exact⟨rfl,fo.out.post⟩
  |cons w ws=>
   obtain⟨k',hkk,hst⟩:=M0 (by rw[hs];simp) hr1
   have hfit:=wS.fits HE.out
   have hwl:=hfit.2.1
   obtain⟨l,Ua,rfl⟩:∃l Ua,ls1=l::Ua:=by
    cases ls1 with
    |nil=>rw[hs] at hwl;simp at hwl
    |cons l Ua=>exact⟨l,Ua,rfl⟩
   have Ay:=wS.way
   rw[hs] at Ay
   obtain⟨⟨hw1,hw2⟩,hjl,hlv,-⟩:=Ay
   obtain⟨i,hi⟩:∃i,l.v=i:=⟨_,rfl⟩
   obtain⟨j,hj⟩:∃j,l.k=j:=⟨_,rfl⟩
   have QU:i<c.n:=by rw[←hi];exact hlv.lt
   rw[hi] at hw1 hjl
   rw[hj] at hw2 hjl
   have pO:=HE.out.outs i QU
   obtain⟨ct,xV⟩:∃ct,(oe i).map hf=ct:=⟨_,rfl⟩
   have eH:ct.length=(oe i).length:=by rw[←xV,List.length_map]
   rw[xV] at pO
   have yC:ct.length≤c.es.length:=by
    rw[eH]
    exact fH (HE.out.nd i) fun x hx=>((HE.out.mem i x).1 hx).1
   have hstep:Lt.step c.env fC=if (j:Int)=(ct.length:Int) then Lt.leave c.env fC else (ct[j]?).bind fun h=>Lt.xZ c.env { fC with way:=((i:Int),(j:Int)+1,top fC.stk)::ws } h:=by
    unfold Lt.step
    rw[hs]
    dsimp only
    rw[hw1,hw2,if_pos ⟨by omega,by omega⟩,show((i:Int)).toNat=i from by simp,pO]
    dsimp only
    rw[show((j:Int)).toNat=j from by simp]
    cases ct[j]? <;>rfl
   obtain⟨go,co,ao,ca,eo,kX⟩:=hT.now.outs pO
   have x0:=hT.cells.1
   have x9:=hT.now.c9
   rw[eo] at x9
   obtain⟨x10,QZ⟩:=kX wr (Below.refl _ _)
   have bB:=hT.way
   rw[hs,List.reverse_cons] at bB
   obtain⟨g,cap,rfl,hc,-,hfz,-⟩:=bB.snoc oG
   rw[List.length_reverse] at hc x4
   obtain⟨d0,d1,-,-,-,-⟩:=yZ hc
   obtain⟨kw,NL⟩:∃kw,ws.length=kw:=⟨_,rfl⟩
   rw[NL] at d0 d1 x4
   rw[hw1] at d0
   rw[hw2] at d1
   have cT:kw+1≤1048576:=by
    have h1:=hfit.2.2
    have h2:=HN.out.1
    rw[hs,List.length_cons,NL] at hwl
    omega
   have e1:((kw:Int)+1)-1=(kw:Int):=by omega
   have e2:(0:Int)≤(kw:Int):=by omega
   have e3:(kw:Int)<(kw:Int)+1:=by omega
   have e4:(kw:Int)+1≤1048576:=by omega
   have e5:(0:Int)<(kw:Int)+1:=by omega
   have t0:(0:Int)≤(i:Int):=by omega
   have t1:(i:Int)<(c.n:Int):=by omega
   have kA:=Nu.hid (zJ HE.out mX.out (by simp))
   have HST:=Nu.hid hst
   have VE:=Nu.hid hkk
   have jL:=Nu.hid hstep
   have Ek:Hid (fC.stk.length≤4194304∧fC.way.length≤1048576):=by
    have:=HN.out
    exact⟨by omega,by omega⟩
   by_cases Uy:(j:Int)=(ct.length:Int)
   ·obtain rfl:j=ct.length:=by omega
    have C7:Hid (∀(V:World) (r1:Option TS),Below wr.heap.size wr V→Lt.step c.env fC=some r1→Calls Tryz.prog 117 #[.pointer (some ⟨t,0,none⟩)] V (gD c p t W0 O W r1)):=fun V r1 hV h1=>by
     rw[jL.out,if_pos rfl] at h1
     exact(fo.out.later hV).says fun qm=>FU qm (by have:=Ek.out;omega) (by have:=Ek.out;omega) h1
    clear hT hk hk0 wS hr1 bB hs hst hkk hfit hwl hlv hstep kX hc QZ hfz pO hjl hw1 hw2 xV eH yC NL Uy AY E0 EZ
    go_wp2_with fail
    go_big_region
    go_wp2_with fail
    go_big_region
    go_wp2_with fail
    rcases HST.out with ⟨s1,s2⟩|⟨nG,s1,s2⟩
    ·have mY:=Nu.hid (C7.out _ none (((Below.refl _ _).drew).drew) s1)
     have SN:=Nu.hid s2
     clear s1 s2
     go_at_call 117
     refine mY.out.mono ?_
     rintro e1 w2 ⟨nG,rfl,iM⟩
     have ko:=Nu.hid iM
     clear iM
     go_wp2_with fail
     go_ret
     rw[SN.out]
     exact⟨nG,rfl,ko.out⟩
    ·obtain⟨mN,G2,Aj,E8⟩:∃mN G2 Aj,Inv T c.env oe nG mN G2 Aj:=by
      rcases kA.out with ⟨q,-⟩|⟨st',mN,G2,Aj,q1,q2,-⟩
      ·rw[q] at s1;cases s1
      ·rw[q1] at s1
       cases s1
       exact⟨mN,G2,Aj,q2⟩
     have mY:=Nu.hid (C7.out _ (some nG) (((Below.refl _ _).drew).drew) s1)
     have SL:=Nu.hid s2
     have fY:=Nu.hid E8
     clear s1 s2 E8
     go_at_call 117
     refine mY.out.mono ?_
     rintro e1 w2 ⟨rfl,iM⟩
     have ko:=Nu.hid iM
     clear iM
     go_wp2_with fail
     have SC:Hid (r6 c p t W0 O W T oe r w2 k'):=⟨nG,mN,G2,Aj,fY.out,mW.out _ _ ko.out,SL.out⟩
     go_roundw
     case rel=>exact⟨k',SC.out⟩
     case measure=>
      have m1:=(leastOf_spec SC.out).2
      have m2:=FC.out
      have m3:=VE.out
      omega
   ·have Xd:j<ct.length:=by omega
    obtain⟨hx,Hq⟩:∃hx,ct[j]? =some hx:=⟨_,List.getElem?_eq_getElem Xd⟩
    obtain⟨u,hu,rfl⟩:∃u:Nat,u<2*c.es.length∧hx=(u:Int):=by
     rw[←xV,List.getElem?_map] at Hq
     cases he:(oe i)[j]? with
     |none=>rw[he] at Hq;cases Hq
     |some e=>
      rw[he] at Hq
      have hem:=((HE.out.mem i e).1 (List.mem_of_getElem? he)).1
      have q0:=HE.out.h0 e hem
      have q2:=HE.out.h2 e hem
      have q3:hf e=hx:=Option.some.inj Hq
      rw[q3] at q0 q2
      refine⟨hx.toNat,?_,by omega⟩
      rw[Int.tdiv_eq_ediv_of_nonneg q0] at q2
      omega
    obtain⟨bo,rfl,x11⟩:=QZ j _ Hq
    have Ln:Hid (∀(V:World) (r1:Option TS),aD c p t W0 O W (fun _=>False) { fC with way:=((i:Int),(j:Int)+1,top fC.stk)::ws } V→Lt.step c.env fC=some r1→Calls Tryz.prog 119 #[.pointer (some ⟨t,0,none⟩),.int .i64 (u:Int)] V (gD c p t W0 O W r1)):=fun V r1 hV h1=>by
     rw[jL.out,if_neg Uy,Hq] at h1
     exact hV.says fun qm=>OY qm hu (by have:=Ek.out;dsimp only;omega) (by dsimp only[List.length_cons];omega) h1
    have y0:(0:Int)≤(j:Int):=by omega
    have y1:(j:Int)<(ct.length:Int):=by omega
    have y2:(j:Int)+1≤8388608:=by have:=HN.out.2;omega
    have y3:((j:Int)==(ct.length:Int))=false:=by simp only[beq_eq_false_iff_ne,ne_eq];exact Uy
    have y4:=hfz (kw*6+1)
    obtain⟨wa,wn,wb⟩:=w
    dsimp only at hw1 hw2
    subst hw1
    subst hw2
    have HG:Hid (yI c p t W0 O W { fC with way:=((i:Int),(j:Int),wb)::ws } g cap wr):=by
     refine⟨⟨AY.1,AY.2.1⟩,E0,O',EZ,L',U',Z',oY,?_⟩
     rw[←hs]
     have mF:fC.way.length=ws.length+1:=by rw[hs,List.length_cons]
     show aQ c p t W0 O' fC L' U' Z' oY (.slice (some ⟨g,0,none⟩) fC.way.length cap) wr
     have hlr:ws.reverse.length=ws.length:=List.length_reverse
     rw[mF,←hlr]
     exact hT
    have kT:Hid (yI c p t W0 O W { fC with way:=((i:Int),(j:Int)+1,wb)::ws } g cap (wr.setCell ⟨g,kw*6+1,none⟩ (.int .i64 ((j:Int)+1))).drew.drew.drew):=by
     have h1:=HG.out.set (j:=1) (u:= .int .i64 ((j:Int)+1)) (v':=((i:Int),(j:Int)+1,wb)) rfl
     rw[NL] at h1
     exact h1.later ((((Below.refl _ _).drew).drew).drew)
    have HKW:=Nu.hid NL
    clear hT hk hk0 wS hr1 bB hs hst hkk hfit hwl hlv hstep kX hc QZ hfz pO hjl xV eH yC NL Uy Hq Xd AY E0 EZ
    go_wp2_with fail
    go_big_region
    go_wp2_with fail
    go_big_region
    go_wp2_with fail
    go_big_region
    go_wp2_with fail
    generalize (wr.setCell ⟨g,kw*6+1,none⟩ (.int .i64 ((j:Int)+1))).drew.drew.drew=V at*
    clear x0 x4 x9 x10 x11 d0 d1 y4
    have lM:Hid (Calls Tryz.prog 118 #[.pointer (some ⟨t,0,none⟩)] V fun e w'=>e= .returned (fL (top fC.stk))∧Below V.heap.size V w'):=by
     obtain⟨h0,h1,O',h2,L,U,Z,vp,h3⟩:=kT.out
     have h4:=iw h3 (by show fC.stk.length≤_;have:=Ek.out;omega)
     exact h4
    go_at_call 118
    refine lM.out.mono ?_
    rintro e1 w2 ⟨rfl,hb2⟩
    have hg3:=kT.out.later hb2
    obtain⟨zf,-,-,z2,z3,z4,z5⟩:=hg3.vis
    rw[HKW.out] at z2 z3 z4 z5
    obtain⟨q,hq⟩:∃q,top fC.stk=q:=⟨_,rfl⟩
    have HQ:=Nu.hid hq
    rw[hq]
    obtain⟨⟨qa,qb⟩,qc,qd⟩:=q
    have OM:=Nu.hid hg3
    clear hb2 hg3 hq
    go_wp2_with fail
    have B8:Hid (aD c p t W0 O W (fun _=>False) { fC with way:=((i:Int),(j:Int)+1,top fC.stk)::ws } ((((w2.setCell ⟨g,kw*6+2,none⟩ (.int .i64 qa)).setCell ⟨g,kw*6+2+1,none⟩ (.int .i64 qb)).setCell ⟨g,kw*6+2+2,none⟩ (.int .i64 qc)).setCell ⟨g,kw*6+2+3,none⟩ (.int .i64 qd))):=by
     rw[HQ.out]
     obtain⟨⟨ba,bb⟩,bc,bd⟩:=wb
     have h1:=OM.out.set (j:=2) (u:= .int .i64 qa) (v':=((i:Int),(j:Int)+1,(qa,bb),bc,bd)) rfl
     have h2:=h1.set (j:=3) (u:= .int .i64 qb) (v':=((i:Int),(j:Int)+1,(qa,qb),bc,bd)) rfl
     have h3:=h2.set (j:=4) (u:= .int .i64 qc) (v':=((i:Int),(j:Int)+1,(qa,qb),qc,bd)) rfl
     have h4:=h3.set (j:=5) (u:= .int .i64 qd) (v':=((i:Int),(j:Int)+1,(qa,qb),qc,qd)) rfl
     rw[HKW.out] at h4
     exact h4.in
    generalize ((((w2.setCell ⟨g,kw*6+2,none⟩ (.int .i64 qa)).setCell ⟨g,kw*6+2+1,none⟩ (.int .i64 qb)).setCell ⟨g,kw*6+2+2,none⟩ (.int .i64 qc)).setCell ⟨g,kw*6+2+3,none⟩ (.int .i64 qd))=V4 at*
    clear z2 z3 z4 z5 zf
    rcases HST.out with ⟨s1,s2⟩|⟨nG,s1,s2⟩
    ·have mY:=Nu.hid (Ln.out _ none B8.out s1)
     have SN:=Nu.hid s2
     clear s1 s2
     go_at_call 119
     refine mY.out.mono ?_
     rintro e1 w2 ⟨nG,rfl,iM⟩
     have ko:=Nu.hid iM
     clear iM
     go_wp2_with fail
     go_ret
     rw[SN.out]
     exact⟨nG,rfl,ko.out⟩
    ·obtain⟨mN,G2,Aj,E8⟩:∃mN G2 Aj,Inv T c.env oe nG mN G2 Aj:=by
      rcases kA.out with ⟨q,-⟩|⟨st',mN,G2,Aj,q1,q2,-⟩
      ·rw[q] at s1;cases s1
      ·rw[q1] at s1
       cases s1
       exact⟨mN,G2,Aj,q2⟩
     have mY:=Nu.hid (Ln.out _ (some nG) B8.out s1)
     have SL:=Nu.hid s2
     have fY:=Nu.hid E8
     clear s1 s2 E8
     go_at_call 119
     refine mY.out.mono ?_
     rintro e1 w2 ⟨rfl,iM⟩
     have ko:=Nu.hid iM
     clear iM
     go_wp2_with fail
     have SC:Hid (r6 c p t W0 O W T oe r w2 k'):=⟨nG,mN,G2,Aj,fY.out,mW.out _ _ ko.out,SL.out⟩
     go_roundw
     case rel=>exact⟨k',SC.out⟩
     case measure=>
      have m1:=(leastOf_spec SC.out).2
      have m2:=FC.out
      have m3:=VE.out
      omega
end
end
end Go.Proofs.YtnhcggfbkoppnaaGreat
