import Derived.Test.YtbhdibflpjhpaaaGreatMg45
set_option maxHeartbeats 16000000
set_option maxRecDepth 100000
namespace Go.Proofs.YtbhdibflpjhpaaaGreat
section
open Go.Proofs.Tryz
open Go.RowKit Lt Pl
section
variable {c:Wp} {p t:Nat} {W0 W wr:World} {O B:Nat->Prop} {st:TS} {L U Z:Nat} {vp vw:Value}
theorem aW.into {st':TS} {w':World} (h:aS c p t W0 O st L U Z vp vw W) (hp:aW c p t W0 O W st' w'):aJ c p t W0 O W (fun _=>False) st' w':=by
 obtain⟨h1,h2⟩:=hp;exact⟨⟨h.aZ.size,fun b hb=>⟨h.oB b hb,h.oX b hb⟩,fun _ hb=>hb.elim⟩,h1,_,fun b hb=>hb.1,fun _ hb=>hb.elim,h2⟩
theorem Rv {E:Env} {k:Nat} {st:TS} {r:Option TS} (hne:st.way≠[]) (h:run E k st=some r):∃k',k=k'+1/\((Lt.step E st=some none/\r=none)\/∃st',Lt.step E st=some (some st')/\run E k' st'=some r):=by
 unfold run at h;rw[if_neg hne] at h;cases k with
 |zero=>cases h
 |succ k=>
  dsimp only at h;refine⟨k,rfl,?_⟩;cases hs:Lt.step E st with
  |none=>rw[hs] at h;cases h
  |some q=>
   rw[hs] at h;cases q with
   |none=>cases h;exact .inl ⟨rfl,rfl⟩
   |some st'=>exact .inr ⟨st',rfl,h⟩
def BU (c:Wp) (p t:Nat) (W0:World) (O:Nat->Prop) (W:World) (st:TS) (g cap:Nat) (wr:World):Prop:=
 (W0.heap.size<=W.heap.size/\(∀b,O b->W0.heap.size<=b/\b<W.heap.size))/\az O W wr/\∃O',(∀b,O' b->O b\/W.heap.size<=b)/\∃L U Z vp,aS c p t W0 O' st L U Z vp (.slice (some ⟨g,0,none⟩) st.way.length cap) wr
theorem BU.in {g cap:Nat} (h:BU c p t W0 O W st g cap wr):aJ c p t W0 O W (fun _=>False) st wr:=by
 obtain⟨h0,h1,O',h2,L,U,Z,vp,h3⟩:=h;exact⟨⟨h0.1,h0.2,fun _ hb=>hb.elim⟩,h1,O',h2,fun _ hb=>hb.elim,L,U,Z,vp,_,h3⟩
theorem BU.later {g cap:Nat} {w':World} (h:BU c p t W0 O W st g cap wr) (hb:Below wr.heap.size wr w'):BU c p t W0 O W st g cap w':=by
 obtain⟨h0,h1,O',h2,L,U,Z,vp,h3⟩:=h;exact⟨h0,h1.later hb,O',h2,L,U,Z,vp,h3.later hb⟩
theorem BU.set {g cap:Nat} {v v':kC} {ws:List kC} {j:Nat} {u:Value} (h:BU c p t W0 O W { st with way:=v::ws } g cap wr) (hx:xq v'=(xq v).set j u):BU c p t W0 O W { st with way:=v'::ws } g cap (wr.setCell ⟨g,ws.length*6+j,none⟩ u):=by
 obtain⟨h0,h1,O',h2,L,U,Z,vp,h3⟩:=h;refine⟨h0,?_,O',h2,L,U,Z,vp,h3.Yu (v':=v') rfl rfl hx⟩;rcases h2 g (h3.oW g rfl) with q|q
 .exact h1.setCell q _
 .exact gQ h1 q _
theorem BU.vis {g cap:Nat} {v:kC} {ws:List kC} (h:BU c p t W0 O W { st with way:=v::ws } g cap wr):(∀i,wr.frozen? ⟨g,i,none⟩=false)/\wr.cell? ⟨g,ws.length*6,none⟩=some (.int .i64 v.1)/\wr.cell? ⟨g,ws.length*6+1,none⟩=some (.int .i64 v.2.1)/\wr.cell? ⟨g,ws.length*6+2,none⟩=some (.int .i64 v.2.2.1.1)/\wr.cell? ⟨g,ws.length*6+3,none⟩=some (.int .i64 v.2.2.1.2)/\wr.cell? ⟨g,ws.length*6+4,none⟩=some (.int .i64 v.2.2.2.1)/\wr.cell? ⟨g,ws.length*6+5,none⟩=some (.int .i64 v.2.2.2.2):=by
 obtain⟨h0,h1,O',h2,L,U,Z,vp,h3⟩:=h;have bD:=h3.way;dsimp only at bD;rw[ac4] at bD;obtain⟨g',cap',e,hc,-,hfz,-⟩:=bD.snoc qO;obtain rfl:g=g':=aal (congrArg Value.ownBlock e);rw[acD] at hc;exact⟨hfz,B7 hc⟩
def vL (c:Wp) (p t:Nat) (W0:World) (O:Nat->Prop) (W:World) (T:DF c.n c.es.length) (oe:Nat->List Nat) (r:Option TS) (wr:World) (k:Nat):Prop:=
 ∃st fin G ls,Inv T c.env oe st fin G ls/\aJ c p t W0 O W (fun _=>False) st wr/\run c.env k st=some r
theorem MS {T:DF c.n c.es.length} {oe:Nat->List Nat} {hf:Nat->Int} (hE:dU T c.env oe hf) (h:aS c p t W0 O st L U Z vp vw W) {v:Nat} {fin:Nat->Prop} {G:List Nat} {ls:List Lv} (hI:Inv T c.env oe (enter st v) fin G ls) {N:Nat} {r:Option TS} (hr:run c.env N (enter st v)=some r):
 Calls prog 53 #[.pointer (some ⟨t,0,none⟩),.int .i64 (v:Int)] W (iD c p t W0 O W r):=by
 have hn:=h.wk.val.hi;have dH:=h.wk.val.few;have hfit:=hI.fits hE;have hw1:st.way.length+1<=c.n:=by
  have:=hfit.2.1;have h2:=hfit.2.2;unfold enter at this;dsimp only[List.length_cons] at this;omega
 have FA:=ζ (AA h (v:Int) (by omega));have qY:Hid (∀st' w',aW c p t W0 O W st' w'->aJ c p t W0 O W (fun _=>False) st' w'):=fun st' w' hp=>hp.into h
 have HI:=ζ hI;have HR:=ζ hr;have HE:=ζ hE;have HN:Hid (c.n<=1048576/\c.es.length<=4194304):=⟨by omega,by omega⟩;have oJ:=ζ h.wk.val;clear h hI hr hE hn dH hfit hw1;go_enter func53,ntmps53;go_wp2_with (go_at_call 72;refine FA.out.mono ?_;rintro e1 w1 ⟨rfl,kQ⟩;have pT:=ζ (qY.out _ _ kQ);clear kQ);go_loopw [5] (fun _ wr=>∃k,vL c p t W0 O W T oe r wr k) (fun _ wr=>leastOf (vL c p t W0 O W T oe r wr))
 case atStart=>exact⟨N,enter st v,fin,G,ls,HI.out,pT.out,HR.out⟩
 case round=>
  obtain⟨k,hk⟩:=hrel;obtain⟨k0,hk0⟩:∃k0,leastOf (vL c p t W0 O W T oe r wr)=k0:=⟨_,rfl⟩;obtain⟨fX,uh,G1,ls1,z7,oz,hr1⟩:vL c p t W0 O W T oe r wr k0:=by rw[<-hk0];exact(leastOf_spec hk).1
  have HK0:=ζ hk0;have qZ:=ζ z7;have Pe:=ζ hr1;have gJ:=ζ oz;obtain⟨DZ,IL,O',IK,-,L',U',Z',sZ,vO,hT⟩:=oz;have x4:=hT.cells.2.2.2.2.1;cases hs:fX.way with
  |nil=>
   have U7:r=some fX:=by
    unfold run at hr1;rw[if_pos hs] at hr1;exact(aal hr1).symm
   have bD:=hT.way;rw[hs] at bD;obtain⟨ao,cap,rfl,-⟩:=bD.form;rw[List.reverse_nil,acY] at x4;have BZ:=ζ U7;clear hT hk hk0 z7 hr1 bD U7 hs DZ IL IK;go_wp2_with fail;go_ret;rw[BZ.out];exact⟨rfl,gJ.out.post⟩
  |cons w ws=>
   obtain⟨k',hkk,hst⟩:=Rv (by rw[hs];simp) hr1;have hfit:=z7.fits HE.out;have hwl:=hfit.2.1;obtain⟨l,vR,rfl⟩:∃l vR,ls1=l::vR:=by
    cases ls1 with
    |nil=>rw[hs] at hwl;simp at hwl
    |cons l vR=>exact⟨l,vR,rfl⟩
   have DL:=z7.way;rw[hs] at DL;obtain⟨⟨hw1,hw2⟩,hjl,hlv,-⟩:=DL;obtain⟨i,hi⟩:∃i,l.v=i:=⟨_,rfl⟩;obtain⟨j,hj⟩:∃j,l.k=j:=⟨_,rfl⟩;have Vw:i<c.n:=by rw[<-hi];exact hlv.lt
   rw[hi] at hw1 hjl;rw[hj] at hw2 hjl;have hol:=HE.out.outs i Vw;obtain⟨bT,A5⟩:∃bT,(oe i).map hf=bT:=⟨_,rfl⟩;have eO:bT.length=(oe i).length:=by rw[<-A5,aco]
   rw[A5] at hol;have hlm:bT.length<=c.es.length:=by
    rw[eO];exact jv (HE.out.nd i) fun x hx=>((HE.out.mem i x).1 hx).1
   have hstep:Lt.step c.env fX=if (j:Int)=(bT.length:Int) then Lt.leave c.env fX else (bT[j]?).bind fun h=>Lt.A7 c.env { fX with way:=((i:Int),(j:Int)+1,top fX.stk)::ws } h:=by
    unfold Lt.step;rw[hs];dsimp only;rw[hw1,hw2,if_pos ⟨by omega,by omega⟩,show((i:Int)).toNat=i from by simp,hol];dsimp only;rw[show((j:Int)).toNat=j from by simp];cases bT[j]? <;>rfl
   obtain⟨go,co,ao,ca,eo,tT⟩:=hT.now.outs hol;have x0:=hT.cells.1;have x9:=hT.now.c9;rw[eo] at x9;obtain⟨x10,VB⟩:=tT wr (aae _ _);have bD:=hT.way;rw[hs,ac4] at bD;obtain⟨g,cap,rfl,hc,-,hfz,-⟩:=bD.snoc qO;rw[acD] at hc x4;obtain⟨d0,d1,-,-,-,-⟩:=B7 hc;obtain⟨kw,Sy⟩:∃kw,ws.length=kw:=⟨_,rfl⟩;rw[Sy] at d0 d1 x4;rw[hw1] at d0;rw[hw2] at d1;have hkl:kw+1<=1048576:=by
    have h1:=hfit.2.2;have h2:=HN.out.1;rw[hs,abS,Sy] at hwl;omega
   have e1:((kw:Int)+1)-1=(kw:Int):=by omega
   have e2:(0:Int)<=(kw:Int):=by omega
   have e3:(kw:Int)<(kw:Int)+1:=by omega
   have e4:(kw:Int)+1<=1048576:=by omega
   have e5:(0:Int)<(kw:Int)+1:=by omega
   have t0:(0:Int)<=(i:Int):=by omega
   have t1:(i:Int)<(c.n:Int):=by omega
   have kD:=ζ (CR HE.out qZ.out (by simp));have HST:=ζ hst;have HKK:=ζ hkk;have kZ:=ζ hstep;have GY:Hid (fX.stk.length<=4194304/\fX.way.length<=1048576):=by
    have:=HN.out;exact⟨by omega,by omega⟩
   by_cases Y9:(j:Int)=(bT.length:Int)
   .obtain rfl:j=bT.length:=by omega
    have B4:Hid (∀(V:World) (r1:Option TS),Below wr.heap.size wr V->Lt.step c.env fX=some r1->Calls prog 73 #[.pointer (some ⟨t,0,none⟩)] V (iD c p t W0 O W r1)):=fun V r1 hV h1=>by
     rw[kZ.out,if_pos rfl] at h1;exact(gJ.out.later hV).says fun BP=>JO BP (by have:=GY.out;omega) (by have:=GY.out;omega) h1
    clear hT hk hk0 z7 hr1 bD hs hst hkk hfit hwl hlv hstep tT hc VB hfz hol hjl hw1 hw2 A5 eO hlm Sy Y9 DZ IL IK;go_wp2_with fail;go_big_region;go_wp2_with fail;go_big_region;go_wp2_with fail;rcases HST.out with ⟨s1,s2⟩|⟨pV,s1,s2⟩
    .have vX:=ζ (B4.out _ none (((aae _ _).drew).drew) s1)
     have XM:=ζ s2;clear s1 s2;go_at_call 73;refine vX.out.mono ?_;rintro e1 w2 ⟨pV,rfl,kB⟩;have oK:=ζ kB;clear kB;go_wp2_with fail;go_ret;rw[XM.out];exact⟨pV,rfl,oK.out⟩
    .obtain⟨oC,G2,Dv,IX⟩:∃oC G2 Dv,Inv T c.env oe pV oC G2 Dv:=by
      rcases kD.out with ⟨q,-⟩|⟨st',oC,G2,Dv,q1,q2,-⟩
      .rw[q] at s1;cases s1
      .rw[q1] at s1
       cases s1;exact⟨oC,G2,Dv,q2⟩
     have vX:=ζ (B4.out _ (some pV) (((aae _ _).drew).drew) s1);have Mh:=ζ s2;have iM:=ζ IX;clear s1 s2 IX;go_at_call 73;refine vX.out.mono ?_;rintro e1 w2 ⟨rfl,kB⟩;have oK:=ζ kB;clear kB;go_wp2_with fail;have XB:Hid (vL c p t W0 O W T oe r w2 k'):=⟨pV,oC,G2,Dv,iM.out,qY.out _ _ oK.out,Mh.out⟩;go_roundw
     case rel=>exact⟨k',XB.out⟩
     case measure=>
      have m1:=(leastOf_spec XB.out).2;have m2:=HK0.out;have m3:=HKK.out;omega
   .have aaZ:j<bT.length:=by omega
    obtain⟨hx,K5⟩:∃hx,bT[j]? =some hx:=⟨_,aac aaZ⟩;obtain⟨u,hu,rfl⟩:∃u:Nat,u<2*c.es.length/\hx=(u:Int):=by
     rw[<-A5,abU] at K5;cases he:(oe i)[j]? with
     |none=>rw[he] at K5;cases K5
     |some e=>
      rw[he] at K5;have hem:=((HE.out.mem i e).1 (aah he)).1;have q0:=HE.out.h0 e hem;have q2:=HE.out.h2 e hem;have q3:hf e=hx:=aal K5;rw[q3] at q0 q2;refine⟨hx.toNat,?_,by omega⟩;rw[acG q0] at q2;omega
    obtain⟨bo,rfl,x11⟩:=VB j _ K5;have Ju:Hid (∀(V:World) (r1:Option TS),aJ c p t W0 O W (fun _=>False) { fX with way:=((i:Int),(j:Int)+1,top fX.stk)::ws } V->Lt.step c.env fX=some r1->Calls prog 75 #[.pointer (some ⟨t,0,none⟩),.int .i64 (u:Int)] V (iD c p t W0 O W r1)):=fun V r1 hV h1=>by
     rw[kZ.out,if_neg Y9,K5] at h1;exact hV.says fun BP=>TP BP hu (by have:=GY.out;dsimp only;omega) (by dsimp only[List.length_cons];omega) h1
    have y0:(0:Int)<=(j:Int):=by omega
    have y1:(j:Int)<(bT.length:Int):=by omega
    have y2:(j:Int)+1<=8388608:=by have:=HN.out.2;omega
    have y3:((j:Int)==(bT.length:Int))=false:=by simp only[beq_eq_false_iff_ne,ne_eq];exact Y9
    have y4:=hfz (kw*6+1);obtain⟨wa,wn,wb⟩:=w;dsimp only at hw1 hw2;subst hw1;subst hw2;have HG:Hid (BU c p t W0 O W { fX with way:=((i:Int),(j:Int),wb)::ws } g cap wr):=by
     refine⟨⟨DZ.1,DZ.2.1⟩,IL,O',IK,L',U',Z',sZ,?_⟩;rw[<-hs];have qI:fX.way.length=ws.length+1:=by rw[hs,abS]
     show aS c p t W0 O' fX L' U' Z' sZ (.slice (some ⟨g,0,none⟩) fX.way.length cap) wr;have hlr:ws.reverse.length=ws.length:=acD;rw[qI,<-hlr];exact hT
    have jG:Hid (BU c p t W0 O W { fX with way:=((i:Int),(j:Int)+1,wb)::ws } g cap (wr.setCell ⟨g,kw*6+1,none⟩ (.int .i64 ((j:Int)+1))).drew.drew.drew):=by
     have h1:=HG.out.set (j:=1) (u:= .int .i64 ((j:Int)+1)) (v':=((i:Int),(j:Int)+1,wb)) rfl;rw[Sy] at h1;exact h1.later ((((aae _ _).drew).drew).drew)
    have HKW:=ζ Sy;clear hT hk hk0 z7 hr1 bD hs hst hkk hfit hwl hlv hstep tT hc VB hfz hol hjl A5 eO hlm Sy Y9 K5 aaZ DZ IL IK;go_wp2_with fail;go_big_region;go_wp2_with fail;go_big_region;go_wp2_with fail;go_big_region;go_wp2_with fail;generalize (wr.setCell ⟨g,kw*6+1,none⟩ (.int .i64 ((j:Int)+1))).drew.drew.drew=V at*;clear x0 x4 x9 x10 x11 d0 d1 y4;have nC:Hid (Calls prog 74 #[.pointer (some ⟨t,0,none⟩)] V fun e w'=>e= .returned (gK (top fX.stk))/\Below V.heap.size V w'):=by
     obtain⟨h0,h1,O',h2,L,U,Z,vp,h3⟩:=jG.out;have h4:=jq h3 (by show fX.stk.length<=_;have:=GY.out;omega);exact h4
    go_at_call 74;refine nC.out.mono ?_;rintro e1 w2 ⟨rfl,hb2⟩;have hg3:=jG.out.later hb2;obtain⟨zf,-,-,z2,z3,z4,z5⟩:=hg3.vis;rw[HKW.out] at z2 z3 z4 z5;obtain⟨q,hq⟩:∃q,top fX.stk=q:=⟨_,rfl⟩;have HQ:=ζ hq;rw[hq];obtain⟨⟨qa,qb⟩,qc,qd⟩:=q;have Ms:=ζ hg3;clear hb2 hg3 hq;go_wp2_with fail;have HG4:Hid (aJ c p t W0 O W (fun _=>False) { fX with way:=((i:Int),(j:Int)+1,top fX.stk)::ws } ((((w2.setCell ⟨g,kw*6+2,none⟩ (.int .i64 qa)).setCell ⟨g,kw*6+2+1,none⟩ (.int .i64 qb)).setCell ⟨g,kw*6+2+2,none⟩ (.int .i64 qc)).setCell ⟨g,kw*6+2+3,none⟩ (.int .i64 qd))):=by
     rw[HQ.out];obtain⟨⟨ba,bb⟩,bc,bd⟩:=wb;have h1:=Ms.out.set (j:=2) (u:= .int .i64 qa) (v':=((i:Int),(j:Int)+1,(qa,bb),bc,bd)) rfl;have h2:=h1.set (j:=3) (u:= .int .i64 qb) (v':=((i:Int),(j:Int)+1,(qa,qb),bc,bd)) rfl;have h3:=h2.set (j:=4) (u:= .int .i64 qc) (v':=((i:Int),(j:Int)+1,(qa,qb),qc,bd)) rfl;have h4:=h3.set (j:=5) (u:= .int .i64 qd) (v':=((i:Int),(j:Int)+1,(qa,qb),qc,qd)) rfl;rw[HKW.out] at h4;exact h4.in
    generalize ((((w2.setCell ⟨g,kw*6+2,none⟩ (.int .i64 qa)).setCell ⟨g,kw*6+2+1,none⟩ (.int .i64 qb)).setCell ⟨g,kw*6+2+2,none⟩ (.int .i64 qc)).setCell ⟨g,kw*6+2+3,none⟩ (.int .i64 qd))=V4 at*;clear z2 z3 z4 z5 zf;rcases HST.out with ⟨s1,s2⟩|⟨pV,s1,s2⟩
    .have vX:=ζ (Ju.out _ none HG4.out s1)
     have XM:=ζ s2;clear s1 s2;go_at_call 75;refine vX.out.mono ?_;rintro e1 w2 ⟨pV,rfl,kB⟩;have oK:=ζ kB;clear kB;go_wp2_with fail;go_ret;rw[XM.out];exact⟨pV,rfl,oK.out⟩
    .obtain⟨oC,G2,Dv,IX⟩:∃oC G2 Dv,Inv T c.env oe pV oC G2 Dv:=by
      rcases kD.out with ⟨q,-⟩|⟨st',oC,G2,Dv,q1,q2,-⟩
      .rw[q] at s1;cases s1
      .rw[q1] at s1
       cases s1;exact⟨oC,G2,Dv,q2⟩
     have vX:=ζ (Ju.out _ (some pV) HG4.out s1);have Mh:=ζ s2;have iM:=ζ IX;clear s1 s2 IX;go_at_call 75;refine vX.out.mono ?_;rintro e1 w2 ⟨rfl,kB⟩;have oK:=ζ kB;clear kB;go_wp2_with fail;have XB:Hid (vL c p t W0 O W T oe r w2 k'):=⟨pV,oC,G2,Dv,iM.out,qY.out _ _ oK.out,Mh.out⟩;go_roundw
     case rel=>exact⟨k',XB.out⟩
     case measure=>
      have m1:=(leastOf_spec XB.out).2;have m2:=HK0.out;have m3:=HKK.out;omega
end
end
end Go.Proofs.YtbhdibflpjhpaaaGreat
