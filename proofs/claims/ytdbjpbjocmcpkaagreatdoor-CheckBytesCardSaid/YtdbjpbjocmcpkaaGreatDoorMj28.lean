import Derived.Test.YtdbjpbjocmcpkaaGreatDoorMj27
set_option maxHeartbeats 8000000
set_option maxRecDepth 100000
namespace Go.Proofs.YtdbjpbjocmcpkaaGreatDoor
section
open Go.Proofs.Tryz
open Go.RowKit Go.Sort
theorem Li (n:Nat) (ao:Option Addr) (cap:Nat) (es:List (Int×Int)) (da:Option Addr) (dc:Nat) (w:World) (hv:Si.Val (n:Int) es) (he:ah w ao es) (hd:aV w da (Si.aS (n:Int) es)) (h:Nat) (hh:h<2*es.length):
 Calls prog 150 #[.agg #[.int .i64 (n:Int),.slice ao es.length cap],.slice da n dc,.int .i64 (Cs.fr es h:Int),.int .i64 ((h/2:Nat):Int)] w fun e w'=>∃v,e= .returned v/\ak w' w.heap.size v (Ku.ZL (Ku.vs (Ku.gs es hv) (Ku.all (Ku.gs es hv).toSys h)))/\Below w.heap.size w w':=by
 obtain⟨W,hW⟩:∃W,W=w.alloc (.cells #[.int .i64 (n:Int),.slice ao es.length cap] 24):=⟨_,rfl⟩;have hB0:Below w.heap.size w W:=by rw[hW];exact(aaG _ _).alloc (aaF _) _
 have g1:W.heap[w.heap.size]? =some (.cells #[.int .i64 (n:Int),.slice ao es.length cap] 24 (0,0)):=by rw[hW];exact heap_alloc_new w _
 have bV:=hv.few;obtain⟨T,hT⟩:∃T,Ku.all (Ku.gs es hv).toSys h=T:=⟨_,rfl⟩;have rM:h<(Ku.gs es hv).toSys.M:=hh;obtain⟨-,hnd,nB,-⟩:=Ku.bQ rM;have EN:=ζ (Ku.all_zero rM);have wP:Hid (∀j x,T[j]? =some x->Ku.gN es x=none->j+1=T.length):=fun j x hx e=>by rw[<-hT] at hx ⊢;exact Ku.all_none rM hx e
 have PW:Hid (∀j x,T[j]? =some x->Ku.gN es x=some h->j+1=T.length):=fun j x hx e=>by rw[<-hT] at hx ⊢;exact Ku.zZ rM hx e
 have rq:Hid (∀j x k,T[j]? =some x->Ku.gN es x=some k->k≠h->T[j+1]? =some k):=fun j x k hx e hk=>by rw[<-hT] at hx ⊢;exact Ku.Cm rM hx e hk
 have HTW:Hid (∀j x k,T[j]? =some x->Ku.gN es x=some k->k≠Cs.twin h):=fun j x k hx e=>by rw[<-hT] at hx;exact Ku.Te rM hx e
 rw[hT] at EN hnd nB ⊢;have oP:T.length<=8388608:=by
  have:=Ku.fU hnd nB;have h2:(Ku.gs es hv).toSys.M=2*es.length:=rfl;omega
 have nN:Hid (∀x∈T,x<2*es.length):=nB;have HV:=ζ hv;have HE:=ζ (he.later hB0);have HD:=ζ (hd.later hB0);have aI:=ζ hB0;have HW:=ζ hW;have HG:=ζ g1;have aaf:Hid (∀(x:Nat) (p:Int×Int) (U:World),x<2*es.length->es[x/2]? =some p->Calls prog 214 #[.agg #[.int .i64 p.1,.int .i64 p.2],.int .i64 (Cs.fr es x:Int)] U fun e w'=>e= .returned (.int .i64 (Cs.to es x:Int))/\Below U.heap.size U w'):=fun x p U hx hp=>by
  have:=Lg p.1 p.2 (Cs.fr es x:Int) U;rw[Ku.Oa hv hx hp] at this;exact this
 have Tx:Hid (∀(x k:Nat) (U:World),Ku.gN es x=some k->Below W.heap.size W U->Calls prog 215 #[.agg #[.int .i64 (n:Int),.slice ao es.length cap],.int .i64 (Cs.to es x:Int),.int .i64 ((x/2:Nat):Int)] U fun e w'=>e= .returned (.int .i64 ((k/2:Nat):Int))/\Below U.heap.size U w'):=fun x k U hk hU=>by
  refine(Uw (n:Int) ao cap es (Cs.to es x:Int) ((x/2:Nat):Int) U (HE.out.later hU) (by omega)).mono ?_;rintro e w' ⟨r,rfl,U4,hb⟩;refine⟨?_,hb⟩;rcases U4 with ⟨rfl,hno⟩|⟨i,p,rfl,hp,hi,hin⟩
  .exfalso
   obtain⟨p,hp,hin,hne,_⟩:=Ku.C9 hv hk;have:=hno (k/2) p hp (by omega);rcases hin with hin|hin
   .exact this.1 hin
   .exact this.2 hin
  .rw[Ku.Ug hv hk hp (by omega) hin]
 have j4:Hid (∀j,j+1=T.length->T.take (j+1)=T):=fun j hj=>abn (by omega)
 have Xc:Hid (∀(x k:Nat),Ku.gN es x=some k->k/2=h/2->k≠Cs.twin h->k=h):=fun x k _ e1 e2=>by
  unfold Cs.twin at e2
  split at e2<;>omega
 obtain⟨⟨p1,p2⟩,hp⟩:=Ku.L8 hh;obtain⟨eb,eo,rfl,c0,c1⟩:=HE.out (h/2) _ hp;dsimp only at c0 c1;obtain⟨ee,hee⟩:∃e,e=h/2:=⟨_,rfl⟩;have q7:=ζ (aaf.out h (p1,p2) W hh hp);dsimp only at q7;rw[<-hee] at c0 c1 Xc ⊢;have ako:ee<es.length:=by omega
 have he0:(0:Int)<=(ee:Int):=by omega
 have jI:(ee:Int)<(es.length:Int):=by omega
 obtain⟨q0,q1,-⟩:=af g1;have HEE:=ζ hee;clear he hd hB0 g1 hW hT hnd nB hp hee rM;rw[HW.out] at c0 c1 q0 q1;go_enter func150,ntmps150;go_wp2_with (go_at_call 214;rw[<-HW.out];refine q7.out.mono ?_;rintro e w1 ⟨rfl,hb1⟩;refine aaI ?_);refine ζ ?_;have hs1:=hb1.size;have HI:Hid (aq (w1.alloc (.cells #[.int .i64 (Cs.fr es h:Int),.int .i64 (Cs.to es h:Int)] 3)) w1.heap.size [(Cs.fr es h:Int),(Cs.to es h:Int)]):=heap_alloc_new w1 _;have aD:=ζ hb1;have hsw:=aI.out.size;clear hb1 c0 c1 q0 q1;go_wp2;go_loopw [9,10,11] (fun a v l wr=>∃(j x:Nat),T[j]? =some x/\a= .int .i64 (Cs.to es x:Int)/\l= .int .i64 ((x/2:Nat):Int)/\ak wr W.heap.size v (Ku.ZL (Ku.vs (Ku.gs es HV.out) (T.take (j+1))))/\Below W.heap.size W wr) (fun _ v _ _=>(T.length+2)-Ku.vQ v)
 case atStart=>
  refine⟨0,h,EN.out,rfl,by rw[HEE.out],?_,aD.out.alloc (by simpa using hs1) _⟩;have e1:T.take 1=[h]:=by
   have:=EN.out;cases T with
   |nil=>simp at this
   |cons y T=>simp at this;subst this;rfl
  have e2:Ku.ZL (Ku.vs (Ku.gs es HV.out) (T.take (0+1)))=[(Cs.fr es h:Int),(Cs.to es h:Int)]:=by
   rw[e1];show [((Cs.fr es h:Nat):Int),((Cs.fr es (Cs.twin h):Nat):Int)]=_;rw[Cs.gW]
  rw[e2];exact aq.own HI.out (by omega) rfl (by omega)
 case round=>
  obtain⟨j,x,hx,rfl,rfl,hown,hb⟩:=hrel;obtain⟨U,rfl⟩:∃U,U=wr:=⟨wr,rfl⟩;have hjT:=(aaH.1 hx).1;have hne:T.take (j+1)≠[]:=fun e=>by
   have:=congrArg List.length e;simp at this;rw[this] at hjT;simp at hjT
  have hlen:(Ku.ZL (Ku.vs (Ku.gs es HV.out) (T.take (j+1)))).length=j+2:=by
   rw[Ku.bS,Ku.bE hne,abL];omega
  obtain⟨oa,oc,cG,-,-⟩:=hown.form;rw[hlen] at cG;subst cG;have hxl:=nN.out x (aaJ hx);have htn:=(Cs.eU HV.out hxl).2;have hdx:=Ku.Ju HV.out htn;obtain⟨db,dof,rfl,Ph⟩:=(HD.out.later hb) _ _ hdx;have bK:=ζ hown;have HB:=ζ hb;have HX:=ζ hx;have nU:=ζ hne;have nO:=ζ hlen;have aek:(0:Int)<=(Cs.to es x:Int):=by omega
  have aej:(Cs.to es x:Int)<(n:Int):=by omega
  obtain⟨q0,q1,-⟩:=af ((hb.block _ (lt_of_block HG.out)).trans HG.out);have OE:=hb.size;obtain⟨dv,FI⟩:∃dv,(Ku.dg es (Cs.to es x):Int)=dv:=⟨_,rfl⟩;rw[FI] at Ph;obtain⟨ta,zQ⟩:∃ta,ta=Cs.to es x:=⟨_,rfl⟩;rw[<-zQ] at Ph aek aej ⊢;obtain⟨lx,hlx⟩:∃lx,lx=x/2:=⟨_,rfl⟩;rw[<-hlx];have YV:=ζ zQ;have HLX:=ζ hlx;clear hown hb hx hne hlen hdx zQ hlx;by_cases h2:Ku.dg es (Cs.to es x)=2
  .have t1:(dv==2)=true:=by rw[<-FI,h2];rfl
   obtain⟨k,hk⟩:∃k,Ku.gN es x=some k:=by
    cases hk:Ku.gN es x with
    |none=>exact absurd h2 ((Ku.mK hxl).1 hk)
    |some k=>exact⟨k,rfl⟩
   obtain⟨⟨r1,r2⟩,hr,-,-,hkl,Vi⟩:=Ku.C9 HV.out hk;have cH:=Tx.out x k U hk HB.out;rw[<-YV.out,<-HLX.out] at cH;have cH:=ζ cH;obtain⟨kk,hkk⟩:∃kk,kk=k/2:=⟨_,rfl⟩;rw[<-hkk] at cH;have PO:=ζ hkk;have HK:=ζ hk;have HR:=ζ hr;have akc:(kk:Int)<(es.length:Int):=by omega
   have akd:(0:Int)<=(kk:Int):=by omega
   clear h2 hk hr FI hkk;go_wp2_with (go_at_call 215;refine cH.out.mono ?_;rintro e U1 ⟨rfl,hb1⟩;refine aaI ?_);refine ζ ?_;have aau:=ζ hb1;have Bu:=ζ (HB.out.trans (hb1.mono HB.out.size));have ajY:=hb1.size;clear hb1 q0 q1 Ph;by_cases heq:kk=ee
   .have t2:((kk:Int)==(ee:Int))=true:=by simp[heq]
    have hkh:k=h:=Xc.out x k HK.out (by rw[<-PO.out];exact heq) (HTW.out j x k HX.out HK.out);have hjl:=PW.out j x HX.out (by rw[HK.out,hkh]);have HF:=ζ (j4.out j hjl);clear heq hkh hjl;go_wp2;go_ret;refine⟨_,rfl,?_,aI.out.trans (Bu.out.mono aI.out.size)⟩;have:=(bK.out.later aau.out).lower hsw;rw[HF.out] at this;exact this
   .have t2:((kk:Int)==(ee:Int))=false:=by simp;omega
    have hkh:k≠h:=fun e=>heq (by rw[PO.out,HEE.out,e])
    have iZ:=ζ (rq.out j x k HX.out HK.out hkh);have hr2:=HR.out;rw[<-PO.out] at hr2;obtain⟨_,_,e9,c0,c1⟩:=(HE.out.later Bu.out) kk _ hr2;cases e9;dsimp only at c0 c1;have Nh:=aaf.out k (r1,r2) U1 hkl HR.out;rw[Vi,<-YV.out] at Nh;dsimp only at Nh;have Nh:=ζ Nh;obtain⟨q0,q1,-⟩:=af ((Bu.out.block _ (lt_of_block HG.out)).trans HG.out);clear heq hkh hr2;go_wp2_with (go_at_call 214;refine Nh.out.mono ?_;rintro e U2 ⟨rfl,hb2⟩;refine aaI ?_);refine ζ ?_;have aA:=ζ (Bu.out.trans (hb2.mono Bu.out.size));have hO2:=(bK.out.later aau.out).later hb2;have mD:=ζ hO2;have ajX:=aA.out.size;clear hb2 hO2 c0 c1 q0 q1;go_wp2_with (at_builtin;refine bu rfl _ _ rfl _ W.heap.size _ _ (Cs.to es k:Int) mD.out (by omega) (by rw[nO.out];omega) rfl rfl ?_;refine aaI ?_);refine ζ ?_;intro v' w3 hrow3 _ _ hb3;have fK:=ζ hrow3;have aK:=ζ (aA.out.trans hb3);have hnew:ak w3 W.heap.size v' (Ku.ZL (Ku.vs (Ku.gs es HV.out) (T.take (j+1+1)))):=by
     rw[Ku.vP iZ.out,Ku.TL nU.out];have e:Ku.ZL (Ku.vs (Ku.gs es HV.out) (T.take (j+1))++[(Ku.gs es HV.out).to k])=Ku.ZL (Ku.vs (Ku.gs es HV.out) (T.take (j+1)))++[(Cs.to es k:Int)]:=by
      unfold Ku.ZL;rw[abt,Ku.Jp];rfl
     rw[e];exact hrow3
    have hsl:Ku.vQ v'=j+3:=by
     obtain⟨a',c',e,-,-⟩:=hrow3.form;rw[e,aaZ,nO.out];rfl
    have rG:=ζ hnew;have HSL:=ζ hsl;clear hrow3 hb3 hnew hsl;go_wp2;go_roundw
    case rel=>exact⟨j+1,k,iZ.out,rfl,by rw[PO.out],rG.out,aK.out⟩
    case measure=>
     rw[HSL.out];show _<(T.length+2)-(j+2);omega
  .have t1:(dv==2)=false:=by rw[<-FI];simp;omega
   have hjl:=wP.out j x HX.out ((Ku.mK hxl).2 h2);have HF:=ζ (j4.out j hjl);clear h2 hjl FI;go_wp2;go_ret;refine⟨_,rfl,?_,aI.out.trans (HB.out.mono aI.out.size)⟩;have:=bK.out.lower hsw;rw[HF.out] at this;exact this
end
section
open Go.RowKit Go.Sort
namespace Ku
end Ku
theorem Lj (ao:Option Addr) (q c L:Nat) (l:List Int) (w:World) (hq:l.length=q) (h:aV w ao l) (hL:q=L+1) (h1:1<=L) (hc:q<=c) (hl:q<=8388610):
 Calls Tryz.prog 151 #[.slice ao q c] w (Ku.Xu l L w):=by
 have hw1:IntKind.i64.wrap ((q:Int)-1)=(L:Int):=by rw[aaK];omega
 have i0:(0:Int)<=(L:Int):=by omega
 have i1:(L:Int)<=(q:Int):=by omega
 have i2:(q:Int)<=(c:Int):=by omega
 have i3:(L:Int)<=(c:Int):=by omega
 have HL:=ζ h;have HQ:=ζ hq;have JM:=ζ hL;have hat:aV w ao (l.take L):=fun j x hj=>by
  have hjl:=(aaH.1 hj).1;rw[acf,if_pos (by simp at hjl;omega)] at hj;exact h j x hj
 have Af:=ζ (Lh ao L c (l.take L) w (by rw[abL];omega) hat (by omega) (by omega));have HGT:Hid (∀i,i<L->(l.take L).getD i 0=Ku.gI l i):=fun i hi=>by
  unfold Ku.gI;rw[aaL,aaL,acf,if_pos hi]
 have Am:Hid (∀i,i<L->l[i]? =some (Ku.gI l i)):=fun i hi=>by
  unfold Ku.gI;rw[aaL,aaE (by omega)];rfl
 clear h hq hat hL;go_enter Tryz.func151,Tryz.ntmps151;go_wp2_with (go_at_call 216;refine Af.out.mono ?_;rintro e w1 ⟨k,rfl,hk,hmin,hb1⟩;refine aaI ?_);refine ζ ?_;have Nl:Hid (∀i,i<L->Ku.gI l k<=Ku.gI l i):=fun i hi=>by
  have:=hmin i hi;rw[HGT.out k hk,HGT.out i hi] at this;exact this
 have aD:=ζ hb1;clear hmin hb1 Af;go_wp2;go_loopw [5,6] (fun v cv wr=>∃(i:Nat),i<=L/\cv= .int .i64 (i:Int)/\ak wr w.heap.size v (Ku.j7 l L k i)/\Below w.heap.size w wr) (fun _ cv _=>L-(intOf cv).toNat)
 case atStart=>exact⟨0,aaR _,rfl,ak.nil _ _,aD.out⟩
 case round=>
  obtain⟨i,hi,rfl,hown,hb⟩:=hrel;have bK:=ζ hown;have HB:=ζ hb;have hs0:=hb.size;have hwi:IntKind.i64.wrap ((i:Int)+1)=(i:Int)+1:=by rw[aaK];omega
  by_cases hlt:i<L
  .have aP:(i:Int)<(L:Int):=by omega
   obtain⟨u,hu⟩:∃u,u=(k+i)%L:=⟨_,rfl⟩;have qD:u<L:=by rw[hu];exact acJ _ (by omega)
   obtain⟨s,hs⟩:∃s:Nat,(k:Int)+(i:Int)=(s:Int):=⟨k+i,by omega⟩;have ajQ:IntKind.i64.wrap (s:Int)=(s:Int):=by rw[aaK];omega
   have aj3:(s:Int).tmod (L:Int)=(u:Int):=by
    rw[abR (by omega),hu,show k+i=s by omega];exact(ac8 s L).symm
   have u0:(0:Int)<=(u:Int):=by omega
   have u1:(u:Int)<(L:Int):=by omega
   have akA:((L:Int)==0)=false:=by simp;omega
   have aiw:(L:Int)≠0:=by omega
   obtain⟨b,o,rfl,d0⟩:=(HL.out.later hb) u _ (Am.out u qD);have HU:=ζ hu;have eB:(Ku.j7 l L k i).length<=17592186044000:=by rw[Ku.oJ];omega
   clear hown hb hu;go_wp2_with (at_builtin;refine bu rfl _ _ rfl _ w.heap.size _ _ (Ku.gI l u) bK.out hs0 eB rfl rfl ?_;refine aaI ?_);refine ζ ?_;intro v' w3 hrow3 _ _ hb3;have fK:=ζ hrow3;have aK:=ζ (HB.out.trans hb3);clear hrow3 hb3;go_wp2;go_roundw
   case rel=>exact⟨i+1,by omega,by go_num,by rw[Ku.J9,<-HU.out];exact fK.out,aK.out⟩
   case measure=>simp[intOf];omega
  .have hd:¬((i:Int)<(L:Int)):=by omega
   obtain rfl:i=L:=by omega
   have k0:(0:Int)<=(k:Int):=by omega
   have k1:(k:Int)<(i:Int):=by omega
   obtain⟨b,o,rfl,d0⟩:=(HL.out.later hb) k _ (Am.out k hk);have eB:(Ku.j7 l i k i).length<=17592186044000:=by rw[Ku.oJ];omega
   clear hown hb;go_wp2_with (at_builtin;refine bu rfl _ _ rfl _ w.heap.size _ _ (Ku.gI l k) bK.out hs0 eB rfl rfl ?_;refine aaI ?_);refine ζ ?_;intro v' w3 hrow3 _ _ hb3;have hlen:(Ku.j7 l i k i++[Ku.gI l k]).length=q:=by rw[aaZ,Ku.oJ];have:=JM.out;simp;omega
   obtain⟨xa,xc,cG,-,-⟩:=hrow3.form;rw[hlen] at cG;subst cG;have hs3:w.heap.size<=w3.heap.size:=by have:=hb3.size;omega
   have lR:=ζ (vD w.heap.size xa q xc _ w3 hlen hrow3 hs3 (by have:=JM.out;omega) (by omega));have aK:=ζ (HB.out.trans hb3);clear hrow3 hb3 hlen;go_wp2_with (go_at_call 152;refine lR.out.mono ?_;rintro e w4 ⟨v,rfl,ho,hb4⟩;refine aaI ?_);refine ζ ?_;have HO:=ζ ho;have cZ:=ζ (aK.out.trans (hb4.mono aK.out.size));clear ho hb4;go_wp2;go_ret;exact⟨k,_,hk,Nl.out,rfl,HO.out,cZ.out⟩
end
section
open Go.Proofs.Tryz
open Go.RowKit Go.Sort
namespace Ku
section
end
end Ku
theorem Ll (n:Nat) (ao:Option Addr) (cap:Nat) (es:List (Int×Int)) (da:Option Addr) (dc:Nat) (w:World) (hv:Si.Val (n:Int) es) (he:ah w ao es) (hd:aV w da (Si.aS (n:Int) es)) (ee:Nat) (hee:ee<es.length):
 Calls prog 103 #[.agg #[.int .i64 (n:Int),.slice ao es.length cap],.slice da n dc,.int .i64 (ee:Int)] w fun e w'=>∃v,e= .returned v/\ak w' w.heap.size v (Ku.ZL (Ku.vs (Ku.gs es hv) (Ku.ch es hv ee)))/\Below w.heap.size w w':=by
 obtain⟨W,hW⟩:∃W,W=w.alloc (.cells #[.int .i64 (n:Int),.slice ao es.length cap] 24):=⟨_,rfl⟩;have hB0:Below w.heap.size w W:=by rw[hW];exact(aaG _ _).alloc (aaF _) _
 have g1:W.heap[w.heap.size]? =some (.cells #[.int .i64 (n:Int),.slice ao es.length cap] 24 (0,0)):=by rw[hW];exact heap_alloc_new w _
 have bV:=hv.few;have hh:2*ee<(Ku.gs es hv).toSys.M:=show 2*ee<2*es.length by omega
 obtain⟨⟨p1,p2⟩,hp⟩:∃p,es[ee]? =some p:=⟨_,aaE hee⟩;have hok:=hv.each _ _ hp;unfold Si.ok at hok;dsimp only at hok;have f1:=Cs.dQ hp;have f2:=Cs.iJ hp;dsimp only at f1 f2;have rq:Hid (∀(U:World),Below W.heap.size W U->Calls prog 150 #[.agg #[.int .i64 (n:Int),.slice ao es.length cap],.slice da n dc,.int .i64 p1,.int .i64 (ee:Int)] U fun e w'=>∃v,e= .returned v/\ak w' U.heap.size v (Ku.ZL (Ku.vs (Ku.gs es hv) (Ku.all (Ku.gs es hv).toSys (2*ee))))/\Below U.heap.size U w'):=fun U hU=>by
  have:=Li n ao cap es da dc U hv ((he.later hB0).later hU) ((hd.later hB0).later hU) (2*ee) hh;rw[f1.1,show 2*ee/2=ee by omega,show((p1.toNat:Nat):Int)=p1 by omega] at this;exact this
 have o8:Hid (∀(U:World),Below W.heap.size W U->Calls prog 150 #[.agg #[.int .i64 (n:Int),.slice ao es.length cap],.slice da n dc,.int .i64 p2,.int .i64 (ee:Int)] U fun e w'=>∃v,e= .returned v/\ak w' U.heap.size v (Ku.ZL (Ku.vs (Ku.gs es hv) (Ku.all (Ku.gs es hv).toSys (2*ee+1))))/\Below U.heap.size U w'):=fun U hU=>by
  have:=Li n ao cap es da dc U hv ((he.later hB0).later hU) ((hd.later hB0).later hU) (2*ee+1) (by omega);rw[f2.1,show(2*ee+1)/2=ee by omega,show((p2.toNat:Nat):Int)=p2 by omega] at this;exact this
 obtain⟨T,hT⟩:∃T,Ku.all (Ku.gs es hv).toSys (2*ee)=T:=⟨_,rfl⟩;obtain⟨-,hnd,nB,-⟩:=Ku.bQ hh;have OX:=Ku.all_zero hh;have hTc:=Ku.jk hh;have hTp:=Ku.EC hh;have D7:=fun c k hk hmin=>Ku.Ta (hv:=hv) hee c (k:=k) hk hmin
 have D6:=fun hend=>Ku.VZ (hv:=hv) hee hend
 obtain⟨B,hB⟩:∃B,Ku.all (Ku.gs es hv).toSys (2*ee+1)=B:=⟨_,rfl⟩;have VO:B≠[]:=by
  have Jg:2*ee+1<(Ku.gs es hv).toSys.M:=show 2*ee+1<2*es.length by omega
  have:=Ku.EC Jg;rw[hB] at this;exact ack.1 this
 have hBl:B.length<=8388608:=by
  have Jg:2*ee+1<(Ku.gs es hv).toSys.M:=show 2*ee+1<2*es.length by omega
  obtain⟨-,aeS,abZ,-⟩:=Ku.bQ Jg;have:=Ku.fU aeS abZ;have h2:(Ku.gs es hv).toSys.M=2*es.length:=rfl;rw[hB] at this;omega
 rw[hT] at rq hnd nB OX hTc hTp D7 D6;rw[hB] at o8 D6;have oP:T.length<=8388608:=by
  have:=Ku.fU hnd nB;have h2:(Ku.gs es hv).toSys.M=2*es.length:=rfl;omega
 have Z1:T≠[]:=ack.1 hTp;obtain⟨c1,hc1⟩:∃c1,c1=Ku.ZL (Ku.vs (Ku.gs es hv) T):=⟨_,rfl⟩;have nR:c1.length=T.length+1:=by rw[hc1,Ku.bS,Ku.bE Z1]
 obtain⟨c2,hc2⟩:∃c2,c2=Ku.ZL (Ku.vs (Ku.gs es hv) B):=⟨_,rfl⟩;have hl2:c2.length=B.length+1:=by rw[hc2,Ku.bS,Ku.bE VO]
 obtain⟨R,hR⟩:∃R,R=Ku.ZL (Ku.vs (Ku.gs es hv) (Ku.ch es hv ee)):=⟨_,rfl⟩;obtain⟨lx,hlx⟩:∃lx,T[T.length-1]? =some lx:=⟨_,aaE (by omega)⟩;have fF:=Ku.Ut (hv:=hv) hlx;rw[<-hc1] at fF D7 D6 rq;rw[<-hc2] at o8 D6;rw[<-hR] at D7 D6 ⊢;have Qx:lx<2*es.length:=nB lx (aaJ hlx);have htn:=(Cs.eU hv Qx).2;have qI:=Ku.Ju hv htn;have hdu:=Ku.Ju hv (show p1.toNat<n by omega);obtain⟨tl,FB⟩:∃tl,tl=Cs.to es lx:=⟨_,rfl⟩;rw[<-FB] at fF htn qI;obtain⟨du,Vq⟩:∃du,(Ku.dg es p1.toNat:Int)=du:=⟨_,rfl⟩;obtain⟨dl,QA⟩:∃dl,(Ku.dg es tl:Int)=dl:=⟨_,rfl⟩;rw[Vq] at hdu;rw[QA] at qI;have Vh:(Ku.eD (Ku.gs es hv).toSys T/\(du==2)=true/\(dl==2)=true)\/((∀a,T[T.length-1]? =some a->Ku.gN es a=none)/\(dl==2)=false):=by
  rcases hTc with ⟨c,_⟩|⟨_,_,hend⟩
  .left
   have hn:Ku.gN es lx=some (2*ee):=c.Ry lx (2*ee) hlx OX;have h2:Ku.dg es tl=2:=by
    rw[FB];refine aa2 fun hc=> ?_
    rw[(Ku.mK Qx).2 hc] at hn;cases hn
   obtain⟨_,_,_,_,_,hfr⟩:=Ku.C9 hv hn;have h3:p1.toNat=tl:=by rw[FB,<-hfr,f1.1]
   refine⟨c,?_,by rw[<-QA,h2];rfl⟩;rw[<-Vq,h3,h2];rfl
  .right
   refine⟨hend,?_⟩;have:=(Ku.mK Qx).1 (hend lx hlx);rw[<-FB] at this;rw[<-QA];simp;omega
 have HK:=ζ Vh;have HCY:=ζ D7;have mC:=ζ D6;have HE:=ζ (he.later hB0);have HD:=ζ (hd.later hB0);have HDU:=ζ hdu;have B3:=ζ qI;have aI:=ζ hB0;have HW:=ζ hW;have HG:=ζ g1;have Y6:=ζ fF;have lG:=ζ nR;have uQ:=ζ hl2;have HBP:Hid (0<B.length):=ack.2 VO;obtain⟨eb,eo,rfl,x0,x1⟩:=HE.out ee _ hp;dsimp only at x0 x1;obtain⟨q0,q1,-⟩:=af g1;have he0:(0:Int)<=(ee:Int):=by omega
 have jI:(ee:Int)<(es.length:Int):=by omega
 obtain⟨K,hK⟩:∃K,K=T.length:=⟨_,rfl⟩;rw[<-hK] at lG Y6 HCY hTp oP;have HKT:=ζ hK;clear hK;have aaq:=ζ (rq.out W (aaG _ _));have Su:(0:Int)<=p1:=hok.1;have aj7:p1<(n:Int):=by omega
 have ajU:(0:Int)<=(tl:Int):=by omega
 have ajT:(tl:Int)<(n:Int):=by omega
 have xV:=aI.out.size;obtain⟨pu,rfl⟩:∃pu:Nat,p1=(pu:Int):=⟨p1.toNat,by omega⟩;rw[abu] at HDU;rw[hW] at x0 x1 q0 q1;clear he hd hB0 g1 hW hnd nB hp hT hB hTc D7 D6 Vh fF hdu qI Vq QA hc1 hc2 hR hlx hok f1 f2 hh OX nR hl2 FB htn Z1 VO Qx;go_enter func103,ntmps103;go_wp2_with (go_at_call 150;rw[<-HW.out];refine aaq.out.mono ?_;rintro e w1 ⟨v,rfl,ho,hb1⟩;refine aaI ?_);refine ζ ?_;obtain⟨ta,tc,cG,X8,-⟩:=ho.form;rw[lG.out] at cG;have htc:K+1<=tc:=by
  have ho':=ho;unfold ak at ho';rw[lG.out,cG] at ho';rcases ho'.2 with ⟨e,h0⟩|⟨g,c,cur,e,_,_,hcc,_⟩
  .omega
  .cases e
   exact hcc
 subst cG;obtain⟨K1,hK1⟩:∃K1,K1=K+1:=⟨_,rfl⟩;rw[<-hK1] at htc ⊢;have Np:=ζ hK1;have hwK:IntKind.i64.wrap ((K1:Int)-1)=(K:Int):=by rw[aaK];omega
 have hK0:(0:Int)<=(K:Int):=by omega
 have hKK:(K:Int)<(K1:Int):=by omega
 have HTI:=ζ X8;have aD:=ζ hb1;obtain⟨tb,tof,rfl,y0⟩:=X8 K _ Y6.out;obtain⟨db,dof,rfl,y1⟩:=(HD.out.later hb1) pu _ HDU.out;obtain⟨_,_,e9,y2⟩:=(HD.out.later hb1) tl _ B3.out;cases e9;have hs1:=hb1.size;clear ho X8 hb1 x0 x1 q0 q1 aaq hK1;rcases HK.out with ⟨ZJ,t1,t2⟩|⟨hend,t2⟩
 .have Ak:=ζ (Lj (some ⟨tb,tof,none⟩) K1 tc K c1 w1 (by rw[lG.out,Np.out]) HTI.out Np.out (by omega) htc (by have:=Np.out;omega))
  have ag7:=ζ ZJ;clear ZJ HK;go_wp2_with (go_at_call 151;refine Ak.out.mono ?_;rintro e w2 ⟨k,v,hk,hmin,rfl,ho,hb2⟩;refine aaI ?_);refine ζ ?_;have HF:=ζ (HCY.out ag7.out k (by first|exact hk|(rw[<-HKT.out];exact hk)) (by first|exact hmin|(rw[<-HKT.out];exact hmin)));have HO:=ζ ho;have aA:=ζ (aD.out.trans (hb2.mono aD.out.size));clear hmin ho hb2;go_wp2;go_ret;refine⟨_,rfl,?_,aI.out.trans (aA.out.mono aI.out.size)⟩;rw[<-HF.out];exact HO.out.lower (by omega)
 .have nW:=ζ (o8.out w1 aD.out)
  have Xd:=ζ (mC.out hend);obtain⟨q0,q1,-⟩:=af ((aD.out.block _ (lt_of_block HG.out)).trans HG.out);clear hend HK;obtain⟨tu,htu⟩:∃tu,(du==2)=tu:=⟨_,rfl⟩;cases tu
  all_goals
   go_wp2_with (go_at_call 150;refine nW.out.mono ?_;rintro e w2 ⟨v,rfl,ho,hb2⟩;refine aaI ?_);refine ζ ?_;obtain⟨ba,bc,cG,lN,-⟩:=ho.form;obtain⟨Kb,VI⟩:∃Kb,c2.length=Kb:=⟨_,rfl⟩;rw[VI] at cG;subst cG;have HKB:=ζ VI;have Bt:=ζ hb2;have akB:=ζ (HTI.out.later hb2);have hs2:=hb2.size;have HCT:=ζ (qA ba Kb bc c2 w2 VI lN (by have:=uQ.out;omega));clear ho lN hb2 q0 q1 y0 y1 y2 VI;go_wp2_with (go_at_call 104;refine HCT.out.mono ?_;rintro e w3 ⟨v,rfl,ho,hb3⟩;refine aaI ?_);refine ζ ?_;have tI:=ζ ho;have Xm:=ζ (Bt.out.trans (hb3.mono Bt.out.size));have hs3:=hb3.size;clear ho hb3;go_wp2;go_loopw [12,13] (fun v cv wr=>∃(i:Nat),i<=K1/\2<=i/\cv= .int .i64 (i:Int)/\ak wr w1.heap.size v (c2.reverse++(c1.take i).drop 2)/\Below w1.heap.size w1 wr) (fun _ cv _=>K1-(intOf cv).toNat)
   case atStart=>
    refine⟨2,by have:=Np.out;omega,aaF _,rfl,?_,Xm.out⟩;rw[ab2 (by rw[abL];omega),abP];exact tI.out.lower hs2
   case round=>
    obtain⟨i,hi,h2i,rfl,hown,hb⟩:=hrel;have bK:=ζ hown;have HB:=ζ hb;have hs0:=hb.size;have hwi:IntKind.i64.wrap ((i:Int)+1)=(i:Int)+1:=by rw[aaK];have:=Np.out;omega
    have hlen:(c2.reverse++(c1.take i).drop 2).length<=17592186044000:=by
     rw[aaZ,acm,acQ,abL];have:=uQ.out;have:=lG.out;omega
    have HLEN:=ζ hlen;by_cases hlt:i<K1
    .have aP:(i:Int)<(K1:Int):=by omega
     have nS:(0:Int)<=(i:Int):=by omega
     obtain⟨y,hy⟩:∃y,c1[i]? =some y:=⟨_,aaE (by rw[lG.out,<-Np.out];exact hlt)⟩;obtain⟨_,_,e9,z0⟩:=(HTI.out.later hb) i y hy;cases e9;have JG:Hid (c2.reverse++(c1.take (i+1)).drop 2=c2.reverse++(c1.take i).drop 2++[y]):=by
      show _=_;rw[acj,hy,adN (by rw[abL,lG.out];have:=Np.out;omega),abb];rfl
     clear hown hb hy hlen;go_wp2_with (at_builtin;refine bu rfl _ _ rfl _ w1.heap.size _ _ y bK.out hs0 HLEN.out rfl rfl ?_;refine aaI ?_);refine ζ ?_;intro v' w5 UT _ _ hb5;have JJ:=ζ UT;have fM:=ζ (HB.out.trans hb5);clear UT hb5;go_wp2;go_roundw
     case rel=>exact⟨i+1,by omega,by omega,by go_num,by rw[JG.out,abb];exact JJ.out,fM.out⟩
     case measure=>simp[intOf];omega
    .have hd9:¬((i:Int)<(K1:Int)):=by omega
     have hall:c1.take i=c1:=abn (by rw[lG.out];have:=Np.out;omega);rw[hall] at bK hlen;have hown':=bK.out;obtain⟨la,lc,cG,-,-⟩:=hown'.form;obtain⟨Q,hQ⟩:∃Q,(c2.reverse++c1.drop 2).length=Q:=⟨_,rfl⟩;rw[hQ] at cG hlen;subst cG;have hQ2:2<=Q:=by
      rw[<-hQ,aaZ,acm];have:=uQ.out;have:=HBP.out;omega
     have lR:=ζ (vD w1.heap.size la Q lc _ wr hQ hown' hs0 hQ2 hlen);clear hown hb hlen hall hown' hQ;go_wp2_with (go_at_call 152;refine lR.out.mono ?_;rintro e w6 ⟨v,rfl,ho,kL⟩;refine aaI ?_);refine ζ ?_;have HO6:=ζ ho;have mE:=ζ (HB.out.trans (kL.mono HB.out.size));clear ho kL;go_wp2;go_ret;refine⟨_,rfl,?_,aI.out.trans ((aD.out.trans (mE.out.mono aD.out.size)).mono aI.out.size)⟩;rw[<-Xd.out];exact HO6.out.lower (by omega)
end
section
open Go.RowKit Go.Sort
namespace Ku
section
end
end Ku
theorem I6 (n:Int) (ao:Option Addr) (cap:Nat) (es:List (Int×Int)) (w:World) (he:ah w ao es) (hl:es.length<=4611686018427387904):
 Calls Tryz.prog 63 #[.agg #[.int .i64 n,.slice ao es.length cap]] w (Ku.Xv n es w):=by
 obtain⟨W,hW⟩:∃W,W=w.alloc (.cells #[.int .i64 n,.slice ao es.length cap] 24):=⟨_,rfl⟩;have hB0:Below w.heap.size w W:=by rw[hW];exact(aaG _ _).alloc (aaF _) _
 have g1:W.heap[w.heap.size]? =some (.cells #[.int .i64 n,.slice ao es.length cap] 24 (0,0)):=by rw[hW];exact heap_alloc_new w _
 obtain⟨iR,Yl,Yt,hR1,hR2⟩:=info_parts Tryz.nu;have ry:=ζ (vu n ao cap es W (he.later hB0) hl);have HE:=ζ (he.later hB0);have aI:=ζ hB0;have HW:=ζ hW;have HG:=ζ g1;obtain⟨q0,q1,-⟩:=af g1;have xV:=hB0.size;rw[hW] at q0 q1;clear he hB0 g1 hW;go_enter Tryz.func63,Tryz.ntmps63;go_wp2_with (go_at_call 62;rw[<-HW.out];refine ry.out.mono ?_;refine aaI ?_);refine ζ ?_;rintro e w1 ⟨dh,hb1⟩;have aD:=ζ hb1;have j5:=ζ (aI.out.trans (hb1.mono aI.out.size));rcases dh with ⟨hv,gd,m,rfl,rfl,hgd,Jl⟩|⟨hv,rfl⟩
 .have hval:Si.Val (m:Int) es:=Si.aL.1 hv
  have bV:=hval.few;have HDI:=ζ Jl.at;have HV:=ζ hval;have Aj:=ζ (HE.out.later hb1);have dB:=ζ (aZ HG.out hb1);have hs1:=hb1.size;clear hv Jl hb1 q0 q1 hval ry;go_wp2;go_loopw [6,7] (fun v cv wr=>∃(i:Nat) (us:List Value),i<=es.length/\cv= .int .i64 (i:Int)/\ay wr w1.heap.size v us (Ku.rows es HV.out i)/\Below w1.heap.size w1 wr) (fun _ cv _=>es.length-(intOf cv).toNat)
  case atStart=>exact⟨0,[],aaR _,rfl,ay.nil _ _,aaG _ _⟩
  case round=>
   obtain⟨i,us,hi,rfl,jT,hb⟩:=hrel;obtain⟨U,rfl⟩:∃U,U=wr:=⟨wr,rfl⟩;have nL:=ζ jT;have HB:=ζ hb;obtain⟨va,vc,cG⟩:=bG jT;obtain⟨J,hJ⟩:∃J,(Ku.rows es HV.out i).length=J:=⟨_,rfl⟩;rw[hJ] at cG;subst cG;have hJi:J<=i:=by rw[<-hJ,Ku.l9];exact Ku.sW i
   have HJ:=ζ hJ;obtain⟨q0,q1,-⟩:=af (aZ dB.out hb);have OE:=hb.size;have hwi:IntKind.i64.wrap ((i:Int)+1)=(i:Int)+1:=by rw[aaK];omega
   by_cases hlt:i<es.length
   .have aP:(i:Int)<(es.length:Int):=by omega
    have nS:(0:Int)<=(i:Int):=by omega
    obtain⟨⟨p1,p2⟩,hp⟩:∃p,es[i]? =some p:=⟨_,aaE hlt⟩;have HP:=ζ hp;clear jT hb hJ hp;go_wp2;go_loopw [8,9] (fun d cv wx=>∃(k:Nat) (b:Bool),k<=J/\cv= .int .i64 (k:Int)/\d= .bool b/\(b=true↔∃t c,t<k/\(Ku.kN es HV.out i)[t]? =some c/\Ku.By c i)/\Below U.heap.size U wx) (fun _ cv _=>J-(intOf cv).toNat)
    case atStart=>exact⟨0,false,aaR _,rfl,rfl,⟨fun h=>(by cases h),fun ⟨t,c,ht,_⟩=>by omega⟩,aaG _ _⟩
    case round=>
     obtain⟨k,b,hk,rfl,rfl,lN,hb⟩:=hrel;obtain⟨U1,rfl⟩:∃U1,U1=wr:=⟨wr,rfl⟩;have HBI:=ζ lN;have HBU:=ζ hb;have hwk:IntKind.i64.wrap ((k:Int)+1)=(k:Int)+1:=by rw[aaK];omega
     have lp:=nL.out.later hb;have pR:Below w1.heap.size w1 U1:=HB.out.trans (hb.mono HB.out.size);by_cases hkJ:k<J
     .have akf:(k:Int)<(J:Int):=by omega
      have hk0:(0:Int)<=(k:Int):=by omega
      obtain⟨lr,hlr⟩:∃lr,(Ku.rows es HV.out i)[k]? =some lr:=⟨_,aaE (by rw[HJ.out];exact hkJ)⟩;obtain⟨c,hc,hlc⟩:=Ku.rZ hlr;obtain⟨x,hx⟩:=lp.at' hlr;obtain⟨gv,gc,Du,cx⟩:=Ku.sB lp hx;rw[HJ.out] at Du;have UG:va=some ⟨gv,0,none⟩:=by cases Du;rfl
      obtain⟨xa,xc,gR,fE,-⟩:=(lp.row k x lr hx hlr).form;have oO:=Ku.yE (hv:=HV.out) hi (aaJ hc);obtain⟨Ln,wu⟩:∃Ln,lr.length=Ln:=⟨_,rfl⟩;have BR:1<=Ln/\Ln<=17592186044000:=by
       rw[<-wu,hlc,Ku.bS,Ku.bE oO.ne];have:=Ku.Jv oO;omega
      rw[wu] at gR;subst gR;obtain⟨bk,hbk⟩:∃bk:Bool,bk=true↔Ku.By c i:=by
       by_cases h:Ku.By c i
       .exact⟨true,⟨fun _=>h,fun _=>rfl⟩⟩
       .exact⟨false,⟨fun hh=>(by cases hh),fun hh=>absurd hh h⟩⟩
      have JS:Hid (∀D:LW U1,Calls Tryz.prog 102 #[.slice xa Ln xc,.agg #[.int .i64 p1,.int .i64 p2]] D.val fun e w'=>e= .returned (.bool bk)/\Below D.val.heap.size D.val w'):=fun D=>by
       refine(Le xa Ln xc lr p1 p2 D.val wu (fE.later D.h) BR.1 BR.2).mono ?_;rintro e w' ⟨r,rfl,hr,hbr⟩;refine⟨?_,hbr⟩;have:=Ku.TT oO HP.out;dsimp only at this;rw[<-hlc] at this;have e1:r=bk:=by
        cases r<;>cases bk<;>simp_all
       rw[e1]
      obtain⟨eb,eo,rfl,x0,x1⟩:=(Aj.out.later pR) i _ HP.out;dsimp only at x0 x1;obtain⟨-,r1,-⟩:=af (aZ dB.out pR);have d0:∀D:LW U1,D.val.cell? ⟨gv,k,none⟩=some (.slice xa Ln xc):=fun D=>(D.h.cell (p:=⟨gv,k,none⟩) (block_lt_of_cell cx)).trans cx
      have d1:∀D:LW U1,D.val.cell? ⟨w.heap.size,1,none⟩=some (.slice (some ⟨eb,eo,none⟩) es.length cap):=fun D=>(D.h.cell (p:=⟨w.heap.size,1,none⟩) (block_lt_of_cell r1)).trans r1
      have d2:∀D:LW U1,D.val.cell? ⟨eb,eo+i*2,none⟩=some (.int .i64 p1):=fun D=>(D.h.cell (p:=⟨eb,eo+i*2,none⟩) (block_lt_of_cell x0)).trans x0
      have d3:∀D:LW U1,D.val.cell? ⟨eb,eo+i*2+1,none⟩=some (.int .i64 p2):=fun D=>(D.h.cell (p:=⟨eb,eo+i*2+1,none⟩) (block_lt_of_cell x1)).trans x1
      have hne:=LW.any U1;have iZ:Hid ((b||bk)=true↔∃t c,t<k+1/\(Ku.kN es HV.out i)[t]? =some c/\Ku.By c i):=by
       rw[ab6,HBI.out,hbk];constructor
       .rintro(⟨t,c',ht,h1,h2⟩|h)
        .exact⟨t,c',by omega,h1,h2⟩
        .exact⟨k,c,by omega,hc,h⟩
       .rintro⟨t,c',ht,h1,h2⟩
        by_cases e:t=k
        .subst e
         rw[hc] at h1;cases h1;exact .inr h2
        .exact .inl ⟨t,c',by omega,h1,h2⟩
      subst UG;clear lN hb lp hlr hc hlc hx cx Du fE oO wu x0 x1 r1 pR hbk;cases bk
      all_goals
       go_wp2_with fail;refine aH (by kernel_rfl) (by kernel_rfl) ?_
       repeat (go_big_quiet_step ((first|(go_at_call 102;exact Calls.lw (JS.out _)))))
       refine wpQuiet_nil ?_;rintro _ ⟨E,rfl⟩;have b9:=ζ (HBU.out.trans (E.h.mono HBU.out.size));obtain⟨WE,dP⟩:∃WE,WE=E.val:=⟨_,rfl⟩;rw[<-dP] at b9 ⊢;clear d0 d1 d2 d3 hne dP;go_wp2;go_roundw
       case rel=>exact⟨k+1,_,by omega,by go_num,by first|rfl|(simp;done),by have:=iZ.out;simpa using this,b9.out⟩
       case measure=>simp[intOf];omega
     .have hd:¬((k:Int)<(J:Int)):=by omega
      obtain rfl:k=J:=by omega
      have Jb:b=true↔¬Ku.First es HV.out i:=by
       rw[<-Ku.Gu hlt,lN];constructor
       .rintro⟨t,c,ht,h1,h2⟩
        exact⟨c,aaJ h1,h2⟩
       .rintro⟨c,h1,h2⟩
        obtain⟨t,ht⟩:=abg h1;refine⟨t,c,?_,ht,h2⟩;have:=(aaH.1 ht).1;rw[<-HJ.out,Ku.l9];exact this
      cases b with
      |true=>
       have hnf:¬Ku.First es HV.out i:=Jb.1 rfl;have HN:Hid (Ku.rows es HV.out (i+1)=Ku.rows es HV.out i):=Ku.Km hnf;have nT:=ζ lp;have aA:=ζ pR;clear Jb hnf lN hb lp pR;go_wp2;go_roundw
       case rel=>exact⟨i+1,us,by omega,by go_num,by rw[HN.out];exact nT.out,aA.out⟩
       case measure=>simp[intOf];omega
      |false=>
       have hnf:Ku.First es HV.out i:=aa2 fun h=>by have:=Jb.2 h;cases this
       have HN:Hid (Ku.rows es HV.out (i+1)=Ku.rows es HV.out i++[Ku.ZL (Ku.vs (Ku.gs es HV.out) (Ku.ch es HV.out i))]):=Ku.Gx hnf;have jq:=ζ (Ll m ao cap es (some ⟨gd,0,none⟩) m U1 HV.out (Aj.out.later pR) (HDI.out.later pR) i hlt);obtain⟨r0,r1,-⟩:=af (aZ dB.out pR);have nT:=ζ lp;have aA:=ζ pR;clear Jb hnf lN hb lp pR;go_wp2_with (go_at_call 103;refine jq.out.mono ?_;rintro e U2 ⟨v,rfl,ho,hb2⟩;refine aaI ?_);refine ζ ?_;obtain⟨xa,xc,cG,-,-⟩:=ho.form;obtain⟨Lc,SN⟩:∃Lc,(Ku.ZL (Ku.vs (Ku.gs es HV.out) (Ku.ch es HV.out i))).length=Lc:=⟨_,rfl⟩;rw[SN] at cG;subst cG;have hr2:=nT.out.later hb2;have hout:=hr2.outer;rw[HJ.out] at hout;have ET:=ζ hout;have Wy:=ζ hr2;have HO:=ζ ho;have aK:=ζ (aA.out.trans (hb2.mono aA.out.size));have hs2:=aK.out.size;have hsu:=hb2.size;have HWT:Hid (∀b',((Value.slice va k vc).ownBlock=some b'\/∃(u:Nat) (y:Value),us[u]? =some y/\y.ownBlock=some b')->b'<U1.heap.size):=fun b' hb'=>by
        rcases hb' with hb'|⟨u,y,hy,hb'⟩
        .exact(aaO nT.out.outer b' hb').2
        .obtain⟨l',hl'⟩:=nT.out.at hy
         exact(aaO (nT.out.row u y l' hy hl') b' hb').2
       clear hr2 hout ho hb2 r0 r1 SN;go_wp2_with (at_builtin;refine wpList_append_own_at _ rfl _ _ 25 rfl w1.heap.size 55 iR (.slice none 0 0) 1 24 Tryz.underlying25 Yl Yt hR1 hR2 rfl (by decide) _ _ _ rfl (abv ET.out _) ⟨U2.heap.size,0,none⟩ 1 1 [.slice xa Lc xc] rfl rfl (cell_one_new _ _ _) (by simp[Value.oneCell']) (by unfold maxLen;omega) (by omega) (by simp;omega) ?_;refine aaI ?_);refine ζ ?_;intro v' w4 gT mq _ sK;have sJ:v'.ownBlock=(Value.slice va k vc).ownBlock\/v'.ownBlock=some (U2.heap.size+1):=by simpa using sK
       have FN:=Wy.out.grow (x:= .slice xa Lc xc) (l:=Ku.ZL (Ku.vs (Ku.gs es HV.out) (Ku.ch es HV.out i))) (v':=v') (HO.out.lower aA.out.size) (fun u y b' hy hyb e=>by
        have a1:=HWT.out b' (.inr ⟨u,y,hy,hyb⟩);have a2:=(aaO HO.out b' e).1;omega) (fun b' hb' e=>by
        have a1:=HWT.out b' (.inl hb');have a2:=(aaO HO.out b' e).1;omega) (by rw[HJ.out];exact gT) mq sJ
       have Vy:Below w1.heap.size w1 w4:=((aK.out.trans (((aaG U2.heap.size U2).alloc (aaF _) _).mono aK.out.size)).grown mq (by simp;omega) (fun j hj=>(aaO nT.out.outer j hj).1));have Ad:=ζ FN;have ahi:=ζ Vy;clear gT mq sK sJ FN Vy;go_wp2;go_roundw
       case rel=>exact⟨i+1,_,by omega,by go_num,by rw[HN.out];exact Ad.out,ahi.out⟩
       case measure=>simp[intOf];omega
   .have hd:¬((i:Int)<(es.length:Int)):=by omega
    obtain rfl:i=es.length:=by omega
    clear jT hb hJ;go_wp2;go_ret2;exact⟨.inr ⟨HV.out,_,us,rfl,nL.out.lower (by omega)⟩,j5.out.trans (HB.out.mono j5.out.size)⟩
 .have HV:=ζ hv
  clear hv hb1 q0 q1;go_wp2;go_ret2;exact⟨.inl ⟨HV.out,rfl⟩,j5.out⟩
end
end Go.Proofs.YtdbjpbjocmcpkaaGreatDoor
