import Derived.Test.YtdbjpbjocmcpkaaGreatDoorMg28
import Derived.Test.YtdbjpbjocmcpkaaGreatDoorMg13
set_option maxHeartbeats 16000000
set_option maxRecDepth 100000
namespace Go.Proofs.YtdbjpbjocmcpkaaGreatDoor
section
open Go.RowKit Go.Sort
namespace Ku
end Ku
theorem I3 (ao:Option Addr) (q c L:Nat) (l:List Int) (w:World) (hq:l.length=q) (h:aU w ao l) (hL:q=L+1) (h1:1<=L) (hc:q<=c) (hl:q<=8388610):
 Calls Tryz.prog 151 #[.slice ao q c] w (Ku.TZ l L w):=by
 have hw1:IntKind.i64.wrap ((q:Int)-1)=(L:Int):=by rw[aam];omega
 have i0:(0:Int)<=(L:Int):=by omega
 have i1:(L:Int)<=(q:Int):=by omega
 have i2:(q:Int)<=(c:Int):=by omega
 have i3:(L:Int)<=(c:Int):=by omega
 have HL:=ζ h;have HQ:=ζ hq;have GZ:=ζ hL;have hat:aU w ao (l.take L):=fun j x hj=>by
  have hjl:=(aah.1 hj).1;rw[aci,if_pos (by simp at hjl;omega)] at hj;exact h j x hj
 have zY:=ζ (I1 ao L c (l.take L) w (by rw[abu];omega) hat (by omega) (by omega));have HGT:Hid (∀i,i<L->(l.take L).getD i 0=Ku.gI l i):=fun i hi=>by
  unfold Ku.gI;rw[aao,aao,aci,if_pos hi]
 have ym:Hid (∀i,i<L->l[i]? =some (Ku.gI l i)):=fun i hi=>by
  unfold Ku.gI;rw[aao,aac (by omega)];rfl
 clear h hq hat hL;go_enter Tryz.func151,Tryz.ntmps151;go_wp2_with (go_at_call 216;refine zY.out.mono ?_;rintro e w1 ⟨k,rfl,hk,hmin,hb1⟩;refine aaj ?_);refine ζ ?_;have KN:Hid (∀i,i<L->Ku.gI l k<=Ku.gI l i):=fun i hi=>by
  have:=hmin i hi;rw[HGT.out k hk,HGT.out i hi] at this;exact this
 have aI:=ζ hb1;clear hmin hb1 zY;go_wp2;go_loopw [5,6] (fun v cv wr=>∃(i:Nat),i<=L/\cv= .int .i64 (i:Int)/\aj wr w.heap.size v (Ku.ji l L k i)/\Below w.heap.size w wr) (fun _ cv _=>L-(intOf cv).toNat)
 case atStart=>exact⟨0,aax _,rfl,aj.nil _ _,aI.out⟩
 case round=>
  obtain⟨i,hi,rfl,hown,hb⟩:=hrel;have ct:=ζ hown;have HB:=ζ hb;have hs0:=hb.size;have hwi:IntKind.i64.wrap ((i:Int)+1)=(i:Int)+1:=by rw[aam];omega
  by_cases hlt:i<L
  .have aQ:(i:Int)<(L:Int):=by omega
   obtain⟨u,hu⟩:∃u,u=(k+i)%L:=⟨_,rfl⟩;have oI:u<L:=by rw[hu];exact acV _ (by omega)
   obtain⟨s,hs⟩:∃s:Nat,(k:Int)+(i:Int)=(s:Int):=⟨k+i,by omega⟩;have agr:IntKind.i64.wrap (s:Int)=(s:Int):=by rw[aam];omega
   have agH:(s:Int).tmod (L:Int)=(u:Int):=by
    rw[abS (by omega),hu,show k+i=s by omega];exact(adt s L).symm
   have u0:(0:Int)<=(u:Int):=by omega
   have u1:(u:Int)<(L:Int):=by omega
   have aha:((L:Int)==0)=false:=by simp;omega
   have ae2:(L:Int)≠0:=by omega
   obtain⟨b,o,rfl,d0⟩:=(HL.out.later hb) u _ (ym.out u oI);have HU:=ζ hu;have dW:(Ku.ji l L k i).length<=17592186044000:=by rw[Ku.mR];omega
   clear hown hb hu;go_wp2_with (at_builtin;refine bB rfl _ _ rfl _ w.heap.size _ _ (Ku.gI l u) ct.out hs0 dW rfl rfl ?_;refine aaj ?_);refine ζ ?_;intro v' w3 hrow3 _ _ hb3;have iX:=ζ hrow3;have aJ:=ζ (HB.out.trans hb3);clear hrow3 hb3;go_wp2;go_roundw
   case rel=>exact⟨i+1,by omega,by go_num,by rw[Ku.Hs,<-HU.out];exact iX.out,aJ.out⟩
   case measure=>simp[intOf];omega
  .have hd:¬((i:Int)<(L:Int)):=by omega
   obtain rfl:i=L:=by omega
   have k0:(0:Int)<=(k:Int):=by omega
   have k1:(k:Int)<(i:Int):=by omega
   obtain⟨b,o,rfl,d0⟩:=(HL.out.later hb) k _ (ym.out k hk);have dW:(Ku.ji l i k i).length<=17592186044000:=by rw[Ku.mR];omega
   clear hown hb;go_wp2_with (at_builtin;refine bB rfl _ _ rfl _ w.heap.size _ _ (Ku.gI l k) ct.out hs0 dW rfl rfl ?_;refine aaj ?_);refine ζ ?_;intro v' w3 hrow3 _ _ hb3;have hlen:(Ku.ji l i k i++[Ku.gI l k]).length=q:=by rw[aar,Ku.mR];have:=GZ.out;simp;omega
   obtain⟨xa,xc,bZ,-,-⟩:=hrow3.form;rw[hlen] at bZ;subst bZ;have hs3:w.heap.size<=w3.heap.size:=by have:=hb3.size;omega
   have j8:=ζ (tJ w.heap.size xa q xc _ w3 hlen hrow3 hs3 (by have:=GZ.out;omega) (by omega));have aJ:=ζ (HB.out.trans hb3);clear hrow3 hb3 hlen;go_wp2_with (go_at_call 152;refine j8.out.mono ?_;rintro e w4 ⟨v,rfl,ho,hb4⟩;refine aaj ?_);refine ζ ?_;have HO:=ζ ho;have dy:=ζ (aJ.out.trans (hb4.mono aJ.out.size));clear ho hb4;go_wp2;go_ret;exact⟨k,_,hk,KN.out,rfl,HO.out,dy.out⟩
end
section
open Go.Proofs.Tryz
open Go.RowKit Go.Sort
namespace Ku
section
end
end Ku
theorem I4 (n:Nat) (ao:Option Addr) (cap:Nat) (es:List (Int×Int)) (da:Option Addr) (dc:Nat) (w:World) (hv:Si.Val (n:Int) es) (he:ah w ao es) (hd:aU w da (Si.aS (n:Int) es)) (ee:Nat) (hee:ee<es.length):
 Calls prog 103 #[.agg #[.int .i64 (n:Int),.slice ao es.length cap],.slice da n dc,.int .i64 (ee:Int)] w fun e w'=>∃v,e= .returned v/\aj w' w.heap.size v (Ku.ZL (Ku.vs (Ku.gs es hv) (Ku.ch es hv ee)))/\Below w.heap.size w w':=by
 obtain⟨W,hW⟩:∃W,W=w.alloc (.cells #[.int .i64 (n:Int),.slice ao es.length cap] 24):=⟨_,rfl⟩;have hB0:Below w.heap.size w W:=by rw[hW];exact(aae _ _).alloc (aad _) _
 have g1:W.heap[w.heap.size]? =some (.cells #[.int .i64 (n:Int),.slice ao es.length cap] 24 (0,0)):=by rw[hW];exact heap_alloc_new w _
 have bQ:=hv.few;have hh:2*ee<(Ku.gs es hv).toSys.M:=show 2*ee<2*es.length by omega
 obtain⟨⟨p1,p2⟩,hp⟩:∃p,es[ee]? =some p:=⟨_,aac hee⟩;have hok:=hv.each _ _ hp;unfold Si.ok at hok;dsimp only at hok;have f1:=Cs.cY hp;have f2:=Cs.gw hp;dsimp only at f1 f2;have pL:Hid (∀(U:World),Below W.heap.size W U->Calls prog 150 #[.agg #[.int .i64 (n:Int),.slice ao es.length cap],.slice da n dc,.int .i64 p1,.int .i64 (ee:Int)] U fun e w'=>∃v,e= .returned v/\aj w' U.heap.size v (Ku.ZL (Ku.vs (Ku.gs es hv) (Ku.all (Ku.gs es hv).toSys (2*ee))))/\Below U.heap.size U w'):=fun U hU=>by
  have:=I2 n ao cap es da dc U hv ((he.later hB0).later hU) ((hd.later hB0).later hU) (2*ee) hh;rw[f1.1,show 2*ee/2=ee by omega,show((p1.toNat:Nat):Int)=p1 by omega] at this;exact this
 have pM:Hid (∀(U:World),Below W.heap.size W U->Calls prog 150 #[.agg #[.int .i64 (n:Int),.slice ao es.length cap],.slice da n dc,.int .i64 p2,.int .i64 (ee:Int)] U fun e w'=>∃v,e= .returned v/\aj w' U.heap.size v (Ku.ZL (Ku.vs (Ku.gs es hv) (Ku.all (Ku.gs es hv).toSys (2*ee+1))))/\Below U.heap.size U w'):=fun U hU=>by
  have:=I2 n ao cap es da dc U hv ((he.later hB0).later hU) ((hd.later hB0).later hU) (2*ee+1) (by omega);rw[f2.1,show(2*ee+1)/2=ee by omega,show((p2.toNat:Nat):Int)=p2 by omega] at this;exact this
 obtain⟨T,hT⟩:∃T,Ku.all (Ku.gs es hv).toSys (2*ee)=T:=⟨_,rfl⟩;obtain⟨-,hnd,lR,-⟩:=Ku.bJ hh;have Mk:=Ku.all_zero hh;have Yr:=Ku.ij hh;have Yp:=Ku.CD hh;have B8:=fun c k hk hmin=>Ku.PX (hv:=hv) hee c (k:=k) hk hmin
 have B7:=fun hend=>Ku.SR (hv:=hv) hee hend
 obtain⟨B,hB⟩:∃B,Ku.all (Ku.gs es hv).toSys (2*ee+1)=B:=⟨_,rfl⟩;have SH:B≠[]:=by
  have Gp:2*ee+1<(Ku.gs es hv).toSys.M:=show 2*ee+1<2*es.length by omega
  have:=Ku.CD Gp;rw[hB] at this;exact acq.1 this
 have hBl:B.length<=8388608:=by
  have Gp:2*ee+1<(Ku.gs es hv).toSys.M:=show 2*ee+1<2*es.length by omega
  obtain⟨-,aaZ,Yq,-⟩:=Ku.bJ Gp;have:=Ku.fk aaZ Yq;have h2:(Ku.gs es hv).toSys.M=2*es.length:=rfl;rw[hB] at this;omega
 rw[hT] at pL hnd lR Mk Yr Yp B8 B7;rw[hB] at pM B7;have nh:T.length<=8388608:=by
  have:=Ku.fk hnd lR;have h2:(Ku.gs es hv).toSys.M=2*es.length:=rfl;omega
 have Wn:T≠[]:=acq.1 Yp;obtain⟨c1,hc1⟩:∃c1,c1=Ku.ZL (Ku.vs (Ku.gs es hv) T):=⟨_,rfl⟩;have mh:c1.length=T.length+1:=by rw[hc1,Ku.bL,Ku.bC Wn]
 obtain⟨c2,hc2⟩:∃c2,c2=Ku.ZL (Ku.vs (Ku.gs es hv) B):=⟨_,rfl⟩;have hl2:c2.length=B.length+1:=by rw[hc2,Ku.bL,Ku.bC SH]
 obtain⟨R,hR⟩:∃R,R=Ku.ZL (Ku.vs (Ku.gs es hv) (Ku.ch es hv ee)):=⟨_,rfl⟩;obtain⟨lx,hlx⟩:∃lx,T[T.length-1]? =some lx:=⟨_,aac (by omega)⟩;have eR:=Ku.Q8 (hv:=hv) hlx;rw[<-hc1] at eR B8 B7 pL;rw[<-hc2] at pM B7;rw[<-hR] at B8 B7 ⊢;have NH:lx<2*es.length:=lR lx (aai hlx);have htn:=(Cs.dX hv NH).2;have oN:=Ku.GH hv htn;have Yc:=Ku.GH hv (show p1.toNat<n by omega);obtain⟨tl,Dz⟩:∃tl,tl=Cs.to es lx:=⟨_,rfl⟩;rw[<-Dz] at eR htn oN;obtain⟨du,Sg⟩:∃du,(Ku.dg es p1.toNat:Int)=du:=⟨_,rfl⟩;obtain⟨dl,NK⟩:∃dl,(Ku.dg es tl:Int)=dl:=⟨_,rfl⟩;rw[Sg] at Yc;rw[NK] at oN;have RV:(Ku.dN (Ku.gs es hv).toSys T/\(du==2)=true/\(dl==2)=true)\/((∀a,T[T.length-1]? =some a->Ku.fL es a=none)/\(dl==2)=false):=by
  rcases Yr with ⟨c,_⟩|⟨_,_,hend⟩
  .left
   have hn:Ku.fL es lx=some (2*ee):=c.OE lx (2*ee) hlx Mk;have h2:Ku.dg es tl=2:=by
    rw[Dz];refine abp fun hc=> ?_
    rw[(Ku.kX NH).2 hc] at hn;cases hn
   obtain⟨_,_,_,_,_,hfr⟩:=Ku.Be hv hn;have h3:p1.toNat=tl:=by rw[Dz,<-hfr,f1.1]
   refine⟨c,?_,by rw[<-NK,h2];rfl⟩;rw[<-Sg,h3,h2];rfl
  .right
   refine⟨hend,?_⟩;have:=(Ku.kX NH).1 (hend lx hlx);rw[<-Dz] at this;rw[<-NK];simp;omega
 have HK:=ζ RV;have HCY:=ζ B8;have kP:=ζ B7;have HE:=ζ (he.later hB0);have HD:=ζ (hd.later hB0);have HDU:=ζ Yc;have zZ:=ζ oN;have aH:=ζ hB0;have HW:=ζ hW;have HG:=ζ g1;have HLA:=ζ eR;have oq:=ζ mh;have nu:=ζ hl2;have HBP:Hid (0<B.length):=acq.2 SH;obtain⟨eb,eo,rfl,x0,x1⟩:=HE.out ee _ hp;dsimp only at x0 x1;obtain⟨q0,q1,-⟩:=af g1;have he0:(0:Int)<=(ee:Int):=by omega
 have dL:(ee:Int)<(es.length:Int):=by omega
 obtain⟨K,hK⟩:∃K,K=T.length:=⟨_,rfl⟩;rw[<-hK] at oq HLA HCY Yp nh;have HKT:=ζ hK;clear hK;have WQ:=ζ (pL.out W (aae _ _));have Po:(0:Int)<=p1:=hok.1;have agI:p1<(n:Int):=by omega
 have agv:(0:Int)<=(tl:Int):=by omega
 have agu:(tl:Int)<(n:Int):=by omega
 have vU:=aH.out.size;obtain⟨pu,rfl⟩:∃pu:Nat,p1=(pu:Int):=⟨p1.toNat,by omega⟩;rw[abz] at HDU;rw[hW] at x0 x1 q0 q1;clear he hd hB0 g1 hW hnd lR hp hT hB Yr B8 B7 RV eR Yc oN Sg NK hc1 hc2 hR hlx hok f1 f2 hh Mk mh hl2 Dz htn Wn SH NH;go_enter func103,ntmps103;go_wp2_with (go_at_call 150;rw[<-HW.out];refine WQ.out.mono ?_;rintro e w1 ⟨v,rfl,ho,hb1⟩;refine aaj ?_);refine ζ ?_;obtain⟨ta,tc,bZ,UD,-⟩:=ho.form;rw[oq.out] at bZ;have htc:K+1<=tc:=by
  have ho':=ho;unfold aj at ho';rw[oq.out,bZ] at ho';rcases ho'.2 with ⟨e,h0⟩|⟨g,c,cur,e,_,_,hcc,_⟩
  .omega
  .cases e
   exact hcc
 subst bZ;obtain⟨K1,YC⟩:∃K1,K1=K+1:=⟨_,rfl⟩;rw[<-YC] at htc ⊢;have KP:=ζ YC;have hwK:IntKind.i64.wrap ((K1:Int)-1)=(K:Int):=by rw[aam];omega
 have hK0:(0:Int)<=(K:Int):=by omega
 have hKK:(K:Int)<(K1:Int):=by omega
 have YX:=ζ UD;have aI:=ζ hb1;obtain⟨tb,tof,rfl,y0⟩:=UD K _ HLA.out;obtain⟨db,dof,rfl,y1⟩:=(HD.out.later hb1) pu _ HDU.out;obtain⟨_,_,e9,y2⟩:=(HD.out.later hb1) tl _ zZ.out;cases e9;have hs1:=hb1.size;clear ho UD hb1 x0 x1 q0 q1 WQ YC;rcases HK.out with ⟨V2,t1,t2⟩|⟨hend,t2⟩
 .have sP:=ζ (I3 (some ⟨tb,tof,none⟩) K1 tc K c1 w1 (by rw[oq.out,KP.out]) YX.out KP.out (by omega) htc (by have:=KP.out;omega))
  have ady:=ζ V2;clear V2 HK;go_wp2_with (go_at_call 151;refine sP.out.mono ?_;rintro e w2 ⟨k,v,hk,hmin,rfl,ho,hb2⟩;refine aaj ?_);refine ζ ?_;have HF:=ζ (HCY.out ady.out k (by first|exact hk|(rw[<-HKT.out];exact hk)) (by first|exact hmin|(rw[<-HKT.out];exact hmin)));have HO:=ζ ho;have aB:=ζ (aI.out.trans (hb2.mono aI.out.size));clear hmin ho hb2;go_wp2;go_ret;refine⟨_,rfl,?_,aH.out.trans (aB.out.mono aH.out.size)⟩;rw[<-HF.out];exact HO.out.lower (by omega)
 .have sQ:=ζ (pM.out w1 aI.out)
  have TM:=ζ (kP.out hend);obtain⟨q0,q1,-⟩:=af ((aI.out.block _ (lt_of_block HG.out)).trans HG.out);clear hend HK;obtain⟨tu,htu⟩:∃tu,(du==2)=tu:=⟨_,rfl⟩;cases tu
  all_goals
   go_wp2_with (go_at_call 150;refine sQ.out.mono ?_;rintro e w2 ⟨v,rfl,ho,hb2⟩;refine aaj ?_);refine ζ ?_;obtain⟨ba,bc,bZ,gY,-⟩:=ho.form;obtain⟨Kb,SB⟩:∃Kb,c2.length=Kb:=⟨_,rfl⟩;rw[SB] at bZ;subst bZ;have HKB:=ζ SB;have KU:=ζ hb2;have ahb:=ζ (YX.out.later hb2);have hs2:=hb2.size;have HCT:=ζ (oF ba Kb bc c2 w2 SB gY (by have:=nu.out;omega));clear ho gY hb2 q0 q1 y0 y1 y2 SB;go_wp2_with (go_at_call 104;refine HCT.out.mono ?_;rintro e w3 ⟨v,rfl,ho,hb3⟩;refine aaj ?_);refine ζ ?_;have ry:=ζ ho;have adN:=ζ (KU.out.trans (hb3.mono KU.out.size));have hs3:=hb3.size;clear ho hb3;go_wp2;go_loopw [12,13] (fun v cv wr=>∃(i:Nat),i<=K1/\2<=i/\cv= .int .i64 (i:Int)/\aj wr w1.heap.size v (c2.reverse++(c1.take i).drop 2)/\Below w1.heap.size w1 wr) (fun _ cv _=>K1-(intOf cv).toNat)
   case atStart=>
    refine⟨2,by have:=KP.out;omega,aad _,rfl,?_,adN.out⟩;rw[abZ (by rw[abu];omega),abQ];exact ry.out.lower hs2
   case round=>
    obtain⟨i,hi,h2i,rfl,hown,hb⟩:=hrel;have ct:=ζ hown;have HB:=ζ hb;have hs0:=hb.size;have hwi:IntKind.i64.wrap ((i:Int)+1)=(i:Int)+1:=by rw[aam];have:=KP.out;omega
    have hlen:(c2.reverse++(c1.take i).drop 2).length<=17592186044000:=by
     rw[aar,acr,ada,abu];have:=nu.out;have:=oq.out;omega
    have HLEN:=ζ hlen;by_cases hlt:i<K1
    .have aQ:(i:Int)<(K1:Int):=by omega
     have mj:(0:Int)<=(i:Int):=by omega
     obtain⟨y,hy⟩:∃y,c1[i]? =some y:=⟨_,aac (by rw[oq.out,<-KP.out];exact hlt)⟩;obtain⟨_,_,e9,z0⟩:=(YX.out.later hb) i y hy;cases e9;have HTK:Hid (c2.reverse++(c1.take (i+1)).drop 2=c2.reverse++(c1.take i).drop 2++[y]):=by
      show _=_;rw[ab5,hy,aej (by rw[abu,oq.out];have:=KP.out;omega),aaR];rfl
     clear hown hb hy hlen;go_wp2_with (at_builtin;refine bB rfl _ _ rfl _ w1.heap.size _ _ y ct.out hs0 HLEN.out rfl rfl ?_;refine aaj ?_);refine ζ ?_;intro v' w5 Rx _ _ hb5;have Y6:=ζ Rx;have fJ:=ζ (HB.out.trans hb5);clear Rx hb5;go_wp2;go_roundw
     case rel=>exact⟨i+1,by omega,by omega,by go_num,by rw[HTK.out,aaR];exact Y6.out,fJ.out⟩
     case measure=>simp[intOf];omega
    .have hd9:¬((i:Int)<(K1:Int)):=by omega
     have hall:c1.take i=c1:=aaX (by rw[oq.out];have:=KP.out;omega);rw[hall] at ct hlen;have hown':=ct.out;obtain⟨la,lc,bZ,-,-⟩:=hown'.form;obtain⟨Q,hQ⟩:∃Q,(c2.reverse++c1.drop 2).length=Q:=⟨_,rfl⟩;rw[hQ] at bZ hlen;subst bZ;have hQ2:2<=Q:=by
      rw[<-hQ,aar,acr];have:=nu.out;have:=HBP.out;omega
     have j8:=ζ (tJ w1.heap.size la Q lc _ wr hQ hown' hs0 hQ2 hlen);clear hown hb hlen hall hown' hQ;go_wp2_with (go_at_call 152;refine j8.out.mono ?_;rintro e w6 ⟨v,rfl,ho,pX⟩;refine aaj ?_);refine ζ ?_;have HO6:=ζ ho;have ot:=ζ (HB.out.trans (pX.mono HB.out.size));clear ho pX;go_wp2;go_ret;refine⟨_,rfl,?_,aH.out.trans ((aI.out.trans (ot.out.mono aI.out.size)).mono aH.out.size)⟩;rw[<-TM.out];exact HO6.out.lower (by omega)
end
section
open Go.RowKit Go.Sort
namespace Ku
section
end
end Ku
theorem Gd (n:Int) (ao:Option Addr) (cap:Nat) (es:List (Int×Int)) (w:World) (he:ah w ao es) (hl:es.length<=4611686018427387904):
 Calls Tryz.prog 63 #[.agg #[.int .i64 n,.slice ao es.length cap]] w (Ku.T6 n es w):=by
 obtain⟨W,hW⟩:∃W,W=w.alloc (.cells #[.int .i64 n,.slice ao es.length cap] 24):=⟨_,rfl⟩;have hB0:Below w.heap.size w W:=by rw[hW];exact(aae _ _).alloc (aad _) _
 have g1:W.heap[w.heap.size]? =some (.cells #[.int .i64 n,.slice ao es.length cap] 24 (0,0)):=by rw[hW];exact heap_alloc_new w _
 obtain⟨iR,UQ,U0,hR1,hR2⟩:=info_parts Tryz.lK;have pO:=ζ (tE n ao cap es W (he.later hB0) hl);have HE:=ζ (he.later hB0);have aH:=ζ hB0;have HW:=ζ hW;have HG:=ζ g1;obtain⟨q0,q1,-⟩:=af g1;have vU:=hB0.size;rw[hW] at q0 q1;clear he hB0 g1 hW;go_enter Tryz.func63,Tryz.ntmps63;go_wp2_with (go_at_call 62;rw[<-HW.out];refine pO.out.mono ?_;refine aaj ?_);refine ζ ?_;rintro e w1 ⟨cI,hb1⟩;have aI:=ζ hb1;have kB:=ζ (aH.out.trans (hb1.mono aH.out.size));rcases cI with ⟨hv,gd,m,rfl,rfl,hgd,Gt⟩|⟨hv,rfl⟩
 .have hval:Si.Val (m:Int) es:=Si.aK.1 hv
  have bQ:=hval.few;have ZC:=ζ Gt.at;have HV:=ζ hval;have yj:=ζ (HE.out.later hb1);have gL:=ζ (aX HG.out hb1);have hs1:=hb1.size;clear hv Gt hb1 q0 q1 hval pO;go_wp2;go_loopw [6,7] (fun v cv wr=>∃(i:Nat) (us:List Value),i<=es.length/\cv= .int .i64 (i:Int)/\ay wr w1.heap.size v us (Ku.rows es HV.out i)/\Below w1.heap.size w1 wr) (fun _ cv _=>es.length-(intOf cv).toNat)
  case atStart=>exact⟨0,[],aax _,rfl,ay.nil _ _,aae _ _⟩
  case round=>
   obtain⟨i,us,hi,rfl,iY,hb⟩:=hrel;obtain⟨U,rfl⟩:∃U,U=wr:=⟨wr,rfl⟩;have nr:=ζ iY;have HB:=ζ hb;obtain⟨va,vc,bZ⟩:=bG iY;obtain⟨J,hJ⟩:∃J,(Ku.rows es HV.out i).length=J:=⟨_,rfl⟩;rw[hJ] at bZ;subst bZ;have hJi:J<=i:=by rw[<-hJ,Ku.kF];exact Ku.qU i
   have HJ:=ζ hJ;obtain⟨q0,q1,-⟩:=af (aX gL.out hb);have LU:=hb.size;have hwi:IntKind.i64.wrap ((i:Int)+1)=(i:Int)+1:=by rw[aam];omega
   by_cases hlt:i<es.length
   .have aQ:(i:Int)<(es.length:Int):=by omega
    have mj:(0:Int)<=(i:Int):=by omega
    obtain⟨⟨p1,p2⟩,hp⟩:∃p,es[i]? =some p:=⟨_,aac hlt⟩;have HP:=ζ hp;clear iY hb hJ hp;go_wp2;go_loopw [8,9] (fun d cv wx=>∃(k:Nat) (b:Bool),k<=J/\cv= .int .i64 (k:Int)/\d= .bool b/\(b=true↔∃t c,t<k/\(Ku.jF es HV.out i)[t]? =some c/\Ku.By c i)/\Below U.heap.size U wx) (fun _ cv _=>J-(intOf cv).toNat)
    case atStart=>exact⟨0,false,aax _,rfl,rfl,⟨fun h=>(by cases h),fun ⟨t,c,ht,_⟩=>by omega⟩,aae _ _⟩
    case round=>
     obtain⟨k,b,hk,rfl,rfl,gY,hb⟩:=hrel;obtain⟨U1,rfl⟩:∃U1,U1=wr:=⟨wr,rfl⟩;have ZH:=ζ gY;have HBU:=ζ hb;have hwk:IntKind.i64.wrap ((k:Int)+1)=(k:Int)+1:=by rw[aam];omega
     have jX:=nr.out.later hb;have nS:Below w1.heap.size w1 U1:=HB.out.trans (hb.mono HB.out.size);by_cases XY:k<J
     .have agP:(k:Int)<(J:Int):=by omega
      have hk0:(0:Int)<=(k:Int):=by omega
      obtain⟨lr,hlr⟩:∃lr,(Ku.rows es HV.out i)[k]? =some lr:=⟨_,aac (by rw[HJ.out];exact XY)⟩;obtain⟨c,hc,hlc⟩:=Ku.qp hlr;obtain⟨x,hx⟩:=jX.at' hlr;obtain⟨gv,gc,BB,cx⟩:=Ku.qC jX hx;rw[HJ.out] at BB;have Rl:va=some ⟨gv,0,none⟩:=by cases BB;rfl
      obtain⟨xa,xc,jB,eP,-⟩:=(jX.row k x lr hx hlr).form;have ng:=Ku.wE (hv:=HV.out) hi (aai hc);obtain⟨Ln,ux⟩:∃Ln,lr.length=Ln:=⟨_,rfl⟩;have zR:1<=Ln/\Ln<=17592186044000:=by
       rw[<-ux,hlc,Ku.bL,Ku.bC ng.ne];have:=Ku.GK ng;omega
      rw[ux] at jB;subst jB;obtain⟨bk,hbk⟩:∃bk:Bool,bk=true↔Ku.By c i:=by
       by_cases h:Ku.By c i
       .exact⟨true,⟨fun _=>h,fun _=>rfl⟩⟩
       .exact⟨false,⟨fun hh=>(by cases hh),fun hh=>absurd hh h⟩⟩
      have G7:Hid (∀D:LW U1,Calls Tryz.prog 102 #[.slice xa Ln xc,.agg #[.int .i64 p1,.int .i64 p2]] D.val fun e w'=>e= .returned (.bool bk)/\Below D.val.heap.size D.val w'):=fun D=>by
       refine(IY xa Ln xc lr p1 p2 D.val ux (eP.later D.h) zR.1 zR.2).mono ?_;rintro e w' ⟨r,rfl,hr,hbr⟩;refine⟨?_,hbr⟩;have:=Ku.QC ng HP.out;dsimp only at this;rw[<-hlc] at this;have e1:r=bk:=by
        cases r<;>cases bk<;>simp_all
       rw[e1]
      obtain⟨eb,eo,rfl,x0,x1⟩:=(yj.out.later nS) i _ HP.out;dsimp only at x0 x1;obtain⟨-,r1,-⟩:=af (aX gL.out nS);have d0:∀D:LW U1,D.val.cell? ⟨gv,k,none⟩=some (.slice xa Ln xc):=fun D=>(D.h.cell (p:=⟨gv,k,none⟩) (block_lt_of_cell cx)).trans cx
      have d1:∀D:LW U1,D.val.cell? ⟨w.heap.size,1,none⟩=some (.slice (some ⟨eb,eo,none⟩) es.length cap):=fun D=>(D.h.cell (p:=⟨w.heap.size,1,none⟩) (block_lt_of_cell r1)).trans r1
      have d2:∀D:LW U1,D.val.cell? ⟨eb,eo+i*2,none⟩=some (.int .i64 p1):=fun D=>(D.h.cell (p:=⟨eb,eo+i*2,none⟩) (block_lt_of_cell x0)).trans x0
      have d3:∀D:LW U1,D.val.cell? ⟨eb,eo+i*2+1,none⟩=some (.int .i64 p2):=fun D=>(D.h.cell (p:=⟨eb,eo+i*2+1,none⟩) (block_lt_of_cell x1)).trans x1
      have hne:=LW.any U1;have gS:Hid ((b||bk)=true↔∃t c,t<k+1/\(Ku.jF es HV.out i)[t]? =some c/\Ku.By c i):=by
       rw[abR,ZH.out,hbk];constructor
       .rintro(⟨t,c',ht,h1,h2⟩|h)
        .exact⟨t,c',by omega,h1,h2⟩
        .exact⟨k,c,by omega,hc,h⟩
       .rintro⟨t,c',ht,h1,h2⟩
        by_cases e:t=k
        .subst e
         rw[hc] at h1;cases h1;exact .inr h2
        .exact .inl ⟨t,c',by omega,h1,h2⟩
      subst Rl;clear gY hb jX hlr hc hlc hx cx BB eP ng ux x0 x1 r1 nS hbk;cases bk
      all_goals
       go_wp2_with fail;refine aG (by kernel_rfl) (by kernel_rfl) ?_
       repeat (go_big_quiet_step ((first|(go_at_call 102;exact Calls.lw (G7.out _)))))
       refine wpQuiet_nil ?_;rintro _ ⟨E,rfl⟩;have bT:=ζ (HBU.out.trans (E.h.mono HBU.out.size));obtain⟨WE,cX⟩:∃WE,WE=E.val:=⟨_,rfl⟩;rw[<-cX] at bT ⊢;clear d0 d1 d2 d3 hne cX;go_wp2;go_roundw
       case rel=>exact⟨k+1,_,by omega,by go_num,by first|rfl|(simp;done),by have:=gS.out;simpa using this,bT.out⟩
       case measure=>simp[intOf];omega
     .have hd:¬((k:Int)<(J:Int)):=by omega
      obtain rfl:k=J:=by omega
      have Gi:b=true↔¬Ku.First es HV.out i:=by
       rw[<-Ku.Ev hlt,gY];constructor
       .rintro⟨t,c,ht,h1,h2⟩
        exact⟨c,aai h1,h2⟩
       .rintro⟨c,h1,h2⟩
        obtain⟨t,ht⟩:=aaS h1;refine⟨t,c,?_,ht,h2⟩;have:=(aah.1 ht).1;rw[<-HJ.out,Ku.kF];exact this
      cases b with
      |true=>
       have hnf:¬Ku.First es HV.out i:=Gi.1 rfl;have HN:Hid (Ku.rows es HV.out (i+1)=Ku.rows es HV.out i):=Ku.Ia hnf;have oh:=ζ jX;have aB:=ζ nS;clear Gi hnf gY hb jX nS;go_wp2;go_roundw
       case rel=>exact⟨i+1,us,by omega,by go_num,by rw[HN.out];exact oh.out,aB.out⟩
       case measure=>simp[intOf];omega
      |false=>
       have hnf:Ku.First es HV.out i:=abp fun h=>by have:=Gi.2 h;cases this
       have HN:Hid (Ku.rows es HV.out (i+1)=Ku.rows es HV.out i++[Ku.ZL (Ku.vs (Ku.gs es HV.out) (Ku.ch es HV.out i))]):=Ku.Ex hnf;have iz:=ζ (I4 m ao cap es (some ⟨gd,0,none⟩) m U1 HV.out (yj.out.later nS) (ZC.out.later nS) i hlt);obtain⟨r0,r1,-⟩:=af (aX gL.out nS);have oh:=ζ jX;have aB:=ζ nS;clear Gi hnf gY hb jX nS;go_wp2_with (go_at_call 103;refine iz.out.mono ?_;rintro e U2 ⟨v,rfl,ho,hb2⟩;refine aaj ?_);refine ζ ?_;obtain⟨xa,xc,bZ,-,-⟩:=ho.form;obtain⟨Lc,PB⟩:∃Lc,(Ku.ZL (Ku.vs (Ku.gs es HV.out) (Ku.ch es HV.out i))).length=Lc:=⟨_,rfl⟩;rw[PB] at bZ;subst bZ;have hr2:=oh.out.later hb2;have hout:=hr2.outer;rw[HJ.out] at hout;have CW:=ζ hout;have Tm:=ζ hr2;have HO:=ζ ho;have aJ:=ζ (aB.out.trans (hb2.mono aB.out.size));have hs2:=aJ.out.size;have hsu:=hb2.size;have HWT:Hid (∀b',((Value.slice va k vc).ownBlock=some b'\/∃(u:Nat) (y:Value),us[u]? =some y/\y.ownBlock=some b')->b'<U1.heap.size):=fun b' hb'=>by
        rcases hb' with hb'|⟨u,y,hy,hb'⟩
        .exact(aap oh.out.outer b' hb').2
        .obtain⟨l',hl'⟩:=oh.out.at hy
         exact(aap (oh.out.row u y l' hy hl') b' hb').2
       clear hr2 hout ho hb2 r0 r1 PB;go_wp2_with (at_builtin;refine wpList_append_own_at _ rfl _ _ 25 rfl w1.heap.size 55 iR (.slice none 0 0) 1 24 Tryz.underlying25 UQ U0 hR1 hR2 rfl (by decide) _ _ _ rfl (abH CW.out _) ⟨U2.heap.size,0,none⟩ 1 1 [.slice xa Lc xc] rfl rfl (cell_one_new _ _ _) (by simp[Value.oneCell']) (by unfold maxLen;omega) (by omega) (by simp;omega) ?_;refine aaj ?_);refine ζ ?_;intro v' w4 mX kL _ lQ;have qJ:v'.ownBlock=(Value.slice va k vc).ownBlock\/v'.ownBlock=some (U2.heap.size+1):=by simpa using lQ
       have DR:=Tm.out.grow (x:= .slice xa Lc xc) (l:=Ku.ZL (Ku.vs (Ku.gs es HV.out) (Ku.ch es HV.out i))) (v':=v') (HO.out.lower aB.out.size) (fun u y b' hy hyb e=>by
        have a1:=HWT.out b' (.inr ⟨u,y,hy,hyb⟩);have a2:=(aap HO.out b' e).1;omega) (fun b' hb' e=>by
        have a1:=HWT.out b' (.inl hb');have a2:=(aap HO.out b' e).1;omega) (by rw[HJ.out];exact mX) kL qJ
       have Sq:Below w1.heap.size w1 w4:=((aJ.out.trans (((aae U2.heap.size U2).alloc (aad _) _).mono aJ.out.size)).grown kL (by simp;omega) (fun j hj=>(aap oh.out.outer j hj).1));have xY:=ζ DR;have adG:=ζ Sq;clear mX kL lQ qJ DR Sq;go_wp2;go_roundw
       case rel=>exact⟨i+1,_,by omega,by go_num,by rw[HN.out];exact xY.out,adG.out⟩
       case measure=>simp[intOf];omega
   .have hd:¬((i:Int)<(es.length:Int)):=by omega
    obtain rfl:i=es.length:=by omega
    clear iY hb hJ;go_wp2;go_ret2;exact⟨.inr ⟨HV.out,_,us,rfl,nr.out.lower (by omega)⟩,kB.out.trans (HB.out.mono kB.out.size)⟩
 .have HV:=ζ hv
  clear hv hb1 q0 q1;go_wp2;go_ret2;exact⟨.inl ⟨HV.out,rfl⟩,kB.out⟩
end
section
open Go.Proofs.Tryz
open Go.RowKit Go.Sort
namespace Ku
end Ku
theorem vR (ao:Option Addr) (q c:Nat) (l:List Int) (d:Int) (w:World) (hq:l.length=q) (h:aU w ao l) (hl:q<=17592186044000):
 Calls prog 64 #[.slice ao q c,.int .i64 d] w fun e w'=>∃v,e= .returned v/\aj w' w.heap.size v (Ku.cA l d q)/\Below w.heap.size w w':=by
 have HL:=ζ h;have HQ:=ζ hq;clear h hq;go_enter func64,ntmps64;go_wp2;go_loopw [5,6] (fun v cv wr=>∃k:Nat,k<=q/\cv= .int .i64 (k:Int)/\aj wr w.heap.size v (Ku.cA l d k)/\Below w.heap.size w wr) (fun _ cv _=>q-(intOf cv).toNat)
 case atStart=>exact⟨0,aax _,rfl,aj.nil _ _,aae _ _⟩
 case round=>
  obtain⟨k,hk,rfl,hown,hb⟩:=hrel;have ct:=ζ hown;have HB:=ζ hb;have hs0:=hb.size;have hwk:IntKind.i64.wrap ((k:Int)+1)=(k:Int)+1:=by rw[aam];omega
  by_cases hlt:k<q
  .have hk0:(0:Int)<=(k:Int):=by omega
   have hk1:(k:Int)<(q:Int):=by omega
   obtain⟨y,hy⟩:∃y,l[k]? =some y:=⟨_,aac (by rw[HQ.out];omega)⟩;obtain⟨b,o,rfl,d0⟩:=(HL.out.later hb) k y hy;have UT:=Ku.bK hy;by_cases Ph:y=d
   .have t1:(y==d)=true:=by simp[Ph]
    have HN:Hid (Ku.cA l d (k+1)=Ku.cA l d k++[(k:Int)]):=by
     show(if Ku.gI l k=d then _ else _)=_;rw[if_pos (by rw[UT];exact Ph)]
    have dW:(Ku.cA l d k).length<=17592186044000:=by have:=Ku.mE l d k;omega
    clear hown hb hy UT Ph;go_wp2_with (at_builtin;refine bB rfl _ _ rfl _ w.heap.size _ _ (k:Int) ct.out hs0 dW rfl rfl ?_;refine aaj ?_);refine ζ ?_;intro v' w3 hrow3 _ _ hb3;have iX:=ζ hrow3;have aJ:=ζ (HB.out.trans hb3);clear hrow3 hb3;go_wp2;go_roundw
    case rel=>exact⟨k+1,by omega,by go_num,by rw[HN.out];exact iX.out,aJ.out⟩
    case measure=>simp[intOf];omega
   .have t1:(y==d)=false:=by simp[Ph]
    have HN:Hid (Ku.cA l d (k+1)=Ku.cA l d k):=by
     show(if Ku.gI l k=d then _ else _)=_;rw[if_neg (by rw[UT];exact Ph)]
    clear hown hb hy UT Ph;go_wp2;go_roundw
    case rel=>exact⟨k+1,by omega,by go_num,by rw[HN.out];exact ct.out,HB.out⟩
    case measure=>simp[intOf];omega
  .have hd:¬((k:Int)<(q:Int)):=by omega
   obtain rfl:k=q:=by omega
   clear hown hb;go_wp2;go_ret;exact⟨_,rfl,ct.out,HB.out⟩
theorem Dt (B:Nat) (ao:Option Addr) (J c:Nat) (us:List Value) (ls:List (List Int)) (x y:Int) (w:World) (hJ:ls.length=J) (h:ay w B (.slice ao J c) us ls) (hl:J<=17592186044000)
 (hr:∀l∈ls,1<=l.length/\l.length<=17592186044000):
 Calls prog 66 #[.slice ao J c,.int .i64 x,.int .i64 y] w (Ku.T7 us ls x y w):=by
 have nr:=ζ h;have HJ:=ζ hJ;have HR:=ζ hr;clear h hJ hr;go_enter func66,ntmps66;go_wp2;go_loopw [8,9,10] (fun v nv cv wr=>∃k:Nat,k<=J/\cv= .int .i64 (k:Int)/\nv= .int .i64 (((Ku.cj ls x y k).2:Nat):Int)/\Ku.fq wr v (Ku.cj ls x y k).1/\Ku.From us w v/\Below w.heap.size w wr) (fun _ _ cv _=>J-(intOf cv).toNat)
 case atStart=>exact⟨0,aax _,rfl,rfl,⟨none,0,rfl,fun i p hp=>by cases hp⟩,(fun b hb=>by cases hb),aae _ _⟩
 case round=>
  obtain⟨k,hk,rfl,rfl,Rt,hfr,hb⟩:=hrel;have yh:=ζ hfr;clear hfr;obtain⟨U,rfl⟩:∃U,U=wr:=⟨wr,rfl⟩;have CU:=ζ Rt;have HB:=ζ hb;have hs0:=hb.size;have hwk:IntKind.i64.wrap ((k:Int)+1)=(k:Int)+1:=by rw[aam];omega
  obtain⟨N,hN⟩:∃N,(Ku.cj ls x y k).2=N:=⟨_,rfl⟩;have hNk:N<=k:=by rw[<-hN];exact Ku.Kq ls x y k
  have hwN:IntKind.i64.wrap ((N:Int)+1)=(N:Int)+1:=by rw[aam];omega
  have HN:=ζ hN;rw[hN];by_cases hlt:k<J
  .have hk0:(0:Int)<=(k:Int):=by omega
   have hk1:(k:Int)<(J:Int):=by omega
   obtain⟨lr,hlr⟩:∃lr,ls[k]? =some lr:=⟨_,aac (by rw[HJ.out];exact hlt)⟩;have jX:=nr.out.later hb;obtain⟨u,hu⟩:=jX.at' hlr;obtain⟨gv,gc,BB,cx⟩:=Ku.qC jX hu;rw[HJ.out] at BB;have Rl:ao=some ⟨gv,0,none⟩:=by cases BB;rfl
   obtain⟨xa,xc,jB,eP,-⟩:=(jX.row k u lr hu hlr).form;obtain⟨Ln,ux⟩:∃Ln,lr.length=Ln:=⟨_,rfl⟩;have zR:1<=Ln/\Ln<=17592186044000:=by rw[<-ux];exact HR.out lr (aai hlr)
   obtain⟨hL1,hL2⟩:=zR;rw[ux] at jB;subst jB;subst Rl;obtain⟨a,ha⟩:∃a,lr[0]? =some a:=⟨_,aac (by omega)⟩;obtain⟨z,hz⟩:∃z,lr[Ln-1]? =some z:=⟨_,aac (by omega)⟩;obtain⟨b,o,BW,e0⟩:=eP 0 a ha;obtain⟨b',o',JD,e1⟩:=eP (Ln-1) z hz;rw[BW] at JD;cases JD;subst BW;have fj:(0:Int)<(Ln:Int):=by omega
   have hwL:IntKind.i64.wrap ((Ln:Int)-1)=((Ln-1:Nat):Int):=by rw[aam];omega
   have hL3:(0:Int)<=((Ln-1:Nat):Int):=by omega
   have hL4:((Ln-1:Nat):Int)<(Ln:Int):=by omega
   have ga:=Ku.bK ha;have gz:=Ku.bK hz;have KC:=ζ eP;have M7:Hid (Ku.From us w (.slice (some ⟨b,o,none⟩) Ln xc)):=fun b' hb'=> .inl ⟨_,aai hu,hb'⟩
   have CX:=ζ hlr;have l6:=ζ ux;have HH:Hid (Ku.hit lr x y=if a=x/\z=y then some lr else if a=y/\z=x then some lr.reverse else none):=by
    refine ζ ?_;unfold Ku.hit;rw[ux,ga,gz]
   have HS:Hid (∀r,Ku.hit lr x y=some r->Ku.cj ls x y (k+1)=(r,N+1)):=fun r h=>by rw[Ku.uO CX.out h,HN.out]
   have cG:Hid (Ku.hit lr x y=none->Ku.cj ls x y (k+1)=Ku.cj ls x y k):=fun h=>Ku.uP CX.out h
   simp only[abN] at e0;clear Rt hb hlr jX hu BB ux ha hz eP ga gz hN;by_cases c1:a=x/\z=y
   .obtain⟨c1,c2⟩:=c1
    have t1:(a==x)=true:=by simp[c1]
    have t2:(z==y)=true:=by simp[c2]
    have HX:Hid (Ku.cj ls x y (k+1)=(lr,N+1)):=HS.out _ (by rw[HH.out,if_pos ⟨c1,c2⟩]);clear c1 c2;go_wp2;go_roundw
    case rel=>exact⟨k+1,by omega,by go_num,by rw[HX.out];go_num,by rw[HX.out];exact⟨_,_,by rw[l6.out],KC.out⟩,M7.out,HB.out⟩
    case measure=>simp[intOf];omega
   .by_cases c3:a=y/\z=x
    .have HX:Hid (Ku.cj ls x y (k+1)=(lr.reverse,N+1)):=HS.out _ (by rw[HH.out,if_neg c1,if_pos c3])
     have HT:=ζ (oF (some ⟨b,o,none⟩) Ln xc lr U l6.out KC.out hL2);have t3:(a==y)=true:=by simp[c3.1]
     have t4:(z==x)=true:=by simp[c3.2]
     by_cases c4:a=x
     .have t1:(a==x)=true:=by simp[c4]
      have t2:(z==y)=false:=beq_eq_false_iff_ne.2 fun h=>c1 ⟨c4,h⟩
      clear c1 c3 c4;go_wp2_with (go_at_call 104;refine HT.out.mono ?_;rintro e U2 ⟨v,rfl,ho,hb2⟩;refine aaj ?_);refine ζ ?_;obtain⟨ya,yc,zJ,Jd,-⟩:=ho.form;have HY:=ζ Jd;have YS:=ζ zJ;have C3:Hid (Ku.From us w v):=fun b' hb'=> .inr (aaD hs0 (aap ho b' hb').1)
      have aB:=ζ (HB.out.trans (hb2.mono HB.out.size));clear ho hb2 Jd zJ;go_wp2;go_roundw
      case rel=>exact⟨k+1,by omega,by go_num,by rw[HX.out];go_num,by rw[HX.out];exact⟨_,_,YS.out,HY.out⟩,C3.out,aB.out⟩
      case measure=>simp[intOf];omega
     .have t1:(a==x)=false:=by simp[c4]
      clear c1 c3 c4;go_wp2_with (go_at_call 104;refine HT.out.mono ?_;rintro e U2 ⟨v,rfl,ho,hb2⟩;refine aaj ?_);refine ζ ?_;obtain⟨ya,yc,zJ,Jd,-⟩:=ho.form;have HY:=ζ Jd;have YS:=ζ zJ;have C3:Hid (Ku.From us w v):=fun b' hb'=> .inr (aaD hs0 (aap ho b' hb').1)
      have aB:=ζ (HB.out.trans (hb2.mono HB.out.size));clear ho hb2 Jd zJ;go_wp2;go_roundw
      case rel=>exact⟨k+1,by omega,by go_num,by rw[HX.out];go_num,by rw[HX.out];exact⟨_,_,YS.out,HY.out⟩,C3.out,aB.out⟩
      case measure=>simp[intOf];omega
    .have HX:Hid (Ku.cj ls x y (k+1)=Ku.cj ls x y k):=cG.out (by rw[HH.out,if_neg c1,if_neg c3])
     have rC:=ζ c1;have Ec:=ζ c3;clear c1 c3;by_cases c4:a=x
     .have t1:(a==x)=true:=by simp[c4]
      have t2:(z==y)=false:=beq_eq_false_iff_ne.2 fun h=>rC.out ⟨c4,h⟩
      by_cases c5:a=y
      .have t3:(a==y)=true:=by simp[c5]
       have t4:(z==x)=false:=beq_eq_false_iff_ne.2 fun h=>Ec.out ⟨c5,h⟩
       clear c4 c5;go_wp2;go_roundw
       case rel=>exact⟨k+1,by omega,by go_num,by rw[HX.out,HN.out],by rw[HX.out];exact CU.out,yh.out,HB.out⟩
       case measure=>simp[intOf];omega
      .have t3:(a==y)=false:=by simp[c5]
       clear c4 c5;go_wp2;go_roundw
       case rel=>exact⟨k+1,by omega,by go_num,by rw[HX.out,HN.out],by rw[HX.out];exact CU.out,yh.out,HB.out⟩
       case measure=>simp[intOf];omega
     .have t1:(a==x)=false:=by simp[c4]
      by_cases c5:a=y
      .have t3:(a==y)=true:=by simp[c5]
       have t4:(z==x)=false:=beq_eq_false_iff_ne.2 fun h=>Ec.out ⟨c5,h⟩
       clear c4 c5;go_wp2;go_roundw
       case rel=>exact⟨k+1,by omega,by go_num,by rw[HX.out,HN.out],by rw[HX.out];exact CU.out,yh.out,HB.out⟩
       case measure=>simp[intOf];omega
      .have t3:(a==y)=false:=by simp[c5]
       clear c4 c5;go_wp2;go_roundw
       case rel=>exact⟨k+1,by omega,by go_num,by rw[HX.out,HN.out],by rw[HX.out];exact CU.out,yh.out,HB.out⟩
       case measure=>simp[intOf];omega
  .have hd:¬((k:Int)<(J:Int)):=by omega
   obtain rfl:k=J:=by omega
   clear Rt hb hN;go_wp2;go_ret2;exact⟨_,by rw[HJ.out,HN.out];rfl,by rw[HJ.out];exact CU.out,yh.out,HB.out⟩
end
section
open Go.RowKit Go.Sort
namespace Ku
end Ku
theorem IZ (B:Nat) (ao:Option Addr) (J c:Nat) (us:List Value) (ls:List (List Int)) (ho:Option Addr) (q hc:Nat) (h:List Int) (w:World) (hJ:ls.length=J) (hrows:ay w B (.slice ao J c) us ls) (hl:J<=17592186044000)
 (hr:∀l∈ls,1<=l.length/\l.length<=17592186044000) (hq:h.length=q) (hi:aU w ho h) (pV:q<=17592186044000):
 Calls Tryz.prog 65 #[.slice ao J c,.slice ho q hc] w fun e w'=>∃v,e= .returned v/\aj w' w.heap.size v (Ku.e6 ls h q++Ku.iO ls h q)/\Below w.heap.size w w':=by
 have nr:=ζ hrows;have HJ:=ζ hJ;have HR:=ζ hr;have HI:=ζ hi;have HQ:=ζ hq;clear hrows hJ hr hi hq;go_enter Tryz.func65,Tryz.ntmps65;go_wp2;go_loopw [5,6,7] (fun v1 v2 cv wr=>∃i:Nat,i<=q/\cv= .int .i64 (i:Int)/\Ku.CH wr w.heap.size v1 v2 (Ku.e6 ls h i) (Ku.iO ls h i)/\Below w.heap.size w wr) (fun _ _ cv _=>q-(intOf cv).toNat)
 case atStart=>exact⟨0,aax _,rfl,⟨aj.nil _ _,aj.nil _ _,fun b hb=>by cases hb⟩,aae _ _⟩
 case round=>
  obtain⟨i,hiq,rfl,Xx,hb⟩:=hrel;obtain⟨U,rfl⟩:∃U,U=wr:=⟨wr,rfl⟩;have KE:=ζ Xx;have HB:=ζ hb;have hs0:=hb.size;have hwi:IntKind.i64.wrap ((i:Int)+1)=(i:Int)+1:=by rw[aam];omega
  have hlen:=Ku.tX ls h i;by_cases hlt:i<q
  .have mj:(0:Int)<=(i:Int):=by omega
   have hi1:(i:Int)<(q:Int):=by omega
   have hq1:(0:Int)<(q:Int):=by omega
   obtain⟨h0,UR⟩:∃x,h[0]? =some x:=⟨_,aac (by rw[HQ.out];omega)⟩;obtain⟨hx,X8⟩:∃x,h[i]? =some x:=⟨_,aac (by rw[HQ.out];omega)⟩;have YD:=HI.out.later hb;obtain⟨hb0,XL,hho,f0⟩:=YD 0 h0 UR;obtain⟨ag4,agJ,VX,f1⟩:=YD i hx X8;rw[hho] at VX;cases VX;subst hho;simp only[abN] at f0;have G0:=ζ (Ku.bK UR);have GX:=ζ (Ku.bK X8);have Tm:=ζ (nr.out.later hb);clear Xx hb UR X8 YD;go_wp2;go_loopw [8,9] (fun d cv wx=>∃(k:Nat) (b:Bool),k<=J/\cv= .int .i64 (k:Int)/\d= .bool b/\(b=true↔∃t l,t<k/\ls[t]? =some l/\Ku.xU l h0 hx)/\wx=U) (fun _ cv _=>J-(intOf cv).toNat)
   case atStart=>exact⟨0,false,aax _,rfl,rfl,⟨fun h=>(by cases h),fun ⟨t,c,ht,_⟩=>by omega⟩,rfl⟩
   case round=>
    obtain⟨k,b,hk,rfl,rfl,gY,hwr⟩:=hrel;subst hwr;have ZH:=ζ gY;have hwk:IntKind.i64.wrap ((k:Int)+1)=(k:Int)+1:=by rw[aam];omega
    by_cases XY:k<J
    .have hk0:(0:Int)<=(k:Int):=by omega
     have hk1:(k:Int)<(J:Int):=by omega
     obtain⟨lr,hlr⟩:∃lr,ls[k]? =some lr:=⟨_,aac (by rw[HJ.out];exact XY)⟩;obtain⟨u,hu⟩:=Tm.out.at' hlr;obtain⟨gv,gc,BB,cx⟩:=Ku.qC Tm.out hu;rw[HJ.out] at BB;have Rl:ao=some ⟨gv,0,none⟩:=by cases BB;rfl
     obtain⟨xa,xc,jB,eP,-⟩:=(Tm.out.row k u lr hu hlr).form;obtain⟨Ln,ux⟩:∃Ln,lr.length=Ln:=⟨_,rfl⟩;have zR:1<=Ln/\Ln<=17592186044000:=by rw[<-ux];exact HR.out lr (aai hlr)
     obtain⟨hL1,hL2⟩:=zR;rw[ux] at jB;subst jB;subst Rl;obtain⟨a,ha⟩:∃a,lr[0]? =some a:=⟨_,aac (by omega)⟩;obtain⟨z,hz⟩:∃z,lr[Ln-1]? =some z:=⟨_,aac (by omega)⟩;obtain⟨b1,o1,BW,e0⟩:=eP 0 a ha;obtain⟨b1',o1',JD,e1⟩:=eP (Ln-1) z hz;rw[BW] at JD;cases JD;subst BW;have fj:(0:Int)<(Ln:Int):=by omega
     have hwL:IntKind.i64.wrap ((Ln:Int)-1)=((Ln-1:Nat):Int):=by rw[aam];omega
     have hL3:(0:Int)<=((Ln-1:Nat):Int):=by omega
     have hL4:((Ln-1:Nat):Int)<(Ln:Int):=by omega
     have ga:=Ku.bK ha;have gz:=Ku.bK hz;obtain⟨y1,hy1⟩:∃y,(a==h0)=y:=⟨_,rfl⟩;obtain⟨y2,hy2⟩:∃y,(z==hx)=y:=⟨_,rfl⟩;obtain⟨y3,Pj⟩:∃y,(z==h0)=y:=⟨_,rfl⟩;obtain⟨y4,hy4⟩:∃y,(a==hx)=y:=⟨_,rfl⟩;have gS:Hid ((b||(y1&&y2||y3&&y4))=true↔∃t l,t<k+1/\ls[t]? =some l/\Ku.xU l h0 hx):=by
      refine ζ ?_;have DG:(y1&&y2||y3&&y4)=true↔Ku.xU lr h0 hx:=by
       unfold Ku.xU;rw[ux,ga,gz,<-hy1,<-hy2,<-Pj,<-hy4];simp
      rw[abR,ZH.out,DG];constructor
      .rintro(⟨t,c',ht,h1,h2⟩|h)
       .exact⟨t,c',by omega,h1,h2⟩
       .exact⟨k,lr,by omega,hlr,h⟩
      .rintro⟨t,c',ht,h1,h2⟩
       by_cases e:t=k
       .subst e
        rw[hlr] at h1;cases h1;exact .inr h2
       .exact .inl ⟨t,c',by omega,h1,h2⟩
     simp only[abN] at e0;clear gY hlr hu BB ux ha hz eP ga gz;cases y1<;>cases y2<;>cases y3<;>cases y4
     all_goals
      go_wp2;go_roundw
      case rel=>exact⟨k+1,_,by omega,by go_num,by first|rfl|(simp;done),by have:=gS.out;simpa using this,by first|rfl|trivial⟩
      case measure=>simp[intOf];omega
    .have hd:¬((k:Int)<(J:Int)):=by omega
     obtain rfl:k=J:=by omega
     have hin:b=true↔∃l∈ls,Ku.xU l (Ku.gI h 0) (Ku.gI h i):=by
      rw[G0.out,GX.out,gY];constructor
      .rintro⟨t,l,_,h1,h2⟩
       exact⟨l,aai h1,h2⟩
      .rintro⟨l,h1,h2⟩
       obtain⟨t,ht⟩:=aaS h1;exact⟨t,l,by rw[<-HJ.out];exact(aah.1 ht).1,ht,h2⟩
     have JH:(b=true/\0<i)↔Ku.jM ls h i:=by unfold Ku.jM;rw[hin]
     by_cases cI:b=true/\0<i
     .obtain⟨rfl,hpos⟩:=cI
      have hpi:(0:Int)<(i:Int):=by omega
      have hA:=JH.1 ⟨rfl,hpos⟩;have lZ:Hid (Ku.e6 ls h (i+1)=Ku.e6 ls h i):=Ku.EI hA;have wP:Hid (Ku.iO ls h (i+1)=Ku.iO ls h i++[hx]):=by have:=Ku.JY hA;rw[GX.out] at this;exact this
      have dW:(Ku.iO ls h i).length<=17592186044000:=by omega
      clear gY hin JH hA;go_wp2_with (at_builtin;refine bB rfl _ _ rfl _ w.heap.size _ _ hx KE.out.two hs0 dW rfl rfl ?_;refine aaj ?_);refine ζ ?_;intro v' w3 hrow3 hg3 iC hb3;have Tg:=ζ (KE.out.swap.push hrow3 hg3 iC).swap;have aJ:=ζ (HB.out.trans hb3);clear hrow3 hg3 iC hb3;go_wp2;go_roundw
      case rel=>exact⟨i+1,by omega,by go_num,by rw[lZ.out,wP.out];exact Tg.out,aJ.out⟩
      case measure=>simp[intOf];omega
     .have hA:¬Ku.jM ls h i:=fun x=>cI (JH.2 x)
      have lZ:Hid (Ku.e6 ls h (i+1)=Ku.e6 ls h i++[hx]):=by have:=Ku.II hA;rw[GX.out] at this;exact this
      have wP:Hid (Ku.iO ls h (i+1)=Ku.iO ls h i):=Ku.NT hA;have dW:(Ku.e6 ls h i).length<=17592186044000:=by omega
      cases b with
      |true=>
       have hpi:¬(0:Int)<(i:Int):=fun x=>cI ⟨rfl,by omega⟩
       clear gY hin JH hA cI;go_wp2_with (at_builtin;refine bB rfl _ _ rfl _ w.heap.size _ _ hx KE.out.one hs0 dW rfl rfl ?_;refine aaj ?_);refine ζ ?_;intro v' w3 hrow3 hg3 iC hb3;have Tg:=ζ (KE.out.push hrow3 hg3 iC);have aJ:=ζ (HB.out.trans hb3);clear hrow3 hg3 iC hb3;go_wp2;go_roundw
       case rel=>exact⟨i+1,by omega,by go_num,by rw[lZ.out,wP.out];exact Tg.out,aJ.out⟩
       case measure=>simp[intOf];omega
      |false=>
       clear gY hin JH hA cI;go_wp2_with (at_builtin;refine bB rfl _ _ rfl _ w.heap.size _ _ hx KE.out.one hs0 dW rfl rfl ?_;refine aaj ?_);refine ζ ?_;intro v' w3 hrow3 hg3 iC hb3;have Tg:=ζ (KE.out.push hrow3 hg3 iC);have aJ:=ζ (HB.out.trans hb3);clear hrow3 hg3 iC hb3;go_wp2;go_roundw
       case rel=>exact⟨i+1,by omega,by go_num,by rw[lZ.out,wP.out];exact Tg.out,aJ.out⟩
       case measure=>simp[intOf];omega
  .have hd:¬((i:Int)<(q:Int)):=by omega
   obtain rfl:i=q:=by omega
   clear Xx hb;go_wp2_with (at_builtin;refine Fj rfl _ _ rfl _ w.heap.size _ _ _ _ KE.out.one KE.out.two hs0 (by omega) rfl rfl ?_;refine aaj ?_);refine ζ ?_;intro v' w3 mY hb3;have ry:=ζ mY;have aJ:=ζ (HB.out.trans hb3);clear mY hb3;go_wp2;go_ret;exact⟨_,rfl,ry.out,aJ.out⟩
end
end Go.Proofs.YtdbjpbjocmcpkaaGreatDoor
