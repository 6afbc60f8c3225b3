import Derived.Test.YtdbjpbjocmcpkaaGreatDoorMj28
set_option maxHeartbeats 16000000
set_option maxRecDepth 100000
namespace Go.Proofs.YtdbjpbjocmcpkaaGreatDoor
section
open Go.Proofs.Tryz
open Go.RowKit Go.Sort
namespace Ku
end Ku
theorem xS (ao:Option Addr) (q c:Nat) (l:List Int) (d:Int) (w:World) (hq:l.length=q) (h:aV w ao l) (hl:q<=17592186044000):
 Calls prog 64 #[.slice ao q c,.int .i64 d] w fun e w'=>∃v,e= .returned v/\ak w' w.heap.size v (Ku.cQ l d q)/\Below w.heap.size w w':=by
 have HL:=ζ h;have HQ:=ζ hq;clear h hq;go_enter func64,ntmps64;go_wp2;go_loopw [5,6] (fun v cv wr=>∃k:Nat,k<=q/\cv= .int .i64 (k:Int)/\ak wr w.heap.size v (Ku.cQ l d k)/\Below w.heap.size w wr) (fun _ cv _=>q-(intOf cv).toNat)
 case atStart=>exact⟨0,aaR _,rfl,ak.nil _ _,aaG _ _⟩
 case round=>
  obtain⟨k,hk,rfl,hown,hb⟩:=hrel;have bK:=ζ hown;have HB:=ζ hb;have hs0:=hb.size;have hwk:IntKind.i64.wrap ((k:Int)+1)=(k:Int)+1:=by rw[aaK];omega
  by_cases hlt:k<q
  .have hk0:(0:Int)<=(k:Int):=by omega
   have hk1:(k:Int)<(q:Int):=by omega
   obtain⟨y,hy⟩:∃y,l[k]? =some y:=⟨_,aaE (by rw[HQ.out];omega)⟩;obtain⟨b,o,rfl,d0⟩:=(HL.out.later hb) k y hy;have Ym:=Ku.bR hy;by_cases Sn:y=d
   .have t1:(y==d)=true:=by simp[Sn]
    have HN:Hid (Ku.cQ l d (k+1)=Ku.cQ l d k++[(k:Int)]):=by
     show(if Ku.gI l k=d then _ else _)=_;rw[if_pos (by rw[Ym];exact Sn)]
    have eB:(Ku.cQ l d k).length<=17592186044000:=by have:=Ku.oh l d k;omega
    clear hown hb hy Ym Sn;go_wp2_with (at_builtin;refine bu rfl _ _ rfl _ w.heap.size _ _ (k:Int) bK.out hs0 eB rfl rfl ?_;refine aaI ?_);refine ζ ?_;intro v' w3 hrow3 _ _ hb3;have fK:=ζ hrow3;have aK:=ζ (HB.out.trans hb3);clear hrow3 hb3;go_wp2;go_roundw
    case rel=>exact⟨k+1,by omega,by go_num,by rw[HN.out];exact fK.out,aK.out⟩
    case measure=>simp[intOf];omega
   .have t1:(y==d)=false:=by simp[Sn]
    have HN:Hid (Ku.cQ l d (k+1)=Ku.cQ l d k):=by
     show(if Ku.gI l k=d then _ else _)=_;rw[if_neg (by rw[Ym];exact Sn)]
    clear hown hb hy Ym Sn;go_wp2;go_roundw
    case rel=>exact⟨k+1,by omega,by go_num,by rw[HN.out];exact bK.out,HB.out⟩
    case measure=>simp[intOf];omega
  .have hd:¬((k:Int)<(q:Int)):=by omega
   obtain rfl:k=q:=by omega
   clear hown hb;go_wp2;go_ret;exact⟨_,rfl,bK.out,HB.out⟩
theorem Fv (B:Nat) (ao:Option Addr) (J c:Nat) (us:List Value) (ls:List (List Int)) (x y:Int) (w:World) (hJ:ls.length=J) (h:ay w B (.slice ao J c) us ls) (hl:J<=17592186044000)
 (hr:∀l∈ls,1<=l.length/\l.length<=17592186044000):
 Calls prog 66 #[.slice ao J c,.int .i64 x,.int .i64 y] w (Ku.Xw us ls x y w):=by
 have nL:=ζ h;have HJ:=ζ hJ;have HR:=ζ hr;clear h hJ hr;go_enter func66,ntmps66;go_wp2;go_loopw [8,9,10] (fun v nv cv wr=>∃k:Nat,k<=J/\cv= .int .i64 (k:Int)/\nv= .int .i64 (((Ku.cI ls x y k).2:Nat):Int)/\Ku.fW wr v (Ku.cI ls x y k).1/\Ku.From us w v/\Below w.heap.size w wr) (fun _ _ cv _=>J-(intOf cv).toNat)
 case atStart=>exact⟨0,aaR _,rfl,rfl,⟨none,0,rfl,fun i p hp=>by cases hp⟩,(fun b hb=>by cases hb),aaG _ _⟩
 case round=>
  obtain⟨k,hk,rfl,rfl,UN,hfr,hb⟩:=hrel;have Ai:=ζ hfr;clear hfr;obtain⟨U,rfl⟩:∃U,U=wr:=⟨wr,rfl⟩;have ER:=ζ UN;have HB:=ζ hb;have hs0:=hb.size;have hwk:IntKind.i64.wrap ((k:Int)+1)=(k:Int)+1:=by rw[aaK];omega
  obtain⟨N,hN⟩:∃N,(Ku.cI ls x y k).2=N:=⟨_,rfl⟩;have hNk:N<=k:=by rw[<-hN];exact Ku.MT ls x y k
  have hwN:IntKind.i64.wrap ((N:Int)+1)=(N:Int)+1:=by rw[aaK];omega
  have HN:=ζ hN;rw[hN];by_cases hlt:k<J
  .have hk0:(0:Int)<=(k:Int):=by omega
   have hk1:(k:Int)<(J:Int):=by omega
   obtain⟨lr,hlr⟩:∃lr,ls[k]? =some lr:=⟨_,aaE (by rw[HJ.out];exact hlt)⟩;have lp:=nL.out.later hb;obtain⟨u,hu⟩:=lp.at' hlr;obtain⟨gv,gc,Du,cx⟩:=Ku.sB lp hu;rw[HJ.out] at Du;have UG:ao=some ⟨gv,0,none⟩:=by cases Du;rfl
   obtain⟨xa,xc,gR,fE,-⟩:=(lp.row k u lr hu hlr).form;obtain⟨Ln,wu⟩:∃Ln,lr.length=Ln:=⟨_,rfl⟩;have BR:1<=Ln/\Ln<=17592186044000:=by rw[<-wu];exact HR.out lr (aaJ hlr)
   obtain⟨hL1,hL2⟩:=BR;rw[wu] at gR;subst gR;subst UG;obtain⟨a,ha⟩:∃a,lr[0]? =some a:=⟨_,aaE (by omega)⟩;obtain⟨z,hz⟩:∃z,lr[Ln-1]? =some z:=⟨_,aaE (by omega)⟩;obtain⟨b,o,DR,e0⟩:=fE 0 a ha;obtain⟨b',o',LY,e1⟩:=fE (Ln-1) z hz;rw[DR] at LY;cases LY;subst DR;have pS:(0:Int)<(Ln:Int):=by omega
   have hwL:IntKind.i64.wrap ((Ln:Int)-1)=((Ln-1:Nat):Int):=by rw[aaK];omega
   have hL3:(0:Int)<=((Ln-1:Nat):Int):=by omega
   have hL4:((Ln-1:Nat):Int)<(Ln:Int):=by omega
   have ga:=Ku.bR ha;have gz:=Ku.bR hz;have M8:=ζ fE;have PS:Hid (Ku.From us w (.slice (some ⟨b,o,none⟩) Ln xc)):=fun b' hb'=> .inl ⟨_,aaJ hu,hb'⟩
   have EU:=ζ hlr;have nO:=ζ wu;have HH:Hid (Ku.hit lr x y=if a=x/\z=y then some lr else if a=y/\z=x then some lr.reverse else none):=by
    refine ζ ?_;unfold Ku.hit;rw[wu,ga,gz]
   have HS:Hid (∀r,Ku.hit lr x y=some r->Ku.cI ls x y (k+1)=(r,N+1)):=fun r h=>by rw[Ku.wJ EU.out h,HN.out]
   have cB:Hid (Ku.hit lr x y=none->Ku.cI ls x y (k+1)=Ku.cI ls x y k):=fun h=>Ku.wK EU.out h
   simp only[abG] at e0;clear UN hb hlr lp hu Du wu ha hz fE ga gz hN;by_cases c1:a=x/\z=y
   .obtain⟨c1,c2⟩:=c1
    have t1:(a==x)=true:=by simp[c1]
    have t2:(z==y)=true:=by simp[c2]
    have HX:Hid (Ku.cI ls x y (k+1)=(lr,N+1)):=HS.out _ (by rw[HH.out,if_pos ⟨c1,c2⟩]);clear c1 c2;go_wp2;go_roundw
    case rel=>exact⟨k+1,by omega,by go_num,by rw[HX.out];go_num,by rw[HX.out];exact⟨_,_,by rw[nO.out],M8.out⟩,PS.out,HB.out⟩
    case measure=>simp[intOf];omega
   .by_cases c3:a=y/\z=x
    .have HX:Hid (Ku.cI ls x y (k+1)=(lr.reverse,N+1)):=HS.out _ (by rw[HH.out,if_neg c1,if_pos c3])
     have HT:=ζ (qA (some ⟨b,o,none⟩) Ln xc lr U nO.out M8.out hL2);have t3:(a==y)=true:=by simp[c3.1]
     have t4:(z==x)=true:=by simp[c3.2]
     by_cases c4:a=x
     .have t1:(a==x)=true:=by simp[c4]
      have t2:(z==y)=false:=beq_eq_false_iff_ne.2 fun h=>c1 ⟨c4,h⟩
      clear c1 c3 c4;go_wp2_with (go_at_call 104;refine HT.out.mono ?_;rintro e U2 ⟨v,rfl,ho,hb2⟩;refine aaI ?_);refine ζ ?_;obtain⟨ya,yc,uJ,Lv,-⟩:=ho.form;have HY:=ζ Lv;have HYE:=ζ uJ;have EZ:Hid (Ku.From us w v):=fun b' hb'=> .inr (aa1 hs0 (aaO ho b' hb').1)
      have aA:=ζ (HB.out.trans (hb2.mono HB.out.size));clear ho hb2 Lv uJ;go_wp2;go_roundw
      case rel=>exact⟨k+1,by omega,by go_num,by rw[HX.out];go_num,by rw[HX.out];exact⟨_,_,HYE.out,HY.out⟩,EZ.out,aA.out⟩
      case measure=>simp[intOf];omega
     .have t1:(a==x)=false:=by simp[c4]
      clear c1 c3 c4;go_wp2_with (go_at_call 104;refine HT.out.mono ?_;rintro e U2 ⟨v,rfl,ho,hb2⟩;refine aaI ?_);refine ζ ?_;obtain⟨ya,yc,uJ,Lv,-⟩:=ho.form;have HY:=ζ Lv;have HYE:=ζ uJ;have EZ:Hid (Ku.From us w v):=fun b' hb'=> .inr (aa1 hs0 (aaO ho b' hb').1)
      have aA:=ζ (HB.out.trans (hb2.mono HB.out.size));clear ho hb2 Lv uJ;go_wp2;go_roundw
      case rel=>exact⟨k+1,by omega,by go_num,by rw[HX.out];go_num,by rw[HX.out];exact⟨_,_,HYE.out,HY.out⟩,EZ.out,aA.out⟩
      case measure=>simp[intOf];omega
    .have HX:Hid (Ku.cI ls x y (k+1)=Ku.cI ls x y k):=cB.out (by rw[HH.out,if_neg c1,if_neg c3])
     have lV:=ζ c1;have Gb:=ζ c3;clear c1 c3;by_cases c4:a=x
     .have t1:(a==x)=true:=by simp[c4]
      have t2:(z==y)=false:=beq_eq_false_iff_ne.2 fun h=>lV.out ⟨c4,h⟩
      by_cases c5:a=y
      .have t3:(a==y)=true:=by simp[c5]
       have t4:(z==x)=false:=beq_eq_false_iff_ne.2 fun h=>Gb.out ⟨c5,h⟩
       clear c4 c5;go_wp2;go_roundw
       case rel=>exact⟨k+1,by omega,by go_num,by rw[HX.out,HN.out],by rw[HX.out];exact ER.out,Ai.out,HB.out⟩
       case measure=>simp[intOf];omega
      .have t3:(a==y)=false:=by simp[c5]
       clear c4 c5;go_wp2;go_roundw
       case rel=>exact⟨k+1,by omega,by go_num,by rw[HX.out,HN.out],by rw[HX.out];exact ER.out,Ai.out,HB.out⟩
       case measure=>simp[intOf];omega
     .have t1:(a==x)=false:=by simp[c4]
      by_cases c5:a=y
      .have t3:(a==y)=true:=by simp[c5]
       have t4:(z==x)=false:=beq_eq_false_iff_ne.2 fun h=>Gb.out ⟨c5,h⟩
       clear c4 c5;go_wp2;go_roundw
       case rel=>exact⟨k+1,by omega,by go_num,by rw[HX.out,HN.out],by rw[HX.out];exact ER.out,Ai.out,HB.out⟩
       case measure=>simp[intOf];omega
      .have t3:(a==y)=false:=by simp[c5]
       clear c4 c5;go_wp2;go_roundw
       case rel=>exact⟨k+1,by omega,by go_num,by rw[HX.out,HN.out],by rw[HX.out];exact ER.out,Ai.out,HB.out⟩
       case measure=>simp[intOf];omega
  .have hd:¬((k:Int)<(J:Int)):=by omega
   obtain rfl:k=J:=by omega
   clear UN hb hN;go_wp2;go_ret2;exact⟨_,by rw[HJ.out,HN.out];rfl,by rw[HJ.out];exact ER.out,Ai.out,HB.out⟩
end
section
open Go.RowKit Go.Sort
namespace Ku
end Ku
theorem Lf (B:Nat) (ao:Option Addr) (J c:Nat) (us:List Value) (ls:List (List Int)) (ho:Option Addr) (q hc:Nat) (h:List Int) (w:World) (hJ:ls.length=J) (hrows:ay w B (.slice ao J c) us ls) (hl:J<=17592186044000)
 (hr:∀l∈ls,1<=l.length/\l.length<=17592186044000) (hq:h.length=q) (hi:aV w ho h) (xY:q<=17592186044000):
 Calls Tryz.prog 65 #[.slice ao J c,.slice ho q hc] w fun e w'=>∃v,e= .returned v/\ak w' w.heap.size v (Ku.fT ls h q++Ku.jJ ls h q)/\Below w.heap.size w w':=by
 have nL:=ζ hrows;have HJ:=ζ hJ;have HR:=ζ hr;have HI:=ζ hi;have HQ:=ζ hq;clear hrows hJ hr hi hq;go_enter Tryz.func65,Tryz.ntmps65;go_wp2;go_loopw [5,6,7] (fun v1 v2 cv wr=>∃i:Nat,i<=q/\cv= .int .i64 (i:Int)/\Ku.EG wr w.heap.size v1 v2 (Ku.fT ls h i) (Ku.jJ ls h i)/\Below w.heap.size w wr) (fun _ _ cv _=>q-(intOf cv).toNat)
 case atStart=>exact⟨0,aaR _,rfl,⟨ak.nil _ _,ak.nil _ _,fun b hb=>by cases hb⟩,aaG _ _⟩
 case round=>
  obtain⟨i,hiq,rfl,htz,hb⟩:=hrel;obtain⟨U,rfl⟩:∃U,U=wr:=⟨wr,rfl⟩;have Na:=ζ htz;have HB:=ζ hb;have hs0:=hb.size;have hwi:IntKind.i64.wrap ((i:Int)+1)=(i:Int)+1:=by rw[aaK];omega
  have hlen:=Ku.vR ls h i;by_cases hlt:i<q
  .have nS:(0:Int)<=(i:Int):=by omega
   have hi1:(i:Int)<(q:Int):=by omega
   have hq1:(0:Int)<(q:Int):=by omega
   obtain⟨h0,hh0⟩:∃x,h[0]? =some x:=⟨_,aaE (by rw[HQ.out];omega)⟩;obtain⟨hx,hhx⟩:∃x,h[i]? =some x:=⟨_,aaE (by rw[HQ.out];omega)⟩;have hIU:=HI.out.later hb;obtain⟨hb0,hof,hho,f0⟩:=hIU 0 h0 hh0;obtain⟨aku,aj9,ZE,f1⟩:=hIU i hx hhx;rw[hho] at ZE;cases ZE;subst hho;simp only[abG] at f0;have G0:=ζ (Ku.bR hh0);have GX:=ζ (Ku.bR hhx);have Wy:=ζ (nL.out.later hb);clear htz hb hh0 hhx hIU;go_wp2;go_loopw [8,9] (fun d cv wx=>∃(k:Nat) (b:Bool),k<=J/\cv= .int .i64 (k:Int)/\d= .bool b/\(b=true↔∃t l,t<k/\ls[t]? =some l/\Ku.z7 l h0 hx)/\wx=U) (fun _ cv _=>J-(intOf cv).toNat)
   case atStart=>exact⟨0,false,aaR _,rfl,rfl,⟨fun h=>(by cases h),fun ⟨t,c,ht,_⟩=>by omega⟩,rfl⟩
   case round=>
    obtain⟨k,b,hk,rfl,rfl,lN,hwr⟩:=hrel;subst hwr;have HBI:=ζ lN;have hwk:IntKind.i64.wrap ((k:Int)+1)=(k:Int)+1:=by rw[aaK];omega
    by_cases hkJ:k<J
    .have hk0:(0:Int)<=(k:Int):=by omega
     have hk1:(k:Int)<(J:Int):=by omega
     obtain⟨lr,hlr⟩:∃lr,ls[k]? =some lr:=⟨_,aaE (by rw[HJ.out];exact hkJ)⟩;obtain⟨u,hu⟩:=Wy.out.at' hlr;obtain⟨gv,gc,Du,cx⟩:=Ku.sB Wy.out hu;rw[HJ.out] at Du;have UG:ao=some ⟨gv,0,none⟩:=by cases Du;rfl
     obtain⟨xa,xc,gR,fE,-⟩:=(Wy.out.row k u lr hu hlr).form;obtain⟨Ln,wu⟩:∃Ln,lr.length=Ln:=⟨_,rfl⟩;have BR:1<=Ln/\Ln<=17592186044000:=by rw[<-wu];exact HR.out lr (aaJ hlr)
     obtain⟨hL1,hL2⟩:=BR;rw[wu] at gR;subst gR;subst UG;obtain⟨a,ha⟩:∃a,lr[0]? =some a:=⟨_,aaE (by omega)⟩;obtain⟨z,hz⟩:∃z,lr[Ln-1]? =some z:=⟨_,aaE (by omega)⟩;obtain⟨b1,o1,DR,e0⟩:=fE 0 a ha;obtain⟨b1',o1',LY,e1⟩:=fE (Ln-1) z hz;rw[DR] at LY;cases LY;subst DR;have pS:(0:Int)<(Ln:Int):=by omega
     have hwL:IntKind.i64.wrap ((Ln:Int)-1)=((Ln-1:Nat):Int):=by rw[aaK];omega
     have hL3:(0:Int)<=((Ln-1:Nat):Int):=by omega
     have hL4:((Ln-1:Nat):Int)<(Ln:Int):=by omega
     have ga:=Ku.bR ha;have gz:=Ku.bR hz;obtain⟨y1,hy1⟩:∃y,(a==h0)=y:=⟨_,rfl⟩;obtain⟨y2,hy2⟩:∃y,(z==hx)=y:=⟨_,rfl⟩;obtain⟨y3,Sp⟩:∃y,(z==h0)=y:=⟨_,rfl⟩;obtain⟨y4,hy4⟩:∃y,(a==hx)=y:=⟨_,rfl⟩;have iZ:Hid ((b||(y1&&y2||y3&&y4))=true↔∃t l,t<k+1/\ls[t]? =some l/\Ku.z7 l h0 hx):=by
      refine ζ ?_;have FD:(y1&&y2||y3&&y4)=true↔Ku.z7 lr h0 hx:=by
       unfold Ku.z7;rw[wu,ga,gz,<-hy1,<-hy2,<-Sp,<-hy4];simp
      rw[ab6,HBI.out,FD];constructor
      .rintro(⟨t,c',ht,h1,h2⟩|h)
       .exact⟨t,c',by omega,h1,h2⟩
       .exact⟨k,lr,by omega,hlr,h⟩
      .rintro⟨t,c',ht,h1,h2⟩
       by_cases e:t=k
       .subst e
        rw[hlr] at h1;cases h1;exact .inr h2
       .exact .inl ⟨t,c',by omega,h1,h2⟩
     simp only[abG] at e0;clear lN hlr hu Du wu ha hz fE ga gz;cases y1<;>cases y2<;>cases y3<;>cases y4
     all_goals
      go_wp2;go_roundw
      case rel=>exact⟨k+1,_,by omega,by go_num,by first|rfl|(simp;done),by have:=iZ.out;simpa using this,by first|rfl|trivial⟩
      case measure=>simp[intOf];omega
    .have hd:¬((k:Int)<(J:Int)):=by omega
     obtain rfl:k=J:=by omega
     have hin:b=true↔∃l∈ls,Ku.z7 l (Ku.gI h 0) (Ku.gI h i):=by
      rw[G0.out,GX.out,lN];constructor
      .rintro⟨t,l,_,h1,h2⟩
       exact⟨l,aaJ h1,h2⟩
      .rintro⟨l,h1,h2⟩
       obtain⟨t,ht⟩:=abg h1;exact⟨t,l,by rw[<-HJ.out];exact(aaH.1 ht).1,ht,h2⟩
     have Ma:(b=true/\0<i)↔Ku.kU ls h i:=by unfold Ku.kU;rw[hin]
     by_cases dh:b=true/\0<i
     .obtain⟨rfl,hpos⟩:=dh
      have hpi:(0:Int)<(i:Int):=by omega
      have hA:=Ma.1 ⟨rfl,hpos⟩;have nM:Hid (Ku.fT ls h (i+1)=Ku.fT ls h i):=Ku.GN hA;have yS:Hid (Ku.jJ ls h (i+1)=Ku.jJ ls h i++[hx]):=by have:=Ku.Mu hA;rw[GX.out] at this;exact this
      have eB:(Ku.jJ ls h i).length<=17592186044000:=by omega
      clear lN hin Ma hA;go_wp2_with (at_builtin;refine bu rfl _ _ rfl _ w.heap.size _ _ hx Na.out.two hs0 eB rfl rfl ?_;refine aaI ?_);refine ζ ?_;intro v' w3 hrow3 hg3 gU hb3;have Nb:=ζ (Na.out.swap.push hrow3 hg3 gU).swap;have aK:=ζ (HB.out.trans hb3);clear hrow3 hg3 gU hb3;go_wp2;go_roundw
      case rel=>exact⟨i+1,by omega,by go_num,by rw[nM.out,yS.out];exact Nb.out,aK.out⟩
      case measure=>simp[intOf];omega
     .have hA:¬Ku.kU ls h i:=fun x=>dh (Ma.2 x)
      have nM:Hid (Ku.fT ls h (i+1)=Ku.fT ls h i++[hx]):=by have:=Ku.KU hA;rw[GX.out] at this;exact this
      have yS:Hid (Ku.jJ ls h (i+1)=Ku.jJ ls h i):=Ku.QI hA;have eB:(Ku.fT ls h i).length<=17592186044000:=by omega
      cases b with
      |true=>
       have hpi:¬(0:Int)<(i:Int):=fun x=>dh ⟨rfl,by omega⟩
       clear lN hin Ma hA dh;go_wp2_with (at_builtin;refine bu rfl _ _ rfl _ w.heap.size _ _ hx Na.out.one hs0 eB rfl rfl ?_;refine aaI ?_);refine ζ ?_;intro v' w3 hrow3 hg3 gU hb3;have Nb:=ζ (Na.out.push hrow3 hg3 gU);have aK:=ζ (HB.out.trans hb3);clear hrow3 hg3 gU hb3;go_wp2;go_roundw
       case rel=>exact⟨i+1,by omega,by go_num,by rw[nM.out,yS.out];exact Nb.out,aK.out⟩
       case measure=>simp[intOf];omega
      |false=>
       clear lN hin Ma hA dh;go_wp2_with (at_builtin;refine bu rfl _ _ rfl _ w.heap.size _ _ hx Na.out.one hs0 eB rfl rfl ?_;refine aaI ?_);refine ζ ?_;intro v' w3 hrow3 hg3 gU hb3;have Nb:=ζ (Na.out.push hrow3 hg3 gU);have aK:=ζ (HB.out.trans hb3);clear hrow3 hg3 gU hb3;go_wp2;go_roundw
       case rel=>exact⟨i+1,by omega,by go_num,by rw[nM.out,yS.out];exact Nb.out,aK.out⟩
       case measure=>simp[intOf];omega
  .have hd:¬((i:Int)<(q:Int)):=by omega
   obtain rfl:i=q:=by omega
   clear htz hb;go_wp2_with (at_builtin;refine H8 rfl _ _ rfl _ w.heap.size _ _ _ _ Na.out.one Na.out.two hs0 (by omega) rfl rfl ?_;refine aaI ?_);refine ζ ?_;intro v' w3 pQ hb3;have tI:=ζ pQ;have aK:=ζ (HB.out.trans hb3);clear pQ hb3;go_wp2;go_ret;exact⟨_,rfl,tI.out,aK.out⟩
end
end Go.Proofs.YtdbjpbjocmcpkaaGreatDoor
