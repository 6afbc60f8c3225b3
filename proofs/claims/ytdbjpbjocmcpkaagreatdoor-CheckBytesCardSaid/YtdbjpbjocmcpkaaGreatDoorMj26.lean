import Derived.Test.YtdbjpbjocmcpkaaGreatDoorMj25
set_option maxHeartbeats 16000000
set_option maxRecDepth 100000
namespace Go.Proofs.YtdbjpbjocmcpkaaGreatDoor
section
open Go.Proofs.Tryz
open Go.RowKit Go.Sort
theorem NX (n:Int) (ao:Option Addr) (ca:Nat) (es:List (Int×Int)) (xo:Option Addr) (xc:Nat) (ls:List (List Int)) (w:World) (he:ah w ao es) (hl:es.length<=4611686018427387904) (hx:bH w xo ls):
 Calls prog 31 #[aB n ao es.length ca,.slice xo ls.length xc] w (lW n es ls w):=by
 have hb0:Below w.heap.size w (w.alloc (.cells #[.int .i64 n,.slice ao es.length ca] 24)):=(aaG _ _).alloc (aaF _) _;have Aa:=ζ (fO n ao ca es _ (he.later hb0) hl);have HE:=ζ he;have HX:=ζ hx;have aI:=ζ hb0;have wQ:=ζ (Ro.DG es 0 ls);unfold aB at Aa ⊢;clear he hx hb0;cases hv:Si.valid n es with
 |false=>
  rw[hv] at Aa;have ew:Hid (Ro.check n es (Ro.hls es 0 ls)=(0,1)):=by show _=_;simp[Ro.check,hv]
  clear hv;go_enter func31,ntmps31;go_wp2_with (go_at_call 25;refine Aa.out.mono ?_;rintro e w' ⟨rfl,hb⟩;refine aaI ?_);refine ζ ?_;have HB:=ζ (aI.out.trans (hb.mono aI.out.size));clear hb;go_wp2
  go_ret3
  exact lW.bad HB.out ew.out (by decide)
 |true=>
  rw[hv] at Aa;have hval:=Si.aL.1 hv;have hhi:=hval.hi;have hlo:=hval.lo;have bV:=hval.few;obtain⟨m,rfl⟩:∃m:Nat,n=(m:Int):=⟨n.toNat,by omega⟩;have cC:=ζ hval;by_cases hk:ls.length=m
  .have ew:Hid (Ro.check (m:Int) es (Ro.hls es 0 ls)=Ro.ig es 0 (Ro.hls es 0 ls)):=by
    show _=_;unfold Ro.check;rw[if_pos hv,if_neg (by rw[wQ.out];omega)]
   have HK:=ζ hk;rw[hk];clear hv hval hk;go_enter func31,ntmps31;go_wp2_with (go_at_call 25;refine Aa.out.mono ?_;rintro e w1 ⟨rfl,hb⟩;refine aaI ?_);refine ζ ?_;have qL:w1.heap[w.heap.size]? =some (.cells #[.int .i64 (m:Int),.slice ao es.length ca] 24 (0,0)):=(hb.block _ (by simp)).trans (heap_alloc_new w _);obtain⟨g0,g1,-⟩:=af qL;have xW:w.heap.size<w1.heap.size:=lt_of_block qL;have aD:=ζ (aI.out.trans (hb.mono aI.out.size));have G0:=ζ g0;have G1:=ζ g1;clear hb qL;go_wp2;clear g0 g1;go_loopw [7,8] (fun c d wr=>∃(k:Nat) (vs:List Value),k<=m/\d= .int .i64 (k:Int)/\Ro.ig es 0 (Ro.hls es 0 ls)=Ro.ig es k ((Ro.hls es 0 ls).drop k)/\ay wr w1.heap.size c vs ((Ro.hls es 0 ls).take k)/\Below w1.heap.size w1 wr) (fun _ d _=>m-(intOf d).toNat)
   case atStart=>exact⟨0,[],aaR _,rfl,rfl,ay.nil _ _,aaG _ _⟩
   case round=>
    obtain⟨k,vs,hk,rfl,hch,hr,hb⟩:=hrel;obtain⟨W0,rfl⟩:∃W0,W0=wr:=⟨_,rfl⟩;have jq:=ζ hch;have HR:=ζ hr;have HB:=ζ hb;have xV:=hb.size;obtain⟨uo,uc,rfl⟩:=bG hr;generalize xY:((Ro.hls es 0 ls).take k).length=ql at*;have HQL:=ζ xY;have g0:=(hb.cell (p:=⟨w.heap.size,0,none⟩) xW).trans G0.out;have g1:=(hb.cell (p:=⟨w.heap.size,1,none⟩) xW).trans G1.out;clear hch hr hb xY;by_cases hlt:k<m
    .have aP:(k:Int)<(m:Int):=by omega
     have hk0:(0:Int)<=(k:Int):=by omega
     obtain⟨l,hlk⟩:∃l,ls[k]? =some l:=⟨_,aaE (by have:=HK.out;omega)⟩;obtain⟨b,o,A,C,rfl,hcell,hL,ny,-⟩:=((HX.out.later aD.out).later HB.out) k l hlk;have hbl:b<W0.heap.size:=block_lt_of_cell hcell;have HL:=ζ hL;have D9:=Ro.Je (es:=es) (k:=0) hlk;rw[abK] at D9;have fL:=ζ D9;obtain⟨p1,hp1⟩:∃p1,l.length=p1:=⟨_,rfl⟩;rw[hp1] at hcell ny HL;have q7:=ζ hp1;have E3:=ζ hcell;clear hL hlk D9 hp1;go_wp2;clear g0 g1 hcell;go_loopw [9,10] (fun c5 c6 w5=>∃i:Nat,i<=p1/\c6= .int .i64 (i:Int)/\Ro.gm es k [] (l.map (Ro.hl es k))=Ro.gm es k ((l.map (Ro.hl es k)).take i) ((l.map (Ro.hl es k)).drop i)/\ak w5 W0.heap.size c5 ((l.map (Ro.hl es k)).take i)/\Below W0.heap.size W0 w5) (fun _ c6 _=>p1-(intOf c6).toNat)
     case atStart=>exact⟨0,aaR _,rfl,rfl,ak.nil _ _,aaG _ _⟩
     case round=>
      obtain⟨i,hi,rfl,hel,Sw,hb5⟩:=hrel;have ru:=ζ hel;have fM:=ζ hb5;have PK:=ζ Sw;have hs5:=hb5.size;obtain⟨ro,rc,VV,-,-⟩:=Sw.form;subst VV;generalize hrl:((l.map (Ro.hl es k)).take i).length=rl at*;have Nf:Hid (rl=i):=by show _=_;rw[<-hrl,abL,aa3,q7.out];omega
      have HRL:=ζ hrl;have hcr:=(hb5.cell (p:=⟨b,o+k,none⟩) hbl).trans E3.out;have hbr:b<wr.heap.size:=block_lt_of_cell hcr;have g0:=(hb5.cell (p:=⟨w.heap.size,0,none⟩) (by show w.heap.size<_;omega)).trans ((HB.out.cell (p:=⟨w.heap.size,0,none⟩) xW).trans G0.out);have g1:=(hb5.cell (p:=⟨w.heap.size,1,none⟩) (by show w.heap.size<_;omega)).trans ((HB.out.cell (p:=⟨w.heap.size,1,none⟩) xW).trans G1.out);have hgr:w.heap.size<wr.heap.size:=block_lt_of_cell g0;have TG:=ζ (((HE.out.later aD.out).later HB.out).later hb5);have Tz:=ζ (HL.out.later hb5);clear hel hb5 Sw hrl;have hne:=LW.any wr;have k0:∀D:LW wr,D.val.cell? ⟨w.heap.size,0,none⟩=some (.int .i64 (m:Int)):=fun D=>(D.h.cell (p:=⟨w.heap.size,0,none⟩) hgr).trans g0
      have k1:∀D:LW wr,D.val.cell? ⟨w.heap.size,1,none⟩=some (.slice ao es.length ca):=fun D=>(D.h.cell (p:=⟨w.heap.size,1,none⟩) hgr).trans g1
      have k2:∀D:LW wr,D.val.cell? ⟨b,o+k,none⟩=some (.slice A p1 C):=fun D=>(D.h.cell (p:=⟨b,o+k,none⟩) hbr).trans hcr
      by_cases hil:i<p1
      .have DJ:(i:Int)<(p1:Int):=by omega
       have nS:(0:Int)<=(i:Int):=by omega
       obtain⟨x,fE⟩:∃x,l[i]? =some x:=⟨_,aaE (by have:=q7.out;omega)⟩;obtain⟨lb,lo',rfl,lc⟩:=Tz.out.elem fE;have Vc:lb<wr.heap.size:=block_lt_of_cell lc;have k3:∀D:LW wr,D.val.cell? ⟨lb,lo'+i,none⟩=some (.int .i64 x):=fun D=>(D.h.cell (p:=⟨lb,lo'+i,none⟩) Vc).trans lc
       have W5:=ζ (fun (D:LW wr)=>NS m ao ca es k x D.val (TG.out.later D.h) cC.out);have pS:(l.map (Ro.hl es k))[i]? =some (Ro.hl es k x):=by rw[abj,fE];rfl
       have rj:=ζ pS;have M8:=ζ fE;clear lc pS fE;cases hh:Ro.half es k x (2*es.length) with
       |none=>
        obtain⟨e1,e2⟩:=Ro.Jf hh;rw[e1] at W5 rj;have yT:=ζ e2;clear hh e1 e2;go_wp2_with fail;refine aH (by kernel_rfl) (by kernel_rfl) ?_
        repeat (go_big_quiet_step ((go_at_call 59;exact Calls.lw (W5.out _))))
        refine wpQuiet_nil ?_;rintro _ ⟨D,rfl⟩;have jr:=ζ (aD.out.trans ((HB.out.trans ((fM.out.trans (D.h.mono hs5)).mono xV)).mono (adi xW)));generalize D.val=W at*;clear k0 k1 k2 k3;go_wp2
        go_ret3
        refine lW.bad jr.out ?_ (by decide);rw[ew.out,jq.out,Ro.drop_cons fL.out,Ro.fH (Ro.kV (by rw[ru.out,Ro.drop_cons rj.out,Ro.pW yT.out]) (by decide)) (by decide)]
       |some h=>
        obtain⟨e1,e2,e3⟩:=Ro.DI hh;rw[e1] at W5 rj;have yT:=ζ e2;have HM:=ζ (fun pre=>Ro.Yi (pre:=pre) hh);have hh0:¬(h:Int)<0:=by omega
        clear hh e1 e2;go_wp2_with fail;refine aH (by kernel_rfl) (by kernel_rfl) ?_
        repeat (go_big_quiet_step ((go_at_call 59;exact Calls.lw (W5.out _))))
        refine wpQuiet_nil ?_;rintro _ ⟨D,rfl⟩;have jr:=ζ (fM.out.trans (D.h.mono hs5));have HOD:=ζ (PK.out.later D.h);have d0:=k0 D;have d1:=k1 D;have d2:=k2 D;have d3:=k3 D;have F7:=ζ (Tz.out.later D.h);generalize D.val=W at*;clear k0 k1 k2 k3 hne hcr g0 g1 W5;have hbW:b<W.heap.size:=block_lt_of_cell d2;have Vd:lb<W.heap.size:=block_lt_of_cell d3;have hne:=LW.any W;have k2:∀D:LW W,D.val.cell? ⟨b,o+k,none⟩=some (.slice (some ⟨lb,lo',none⟩) p1 C):=fun D=>(D.h.cell (p:=⟨b,o+k,none⟩) hbW).trans d2
        have k3:∀D:LW W,D.val.cell? ⟨lb,lo'+i,none⟩=some (.int .i64 x):=fun D=>(D.h.cell (p:=⟨lb,lo'+i,none⟩) Vd).trans d3
        have iA:=ζ (fun (D:LW W)=>Ar (some ⟨lb,lo',none⟩) C p1 i l x D.val q7.out (F7.out.ints.later D.h) hi (by omega));have HMT:Hid ((h:Int)∈(l.map (Ro.hl es k)).take i↔x∈l.take i):=by
         show _↔_;rw[<-acV];exact HM.out _
        cases hst:decide (x∈l.take i) with
        |true=>
         have ES:Hid (∀D:LW W,Calls prog 60 #[.slice (some ⟨lb,lo',none⟩) p1 C,.int .i64 (i:Int),.int .i64 x] D.val fun e w'=>e= .returned (.bool true)/\Below D.val.heap.size D.val w'):=fun D=>(iA.out D).mono fun e w' hh=>⟨by rw[hh.1,hst],by rw[hh.2];exact aaG _ _⟩
         have HST:=ζ hst;clear hst iA;go_wp2_with fail;refine aH (by kernel_rfl) (by kernel_rfl) ?_
         repeat (go_big_quiet_step ((go_at_call 60;exact Calls.lw (ES.out _))))
         refine wpQuiet_nil ?_;rintro _ ⟨D,rfl⟩;have b9:=ζ (aD.out.trans ((HB.out.trans ((jr.out.trans (D.h.mono jr.out.size)).mono xV)).mono (adi xW)));generalize D.val=W2 at*;clear k2 k3;go_wp2
         go_ret3
         refine lW.bad b9.out ?_ (by decide);rw[ew.out,jq.out,Ro.drop_cons fL.out,Ro.fH (Ro.kV (by rw[ru.out,Ro.drop_cons rj.out,Ro.nG yT.out (HMT.out.2 (of_decide_eq_true HST.out))]) (by decide)) (by decide)]
        |false=>
         have ES:Hid (∀D:LW W,Calls prog 60 #[.slice (some ⟨lb,lo',none⟩) p1 C,.int .i64 (i:Int),.int .i64 x] D.val fun e w'=>e= .returned (.bool false)/\Below D.val.heap.size D.val w'):=fun D=>(iA.out D).mono fun e w' hh=>⟨by rw[hh.1,hst],by rw[hh.2];exact aaG _ _⟩
         have HST:=ζ hst;clear hst iA;go_wp2_with fail;refine aH (by kernel_rfl) (by kernel_rfl) ?_
         repeat (go_big_quiet_step ((go_at_call 60;exact Calls.lw (ES.out _))))
         refine wpQuiet_nil ?_;rintro _ ⟨D,rfl⟩;have b9:=ζ (jr.out.trans (D.h.mono jr.out.size));have HOE:=ζ (HOD.out.later D.h);have E1:=ζ (show Ro.gm es k [] (l.map (Ro.hl es k))=Ro.gm es k ((l.map (Ro.hl es k)).take (i+1)) ((l.map (Ro.hl es k)).drop (i+1)) by
          rw[ru.out,Ro.drop_cons rj.out,Ro.ur yT.out (fun hm=>of_decide_eq_false HST.out (HMT.out.1 hm)),Ro.dU rj.out])
         have hsE:=b9.out.size;have wM:=ζ (Ro.dU rj.out);generalize D.val=W2 at*;clear k2 k3;go_wp2_with (at_builtin;refine bu rfl _ _ rfl W2 W0.heap.size _ ((l.map (Ro.hl es k)).take i) (h:Int) HOE.out hsE (by rw[HRL.out,Nf.out];omega) rfl rfl ?_;refine aaI ?_);refine ζ ?_;intro v' w' ho' _ _ hb';have HO':=ζ (show ak w' W0.heap.size v' ((l.map (Ro.hl es k)).take (i+1)) by rw[wM.out];exact ho');have Xo:=ζ (b9.out.trans hb');clear ho' hb';go_wp2;go_roundw
         case rel=>exact⟨i+1,by omega,by go_num,E1.out,HO'.out,Xo.out⟩
         case measure=>simp[intOf];omega
      .have DJ:¬(i:Int)<(p1:Int):=by omega
       obtain rfl:i=p1:=by omega
       have SM:(l.map (Ro.hl es k)).length=i:=by rw[aa3];exact q7.out
       have tM:=ζ (show Ro.gm es k [] (l.map (Ro.hl es k))=0 by rw[ru.out,ab2 (by omega)];rfl);have F5:Hid (ak wr W0.heap.size (.slice ro rl rc) (l.map (Ro.hl es k))):=by
        have:=PK.out;rw[abn (by omega)] at this;exact this
       have tJ:=ζ SM;have ry:=ζ (sk m ao ca es k wr TG.out cC.out);obtain⟨dg,uO⟩:∃dg,dg=Ro.iM es k:=⟨_,rfl⟩;rw[<-uO] at ry;have Ns:=ζ uO;clear uO SM k0 k1 k2 hne;by_cases hd:rl<dg
       .have t2:(rl:Int)<(dg:Int):=by omega
        go_wp2_with (go_at_call 61;refine ry.out.mono ?_;rintro e W ⟨rfl,hbW⟩;refine aaI ?_);refine ζ ?_;have jr:=ζ (aD.out.trans ((HB.out.trans ((fM.out.trans (hbW.mono hs5)).mono xV)).mono (adi xW)));clear hbW g0 g1;go_wp2
        go_ret3
        refine lW.bad jr.out ?_ (by decide);rw[ew.out,jq.out,Ro.drop_cons fL.out,Ro.fH (Ro.l8 tM.out (by rw[tJ.out,<-Nf.out,<-Ns.out];exact hd)) (by decide)]
       .have t2:¬(rl:Int)<(dg:Int):=by omega
        have E2:=ζ (show Ro.ig es 0 (Ro.hls es 0 ls)=Ro.ig es (k+1) ((Ro.hls es 0 ls).drop (k+1)) by
         rw[jq.out,Ro.drop_cons fL.out,Ro.yF (Ro.wX tM.out (by rw[tJ.out,<-Nf.out,<-Ns.out];exact hd))])
        have wM:=ζ (Ro.dU fL.out);go_wp2_with (go_at_call 61;refine ry.out.mono ?_;rintro e W ⟨rfl,hbW⟩;refine aaI ?_);refine ζ ?_;have jr:=ζ (fM.out.trans (hbW.mono hs5));have HOD:=ζ (F5.out.later hbW);clear hbW g0 g1;go_wp2_with (at_builtin;refine BA rfl _ _ 50 Tryz.underlying50 rfl W0 W w1.heap.size (.slice uo ql uc) vs ((Ro.hls es 0 ls).take k) (.slice ro rl rc) (l.map (Ro.hl es k)) HR.out jr.out HOD.out xV (by rw[HQL.out];have:=HQL.out;rw[abL] at this;omega) rfl rfl ?_;refine aaI ?_);refine ζ ?_;intro v2 w2 hr2 hb2;have nT:=ζ (show ay w2 w1.heap.size v2 (vs++[.slice ro rl rc]) ((Ro.hls es 0 ls).take (k+1)) by rw[wM.out];exact hr2);have aA:=ζ (HB.out.trans hb2);clear hr2 hb2;go_wp2;go_roundw
        case rel=>exact⟨k+1,_,by omega,by go_num,E2.out,nT.out,aA.out⟩
        case measure=>simp[intOf];omega
    .have aP:¬(k:Int)<(m:Int):=by omega
     obtain rfl:k=m:=by omega
     have hall:(Ro.hls es 0 ls).length=k:=by rw[wQ.out];exact HK.out
     have Al:Hid ((Ro.check (k:Int) es (Ro.hls es 0 ls)).2=0):=by
      show _=_;rw[ew.out,jq.out,ab2 (by omega)];rfl
     have jF:=HR.out;rw[abn (by omega)] at jF;have jF:=ζ (jF.lower (B':=w.heap.size) (by omega));clear hall;go_wp2
     go_ret3
     refine⟨aD.out.trans (HB.out.mono (by omega)),.inr ⟨Al.out,_,vs,rfl,jF.out⟩⟩
  .have j1:((ls.length:Int) != (m:Int))=true:=by simp;omega
   have ew:Hid (Ro.check (m:Int) es (Ro.hls es 0 ls)=(0,110)):=by
    show _=_;unfold Ro.check;rw[if_pos hv,if_pos (by rw[wQ.out];omega)]
   clear hv hval hk;go_enter func31,ntmps31;go_wp2_with (go_at_call 25;refine Aa.out.mono ?_;rintro e w1 ⟨rfl,hb⟩;refine aaI ?_);refine ζ ?_;have qL:w1.heap[w.heap.size]? =some (.cells #[.int .i64 (m:Int),.slice ao es.length ca] 24 (0,0)):=(hb.block _ (by simp)).trans (heap_alloc_new w _);obtain⟨g0,g1,-⟩:=af qL;have aD:=ζ (aI.out.trans (hb.mono aI.out.size));clear hb qL;go_wp2
   go_ret3
   exact lW.bad aD.out ew.out (by decide)
end
section
open Go.Proofs.Tryz
open Go.RowKit Go.Sort
theorem Ro.uz {es:List (Int×Int)} {ls:List (List Int)} (hv:Si.valid (ls.length:Int) es=true):Ro.check (ls.length:Int) es ls=Ro.ig es 0 ls:=by simp[Ro.check,hv]
theorem Fj (n:Int) (ao:Option Addr) (ca:Nat) (es:List (Int×Int)) (xo:Option Addr) (xc:Nat) (ls:List (List Int)) (w:World) (he:ah w ao es) (hl:es.length<=4611686018427387904) (hx:bH w xo ls):
 Calls prog 255 #[aB n ao es.length ca,.slice xo ls.length xc] w fun e w'=>e= .returned (.tuple #[.int .i64 ((Ro.check n es ls).1:Int),.int .i64 (Ro.check n es ls).2])/\Below w.heap.size w w':=by
 have hb0:Below w.heap.size w (w.alloc (.cells #[.int .i64 n,.slice ao es.length ca] 24)):=(aaG _ _).alloc (aaF _) _;have Aa:=ζ (fO n ao ca es _ (he.later hb0) hl);have HE:=ζ he;have HX:=ζ hx;have aI:=ζ hb0;unfold aB at Aa ⊢;clear he hx hb0;cases hv:Si.valid n es with
 |false=>
  rw[hv] at Aa;have ew:Hid (Ro.check n es ls=(0,1)):=by show _=_;simp[Ro.check,hv]
  clear hv;go_enter func255,ntmps255;go_wp2_with (go_at_call 25;refine Aa.out.mono ?_;rintro e w' ⟨rfl,hb⟩;refine aaI ?_);refine ζ ?_;have HB:=ζ (aI.out.trans (hb.mono aI.out.size));clear hb;go_wp2;go_ret2;exact⟨by rw[ew.out];rfl,HB.out⟩
 |true=>
  rw[hv] at Aa;have hval:=Si.aL.1 hv;have hhi:=hval.hi;have hlo:=hval.lo;have bV:=hval.few;obtain⟨m,rfl⟩:∃m:Nat,n=(m:Int):=⟨n.toNat,by omega⟩;have cC:=ζ hval;by_cases hk:ls.length=m
  .subst hk
   have ew:=ζ (Ro.uz hv);clear hv hval;go_enter func255,ntmps255;go_wp2_with (go_at_call 25;refine Aa.out.mono ?_;rintro e w1 ⟨rfl,hb⟩;refine aaI ?_);refine ζ ?_;have jR:Hid (w1.heap[w.heap.size]? =some (.cells #[.int .i64 (ls.length:Int),.slice ao es.length ca] 24 (0,0))):=(hb.block _ (by simp)).trans (heap_alloc_new w _);obtain⟨g0,g1,-⟩:=af jR.out;have aD:=ζ (aI.out.trans (hb.mono aI.out.size));clear hb;go_wp2;clear g0 g1;go_loopw [6] (fun c wr=>∃k:Nat,k<=ls.length/\c= .int .i64 (k:Int)/\Ro.ig es 0 ls=Ro.ig es k (ls.drop k)/\wr.heap[w.heap.size]? =some (.cells #[.int .i64 (ls.length:Int),.slice ao es.length ca] 24 (0,0))/\Below w.heap.size w wr) (fun c _=>ls.length-(intOf c).toNat)
   case atStart=>exact⟨0,aaR _,rfl,rfl,jR.out,aD.out⟩
   case round=>
    obtain⟨k,hk,rfl,hch,hg,hb⟩:=hrel;have jq:=ζ hch;have HB:=ζ hb;have HG:=ζ hg;obtain⟨g0,g1,-⟩:=af hg;clear hch hb hg;by_cases hlt:k<ls.length
    .have aP:(k:Int)<(ls.length:Int):=by omega
     have hk0:(0:Int)<=(k:Int):=by omega
     obtain⟨l,hlk⟩:∃l,ls[k]? =some l:=⟨_,aaE hlt⟩;obtain⟨b,o,A,C,rfl,hc,hL,ny,-⟩:=HX.out k l hlk;have hbl:b<w.heap.size:=block_lt_of_cell hc;have HL:=ζ hL;have fL:=ζ hlk;have HC:=ζ hc;clear hc hL hlk;go_wp2;clear g0 g1;go_loopw [7] (fun c wr=>∃i:Nat,i<=l.length/\c= .int .i64 (i:Int)/\Ro.gm es k [] l=Ro.gm es k (l.take i) (l.drop i)/\wr.heap[w.heap.size]? =some (.cells #[.int .i64 (ls.length:Int),.slice ao es.length ca] 24 (0,0))/\Below w.heap.size w wr) (fun c _=>l.length-(intOf c).toNat)
     case atStart=>exact⟨0,aaR _,rfl,rfl,HG.out,HB.out⟩
     case round=>
      clear HB HG;obtain⟨i,hi,rfl,hel,hg,hb⟩:=hrel;have ru:=ζ hel;have HB:=ζ hb;have HG:=ζ hg;obtain⟨g0,g1,-⟩:=af hg;have X9:=lt_of_block hg;have hcr:=(hb.cell (p:=⟨b,o+k,none⟩) hbl).trans HC.out;have hbr:b<wr.heap.size:=block_lt_of_cell hcr;clear hel hb hg;have hne:=LW.any wr;have k0:∀D:LW wr,D.val.cell? ⟨w.heap.size,0,none⟩=some (.int .i64 (ls.length:Int)):=fun D=>(D.h.cell (p:=⟨w.heap.size,0,none⟩) X9).trans g0
      have k1:∀D:LW wr,D.val.cell? ⟨w.heap.size,1,none⟩=some (.slice ao es.length ca):=fun D=>(D.h.cell (p:=⟨w.heap.size,1,none⟩) X9).trans g1
      have k2:∀D:LW wr,D.val.cell? ⟨b,o+k,none⟩=some (.slice A l.length C):=fun D=>(D.h.cell (p:=⟨b,o+k,none⟩) hbr).trans hcr
      by_cases hil:i<l.length
      .have DJ:(i:Int)<(l.length:Int):=by omega
       have nS:(0:Int)<=(i:Int):=by omega
       obtain⟨h,hh⟩:∃h,l[i]? =some h:=⟨_,aaE hil⟩;obtain⟨lb,lo',rfl,lc⟩:=HL.out.elem hh;have yg:lb<w.heap.size:=block_lt_of_cell lc;have hlc:=(HB.out.cell (p:=⟨lb,lo'+i,none⟩) yg).trans lc;have Vc:lb<wr.heap.size:=block_lt_of_cell hlc;have k3:∀D:LW wr,D.val.cell? ⟨lb,lo'+i,none⟩=some (.int .i64 h):=fun D=>(D.h.cell (p:=⟨lb,lo'+i,none⟩) Vc).trans hlc
       have yT:=ζ (fun (D:LW wr)=>CR ls.length ao ca es h k D.val ((HE.out.later HB.out).later D.h) cC.out);have HH:=ζ hh;clear hh lc;cases hlv:Ro.lv es h k with
       |false=>
        have WN:Hid (∀D:LW wr,Calls prog 286 #[.agg #[.int .i64 (ls.length:Int),.slice ao es.length ca],.int .i64 h,.int .i64 (k:Int)] D.val fun e w'=>e= .returned (.bool false)/\Below D.val.heap.size D.val w'):=fun D=>(yT.out D).mono fun e w' hh=>⟨by rw[hh.1,hlv],hh.2⟩
        have agG:=ζ hlv;clear hlv yT;go_wp2_with fail;refine aH (by kernel_rfl) (by kernel_rfl) ?_
        repeat (go_big_quiet_step ((go_at_call 286;exact Calls.lw (WN.out _))))
        refine wpQuiet_nil ?_;rintro _ ⟨D,rfl⟩;have jr:=ζ (HB.out.trans (D.h.mono HB.out.size));generalize D.val=W at*;clear k0 k1 k2 k3;go_wp2;go_ret2;refine⟨?_,jr.out⟩;rw[ew.out,jq.out,Ro.drop_cons fL.out,Ro.fH (Ro.kV (by rw[ru.out,Ro.drop_cons HH.out,Ro.pW agG.out]) (by decide)) (by decide)];rfl
       |true=>
        have WN:Hid (∀D:LW wr,Calls prog 286 #[.agg #[.int .i64 (ls.length:Int),.slice ao es.length ca],.int .i64 h,.int .i64 (k:Int)] D.val fun e w'=>e= .returned (.bool true)/\Below D.val.heap.size D.val w'):=fun D=>(yT.out D).mono fun e w' hh=>⟨by rw[hh.1,hlv],hh.2⟩
        have aag:=ζ hlv;clear hlv yT;go_wp2_with fail;refine aH (by kernel_rfl) (by kernel_rfl) ?_
        repeat (go_big_quiet_step ((go_at_call 286;exact Calls.lw (WN.out _))))
        refine wpQuiet_nil ?_;rintro _ ⟨D,rfl⟩;have jr:=ζ (HB.out.trans (D.h.mono HB.out.size));have uR:=ζ ((D.h.block _ X9).trans HG.out);have d2:=k2 D;have d3:=k3 D;generalize D.val=W at*;clear k0 k1 k2 k3 hne hcr hlc g0 g1;have hbW:b<W.heap.size:=block_lt_of_cell d2;have Vd:lb<W.heap.size:=block_lt_of_cell d3;have hne:=LW.any W;have k2:∀D:LW W,D.val.cell? ⟨b,o+k,none⟩=some (.slice (some ⟨lb,lo',none⟩) l.length C):=fun D=>(D.h.cell (p:=⟨b,o+k,none⟩) hbW).trans d2
        have k3:∀D:LW W,D.val.cell? ⟨lb,lo'+i,none⟩=some (.int .i64 h):=fun D=>(D.h.cell (p:=⟨lb,lo'+i,none⟩) Vd).trans d3
        have iA:=ζ (fun (D:LW W)=>Ar (some ⟨lb,lo',none⟩) C l.length i l h D.val rfl (HL.out.ints.later (jr.out.trans (D.h.mono jr.out.size))) hi (by omega));cases hst:decide (h∈l.take i) with
        |true=>
         have ES:Hid (∀D:LW W,Calls prog 60 #[.slice (some ⟨lb,lo',none⟩) l.length C,.int .i64 (i:Int),.int .i64 h] D.val fun e w'=>e= .returned (.bool true)/\Below D.val.heap.size D.val w'):=fun D=>(iA.out D).mono fun e w' hh=>⟨by rw[hh.1,hst],by rw[hh.2];exact aaG _ _⟩
         have HST:=ζ hst;clear hst iA;go_wp2_with fail;refine aH (by kernel_rfl) (by kernel_rfl) ?_
         repeat (go_big_quiet_step ((go_at_call 60;exact Calls.lw (ES.out _))))
         refine wpQuiet_nil ?_;rintro _ ⟨D,rfl⟩;have b9:=ζ (jr.out.trans (D.h.mono jr.out.size));generalize D.val=W2 at*;clear k2 k3;go_wp2;go_ret2;refine⟨?_,b9.out⟩;rw[ew.out,jq.out,Ro.drop_cons fL.out,Ro.fH (Ro.kV (by rw[ru.out,Ro.drop_cons HH.out,Ro.nG aag.out (of_decide_eq_true HST.out)]) (by decide)) (by decide)];rfl
        |false=>
         have ES:Hid (∀D:LW W,Calls prog 60 #[.slice (some ⟨lb,lo',none⟩) l.length C,.int .i64 (i:Int),.int .i64 h] D.val fun e w'=>e= .returned (.bool false)/\Below D.val.heap.size D.val w'):=fun D=>(iA.out D).mono fun e w' hh=>⟨by rw[hh.1,hst],by rw[hh.2];exact aaG _ _⟩
         have HST:=ζ hst;clear hst iA;go_wp2_with fail;refine aH (by kernel_rfl) (by kernel_rfl) ?_
         repeat (go_big_quiet_step ((go_at_call 60;exact Calls.lw (ES.out _))))
         refine wpQuiet_nil ?_;rintro _ ⟨D,rfl⟩;have b9:=ζ (jr.out.trans (D.h.mono jr.out.size));have W9:=ζ ((D.h.block _ (lt_of_block uR.out)).trans uR.out);have E1:=ζ (show Ro.gm es k [] l=Ro.gm es k (l.take (i+1)) (l.drop (i+1)) by
          rw[ru.out,Ro.drop_cons HH.out,Ro.ur aag.out (of_decide_eq_false HST.out),Ro.dU HH.out])
         generalize D.val=W2 at*;clear k2 k3;go_wp2;go_roundw
         case rel=>exact⟨i+1,by omega,by go_num,E1.out,W9.out,b9.out⟩
         case measure=>simp[intOf];omega
      .have DJ:¬(i:Int)<(l.length:Int):=by omega
       obtain rfl:i=l.length:=by omega
       have tM:=ζ (show Ro.gm es k [] l=0 by rw[ru.out];simp[Ro.gm]);have ry:=ζ (fun (D:LW wr)=>sk ls.length ao ca es k D.val ((HE.out.later HB.out).later D.h) cC.out);obtain⟨dg,uO⟩:∃dg,dg=Ro.iM es k:=⟨_,rfl⟩;rw[<-uO] at ry;have Ns:=ζ uO;clear uO;by_cases hd:l.length<dg
       .have t1:decide ((l.length:Int)<(dg:Int))=true:=by simp;omega
        have t2:(l.length:Int)<(dg:Int):=by omega
        go_wp2_with fail;refine aH (by kernel_rfl) (by kernel_rfl) ?_
        repeat (go_big_quiet_step ((go_at_call 61;exact Calls.lw (ry.out _))))
        refine wpQuiet_nil ?_;rintro _ ⟨D,rfl⟩;have jr:=ζ (HB.out.trans (D.h.mono HB.out.size));generalize D.val=W at*;clear k0 k1 k2;go_wp2;go_ret2;refine⟨?_,jr.out⟩;rw[ew.out,jq.out,Ro.drop_cons fL.out,Ro.fH (Ro.l8 tM.out (by have:=Ns.out;omega)) (by decide)];rfl
       .have t1:decide ((l.length:Int)<(dg:Int))=false:=by simp;omega
        have t2:¬(l.length:Int)<(dg:Int):=by omega
        have E2:=ζ (show Ro.ig es 0 ls=Ro.ig es (k+1) (ls.drop (k+1)) by
         rw[jq.out,Ro.drop_cons fL.out,Ro.yF (Ro.wX tM.out (by have:=Ns.out;omega))])
        go_wp2_with fail;refine aH (by kernel_rfl) (by kernel_rfl) ?_
        repeat (go_big_quiet_step ((go_at_call 61;exact Calls.lw (ry.out _))))
        refine wpQuiet_nil ?_;rintro _ ⟨D,rfl⟩;have jr:=ζ (HB.out.trans (D.h.mono HB.out.size));have uR:=ζ ((D.h.block _ X9).trans HG.out);generalize D.val=W at*;clear k0 k1 k2;go_wp2;go_roundw
        case rel=>exact⟨k+1,by omega,by go_num,E2.out,uR.out,jr.out⟩
        case measure=>simp[intOf];omega
    .have aP:¬(k:Int)<(ls.length:Int):=by omega
     obtain rfl:k=ls.length:=by omega
     go_wp2;go_ret2;refine⟨?_,HB.out⟩;rw[ew.out,jq.out];simp[Ro.ig]
  .have j1:((ls.length:Int) != (m:Int))=true:=by simp;omega
   have ew:Hid (Ro.check (m:Int) es ls=(0,110)):=by
    show _=_;unfold Ro.check;rw[if_pos hv,if_pos (by omega)]
   clear hv hval hk;go_enter func255,ntmps255;go_wp2_with (go_at_call 25;refine Aa.out.mono ?_;rintro e w1 ⟨rfl,hb⟩;refine aaI ?_);refine ζ ?_;have jR:Hid (w1.heap[w.heap.size]? =some (.cells #[.int .i64 (m:Int),.slice ao es.length ca] 24 (0,0))):=(hb.block _ (by simp)).trans (heap_alloc_new w _);obtain⟨g0,g1,-⟩:=af jR.out;have aD:=ζ (aI.out.trans (hb.mono aI.out.size));clear hb;go_wp2;go_ret2;exact⟨by rw[ew.out];rfl,aD.out⟩
end
section
open Go.Proofs.Tryz
open Go.RowKit Go.Sort
theorem IB (n:Int) (ao:Option Addr) (ca:Nat) (es:List (Int×Int)) (xo:Option Addr) (xc:Nat) (ls:List (List Int)) (w:World) (he:ah w ao es) (hl:es.length<=4611686018427387904) (hx:bH w xo ls):
 Calls prog 200 #[aB n ao es.length ca,.slice xo ls.length xc] w (Py n es ls w):=by
 obtain⟨i0,hi,hz0,hz1,hz2⟩:=info_parts Tryz.cL;have hb0:Below w.heap.size w (w.alloc (.cells #[.int .i64 n,.slice ao es.length ca] 24)):=(aaG _ _).alloc (aaF _) _;have ew:=ζ (Fj n ao ca es xo xc ls _ (he.later hb0) hl (hx.later hb0));have HX:=ζ hx;have aI:=ζ hb0;unfold aB at ew ⊢;clear he hx hb0;have hch:Ro.check n es ls=((Ro.check n es ls).1,(Ro.check n es ls).2):=rfl;by_cases hc:(Ro.check n es ls).2=0
 .have xX:=Ro.ji.1 hc
  have hval:=Si.aL.1 xX.val;have hlo:=hval.lo;have hhi:=hval.hi;have bV:=hval.few;have hlen:=xX.len;have WB:=ζ xX;have HC:=ζ hc;rw[hc] at ew;obtain⟨cv,hcv⟩:∃cv,cv=(Ro.check n es ls).1:=⟨_,rfl⟩;rw[<-hcv] at ew;obtain⟨M,hM⟩:∃M,M=2*es.length:=⟨_,rfl⟩;have hmul:IntKind.i64.wrap (2*(es.length:Int))=(M:Int):=by rw[aaK];omega
  have Jd:2*(es.length:Int)=(M:Int):=by omega
  have hMb:M<=8388608:=by omega
  have HM:=ζ hM;clear hch hc xX hval hcv hM;go_enter func200,ntmps200;go_wp2_with (go_at_call 255;refine ew.out.mono ?_;rintro e w1 ⟨rfl,hb⟩;refine aaI ?_);refine ζ ?_;have qL:w1.heap[w.heap.size]? =some (.cells #[.int .i64 n,.slice ao es.length ca] 24 (0,0)):=(hb.block _ (by simp)).trans (heap_alloc_new w _);obtain⟨g0,g1,-⟩:=af qL;have xW:w.heap.size<w1.heap.size:=lt_of_block qL;have aD:=ζ (aI.out.trans (hb.mono aI.out.size));clear hb qL;go_wp2_with (at_make;refine wpList_make_full _ rfl _ _ 55 rfl w1.heap.size 3 i0 (.int .i64 0) 1 Tryz.underlying55 hi hz0 hz1 _ _ _ _ M rfl rfl rfl rfl (by rw[hz2];omega) (by unfold maxLen;omega) (aaF _) ?_;refine aaI ?_);refine ζ ?_;intro w2 hrow hg2;rw[dx] at hrow;have tL:=ζ (eR hrow);have hb2:Below w1.heap.size w1 w2:=(aaG _ _).grown hg2 (aaF _) (fun j hj=>by cases hj);have aA:=ζ (aD.out.trans (hb2.mono aD.out.size));clear hrow hg2 hb2 g0 g1;go_wp2;go_loopw [9] (fun c wr=>∃k:Nat,k<=ls.length/\c= .int .i64 (k:Int)/\aq wr w1.heap.size (Ro.nx ls k (List.replicate M 0))/\Below w.heap.size w wr) (fun c _=>ls.length-(intOf c).toNat)
  case atStart=>exact⟨0,aaR _,rfl,tL.out,aA.out⟩
  case round=>
   obtain⟨k,hk,rfl,hik,hb⟩:=hrel;clear tL;have HI:=ζ hik;have HB:=ζ hb;clear hik hb;by_cases hlt:k<ls.length
   .have aP:(k:Int)<(ls.length:Int):=by omega
    have hk0:(0:Int)<=(k:Int):=by omega
    obtain⟨l,hlk⟩:∃l,ls[k]? =some l:=⟨_,aaE hlt⟩;have hgd:ls.getD k []=l:=by rw[aaL,hlk];rfl
    obtain⟨b,o,A,C,rfl,hcell,hL,ny,-⟩:=HX.out k l hlk;have hbl:b<w.heap.size:=block_lt_of_cell hcell;have hcr:=(HB.out.cell (p:=⟨b,o+k,none⟩) hbl).trans hcell;have HL:=ζ hL;have fL:=ζ hlk;have E3:=ζ hcell;have uR:=ζ hgd;clear hcell hL hlk hgd;go_wp2;clear hcr;go_loopw [10] (fun c wr=>∃i:Nat,i<=l.length/\c= .int .i64 (i:Int)/\aq wr w1.heap.size (Ro.row l i (Ro.nx ls k (List.replicate M 0)))/\Below w.heap.size w wr) (fun c _=>l.length-(intOf c).toNat)
    case atStart=>exact⟨0,aaR _,rfl,HI.out,HB.out⟩
    case round=>
     clear HI HB;obtain⟨i,hil,rfl,hii,hb⟩:=hrel;have HI:=ζ hii;have HB:=ζ hb;have hcr:=(HB.out.cell (p:=⟨b,o+k,none⟩) hbl).trans E3.out;clear hii hb;by_cases uL:i<l.length
     .have Vb:(i:Int)<(l.length:Int):=by omega
      have ae6:(0:Int)<=(i:Int):=by omega
      obtain⟨x,fE⟩:∃x,l[i]? =some x:=⟨_,aaE uL⟩;obtain⟨j,rfl,hj,-⟩:=WB.out.half fL.out fE;have hjM:j<M:=by have:=HM.out;omega
      obtain⟨q,hq⟩:∃q,q=(i+1)%l.length:=⟨_,rfl⟩;have xY:q<l.length:=by rw[hq];exact acJ _ (by omega)
      have hqm:((i:Int)+1).tmod (l.length:Int)=(q:Int):=by
       rw[abR (by omega),hq];exact(ac8 (i+1) l.length).symm
      have aeF:((i:Int)+1)%(l.length:Int)=(q:Int):=by
       rw[hq];exact(ac8 (i+1) l.length).symm
      obtain⟨y,hy⟩:∃y,l[q]? =some y:=⟨_,aaE xY⟩;obtain⟨lb,lo',rfl,lc⟩:=HL.out.elem fE;obtain⟨lb',ad6,hle,Ur⟩:=HL.out.elem hy;cases hle;have yg:lb<w.heap.size:=block_lt_of_cell lc;have c1:=(HB.out.cell (p:=⟨lb,lo'+i,none⟩) yg).trans lc;have c2:=(HB.out.cell (p:=⟨lb,lo'+q,none⟩) yg).trans Ur;have hrl:(Ro.row l i (Ro.nx ls k (List.replicate M 0))).length=M:=by rw[Ro.sj,Ro.xI];simp
      obtain⟨z,hz⟩:∃z,(Ro.row l i (Ro.nx ls k (List.replicate M 0)))[j]? =some z:=⟨_,aaE (by rw[hrl];exact hjM)⟩;have c3:=HI.out.cell hz;have c4:=HI.out.free j;have jW:Hid (aq (wr.setCell ⟨w1.heap.size,j,none⟩ (.int .i64 y)) w1.heap.size (Ro.row l (i+1) (Ro.nx ls k (List.replicate M 0)))):=by
       have h1:=HI.out.set j y;have e:Ro.row l (i+1) (Ro.nx ls k (List.replicate M 0))=(Ro.row l i (Ro.nx ls k (List.replicate M 0))).set j y:=by
        show(Ro.row l i _).set (l.getD i 0).toNat (l.getD ((i+1)%l.length) 0)=_;rw[<-hq,aaL,aaL,fE,hy];rfl
       rw[e];exact h1
      have hj0:(0:Int)<=(j:Int):=by omega
      have ae3:(j:Int)<(M:Int):=by omega
      have BO:(0:Int)<=(q:Int):=by omega
      have aeH:(q:Int)<(l.length:Int):=by omega
      have hlz:((l.length:Int)==0)=false:=beq_false_of_ne (by omega);have hwq:IntKind.i64.wrap (q:Int)=(q:Int):=by rw[aaK];omega
      have hwi:IntKind.i64.wrap ((i:Int)+1)=(i:Int)+1:=by rw[aaK];omega
      clear hq hy fE lc Ur hz hrl;go_wp2_with fail;go_big_region;go_wp2;go_roundw
      case rel=>exact⟨i+1,by omega,by go_num,jW.out,by first|exact HB.out.trans (ep (g:=w1.heap.size) _ (by omega))|exact(HB.out.trans (ep (g:=w1.heap.size) _ (by omega))).drew⟩
      case measure=>simp[intOf];omega
     .have Vb:¬(i:Int)<(l.length:Int):=by omega
      obtain rfl:i=l.length:=by omega
      have jW:Hid (aq wr w1.heap.size (Ro.nx ls (k+1) (List.replicate M 0))):=by
       show aq wr w1.heap.size (Ro.row (ls.getD k []) (ls.getD k []).length _);rw[uR.out];exact HI.out
      go_wp2;go_roundw
      case rel=>exact⟨k+1,by omega,by go_num,jW.out,HB.out⟩
      case measure=>simp[intOf];omega
   .have aP:¬(k:Int)<(ls.length:Int):=by omega
    obtain rfl:k=ls.length:=by omega
    go_wp2;go_ret2;refine⟨HB.out,.inr ⟨HC.out,w1.heap.size,by rw[<-HM.out];rfl,by omega,?_⟩⟩;unfold Ro.kC;rw[<-HM.out];exact HI.out
 .obtain⟨cv,hcv⟩:∃cv,cv=(Ro.check n es ls).1:=⟨_,rfl⟩
  obtain⟨cc,hcc⟩:∃cc,cc=(Ro.check n es ls).2:=⟨_,rfl⟩;rw[<-hcv,<-hcc] at ew;rw[<-hcc] at hc;have Ak:=ζ hcc;have j1:(cc != 0)=true:=by simp[hc]
  have HNC:=ζ hc;clear hch hcv hcc hc;go_enter func200,ntmps200;go_wp2_with (go_at_call 255;refine ew.out.mono ?_;rintro e w1 ⟨rfl,hb⟩;refine aaI ?_);refine ζ ?_;have aD:=ζ (aI.out.trans (hb.mono aI.out.size));clear hb;go_wp2;go_ret2;refine⟨aD.out,.inl ⟨by rw[<-Ak.out];exact HNC.out,by rw[<-Ak.out];rfl⟩⟩
end
section
open Go.RowKit Go.Sort
def Co.iso (m:Nat) (es:List (Int×Int)):Nat:=Co.aC (fun v=> !Co.met es v) m
def M6 (n:Int) (es:List (Int×Int)) (w:World) (e:Ending) (w':World):Prop:=
 ((∃m:Nat,n=(m:Int)/\Si.Val n es/\e= .returned (.tuple #[.int .i64 (Co.iso m es:Int),.int .i64 0]))\/(Si.valid n es=false/\e= .returned (.tuple #[.int .i64 0,.int .i64 1])))/\Below w.heap.size w w'
end
end Go.Proofs.YtdbjpbjocmcpkaaGreatDoor
