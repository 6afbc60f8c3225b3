import Derived.Test.YtdbjpbjocmcpkaaGreatDoorMg32
import Derived.Test.YtdbjpbjocmcpkaaGreatDoorMg25
set_option maxHeartbeats 8000000
set_option maxRecDepth 100000
namespace Go.Proofs.YtdbjpbjocmcpkaaGreatDoor
section
open Go.Proofs.Tryz
open Go.RowKit Go.Sort
theorem Ro.sk {es:List (Int×Int)} {ls:List (List Int)} (hv:Si.valid (ls.length:Int) es=true):Ro.check (ls.length:Int) es ls=Ro.fU es 0 ls:=by simp[Ro.check,hv]
theorem Dm (n:Int) (ao:Option Addr) (ca:Nat) (es:List (Int×Int)) (xo:Option Addr) (xc:Nat) (ls:List (List Int)) (w:World) (he:ah w ao es) (hl:es.length<=4611686018427387904) (hx:bA w xo ls):
 Calls prog 255 #[az n ao es.length ca,.slice xo ls.length xc] w fun e w'=>e= .returned (.tuple #[.int .i64 ((Ro.check n es ls).1:Int),.int .i64 (Ro.check n es ls).2])/\Below w.heap.size w w':=by
 have hb0:Below w.heap.size w (w.alloc (.cells #[.int .i64 n,.slice ao es.length ca] 24)):=(aae _ _).alloc (aad _) _;have xW:=ζ (eW n ao ca es _ (he.later hb0) hl);have HE:=ζ he;have HX:=ζ hx;have aH:=ζ hb0;unfold az at xW ⊢;clear he hx hb0;cases hv:Si.valid n es with
 |false=>
  rw[hv] at xW;have dI:Hid (Ro.check n es ls=(0,1)):=by show _=_;simp[Ro.check,hv]
  clear hv;go_enter func255,ntmps255;go_wp2_with (go_at_call 25;refine xW.out.mono ?_;rintro e w' ⟨rfl,hb⟩;refine aaj ?_);refine ζ ?_;have HB:=ζ (aH.out.trans (hb.mono aH.out.size));clear hb;go_wp2;go_ret2;exact⟨by rw[dI.out];rfl,HB.out⟩
 |true=>
  rw[hv] at xW;have hval:=Si.aK.1 hv;have hhi:=hval.hi;have hlo:=hval.lo;have bQ:=hval.few;obtain⟨m,rfl⟩:∃m:Nat,n=(m:Int):=⟨n.toNat,by omega⟩;have bY:=ζ hval;by_cases hk:ls.length=m
  .subst hk
   have dI:=ζ (Ro.sk hv);clear hv hval;go_enter func255,ntmps255;go_wp2_with (go_at_call 25;refine xW.out.mono ?_;rintro e w1 ⟨rfl,hb⟩;refine aaj ?_);refine ζ ?_;have j4:Hid (w1.heap[w.heap.size]? =some (.cells #[.int .i64 (ls.length:Int),.slice ao es.length ca] 24 (0,0))):=(hb.block _ (by simp)).trans (heap_alloc_new w _);obtain⟨g0,g1,-⟩:=af j4.out;have aI:=ζ (aH.out.trans (hb.mono aH.out.size));clear hb;go_wp2;clear g0 g1;go_loopw [6] (fun c wr=>∃k:Nat,k<=ls.length/\c= .int .i64 (k:Int)/\Ro.fU es 0 ls=Ro.fU es k (ls.drop k)/\wr.heap[w.heap.size]? =some (.cells #[.int .i64 (ls.length:Int),.slice ao es.length ca] 24 (0,0))/\Below w.heap.size w wr) (fun c _=>ls.length-(intOf c).toNat)
   case atStart=>exact⟨0,aax _,rfl,rfl,j4.out,aI.out⟩
   case round=>
    obtain⟨k,hk,rfl,hch,hg,hb⟩:=hrel;have iz:=ζ hch;have HB:=ζ hb;have HG:=ζ hg;obtain⟨g0,g1,-⟩:=af hg;clear hch hb hg;by_cases hlt:k<ls.length
    .have aQ:(k:Int)<(ls.length:Int):=by omega
     have hk0:(0:Int)<=(k:Int):=by omega
     obtain⟨l,hlk⟩:∃l,ls[k]? =some l:=⟨_,aac hlt⟩;obtain⟨b,o,A,C,rfl,hc,hL,lN,-⟩:=HX.out k l hlk;have hbl:b<w.heap.size:=block_lt_of_cell hc;have HL:=ζ hL;have ew:=ζ hlk;have HC:=ζ hc;clear hc hL hlk;go_wp2;clear g0 g1;go_loopw [7] (fun c wr=>∃i:Nat,i<=l.length/\c= .int .i64 (i:Int)/\Ro.fA es k [] l=Ro.fA es k (l.take i) (l.drop i)/\wr.heap[w.heap.size]? =some (.cells #[.int .i64 (ls.length:Int),.slice ao es.length ca] 24 (0,0))/\Below w.heap.size w wr) (fun c _=>l.length-(intOf c).toNat)
     case atStart=>exact⟨0,aax _,rfl,rfl,HG.out,HB.out⟩
     case round=>
      clear HB HG;obtain⟨i,hi,rfl,hel,hg,hb⟩:=hrel;have pN:=ζ hel;have HB:=ζ hb;have HG:=ζ hg;obtain⟨g0,g1,-⟩:=af hg;have UE:=lt_of_block hg;have hcr:=(hb.cell (p:=⟨b,o+k,none⟩) hbl).trans HC.out;have hbr:b<wr.heap.size:=block_lt_of_cell hcr;clear hel hb hg;have hne:=LW.any wr;have k0:∀D:LW wr,D.val.cell? ⟨w.heap.size,0,none⟩=some (.int .i64 (ls.length:Int)):=fun D=>(D.h.cell (p:=⟨w.heap.size,0,none⟩) UE).trans g0
      have k1:∀D:LW wr,D.val.cell? ⟨w.heap.size,1,none⟩=some (.slice ao es.length ca):=fun D=>(D.h.cell (p:=⟨w.heap.size,1,none⟩) UE).trans g1
      have k2:∀D:LW wr,D.val.cell? ⟨b,o+k,none⟩=some (.slice A l.length C):=fun D=>(D.h.cell (p:=⟨b,o+k,none⟩) hbr).trans hcr
      by_cases hil:i<l.length
      .have BN:(i:Int)<(l.length:Int):=by omega
       have mj:(0:Int)<=(i:Int):=by omega
       obtain⟨h,hh⟩:∃h,l[i]? =some h:=⟨_,aac hil⟩;obtain⟨lb,lo',rfl,lc⟩:=HL.out.elem hh;have wh:lb<w.heap.size:=block_lt_of_cell lc;have hlc:=(HB.out.cell (p:=⟨lb,lo'+i,none⟩) wh).trans lc;have RQ:lb<wr.heap.size:=block_lt_of_cell hlc;have k3:∀D:LW wr,D.val.cell? ⟨lb,lo'+i,none⟩=some (.int .i64 h):=fun D=>(D.h.cell (p:=⟨lb,lo'+i,none⟩) RQ).trans hlc
       have wQ:=ζ (fun (D:LW wr)=>AW ls.length ao ca es h k D.val ((HE.out.later HB.out).later D.h) bY.out);have HH:=ζ hh;clear hh lc;cases hlv:Ro.lv es h k with
       |false=>
        have Tw:Hid (∀D:LW wr,Calls prog 286 #[.agg #[.int .i64 (ls.length:Int),.slice ao es.length ca],.int .i64 h,.int .i64 (k:Int)] D.val fun e w'=>e= .returned (.bool false)/\Below D.val.heap.size D.val w'):=fun D=>(wQ.out D).mono fun e w' hh=>⟨by rw[hh.1,hlv],hh.2⟩
        have acY:=ζ hlv;clear hlv wQ;go_wp2_with fail;refine aG (by kernel_rfl) (by kernel_rfl) ?_
        repeat (go_big_quiet_step ((go_at_call 286;exact Calls.lw (Tw.out _))))
        refine wpQuiet_nil ?_;rintro _ ⟨D,rfl⟩;have iA:=ζ (HB.out.trans (D.h.mono HB.out.size));generalize D.val=W at*;clear k0 k1 k2 k3;go_wp2;go_ret2;refine⟨?_,iA.out⟩;rw[dI.out,iz.out,Ro.drop_cons ew.out,Ro.eU (Ro.jN (by rw[pN.out,Ro.drop_cons HH.out,Ro.nW acY.out]) (by decide)) (by decide)];rfl
       |true=>
        have Tw:Hid (∀D:LW wr,Calls prog 286 #[.agg #[.int .i64 (ls.length:Int),.slice ao es.length ca],.int .i64 h,.int .i64 (k:Int)] D.val fun e w'=>e= .returned (.bool true)/\Below D.val.heap.size D.val w'):=fun D=>(wQ.out D).mono fun e w' hh=>⟨by rw[hh.1,hlv],hh.2⟩
        have WD:=ζ hlv;clear hlv wQ;go_wp2_with fail;refine aG (by kernel_rfl) (by kernel_rfl) ?_
        repeat (go_big_quiet_step ((go_at_call 286;exact Calls.lw (Tw.out _))))
        refine wpQuiet_nil ?_;rintro _ ⟨D,rfl⟩;have iA:=ζ (HB.out.trans (D.h.mono HB.out.size));have sM:=ζ ((D.h.block _ UE).trans HG.out);have d2:=k2 D;have d3:=k3 D;generalize D.val=W at*;clear k0 k1 k2 k3 hne hcr hlc g0 g1;have hbW:b<W.heap.size:=block_lt_of_cell d2;have RR:lb<W.heap.size:=block_lt_of_cell d3;have hne:=LW.any W;have k2:∀D:LW W,D.val.cell? ⟨b,o+k,none⟩=some (.slice (some ⟨lb,lo',none⟩) l.length C):=fun D=>(D.h.cell (p:=⟨b,o+k,none⟩) hbW).trans d2
        have k3:∀D:LW W,D.val.cell? ⟨lb,lo'+i,none⟩=some (.int .i64 h):=fun D=>(D.h.cell (p:=⟨lb,lo'+i,none⟩) RR).trans d3
        have gJ:=ζ (fun (D:LW W)=>yw (some ⟨lb,lo',none⟩) C l.length i l h D.val rfl (HL.out.ints.later (iA.out.trans (D.h.mono iA.out.size))) hi (by omega));cases hst:decide (h∈l.take i) with
        |true=>
         have CV:Hid (∀D:LW W,Calls prog 60 #[.slice (some ⟨lb,lo',none⟩) l.length C,.int .i64 (i:Int),.int .i64 h] D.val fun e w'=>e= .returned (.bool true)/\Below D.val.heap.size D.val w'):=fun D=>(gJ.out D).mono fun e w' hh=>⟨by rw[hh.1,hst],by rw[hh.2];exact aae _ _⟩
         have HST:=ζ hst;clear hst gJ;go_wp2_with fail;refine aG (by kernel_rfl) (by kernel_rfl) ?_
         repeat (go_big_quiet_step ((go_at_call 60;exact Calls.lw (CV.out _))))
         refine wpQuiet_nil ?_;rintro _ ⟨D,rfl⟩;have bT:=ζ (iA.out.trans (D.h.mono iA.out.size));generalize D.val=W2 at*;clear k2 k3;go_wp2;go_ret2;refine⟨?_,bT.out⟩;rw[dI.out,iz.out,Ro.drop_cons ew.out,Ro.eU (Ro.jN (by rw[pN.out,Ro.drop_cons HH.out,Ro.lV WD.out (of_decide_eq_true HST.out)]) (by decide)) (by decide)];rfl
        |false=>
         have CV:Hid (∀D:LW W,Calls prog 60 #[.slice (some ⟨lb,lo',none⟩) l.length C,.int .i64 (i:Int),.int .i64 h] D.val fun e w'=>e= .returned (.bool false)/\Below D.val.heap.size D.val w'):=fun D=>(gJ.out D).mono fun e w' hh=>⟨by rw[hh.1,hst],by rw[hh.2];exact aae _ _⟩
         have HST:=ζ hst;clear hst gJ;go_wp2_with fail;refine aG (by kernel_rfl) (by kernel_rfl) ?_
         repeat (go_big_quiet_step ((go_at_call 60;exact Calls.lw (CV.out _))))
         refine wpQuiet_nil ?_;rintro _ ⟨D,rfl⟩;have bT:=ζ (iA.out.trans (D.h.mono iA.out.size));have TJ:=ζ ((D.h.block _ (lt_of_block sM.out)).trans sM.out);have C5:=ζ (show Ro.fA es k [] l=Ro.fA es k (l.take (i+1)) (l.drop (i+1)) by
          rw[pN.out,Ro.drop_cons HH.out,Ro.rX WD.out (of_decide_eq_false HST.out),Ro.dw HH.out])
         generalize D.val=W2 at*;clear k2 k3;go_wp2;go_roundw
         case rel=>exact⟨i+1,by omega,by go_num,C5.out,TJ.out,bT.out⟩
         case measure=>simp[intOf];omega
      .have BN:¬(i:Int)<(l.length:Int):=by omega
       obtain rfl:i=l.length:=by omega
       have rA:=ζ (show Ro.fA es k [] l=0 by rw[pN.out];simp[Ro.fA]);have pO:=ζ (fun (D:LW wr)=>qw ls.length ao ca es k D.val ((HE.out.later HB.out).later D.h) bY.out);obtain⟨dg,sJ⟩:∃dg,dg=Ro.gG es k:=⟨_,rfl⟩;rw[<-sJ] at pO;have KS:=ζ sJ;clear sJ;by_cases hd:l.length<dg
       .have t1:decide ((l.length:Int)<(dg:Int))=true:=by simp;omega
        have t2:(l.length:Int)<(dg:Int):=by omega
        go_wp2_with fail;refine aG (by kernel_rfl) (by kernel_rfl) ?_
        repeat (go_big_quiet_step ((go_at_call 61;exact Calls.lw (pO.out _))))
        refine wpQuiet_nil ?_;rintro _ ⟨D,rfl⟩;have iA:=ζ (HB.out.trans (D.h.mono HB.out.size));generalize D.val=W at*;clear k0 k1 k2;go_wp2;go_ret2;refine⟨?_,iA.out⟩;rw[dI.out,iz.out,Ro.drop_cons ew.out,Ro.eU (Ro.kE rA.out (by have:=KS.out;omega)) (by decide)];rfl
       .have t1:decide ((l.length:Int)<(dg:Int))=false:=by simp;omega
        have t2:¬(l.length:Int)<(dg:Int):=by omega
        have C6:=ζ (show Ro.fU es 0 ls=Ro.fU es (k+1) (ls.drop (k+1)) by
         rw[iz.out,Ro.drop_cons ew.out,Ro.wF (Ro.vp rA.out (by have:=KS.out;omega))])
        go_wp2_with fail;refine aG (by kernel_rfl) (by kernel_rfl) ?_
        repeat (go_big_quiet_step ((go_at_call 61;exact Calls.lw (pO.out _))))
        refine wpQuiet_nil ?_;rintro _ ⟨D,rfl⟩;have iA:=ζ (HB.out.trans (D.h.mono HB.out.size));have sM:=ζ ((D.h.block _ UE).trans HG.out);generalize D.val=W at*;clear k0 k1 k2;go_wp2;go_roundw
        case rel=>exact⟨k+1,by omega,by go_num,C6.out,sM.out,iA.out⟩
        case measure=>simp[intOf];omega
    .have aQ:¬(k:Int)<(ls.length:Int):=by omega
     obtain rfl:k=ls.length:=by omega
     go_wp2;go_ret2;refine⟨?_,HB.out⟩;rw[dI.out,iz.out];simp[Ro.fU]
  .have j1:((ls.length:Int) != (m:Int))=true:=by simp;omega
   have dI:Hid (Ro.check (m:Int) es ls=(0,110)):=by
    show _=_;unfold Ro.check;rw[if_pos hv,if_pos (by omega)]
   clear hv hval hk;go_enter func255,ntmps255;go_wp2_with (go_at_call 25;refine xW.out.mono ?_;rintro e w1 ⟨rfl,hb⟩;refine aaj ?_);refine ζ ?_;have j4:Hid (w1.heap[w.heap.size]? =some (.cells #[.int .i64 (m:Int),.slice ao es.length ca] 24 (0,0))):=(hb.block _ (by simp)).trans (heap_alloc_new w _);obtain⟨g0,g1,-⟩:=af j4.out;have aI:=ζ (aH.out.trans (hb.mono aH.out.size));clear hb;go_wp2;go_ret2;exact⟨by rw[dI.out];rfl,aI.out⟩
end
section
open Go.Proofs.Tryz
open Go.RowKit Go.Sort
theorem FO (n:Int) (ao:Option Addr) (ca:Nat) (es:List (Int×Int)) (xo:Option Addr) (xc:Nat) (ls:List (List Int)) (w:World) (he:ah w ao es) (hl:es.length<=4611686018427387904) (hx:bA w xo ls):
 Calls prog 200 #[az n ao es.length ca,.slice xo ls.length xc] w (MR n es ls w):=by
 obtain⟨i0,hi,hz0,hz1,hz2⟩:=info_parts Tryz.b7;have hb0:Below w.heap.size w (w.alloc (.cells #[.int .i64 n,.slice ao es.length ca] 24)):=(aae _ _).alloc (aad _) _;have dI:=ζ (Dm n ao ca es xo xc ls _ (he.later hb0) hl (hx.later hb0));have HX:=ζ hx;have aH:=ζ hb0;unfold az at dI ⊢;clear he hx hb0;have hch:Ro.check n es ls=((Ro.check n es ls).1,(Ro.check n es ls).2):=rfl;by_cases hc:(Ro.check n es ls).2=0
 .have vX:=Ro.ig.1 hc
  have hval:=Si.aK.1 vX.val;have hlo:=hval.lo;have hhi:=hval.hi;have bQ:=hval.few;have hlen:=vX.len;have Tn:=ζ vX;have HC:=ζ hc;rw[hc] at dI;obtain⟨cv,hcv⟩:∃cv,cv=(Ro.check n es ls).1:=⟨_,rfl⟩;rw[<-hcv] at dI;obtain⟨M,hM⟩:∃M,M=2*es.length:=⟨_,rfl⟩;have hmul:IntKind.i64.wrap (2*(es.length:Int))=(M:Int):=by rw[aam];omega
  have Gl:2*(es.length:Int)=(M:Int):=by omega
  have Yx:M<=8388608:=by omega
  have HM:=ζ hM;clear hch hc vX hval hcv hM;go_enter func200,ntmps200;go_wp2_with (go_at_call 255;refine dI.out.mono ?_;rintro e w1 ⟨rfl,hb⟩;refine aaj ?_);refine ζ ?_;have oQ:w1.heap[w.heap.size]? =some (.cells #[.int .i64 n,.slice ao es.length ca] 24 (0,0)):=(hb.block _ (by simp)).trans (heap_alloc_new w _);obtain⟨g0,g1,-⟩:=af oQ;have vW:w.heap.size<w1.heap.size:=lt_of_block oQ;have aI:=ζ (aH.out.trans (hb.mono aH.out.size));clear hb oQ;go_wp2_with (at_make;refine wpList_make_full _ rfl _ _ 55 rfl w1.heap.size 3 i0 (.int .i64 0) 1 Tryz.underlying55 hi hz0 hz1 _ _ _ _ M rfl rfl rfl rfl (by rw[hz2];omega) (by unfold maxLen;omega) (aad _) ?_;refine aaj ?_);refine ζ ?_;intro w2 hrow hg2;rw[cK] at hrow;have rz:=ζ (dV hrow);have hb2:Below w1.heap.size w1 w2:=(aae _ _).grown hg2 (aad _) (fun j hj=>by cases hj);have aB:=ζ (aI.out.trans (hb2.mono aI.out.size));clear hrow hg2 hb2 g0 g1;go_wp2;go_loopw [9] (fun c wr=>∃k:Nat,k<=ls.length/\c= .int .i64 (k:Int)/\ak wr w1.heap.size (Ro.nx ls k (List.replicate M 0))/\Below w.heap.size w wr) (fun c _=>ls.length-(intOf c).toNat)
  case atStart=>exact⟨0,aax _,rfl,rz.out,aB.out⟩
  case round=>
   obtain⟨k,hk,rfl,hik,hb⟩:=hrel;clear rz;have HI:=ζ hik;have HB:=ζ hb;clear hik hb;by_cases hlt:k<ls.length
   .have aQ:(k:Int)<(ls.length:Int):=by omega
    have hk0:(0:Int)<=(k:Int):=by omega
    obtain⟨l,hlk⟩:∃l,ls[k]? =some l:=⟨_,aac hlt⟩;have hgd:ls.getD k []=l:=by rw[aao,hlk];rfl
    obtain⟨b,o,A,C,rfl,hcell,hL,lN,-⟩:=HX.out k l hlk;have hbl:b<w.heap.size:=block_lt_of_cell hcell;have hcr:=(HB.out.cell (p:=⟨b,o+k,none⟩) hbl).trans hcell;have HL:=ζ hL;have ew:=ζ hlk;have C7:=ζ hcell;have sM:=ζ hgd;clear hcell hL hlk hgd;go_wp2;clear hcr;go_loopw [10] (fun c wr=>∃i:Nat,i<=l.length/\c= .int .i64 (i:Int)/\ak wr w1.heap.size (Ro.row l i (Ro.nx ls k (List.replicate M 0)))/\Below w.heap.size w wr) (fun c _=>l.length-(intOf c).toNat)
    case atStart=>exact⟨0,aax _,rfl,HI.out,HB.out⟩
    case round=>
     clear HI HB;obtain⟨i,hil,rfl,BO,hb⟩:=hrel;have HI:=ζ BO;have HB:=ζ hb;have hcr:=(HB.out.cell (p:=⟨b,o+k,none⟩) hbl).trans C7.out;clear BO hb;by_cases sI:i<l.length
     .have RP:(i:Int)<(l.length:Int):=by omega
      have abh:(0:Int)<=(i:Int):=by omega
      obtain⟨x,eP⟩:∃x,l[i]? =some x:=⟨_,aac sI⟩;obtain⟨j,rfl,hj,-⟩:=Tn.out.half ew.out eP;have X3:j<M:=by have:=HM.out;omega
      obtain⟨q,hq⟩:∃q,q=(i+1)%l.length:=⟨_,rfl⟩;have pV:q<l.length:=by rw[hq];exact acV _ (by omega)
      have UG:((i:Int)+1).tmod (l.length:Int)=(q:Int):=by
       rw[abS (by omega),hq];exact(adt (i+1) l.length).symm
      have aaL:((i:Int)+1)%(l.length:Int)=(q:Int):=by
       rw[hq];exact(adt (i+1) l.length).symm
      obtain⟨y,hy⟩:∃y,l[q]? =some y:=⟨_,aac pV⟩;obtain⟨lb,lo',rfl,lc⟩:=HL.out.elem eP;obtain⟨lb',aag,hle,Q6⟩:=HL.out.elem hy;cases hle;have wh:lb<w.heap.size:=block_lt_of_cell lc;have c1:=(HB.out.cell (p:=⟨lb,lo'+i,none⟩) wh).trans lc;have c2:=(HB.out.cell (p:=⟨lb,lo'+q,none⟩) wh).trans Q6;have hrl:(Ro.row l i (Ro.nx ls k (List.replicate M 0))).length=M:=by rw[Ro.qq,Ro.vM];simp
      obtain⟨z,hz⟩:∃z,(Ro.row l i (Ro.nx ls k (List.replicate M 0)))[j]? =some z:=⟨_,aac (by rw[hrl];exact X3)⟩;have c3:=HI.out.cell hz;have c4:=HI.out.free j;have jd:Hid (ak (wr.setCell ⟨w1.heap.size,j,none⟩ (.int .i64 y)) w1.heap.size (Ro.row l (i+1) (Ro.nx ls k (List.replicate M 0)))):=by
       have h1:=HI.out.set j y;have e:Ro.row l (i+1) (Ro.nx ls k (List.replicate M 0))=(Ro.row l i (Ro.nx ls k (List.replicate M 0))).set j y:=by
        show(Ro.row l i _).set (l.getD i 0).toNat (l.getD ((i+1)%l.length) 0)=_;rw[<-hq,aao,aao,eP,hy];rfl
       rw[e];exact h1
      have hj0:(0:Int)<=(j:Int):=by omega
      have abd:(j:Int)<(M:Int):=by omega
      have Jm:(0:Int)<=(q:Int):=by omega
      have aaM:(q:Int)<(l.length:Int):=by omega
      have hlz:((l.length:Int)==0)=false:=beq_false_of_ne (by omega);have hwq:IntKind.i64.wrap (q:Int)=(q:Int):=by rw[aam];omega
      have hwi:IntKind.i64.wrap ((i:Int)+1)=(i:Int)+1:=by rw[aam];omega
      clear hq hy eP lc Q6 hz hrl;go_wp2_with fail;go_big_region;go_wp2;go_roundw
      case rel=>exact⟨i+1,by omega,by go_num,jd.out,by first|exact HB.out.trans (dF (g:=w1.heap.size) _ (by omega))|exact(HB.out.trans (dF (g:=w1.heap.size) _ (by omega))).drew⟩
      case measure=>simp[intOf];omega
     .have RP:¬(i:Int)<(l.length:Int):=by omega
      obtain rfl:i=l.length:=by omega
      have jd:Hid (ak wr w1.heap.size (Ro.nx ls (k+1) (List.replicate M 0))):=by
       show ak wr w1.heap.size (Ro.row (ls.getD k []) (ls.getD k []).length _);rw[sM.out];exact HI.out
      go_wp2;go_roundw
      case rel=>exact⟨k+1,by omega,by go_num,jd.out,HB.out⟩
      case measure=>simp[intOf];omega
   .have aQ:¬(k:Int)<(ls.length:Int):=by omega
    obtain rfl:k=ls.length:=by omega
    go_wp2;go_ret2;refine⟨HB.out,.inr ⟨HC.out,w1.heap.size,by rw[<-HM.out];rfl,by omega,?_⟩⟩;unfold Ro.jy;rw[<-HM.out];exact HI.out
 .obtain⟨cv,hcv⟩:∃cv,cv=(Ro.check n es ls).1:=⟨_,rfl⟩
  obtain⟨cc,hcc⟩:∃cc,cc=(Ro.check n es ls).2:=⟨_,rfl⟩;rw[<-hcv,<-hcc] at dI;rw[<-hcc] at hc;have sP:=ζ hcc;have j1:(cc != 0)=true:=by simp[hc]
  have Zh:=ζ hc;clear hch hcv hcc hc;go_enter func200,ntmps200;go_wp2_with (go_at_call 255;refine dI.out.mono ?_;rintro e w1 ⟨rfl,hb⟩;refine aaj ?_);refine ζ ?_;have aI:=ζ (aH.out.trans (hb.mono aH.out.size));clear hb;go_wp2;go_ret2;refine⟨aI.out,.inl ⟨by rw[<-sP.out];exact Zh.out,by rw[<-sP.out];rfl⟩⟩
end
section
open Go.Proofs.Tryz
open Go.RowKit Go.Sort
theorem Lg (h:Nat) (w:World) (hh:h<=4611686018427387904):
 Calls prog 201 #[.int .i64 (h:Int)] w fun e w'=>e= .returned (.int .i64 (Cs.twin h:Int))/\Below w.heap.size w w':=by
 have hj0:(0:Int)<=(h:Int):=by omega
 have HB:=ζ (aae w.heap.size w);obtain⟨t,ht⟩:∃t,t=Cs.twin h:=⟨_,rfl⟩;rw[<-ht];rcases abF h with h2|h2
 .have hm1:(h:Int).tmod 2=0:=by rw[abS hj0];omega
  have hm2:(h:Int)%2=0:=by omega
  have he:t=h+1:=by rw[ht];unfold Cs.twin;rw[if_pos h2]
  have q1:IntKind.i64.wrap ((h:Int)+1)=(t:Int):=by rw[aam];omega
  have q2:(h:Int)+1=(t:Int):=by omega
  clear ht he h2;go_enter func201,ntmps201;go_wp2;go_ret;exact⟨rfl,HB.out⟩
 .have hm1:(h:Int).tmod 2=1:=by rw[abS hj0];omega
  have hm2:(h:Int)%2=1:=by omega
  have he:t+1=h:=by rw[ht];unfold Cs.twin;rw[if_neg (by omega)];omega
  have q1:IntKind.i64.wrap ((h:Int)-1)=(t:Int):=by rw[aam];omega
  have q2:(h:Int)-1=(t:Int):=by omega
  clear ht he h2;go_enter func201,ntmps201;go_wp2;go_ret;exact⟨rfl,HB.out⟩
namespace Fa
def gm (f:Nat->Nat) (k:Nat):List Int:=(List.range k).map fun h=>(f h:Int)
theorem qi (f:Nat->Nat) (k:Nat):(gm f k).length=k:=by simp[gm]
theorem K8 {f:Nat->Nat} {k h:Nat} (hh:h<k):(gm f k)[h]? =some (f h:Int):=by
 unfold gm;rw[aaP,acU hh];rfl
theorem Fy (f:Nat->Nat) (k:Nat):gm f (k+1)=gm f k++[(f k:Int)]:=by
 unfold gm;rw[acK,abj];rfl
theorem Qt {n:Nat} {f:Nat->Nat} (hp:jG n f) {h p j:Nat} (hh:h<n) (hl:uQ f n h p) (hj:j<p):Pl.it f j h∉way f h j:=fun hc=>by
 unfold way at hc;obtain⟨i,hi,e⟩:=abP.1 hc;rw[aaJ] at hi;refine hl.first (j-i) (by omega) (by omega) ?_
 have e2:Pl.it f j h=Pl.it f i (Pl.it f (j-i) h):=by rw[<-Pl.dU];congr 1;omega
 rw[e2] at e;exact(Pl.Ad hp.lt hp.inj i hh (Pl.lJ hp.lt _ hh) e).symm
end Fa
def acg (c:Int) (L:List Int) (w:World) (e:Ending) (w':World):Prop:=
 Below w.heap.size w w'/\∃v,e= .returned (.tuple #[v,.int .i64 c])/\((c≠0/\v= .slice none 0 0)\/(c=0/\aj w' w.heap.size v L))
theorem Lh (n:Int) (ao:Option Addr) (ca:Nat) (es:List (Int×Int)) (xo:Option Addr) (xc:Nat) (ls:List (List Int)) (w:World) (he:ah w ao es) (hl:es.length<=4611686018427387904) (hx:bA w xo ls):
 Calls prog 135 #[az n ao es.length ca,.slice xo ls.length xc] w (acg (Ro.check n es ls).2 (Fa.gm (Fa.ph es ls) (2*es.length)) w):=by
 have hb0:Below w.heap.size w (w.alloc (.cells #[.int .i64 n,.slice ao es.length ca] 24)):=(aae _ _).alloc (aad _) _;have HN:=ζ (FO n ao ca es xo xc ls _ (he.later hb0) hl (hx.later hb0));have aH:=ζ hb0;unfold az at HN ⊢;obtain⟨C,hC⟩:∃C,C=(Ro.check n es ls).2:=⟨_,rfl⟩;have HC:=ζ hC;rw[<-hC];clear he hx hb0 hC;go_enter func135,ntmps135;go_wp2_with (go_at_call 200;refine HN.out.mono ?_;intro e w1 hp;obtain⟨hb1,⟨hc,rfl⟩|⟨hc,g,rfl,hg,hi⟩⟩:=hp<;>refine aaj ?_)
 all_goals refine ζ ?_
 .have HB:=ζ (aH.out.trans (hb1.mono aH.out.size))
  rw[<-HC.out] at hc ⊢;have rC:=ζ hc;clear hc hb1;go_wp2;refine wp_loop_rounds 1 ?_;rw[rounds_succ];go_wp2;go_ret2;exact⟨HB.out,_,rfl,.inl ⟨rC.out,rfl⟩⟩
 .have hr:=Ro.ig.1 hc
  have hv:=Si.aK.1 hr.val;obtain⟨N,rfl⟩:∃N:Nat,n=(N:Int):=⟨n.toNat,by have:=hv.lo;omega⟩;have hst:=En hc hi;have bQ:=hst.few;have HST:=ζ hst;have HB:=ζ (aH.out.trans (hb1.mono aH.out.size));have hs1:=HB.out.size;rw[<-HC.out] at hc;have rC:=ζ hc;obtain⟨M,hM⟩:∃M,M=2*es.length:=⟨_,rfl⟩;rw[<-hM] at HST bQ ⊢;have hev:=HST.out.even;have pJ:=ζ hM;clear hc hb1 hg hi hr hv hst hM;go_wp2;go_loopw [8,9] (fun c8 c9 wr=>∃k:Nat,k<=M/\c9= .int .i64 (k:Int)/\aj wr w1.heap.size c8 (Fa.gm (Fa.ph es ls) k)/\Below w1.heap.size w1 wr) (fun _ c9 _=>M-(intOf c9).toNat)
  case atStart=>exact⟨0,aax _,rfl,aj.nil _ _,aae _ _⟩
  case round=>
   obtain⟨k,hk,rfl,hO,hb⟩:=hrel;obtain⟨W0,rfl⟩:∃W0,W0=wr:=⟨_,rfl⟩;obtain⟨uo,uc,Rp,-⟩:=hO.form;rw[Fa.qi] at Rp;subst Rp;have HO:=ζ hO;have wU:=ζ hb;have hwk:IntKind.i64.wrap ((k:Int)+1)=(k:Int)+1:=by rw[aam];omega
   by_cases hlt:k<M
   .have aQ:(k:Int)<(M:Int):=by omega
    have hk0:(0:Int)<=(k:Int):=by omega
    have HT:=ζ (Lg k W0 (by omega));have Dz:Cs.twin k<M:=by
     have:=Cs.eM (i:=k) (m:=M/2) (by omega);omega
    have hcl:=fun U (hU:Below w1.heap.size w1 U)=>(HST.out.later hU).cell k hlt
    obtain⟨t,ht⟩:∃t,t=Cs.twin k:=⟨_,rfl⟩;rw[<-ht] at HT Dz;simp only[<-ht] at hcl;have rB:=ζ hcl;have ti0:(0:Int)<=(t:Int):=by omega
    have ti1:(t:Int)<(M:Int):=by omega
    clear hO hb ht hcl;go_wp2_with (go_at_call 201;refine HT.out.mono ?_;rintro e w2 ⟨rfl,hb2⟩;refine aaj ?_);refine ζ ?_;have aB:=ζ (wU.out.trans (hb2.mono wU.out.size));have kQ:=ζ (HO.out.later hb2);have hs2:=aB.out.size;have hcc:=rB.out w2 aB.out;clear hb2;go_wp2_with (at_builtin;refine bB rfl _ _ rfl w2 w1.heap.size _ (Fa.gm (Fa.ph es ls) k) (Fa.ph es ls k:Int) kQ.out hs2 (by rw[Fa.qi];omega) rfl rfl ?_;refine aaj ?_);refine ζ ?_;intro v' w3 mY hg3 iC hb3;have ry:Hid (aj w3 w1.heap.size v' (Fa.gm (Fa.ph es ls) (k+1))):=by
     rw[Fa.Fy];exact mY
    have aJ:=ζ (aB.out.trans hb3);clear mY hg3 iC hb3 hcc;go_wp2;go_roundw
    case rel=>exact⟨k+1,by omega,by go_num,ry.out,aJ.out⟩
    case measure=>simp[intOf];omega
   .have hd:¬(k:Int)<(M:Int):=by omega
    have hkM:k=M:=by omega
    have Zd:Hid (aj W0 w.heap.size (.slice uo k uc) (Fa.gm (Fa.ph es ls) (2*es.length))):=by
     have h1:=hO.lower hs1;rw[hkM] at h1 ⊢;rw[<-pJ.out];exact h1
    clear hO hb hkM;go_wp2;go_ret2;exact⟨HB.out.trans (wU.out.mono hs1),.slice uo k uc,by rw[rC.out];rfl,.inr ⟨rC.out,Zd.out⟩⟩
end
section
open Go.Proofs.Tryz
open Go.RowKit Go.Sort
theorem Lr (n:Int) (ao:Option Addr) (ca:Nat) (es:List (Int×Int)) (xo:Option Addr) (xc:Nat) (ls:List (List Int)) (w:World) (he:ah w ao es) (hl:es.length<=4611686018427387904) (hx:bA w xo ls):
 Calls prog 88 #[az n ao es.length ca,.slice xo ls.length xc] w (adS (Ro.check n es ls).2 (Fa.all es ls) w):=by
 obtain⟨i0,mj,hz0,hz1,hz2⟩:=info_parts Tryz.nR;have hb0:Below w.heap.size w (w.alloc (.cells #[.int .i64 n,.slice ao es.length ca] 24)):=(aae _ _).alloc (aad _) _;have HN:=ζ (Lh n ao ca es xo xc ls _ (he.later hb0) hl (hx.later hb0));have aH:=ζ hb0;unfold az at HN ⊢;obtain⟨C,hC⟩:∃C,C=(Ro.check n es ls).2:=⟨_,rfl⟩;have HC:=ζ hC;rw[<-hC] at HN ⊢;clear he hx hb0 hC;go_enter func88,ntmps88;go_wp2_with (go_at_call 135;refine HN.out.mono ?_;intro e w1 hp;obtain⟨hb1,v,rfl,⟨hc,rfl⟩|⟨hc,RG⟩⟩:=hp<;>refine aaj ?_)
 all_goals refine ζ ?_
 .have HB:=ζ (aH.out.trans (hb1.mono aH.out.size))
  have hcb:(C != 0)=true:=by simpa using hc
  have rC:=ζ hc;clear hc hb1;go_wp2;go_ret2;exact⟨HB.out,.inl ⟨rC.out,rfl⟩⟩
 .have hc':=hc
  rw[HC.out] at hc';have hr:=Ro.ig.1 hc';have hv:=Si.aK.1 hr.val;obtain⟨N,rfl⟩:∃N:Nat,n=(N:Int):=⟨n.toNat,by have:=hv.lo;omega⟩;have RD:=Fa.vJ hr;obtain⟨m,ho⟩:=Fa.mD RD;have bQ:=hv.few;have zu:=ζ RD;have HO:=ζ ho;have HB:=ζ (aH.out.trans (hb1.mono aH.out.size));have hs1:=HB.out.size;obtain⟨so,sc,DC,hsa,hsb⟩:=RG.form;rw[Fa.qi] at DC;subst DC;have rC:=ζ hc;subst hc;obtain⟨M,hM⟩:∃M,M=2*es.length:=⟨_,rfl⟩;obtain⟨f,hf⟩:∃f,f=Fa.ph es ls:=⟨_,rfl⟩;have iG:Hid (Fa.all es ls=(Fa.aR f M M).map Fa.zl):=by rw[hf,hM];rfl
  rw[<-hM,<-hf] at hsa zu HO;rw[<-hM];have hM8:M<=8388608:=by omega
  have hmk:∀W,(Instr.makeSlice 237 (.int .i64 (M:Int)) (.int .i64 (M:Int))).run prog W= .ok (.slice (some ⟨W.heap.size,0,none⟩) M M) (W.alloc (.cells (madeCells #[.bool false] M) 4)):=fun W=>by
   have:=run_make (P:=prog) W 237 4 i0 (.bool false) Tryz.underlying237 mj hz0 .i64 .i64 (M:Int) (M:Int) (by omega) (acE _) (by rw[hz2];omega) (by omega);rw[this,hz1];simp[Value.cells]
  obtain⟨w2,hw2⟩:∃w2,w2=w1.alloc (.cells (madeCells #[.bool false] M) 4):=⟨_,rfl⟩;have hb2:Below w1.heap.size w1 w2:=by rw[hw2];exact(aae _ _).alloc (aad _) _
  have hs2:w1.heap.size<w2.heap.size:=by rw[hw2];simp
  have Eb:Hid (aF w2 w1.heap.size M (fun x=>decide (m x<0))):=by rw[hw2];exact(jV rfl M).gQ fun i _=>by simp
  have aB:=ζ (HB.out.trans (hb2.mono HB.out.size));have rq:Hid (∀U,Below w1.heap.size w2 U->aU U so (Fa.gm f M)):=fun U hU=>hsa.low (fun x hx=>(hsb x hx).2) (hb2.trans hU)
  have t0:((0:Int) != 0)=false:=rfl;have DY:=ζ hw2;clear hb1 RG hsa hsb hr hv RD ho hb2 hM hf hw2 bQ;go_wp2;rw[<-DY.out];clear hmk DY;go_loopw [9,10] (fun c9 c10 wr=>∃(k:Nat) (vs:List Value),k<=M/\c10= .int .i64 (k:Int)/\ay wr w2.heap.size c9 vs ((Fa.aR f M k).map Fa.zl)/\aF wr w1.heap.size M (fun x=>decide (m x<k))/\Below w1.heap.size w2 wr) (fun _ c10 _=>M-(intOf c10).toNat)
  case atStart=>exact⟨0,[],aax _,rfl,ay.nil _ _,Eb.out,aae _ _⟩
  case round=>
   obtain⟨k,vs,hk,rfl,hR,hI,hb⟩:=hrel;obtain⟨W0,rfl⟩:∃W0,W0=wr:=⟨_,rfl⟩;obtain⟨uo,q,uc,rfl⟩:∃a q c,u9= .slice a q c:=by
    obtain⟨a,c,e⟩:=bG hR;exact⟨_,_,_,e⟩
   have HR:=ζ hR;have HI:=ζ hI;have wU:=ζ hb;have hsz:=hb.size;have hwk:IntKind.i64.wrap ((k:Int)+1)=(k:Int)+1:=by rw[aam];omega
   by_cases hlt:k<M
   .have aQ:(k:Int)<(M:Int):=by omega
    have hk0:(0:Int)<=(k:Int):=by omega
    have hc:=hI.cell hlt;have hle:=HO.out.norm.le k hlt;by_cases e:m k=k
    .have e1:decide (m k<k)=false:=by simp[e]
     rw[e1] at hc;have HE:=ζ e;obtain⟨p,hp⟩:=Fa.vO zu.out hlt;have HP:=ζ hp;have aaQ:=hp.le;have l5:=ζ (fun i=>Pl.lJ zu.out.lt i hlt);have Zl:Hid (∀i,m (Pl.it f i k)=k):=fun i=>by
      have:=(HO.out.iff k (Pl.it f i k) hlt (l5.out i)).2 ⟨i,rfl⟩;rw[<-this,e]
     clear hR hI hb e e1 hle hp;go_wp2;clear hc;go_loopw [11,12] (fun c11 c12 wr=>∃j:Nat,j<=p/\c12= .int .i64 (Pl.it f j k:Int)/\aj wr W0.heap.size c11 (Fa.zl (Fa.way f k j))/\aF wr w1.heap.size M (fun y=>decide (m y<k)||(Fa.way f k j).contains y)/\ay wr w2.heap.size (.slice uo q uc) vs ((Fa.aR f M k).map Fa.zl)/\Below w1.heap.size w2 wr/\W0.heap.size<=wr.heap.size) (fun c11 _ _=>p-tW c11)
     case atStart=>exact⟨0,aax _,rfl,aj.nil _ _,HI.out.gQ fun i _=>by simp[Fa.way],HR.out,wU.out,aad _⟩
     case round=>
      obtain⟨j,hj,rfl,hO,hI,hR,hb,Ji⟩:=hrel;obtain⟨W1,rfl⟩:∃W1,W1=wr:=⟨_,rfl⟩;obtain⟨fo,fc,oM,-⟩:=hO.form;rw[Fa.kD,Fa.iJ] at oM;subst oM;obtain⟨y,hy⟩:∃y,y=Pl.it f j k:=⟨_,rfl⟩;have oG:=l5.out j;have UJ:=Zl.out j;rw[<-hy] at oG UJ ⊢;have Jd:(y:Int)<(M:Int):=by omega
      have hy0:(0:Int)<=(y:Int):=by omega
      have zX:=ζ hO;have Vy:=ζ hI;have pH:=ζ hR;have aI:=ζ hb;have Sj:=hI.cell oG;have Yg:decide (m y<k)=false:=by simp[UJ]
      rw[Yg,Bool.false_or] at Sj;by_cases Md:j<p
      .have hnm:=Fa.Qt zu.out hlt HP.out Md
       rw[<-hy] at hnm;have hct:(Fa.way f k j).contains y=false:=by
        cases hcon:(Fa.way f k j).contains y with
        |false=>rfl
        |true=>exact absurd (ab8.1 hcon) hnm
       rw[hct] at Sj;have hfr:=hI.free y;obtain⟨W2,hW2⟩:∃W2,W2=W1.setCell ⟨w1.heap.size,y,none⟩ (.bool true):=⟨_,rfl⟩;have rz:Hid (aF W2 w1.heap.size M (fun z=>decide (m z<k)||(Fa.way f k (j+1)).contains z)):=by
        rw[hW2];refine(hI.set y true).gQ fun z _=> ?_
        rw[Fa.wX,<-hy];by_cases ez:z=y
        .subst ez
         rw[Co.eY];simp
        .rw[Co.dr _ ez]
         simp[ez]
       have kQ:Hid (aj W2 W0.heap.size (.slice fo j fc) (Fa.zl (Fa.way f k j))):=by
        rw[hW2];exact hO.same fun g' hg _=>eV (fun e=>by have:=(aap hO g' hg).1;omega) _
       have oh:Hid (ay W2 w2.heap.size (.slice uo q uc) vs ((Fa.aR f M k).map Fa.zl)):=by
        rw[hW2];refine hR.kept fun b' hb' _=>eV (fun e=> ?_) _
        have:w2.heap.size<=b':=by
         rcases hb' with hb'|⟨u,z,hz,hzb⟩
         .exact(aap hR.outer b' hb').1
         .obtain⟨l,hl⟩:=hR.at hz
          exact(aap (hR.row u z l hz hl) b' hzb).1
        omega
       have adL:Hid (Below w1.heap.size w2 W2):=by rw[hW2];exact hb.setCell (aad _) _
       have aaC:W0.heap.size<=W2.heap.size:=by rw[hW2];simpa using Ji
       have Ta:=ζ hW2;have HSZ:Hid (W2.heap.size=W1.heap.size):=by rw[hW2];exact ζ (by simp)
       have HY:=ζ hy;clear hO hI hR hb hnm hct Yg UJ hy hW2;go_wp2_with (at_builtin;rw[<-Ta.out];refine bB rfl _ _ rfl W2 W0.heap.size _ (Fa.zl (Fa.way f k j)) (y:Int) kQ.out aaC (by rw[Fa.kD,Fa.iJ];omega) rfl (by rw[HSZ.out];rfl) ?_;refine aaj ?_);refine ζ ?_;intro v' w3 mY hg3 iC hb3;have ry:Hid (aj w3 W0.heap.size v' (Fa.zl (Fa.way f k (j+1)))):=by
        rw[Fa.wX,<-HY.out];unfold Fa.zl;rw[abj];exact mY
       have hs3:=hb3.size;have jd:Hid (aF w3 w1.heap.size M (fun z=>decide (m z<k)||(Fa.way f k (j+1)).contains z)):=rz.out.same (hb3.block _ (by omega));have jH:Hid (ay w3 w2.heap.size (.slice uo q uc) vs ((Fa.aR f M k).map Fa.zl)):=oh.out.kept fun b' hb' _=>hb3.block b' (by
        rcases hb' with hb'|⟨u,z,hz,hzb⟩
        .exact(aap HR.out.outer b' hb').2
        .obtain⟨l,hl⟩:=HR.out.at hz
         exact(aap (HR.out.row u z l hz hl) b' hzb).2)
       have aJ:=ζ (adL.out.trans (hb3.mono (by omega)));obtain⟨bs,os,DC,hcs⟩:=rq.out w3 aJ.out y _ (Fa.K8 oG);subst DC;obtain⟨vo,vc,bZ,-⟩:=ry.out.form;rw[Fa.kD,Fa.iJ] at bZ;subst bZ;have Sb:f y=Pl.it f (j+1) k:=by rw[Pl.jW,HY.out]
       rw[Sb] at hcs;have aaB:W0.heap.size<=w3.heap.size:=by omega
       have Me:j+1<=p:=by omega
       clear mY hg3 iC hb3 Sb;go_wp2;go_roundw
       case rel=>exact⟨j+1,Me,rfl,ry.out,jd.out,jH.out,aJ.out,aaB⟩
       case measure=>simp[tW];omega
      .have NI:j=p:=by omega
       have hct:(Fa.way f k j).contains y=true:=by
        rw[ab8,NI];rw[NI,HP.out.back] at hy;rw[hy];exact(Fa.IJ HP.out).2 ⟨0,rfl⟩
       rw[hct] at Sj;have HFW:Hid (Fa.way f k j=Fa.fS f M k):=by
        show Fa.way f k j=Fa.fS f M k;rw[Fa.nU HP.out,NI]
       have jd:Hid (aF W1 w1.heap.size M (fun x=>decide (m x<k+1))):=by
        refine hI.gQ fun z hz=> ?_
        rw[HFW.out,ach];simp only[abR,decide_eq_true_iff,ab8];rw[Fa.rQ zu.out HO.out hlt,HE.out];omega
       have ru:Hid (∀b',((Value.slice uo q uc).ownBlock=some b'\/cC vs b')->b'<W0.heap.size):=fun b' hb'=>by
        rcases hb' with hb'|⟨u,z,hz,hzb⟩
        .exact(aap HR.out.outer b' hb').2
        .obtain⟨l,hl⟩:=HR.out.at hz
         exact(aap (HR.out.row u z l hz hl) b' hzb).2
       have HOW:Hid (∀b',(Value.slice fo j fc).ownBlock=some b'->W0.heap.size<=b'):=fun b' hb'=>(aap hO b' hb').1
       have hfl:((Fa.aR f M k).map Fa.zl).length<=8388608:=by
        rw[aaE,Fa.kM zu.out HO.out hk];have:=Co.bF (Co.fix m) k;omega
       clear hO hI hR hb hct Yg UJ hy NI;go_wp2_with (at_builtin;refine ny rfl _ _ 25 Tryz.underlying25 rfl W1 w2.heap.size (.slice uo q uc) vs ((Fa.aR f M k).map Fa.zl) (.slice fo j fc) (Fa.zl (Fa.way f k j)) pH.out (zX.out.lower (by omega)) (fun u z b hz hzb e=>by have h1:=ru.out b (.inr ⟨u,z,hz,hzb⟩);have h2:=HOW.out b e;omega) (fun b hb e=>by have h1:=ru.out b (.inl hb);have h2:=HOW.out b e;omega) (by omega) (by omega) rfl rfl ?_;refine aaj ?_);refine ζ ?_;intro v4 w4 hr4 hk4 hv4 hb4;have hbd:∀b',(Value.slice uo q uc).ownBlock=some b'->w2.heap.size<=b':=fun b' hb'=>(aap pH.out.outer b' hb').1
       have xY:Hid (ay w4 w2.heap.size v4 (vs++[.slice fo j fc]) ((Fa.aR f M (k+1)).map Fa.zl)):=by
        rw[Fa.oW zu.out HO.out hlt HE.out,abj];rw[HFW.out] at hr4;exact hr4
       have M6:Hid (aF w4 w1.heap.size M (fun x=>decide (m x<k+1))):=jd.out.same (hk4 _ jd.out.lt (fun e=>by have:=hbd _ e;omega));have dy:=ζ (aI.out.trans (hb4.mono (by omega)));clear hr4 hk4 hv4 hb4 hbd;go_wp2;go_roundw
       case rel=>exact⟨k+1,_,by omega,by go_num,xY.out,M6.out,dy.out⟩
       case measure=>simp[intOf];omega
    .have e1:decide (m k<k)=true:=by simp;omega
     rw[e1] at hc;have jd:Hid (aF W0 w1.heap.size M (fun x=>decide (m x<k+1))):=by
      refine hI.gQ fun y hy=> ?_
      have:m y≠k:=fun h=>by
       have:=HO.out.norm.idem y hy;rw[h] at this;exact e this
      rw[ach,decide_eq_true_iff,decide_eq_true_iff];omega
     have jH:Hid (ay W0 w2.heap.size (.slice uo q uc) vs ((Fa.aR f M (k+1)).map Fa.zl)):=by
      rw[Fa.qP zu.out HO.out hlt e];exact hR
     clear hR hI hb e e1 hle;go_wp2;go_roundw
     case rel=>exact⟨k+1,vs,by omega,by go_num,jH.out,jd.out,wU.out⟩
     case measure=>simp[intOf];omega
   .have hd:¬(k:Int)<(M:Int):=by omega
    have hkn:k=M:=by omega
    have jH:Hid (ay W0 w.heap.size (.slice uo q uc) vs (Fa.all es ls)):=by
     have h3:ay W0 w.heap.size (.slice uo q uc) vs ((Fa.aR f M k).map Fa.zl):=hR.lower (by omega);rw[hkn] at h3;rw[iG.out];exact h3
    have bT:=ζ (aB.out.trans (hb.mono hs1));clear hR hI hb hkn;go_wp2;go_ret2;exact⟨bT.out,.inr ⟨rfl,_,vs,rfl,jH.out⟩⟩
end
section
open Go.RowKit Go.Sort
namespace Fa
def Z8 (j:Nat) (l:List Nat) (acc:List Int):List Int:=l.foldl (fun acc h=>acc.set h (j:Int)) acc
def lay (fs:List (List Nat)):Nat->List Int->List Int
 |0,acc=>acc
 |k+1,acc=>Z8 k (fs.getD k []) (lay fs k acc)
def left (es:List (Int×Int)) (ls:List (List Int)):List Int:=lay (aR (ph es ls) (2*es.length) (2*es.length)) (aR (ph es ls) (2*es.length) (2*es.length)).length (List.replicate (2*es.length) 0)
section
end
end Fa
end
section
open Go.Proofs.Tryz
open Go.RowKit Go.Sort
theorem Co.LO (k:Nat) (f:Nat->Nat):Co.ints (k+1) f=Co.ints k f++[(f k:Int)]:=by
 unfold Co.ints;rw[acK,abj];rfl
def Qc (n:Int) (w:World) (e:Ending) (w':World):Prop:=
 ((∃(k:Nat) (v:Value),n=(k:Int)/\k<=1048576/\e= .returned (.tuple #[v,.int .i64 0])/\aj w' w.heap.size v (Co.ints k (fun x=>x)))\/((n<0\/1048576<n)/\e= .returned (.tuple #[.slice none 0 0,.int .i64 2])))/\Below w.heap.size w w'
theorem OD (n:Int) (w:World):Calls prog 136 #[.int .i64 n] w (Qc n w):=by
 obtain⟨i0,hi,hz0,hz1,hz2⟩:=info_parts Tryz.b7;by_cases h1:n<0
 .go_enter func136,ntmps136
  go_wp2;go_ret2;exact⟨.inr ⟨.inl h1,rfl⟩,aae _ _⟩
 by_cases h2:1048576<n
 .go_enter func136,ntmps136
  go_wp2;go_ret2;exact⟨.inr ⟨.inr h2,rfl⟩,aae _ _⟩
 obtain⟨k,rfl⟩:∃k:Nat,n=(k:Int):=⟨n.toNat,by omega⟩;have hkn:k<=1048576:=by omega
 go_enter func136,ntmps136;go_wp2;go_loopw [4,5] (fun s cv wr=>∃j:Nat,j<=k/\cv= .int .i64 (j:Int)/\aj wr w.heap.size s (Co.ints j (fun x=>x))/\Below w.heap.size w wr) (fun _ cv _=>k-(intOf cv).toNat)
 case atStart=>exact⟨0,aax _,rfl,aj.nil _ _,aae _ _⟩
 case round=>
  obtain⟨j,hj,rfl,ho,hb⟩:=hrel;obtain⟨ao,ca,hs,-,-⟩:=ho.form;rw[Co.aZ] at hs;by_cases hlt:j<k
  .have aQ:(j:Int)<(k:Int):=by omega
   unfold aj at ho;rw[Co.aZ] at ho;have HO:=ζ ho;have HB:=ζ hb;have hsb:=hb.size;have Pq:∀b,(Value.slice ao j ca).ownBlock=some b->w.heap.size<=b:=fun b hbk=>by
    rw[hs] at ho;exact(aap ho b hbk).1
   have HOB:=ζ Pq;subst hs;clear ho hb Pq;go_wp2_with (at_builtin;refine wpList_append_own_at _ rfl _ _ 55 rfl w.heap.size 3 i0 (.int .i64 0) 1 8 Tryz.underlying55 hi hz0 hz1 hz2 rfl (by decide) _ _ _ rfl (abH HO.out _) ⟨wr.heap.size,0,none⟩ 1 1 [.int .i64 (j:Int)] rfl rfl (cell_one_new _ _ _) (by simp[Value.oneCell']) (by unfold maxLen;omega) (by omega) (by simp;omega) ?_;refine aaj ?_);refine ζ ?_;intro v1 w1 hown1 NJ _ abC;obtain⟨g1,c1,BC⟩:=rL hown1;subst BC;have zX:Hid (aj w1 w.heap.size (.slice (some ⟨g1,0,none⟩) (j+1) c1) (Co.ints (j+1) (fun x=>x))):=by
    show aj _ _ _ _;unfold aj;rw[Co.aZ,Co.LO,abj];exact hown1
   have aI:=ζ ((HB.out.alloc hsb _).grown NJ (by simp;omega) HOB.out);clear hown1 NJ abC;go_wp2;go_roundw
   case rel=>exact⟨j+1,by omega,by go_num,zX.out,aI.out⟩
   case measure=>simp[intOf];omega
  .have hd:¬((j:Int)<(k:Int)):=by omega
   obtain rfl:j=k:=by omega
   have HO:=ζ ho;have HB:=ζ hb;subst hs;clear ho hb;go_wp2;go_ret2;exact⟨.inl ⟨j,_,rfl,hkn,rfl,HO.out⟩,HB.out⟩
end
end Go.Proofs.YtdbjpbjocmcpkaaGreatDoor
