/-
  Proved: for every two lists of bytes the law CheckBytes answers true, and they read afterwards as before.
-/
import Derived.Test.YtdbjpbjocmcpkaaGreatDoorMj51
import Derived.Test.YtdbjpbjocmcpkaaGreatDoorMj48
import Derived.Test.YtdbjpbjocmcpkaaGreatDoorMj23
set_option maxHeartbeats 4000000
set_option maxRecDepth 100000
namespace Go.Proofs.YtdbjpbjocmcpkaaGreatDoor
open Go.Proofs.Tryz
open Go.ChangeShapes Go.WideShapes Go.ChangeAt Go.RowKit
theorem EE {ao bo:Option Addr} {n m ca cb:Nat} {g h:Nat->Int} {w:World} (hg:aJ w ao n g) (ha:∀x,ao=some x->x.block<w.heap.size/\x.spot=none) (hn:n<=maxLen) (hca:n<=ca)
 (hh:aJ w bo m h) (hb:∀x,bo=some x->x.block<w.heap.size/\x.spot=none) (hm:m<=4611686018427387904) (hcb:m<=cb) (ht:lC w):
 Calls prog 15 #[.slice ao n ca,.slice bo m cb] w fun e w'=>e= .returned (.bool (Ck.bytes g n h m==0))/\Below w.heap.size w w':=by
 have HB:=ζ (yJ hg ha hn hca hh hb hm hcb ht);generalize Ck.bytes g n h m=k at HB ⊢;clear hg ha hh hb ht;go_enter func15,ntmps15;go_wp2_with (go_at_call 14;refine HB.out.mono ?_;rintro e w1 ⟨rfl,hb1⟩;have aD:=ζ hb1;clear hb1;refine aaI ?_);refine ζ ?_;go_wp2;go_ret;exact⟨rfl,aD.out⟩
namespace Qn
theorem walk (ba:Option Addr) (bn bc:Nat) (bz:List Int) (da:Option Addr) (dn dc:Nat) (dz:List Int) (w:World) (w0:iz .u8 1 w ba bn bc bz) (w1:iz .u8 1 w da dn dc dz) (ht:lC w):
 Calls prog 4 #[.slice ba bn bc,.slice da dn dc] w fun e w'=>e= .returned (.bool true)/\Below w.heap.size w w':=by
 obtain⟨i0,hi,hz0,hz1,hz2⟩:=info_parts Tryz.X0;have Yr:bn<=140737488351232:=by simpa using w0.small
 have hdn:dn<=140737488351232:=by simpa using w1.small
 have SD:bn<=maxLen:=by unfold maxLen;omega
 have HbR:=ζ w0;have HdR:=ζ w1;have HbX:=ζ w0.text;have HdX:=ζ w1.text;have HbT:=ζ w0.take;have HdT:=ζ w1.take;have oW:=ζ (eY ht);have rP:=ζ (Ce.xD w1.text.txt);obtain⟨rc,rp,rk,hR⟩:∃rc rp rk,Ce.parse (Ce.bD dn (fun i=>dz.getD i 0)) dn=(rc,rp,rk):=⟨_,_,_,rfl⟩;have HR:=ζ hR;rw[hR] at rP;obtain⟨k,hk⟩:∃k,Ck.bytes (fun i=>bz.getD i 0) bn (fun i=>dz.getD i 0) dn=k:=⟨_,rfl⟩;have HK:=ζ hk;have HWK:=ζ (H9 w ht);clear w0 w1 ht hR hk;go_enter func4,ntmps4;go_wp2_with (go_at_call 9;refine HWK.out.mono ?_;rintro e w1 ⟨rfl,hb1⟩;have aD:=ζ hb1;clear hb1;refine aaI ?_);refine ζ ?_;have tH:=ζ (HbR.out.later aD.out);go_wp2_with (at_builtin;refine fP rfl _ _ 35 rfl 5 .u8 i0 1 Tryz.underlying35 hi hz0 hz1 hz2 (by decide) _ ba bn bc bz rfl rfl tH.out ?_;refine aaI ?_);refine ζ ?_;intro g1 c1 w2 hown hgb hlt hlc hb;rw[<-acV] at hown;have wN:=ζ (mJ HbT.out (fun i hi=>(HbX.out i hi).1) hown);have lG:=ζ (And.intro hlt hlc);have ahf:=ζ hb;have aA:=ζ (aD.out.trans (hb.mono aD.out.size));clear hown hgb hlt hlc hb tH;have eC:=ζ (HdR.out.later aA.out);go_wp2_with (at_builtin;refine fP rfl _ _ 35 rfl 5 .u8 i0 1 Tryz.underlying35 hi hz0 hz1 hz2 (by decide) _ da dn dc dz rfl rfl eC.out ?_;refine aaI ?_);refine ζ ?_;intro g2 c2 w3 hown hgb hlt hlc hb;rw[<-acV] at hown;have YW:=ζ (mJ HdT.out (fun i hi=>(HdX.out i hi).1) hown);have uQ:=ζ (And.intro hlt hlc);have Xi:=ζ hb;have aK:=ζ (aA.out.trans (hb.mono aA.out.size));clear hown hgb hlt hlc hb eC;have lV:=yJ (wN.out.later Xi.out) (fun x hx=>by cases hx;exact⟨abd lG.out.1 Xi.out.size,rfl⟩) SD lG.out.2 YW.out (fun x hx=>by cases hx;exact⟨uQ.out.1,rfl⟩) (by omega) uQ.out.2 (oW.out _ aK.out);rw[HK.out] at lV;have nW:=ζ lV;clear lV;go_wp2_with (go_at_call 14;refine nW.out.mono ?_;rintro e w4 ⟨rfl,hb4⟩;have cZ:=ζ (aK.out.trans (hb4.mono aK.out.size));clear hb4;refine aaI ?_);refine ζ ?_;clear nW wN YW lG uQ ahf Xi;have fK:=ζ (HbR.out.later cZ.out);go_wp2_with (at_builtin;refine fP rfl _ _ 35 rfl 5 .u8 i0 1 Tryz.underlying35 hi hz0 hz1 hz2 (by decide) _ ba bn bc bz rfl rfl fK.out ?_;refine aaI ?_);refine ζ ?_;intro g3 c3 w5 hown hgb hlt hlc hb;rw[<-acV] at hown;have Nb:=ζ (mJ HbT.out (fun i hi=>(HbX.out i hi).1) hown);have oZ:=ζ (And.intro hlt hlc);have ahe:=ζ hb;have fM:=ζ (cZ.out.trans (hb.mono cZ.out.size));clear hown hgb hlt hlc hb fK;have Ac:=ζ (HdR.out.later fM.out);go_wp2_with (at_builtin;refine fP rfl _ _ 35 rfl 5 .u8 i0 1 Tryz.underlying35 hi hz0 hz1 hz2 (by decide) _ da dn dc dz rfl rfl Ac.out ?_;refine aaI ?_);refine ζ ?_;intro g4 c4 w6 hown hgb hlt hlc hb;rw[<-acV] at hown;have HT4:=ζ (mJ HdT.out (fun i hi=>(HdX.out i hi).1) hown);have WT:=ζ (And.intro hlt hlc);have Xh:=ζ hb;have mE:=ζ (fM.out.trans (hb.mono fM.out.size));clear hown hgb hlt hlc hb Ac;have lV:=EE (Nb.out.later Xh.out) (fun x hx=>by cases hx;exact⟨abd oZ.out.1 Xh.out.size,rfl⟩) SD oZ.out.2 HT4.out (fun x hx=>by cases hx;exact⟨WT.out.1,rfl⟩) (by omega) WT.out.2 (oW.out _ mE.out);rw[HK.out] at lV;have nW:=ζ lV;clear lV;have hkk:((k==0) != (k==0))=false:=by simp
 go_wp2_with (go_at_call 15;refine nW.out.mono ?_;rintro e w7 ⟨rfl,wo⟩;have za:=ζ (mE.out.trans (wo.mono mE.out.size));clear wo;refine aaI ?_);refine ζ ?_;clear nW Nb HT4 oZ WT ahe Xh;have JJ:=ζ (HbR.out.later za.out);go_wp2_with (at_builtin;refine fP rfl _ _ 35 rfl 5 .u8 i0 1 Tryz.underlying35 hi hz0 hz1 hz2 (by decide) _ ba bn bc bz rfl rfl JJ.out ?_;refine aaI ?_);refine ζ ?_;intro g5 c5 w8 hown hgb hlt hlc hb;rw[<-acV] at hown;have HT5:=ζ (mJ HbT.out (fun i hi=>(HbX.out i hi).1) hown);have WS:=ζ (And.intro hlt hlc);have ahd:=ζ hb;have Zd:=ζ (za.out.trans (hb.mono za.out.size));clear hown hgb hlt hlc hb JJ;have qh:=ζ (rB _ bn c5 (fun i=>bz.getD i 0) w8 HT5.out (fun x hx=>by cases hx;exact WS.out.1) SD WS.out.2);go_wp2_with (go_at_call 16;refine qh.out.mono ?_;refine aaI ?_);refine ζ ?_;clear qh HT5 WS ahd;rintro e w9 ⟨Jm,⟨x,hr,rfl⟩|⟨s,v,hr,rfl,hown⟩⟩
 .have cH:Hid (k=180):=HK.out.symm.trans (Ck.Ey hr)
  have hx0:(x.1 != 0)=true:=by simpa using Pa.pF hr
  have TH:=ζ (Zd.out.trans (Jm.mono Zd.out.size));have hs9:=TH.out.size;have aia:(k==180)=true:=by rw[cH.out];rfl
  clear Jm hr;go_wp2;go_ret;exact⟨rfl,(TH.out.alloc hs9 _).alloc (by simp;omega) _⟩
 .obtain⟨eo,ec,rfl,nR,hl2,LR,-⟩:=hown.form
  obtain⟨N,hN⟩:∃N,s.n=N:=⟨_,rfl⟩;obtain⟨es,hes⟩:∃es,Si.made [] s.pairs=es:=⟨_,rfl⟩;have hlen:es.length<=4611686018427387904:=by rw[<-hes];have:=(Pa.zv hr).VT;omega
  rw[hN];rw[hes] at LR ⊢;have tG:=ζ hr;have nU:=ζ (And.intro hN hes);have TH:=ζ (Zd.out.trans (Jm.mono Zd.out.size));have hs9:=TH.out.size;obtain⟨W,hW⟩:∃W,W=(w9.alloc (.cells #[.int .i64 N,.slice eo es.length ec] 24)).alloc (.cells #[.int .i64 0,.int .i64 0] 39):=⟨_,rfl⟩;have hbW:Below w9.heap.size w9 W:=by rw[hW];exact((aaG _ _).alloc (aaF _) _).alloc (by simp) _
  have VJ:W.heap[w9.heap.size]? =some (.cells #[.int .i64 N,.slice eo es.length ec] 24 (0,0)):=by
   rw[hW,aa0 _ _ _ (by simp)];exact heap_alloc_new w9 _
  have OY:W.heap[w9.heap.size+1]? =some (.cells #[.int .i64 0,.int .i64 0] 39 (0,0)):=by
   rw[hW];have:=heap_alloc_new (w9.alloc (.cells #[.int .i64 N,.slice eo es.length ec] 24)) (.cells #[.int .i64 0,.int .i64 0] 39);rwa[aa7] at this
  have HW:=ζ hW;have W7:=ζ VJ;have cN:=ζ (TH.out.trans (hbW.mono TH.out.size));have TG:=ζ (LR.later hbW);obtain⟨r0,r1,-⟩:=af OY;have hrl:=lt_of_block OY;clear Jm hr hN hes LR hown nR hl2 hbW VJ OY hW
  go_upto_region 7 with fail
  rw[<-HW.out];have WA:=ζ (HdR.out.later cN.out);go_wp2_with (at_builtin;refine fP rfl _ _ 35 rfl 5 .u8 i0 1 Tryz.underlying35 hi hz0 hz1 hz2 (by decide) _ da dn dc dz rfl rfl WA.out ?_;refine aaI ?_);refine ζ ?_;intro g6 c6 w10 hown hgb hlt hlc hb;rw[<-acV] at hown;have HT6:=ζ (mJ HdT.out (fun i hi=>(HdX.out i hi).1) hown);have PN:=ζ (And.intro hlt hlc);have Xg:=ζ hb;have aax:=ζ (cN.out.trans (hb.mono cN.out.size));clear hown hgb hlt hlc hb WA;have aam:=ζ ((Xg.out.block _ (lt_of_block W7.out)).trans W7.out);have ag2:=ζ (TG.out.later Xg.out);have hPA:=xE (w:=w10) (cap:=c6) HT6.out (fun x hx=>by cases hx;exact⟨PN.out.1,rfl⟩) (by omega) PN.out.2;rw[HR.out] at hPA;have Tw:=ζ hPA;clear hPA r0 r1;go_wp2_with (go_at_call 17;refine Tw.out.mono ?_;refine aaI ?_);refine ζ ?_;rintro e w11 ⟨QF,v,rfl,hct⟩;dsimp only at hct ⊢;have Xn:=ζ (aax.out.trans (QF.mono aax.out.size));have Xa:=ζ ((QF.block _ (lt_of_block aam.out)).trans aam.out);have Zs:=Xn.out.size;obtain⟨yo,zo,yc,zc,oM,hrw⟩:=hct.TY (fun l hl=>aa1 (rP.out.row l hl) (by omega));have hval:=oM.val;subst hval;have BW:=ζ oM;have kP:=ζ hrw;have ag1:=ζ (ag2.out.later QF);clear QF hct oM hrw HT6 PN Xg Tw;by_cases hk0:rk=0
  .have kK:(rk != 0)=false:=by simp[hk0]
   have cH:Hid (k=Ck.code N es rc):=by
    have:=Ck.Ex (h:=fun i=>dz.getD i 0) (m:=dn) tG.out (by rw[HR.out];exact hk0);rw[HK.out,nU.out.1,nU.out.2,HR.out] at this;exact this
   clear hk0;have b7:=(aaG w11.heap.size w11).alloc (aaF _) (.cells #[.bool rc.pl,.slice yo rc.ar.length yc,.slice zo rc.es.length zc] 27);obtain⟨q0,q1,q2,-⟩:=bF (heap_alloc_new w11 (.cells #[.bool rc.pl,.slice yo rc.ar.length yc,.slice zo rc.es.length zc] 27));have Bt:=ζ (Xn.out.trans (b7.mono Zs));obtain⟨g0,g1,-⟩:=af ((b7.block _ (lt_of_block Xa.out)).trans Xa.out);have Ji:=lt_of_block Xa.out;have hGR:=Fe N eo ec es rc _ yo zo yc zc _ (ag1.out.later b7) hlen (BW.out.later b7) rP.out.fits (kP.out.later b7);rw[<-cH.out] at hGR;have jQ:=ζ hGR;clear b7 hGR;go_wp2_with (go_at_call 13;refine jQ.out.mono ?_;rintro e w13 ⟨rfl,lu⟩;have Xm:=ζ (Bt.out.trans (lu.mono Bt.out.size));clear lu g0 g1 q0 q1 q2;refine aaI ?_);refine ζ ?_;go_wp2;go_ret;exact⟨by simp,Xm.out⟩
  .have kK:(rk != 0)=true:=by simp[hk0]
   have cH:Hid (k=181):=HK.out.symm.trans (Ck.Bi tG.out (by rw[HR.out];exact hk0));have ah9:(k==181)=true:=by rw[cH.out];rfl
   clear hk0;go_wp2;go_ret;exact⟨rfl,Xn.out.alloc Zs _⟩
theorem contract (H:Type) (enc:TypeId×Value->H) (W:World) (base:Nat) (args:Array Value) (ds gs:List (DataW H)) (before:List MemPlace)
 (hval:∀(j:Nat) t v,Tryz.f4.params[j]? =some t->args[j]? =some v->Value.okWide prog W .any base t v)
 (hW:DataW.Whole enc prog Tryz.f4.params.toList Rows.checkBytesSpec.vars false W args.toList ds gs before)
 (hsz:(DataW.weightsEach prog (Tryz.f4.params.toList++(OpenSpec.ofChange Rows.checkBytesSpec).bare.plain.varTypes prog) (ds++gs)).all (·<=reachBytes)=true)
 (hL:laidMet prog listed W):
 Calls prog 4 args W fun e W'=>∃v,e= .returned v/\Rows.checkBytesSpec.post enc prog Tryz.f4 false true false false W args v W':=by
 have VD:=hW;obtain⟨p,q,hA0,hV,rfl,hfz,hnd⟩:=hW;have hA:DataW.TrodAll enc prog W 0 (fun _=>true) true Tryz.f4.params.toList args.toList ds p:=hA0;rw[Tryz.params4] at hA hval hsz;obtain⟨v0,vs0,d0,ds0,p0,q0,hargs,rfl,rfl,h0,r0⟩:=trodAll_cons hA;obtain⟨v1,vs1,d1,ds1,p1,q1,rfl,rfl,rfl,h1,r1⟩:=trodAll_cons r0;obtain⟨rfl,rfl,rfl⟩:=trodAll_nil r1;obtain rfl:args= #[v0,v1]:=by cases args;simp_all
 obtain⟨rfl,rfl⟩:=trodVars_none hV;obtain⟨a0,ad8,afV,rfl⟩:=okWide_slice Tryz.underlying35 (hval 0 35 v0 rfl rfl);have k0:=h0;have lt0:∀x∈p0,x.block<W.heap.size:=by obtain⟨m,hm⟩:=k0;exact DataW.trod_lt m _ _ _ hm
 obtain⟨z0,w0⟩:=iz.KM (j:=0) Tryz.underlying35 Tryz.underlying5 ML MQ h0 hsz rfl rfl;obtain⟨a1,ad7,rD,rfl⟩:=okWide_slice Tryz.underlying35 (hval 1 35 v1 rfl rfl);have k1:=h1;have lt1:∀x∈p1,x.block<W.heap.size:=by obtain⟨m,hm⟩:=k1;exact DataW.trod_lt m _ _ _ hm
 obtain⟨z1,w1⟩:=iz.KM (j:=1) Tryz.underlying35 Tryz.underlying5 ML MQ h1 hsz rfl rfl;clear hA0;refine(walk a0 ad8 afV z0 a1 ad7 rD z1 W w0 w1 (table hL)).mono fun e W' ⟨he,jU⟩=> ?_
 subst he;exact⟨_,rfl,_,_,_,[],_,[],VD,trodAll_mk1 (shut_bool Tryz.underlying4 _),(trodAll_cons_mk (Below.trod laidOut (by kernel_rfl) (of_decide_eq_true (by kernel_rfl)) k0 jU lt0) (trodAll_cons_mk (Below.trod laidOut (by kernel_rfl) (of_decide_eq_true (by kernel_rfl)) k1 jU lt1) trodAll_mk0)),rfl,jU.frame _,fun h=>by cases h⟩
theorem laid_met (os:Os):laidMet prog Rows.checkBytesRow.laid ((vX os).forCall (fun _ _=>0) ⟨#[],#[.slice none 0 0,.slice none 0 0],[]⟩).memory:=
 laidMet_of_run' 100 (by kernel_rfl) (by kernel_rfl)
theorem reads (os:Os) {H:Type} (enc:TypeId×Value->H):∃places,DataW.whole enc prog ((vX os).forCall (fun _ _=>0) ⟨#[],#[.slice none 0 0,.slice none 0 0],[]⟩).memory Tryz.f4.params.toList Rows.checkBytesSpec.vars false (#[.slice none 0 0,.slice none 0 0]:Array Value).toList 8=some ([.nil,.nil],[],places):=
 ⟨[],by kernel_rfl⟩
theorem lifted (os:Os) (started:os.Started) (H:Type) (enc:TypeId×Value->H) (F:Stop.Interp):
 ReturnsInHanded {} Tryz.checked os 4 .any ((OpenSpec.ofChange Rows.checkBytesSpec).preRow enc prog Tryz.f4 Rows.checkBytesRow.domain false Rows.checkBytesRow.laid) (((OpenSpec.ofChange Rows.checkBytesSpec).at F).post enc prog Tryz.f4 false true false false):=by
 obtain⟨places,hx⟩:=reads os enc
 refine returnsInHanded_of_row (C:=Tryz.checked) (s:=(OpenSpec.ofChange Rows.checkBytesSpec)) own started (by kernel_rfl) func4
  (witness_row_at (enc:=enc) (C:=Tryz.checked) false (vX os) #[.slice none 0 0,.slice none 0 0] rfl (by kernel_rfl) (by kernel_rfl) (by kernel_rfl)
    (OpenSpec.preRow_of_cond 8 hx (by kernel_rfl) (fun k hk=>by cases hk) (by kernel_rfl) (laid_met os))) ?_
 intro W base args ds gs before hval hW _ aii hsz hL _ _;exact contract H enc W base args ds gs before hval hW hsz hL
theorem said:Rows.CheckBytesSaid:=
 OpenClaim.holds_of_cond 4 Tryz.f4 rfl rfl rfl rfl rfl rfl rfl ⟨rfl,rfl,rfl,rfl,rfl⟩ rfl rfl rfl rfl rfl (by kernel_rfl) func4 aaz.closed
  (of_decide_eq_true (by kernel_rfl)) (by unfold Func.isWrapper;first|(rw[if_pos (by decide +kernel)];kernel_rfl)|(rw[if_neg (by decide +kernel)];exact⟨rfl,rfl⟩))
  (fun os started H enc _ F=>by rw[OpenClaim.pre_eq_preRow];exact lifted os started H enc F)
theorem plain (f:FuncId) (fn:Func) (hf:Tryz.pinned.checked.prog.funcNamed "tangram/tangramlaw18.CheckBytes"=some f) (hfn:Tryz.pinned.checked.prog.funcs[f]? =some fn):
 true=Tryz.pinned.checked.prog.looks []/\∀(j:Nat) t,fn.params[j]? =some t->Tryz.pinned.checked.prog.wantsStandIn t=false:=by
 obtain rfl:f=4:=aa9 ((show prog.funcNamed "tangram/tangramlaw18.CheckBytes"=some 4 by kernel_rfl).symm.trans hf) |>.symm;obtain rfl:fn=Tryz.f4:=(aa9 (func4.symm.trans hfn)).symm;refine⟨by kernel_rfl,fun j t ht=> ?_⟩;rw[Tryz.params4] at ht;obtain rfl:t=35:=by simpa using Array.mem_of_getElem? ht
 exact(show prog.wantsStandIn 35=false by kernel_rfl)
theorem card:Rows.CheckBytesCardSaid:=
 Claim7.holds_tied_plain_at .later [] _ _ _ _ said (fun _ h=>by cases h) (by kernel_rfl) (fun _ h=>by cases h) checkBytes_row_tie rfl ⟨rfl,rfl⟩ (by kernel_rfl) rfl plain (by kernel_rfl)
end Qn
theorem checkBytes_holds:Rows.CheckBytesCardSaid:=Qn.card
#print axioms checkBytes_holds
end Go.Proofs.YtdbjpbjocmcpkaaGreatDoor
