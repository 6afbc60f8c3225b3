/-
  Proved: for every graph and every certificate of bulk at most 1048576 the law CheckGraph answers true, and they read afterwards as before.
-/
import Derived.Test.YtdbjpbjocmcpkaaGreatDoorMg39
import Derived.Test.YtdbjpbjocmcpkaaGreatDoorMg06
set_option maxHeartbeats 4000000
set_option maxRecDepth 100000
namespace Go.Proofs.YtdbjpbjocmcpkaaGreatDoor
open Go.Proofs.Tryz
open Go.ChangeShapes Go.WideShapes Go.ChangeAt Go.RowKit
namespace Nz
theorem walk (n:Int) (ao:Option Addr) (ca:Nat) (es:List (Int×Int)) (pl:Bool) (xo:Option Addr) (xc:Nat) (ls:List (List Int)) (eo:Option Addr) (ec:Nat) (xs:List (Int×Int)) (w:World) (_: -9223372036854775808<=n/\n<=9223372036854775807) (hq:CM w ao es.length ca es) (hle:es.length*16<=140737488351232) (w1:Fg w pl xo ls eo ec xs) (ht:kO w):
 Calls prog 3 #[.agg #[.int .i64 n,.slice ao es.length ca],.agg #[.bool pl,.slice xo ls.length xc,.slice eo xs.length ec]] w fun e w'=>e= .returned (.bool true)/\Below w.heap.size w w':=by
 obtain⟨W,hW⟩:∃W,W=(w.alloc (.cells #[.int .i64 n,.slice ao es.length ca] 24)).alloc (.cells #[.bool pl,.slice xo ls.length xc,.slice eo xs.length ec] 27):=⟨_,rfl⟩;have ck:l9 n ao ca es pl ls xs xo eo xc ec w W:=by rw[hW];exact l9.start
 have hl:es.length<=4611686018427387904:=by omega
 have pG:=ζ (eZ ht);have HCG:Hid (∀V,Below w.heap.size w V->Calls prog 11 #[.agg #[.int .i64 n,.slice ao es.length ca]] V fun e w'=>∃a c,e= .returned (.agg #[.int .i64 n,.slice a es.length c])/\ah w' a es/\Below V.heap.size V w'):=fun V hV=>(Lq n ao ca es V (hq.hat.later hV) (by omega)).mono (by
  rintro e w' ⟨v,rfl,h1,h2⟩;obtain⟨a,c,rfl,_,_,h3,_⟩:=h1.form;exact⟨a,c,rfl,h3,h2⟩)
 have sP:Hid (∀V,Below w.heap.size w V->Calls prog 12 #[.agg #[.bool pl,.slice xo ls.length xc,.slice eo xs.length ec]] V fun e w'=>Below V.heap.size V w'/\∃ya yb yc za zb zc,e= .returned (.agg #[.bool pl,.slice ya yb yc,.slice za zb zc])/\Ce.iD w' (.agg #[.bool pl,.slice ya yb yc,.slice za zb zc]) ⟨pl,ls,xs⟩ ya za yc zc/\bA w' ya ls):=fun V hV=>(w1.cert.later hV).copy.mono (by
  rintro e w' ⟨hb,v,rfl,hv⟩;obtain⟨yo,zo,yc,zc,DC,hrw⟩:=hv.ad3 (fun l hl=>aaD (w1.cert.row l hl) (by omega));have hval:=DC.val;subst hval;exact⟨hb,_,_,_,_,_,_,rfl,DC,hrw⟩)
 have M3:Hid (∀V v a c ya za yc zc,ah V a es->Ce.iD V v ⟨pl,ls,xs⟩ ya za yc zc->bA V ya ls->Below w.heap.size w V->Calls prog 10 #[.agg #[.int .i64 n,.slice a es.length c],v] V fun e w'=>e= .returned (.int .i64 (Ck.code n es ⟨pl,ls,xs⟩))/\Below V.heap.size V w'):=fun V v a c ya za yc zc h1 h2 h3 h4=>oT n a c es ⟨pl,ls,xs⟩ v ya za yc zc V h1 hl h2 w1.cert.YL h3 (pG.out _ h4)
 have Tp:Hid (∀V,Below w.heap.size w V->Calls prog 13 #[.agg #[.int .i64 n,.slice ao es.length ca],.agg #[.bool pl,.slice xo ls.length xc,.slice eo xs.length ec]] V fun e w'=>e= .returned (.int .i64 (Ck.code n es ⟨pl,ls,xs⟩))/\Below V.heap.size V w'):=fun V hV=>Di n ao ca es ⟨pl,ls,xs⟩ _ xo eo xc ec V (hq.hat.later hV) hl (w1.cert.later hV).sees w1.cert.fits (w1.rws.later hV)
 have HWK:Hid (Calls prog 9 #[] W fun e w'=>e= .returned (.bool true)/\Below W.heap.size W w'):=Fl W (pG.out _ ck.low);generalize Ck.code n es ⟨pl,ls,xs⟩=k at M3 Tp;obtain⟨N,hN⟩:∃N,es.length=N:=⟨_,rfl⟩;obtain⟨M,hM⟩:∃M,ls.length=M:=⟨_,rfl⟩;obtain⟨L,hL⟩:∃L,xs.length=L:=⟨_,rfl⟩;have HW:=ζ hW;have iI:=ζ ck;have iG:Hid (∀V,l9 n ao ca es pl ls xs xo eo xc ec w V->V.cell? ⟨w.heap.size,0,none⟩=some (.int .i64 n)/\V.cell? ⟨w.heap.size,1,none⟩=some (.slice ao N ca)/\V.cell? ⟨w.heap.size+1,0,none⟩=some (.bool pl)/\V.cell? ⟨w.heap.size+1,1,none⟩=some (.slice xo M xc)/\V.cell? ⟨w.heap.size+1,2,none⟩=some (.slice eo L ec)/\w.heap.size+1<V.heap.size):=fun V h=>by
  have:=h.all;rw[hN,hM,hL] at this;exact this
 rw[hN,hM,hL] at HW Tp ⊢;rw[hM,hL] at sP;rw[hN] at HCG M3;clear hq hle w1 ht hW ck hl hN hM hL;go_enter func3,ntmps3
 go_upto_region 1 with fail
 rw[<-HW.out];go_wp2_with (go_at_call 9;refine HWK.out.mono ?_;rintro e w2 ⟨rfl,hb2⟩;have aB:=ζ (iI.out.later hb2);clear hb2;refine aaj ?_);refine ζ ?_
 go_upto_region 3 with fail
 have hbr:Below w2.heap.size w2 w2.drew:=(aae _ _).drew;have HS:Hid (∀V,Below w2.heap.size w2 V->(V.cell? ⟨w.heap.size,0,none⟩=some (.int .i64 n)/\V.cell? ⟨w.heap.size,1,none⟩=some (.slice ao N ca)/\V.cell? ⟨w.heap.size+1,0,none⟩=some (.bool pl)/\V.cell? ⟨w.heap.size+1,1,none⟩=some (.slice xo M xc)/\V.cell? ⟨w.heap.size+1,2,none⟩=some (.slice eo L ec)/\Below w2.heap.size w2 V)):=fun V hV=>by
  obtain⟨k0,k1,k2,k3,k4,-⟩:=iG.out _ (aB.out.later hV);exact⟨k0,k1,k2,k3,k4,hV⟩
 have x8:Hid (∀V,Below w2.heap.size w2 V->Below w.heap.size w V):=fun V hV=>aB.out.low.trans (hV.mono aB.out.low.size)
 obtain⟨k0,k1,k2,k3,k4,hlt⟩:=iG.out _ aB.out
 go_region_held3 (fun V=>V.cell? ⟨w.heap.size,0,none⟩=some (.int .i64 n)/\V.cell? ⟨w.heap.size,1,none⟩=some (.slice ao N ca)/\V.cell? ⟨w.heap.size+1,0,none⟩=some (.bool pl)/\V.cell? ⟨w.heap.size+1,1,none⟩=some (.slice xo M xc)/\V.cell? ⟨w.heap.size+1,2,none⟩=some (.slice eo L ec)/\Below w2.heap.size w2 V)
  (exact HS.out _ (by first|assumption|exact hbr))
  (first
    |(go_at_call 11;refine(HCG.out _ (x8.out _ (by first|assumption|exact hbr))).mono ?_;rintro e w4 ⟨a4,c4,rfl,he4,Wa⟩;have UA:Below w2.heap.size w2 w4:=acI (by first|assumption|exact hbr) (Wa.mono (ac6 (by first|assumption|exact hbr))))
    |(go_at_call 12;refine(sP.out _ (x8.out _ UA)).mono ?_;rintro e w5 ⟨Sn,ya,yb,yc,za,zb,zc,rfl,DC,hrw⟩;have Uz:Below w2.heap.size w2 w5:=UA.trans (Sn.mono UA.size))
    |(go_at_call 10;refine(M3.out _ _ _ _ _ _ _ _ (he4.later Sn) DC hrw (x8.out _ Uz)).mono ?_;rintro e w6 ⟨rfl,V9⟩;have Jc:Below w2.heap.size w2 w6:=Uz.trans (V9.mono Uz.size))
    |(go_at_call 13;refine(Tp.out _ (x8.out _ Jc)).mono ?_;rintro e w7 ⟨rfl,V8⟩;have hz7:Below w2.heap.size w2 w7:=Jc.trans (V8.mono Jc.size)))
 have z8:=ζ (x8.out _ hz7);clear UA Uz Jc hz7 Wa Sn V9 V8 DC hrw he4 HS x8 hbr k0 k1 k2 k3 k4 hlt;go_wp2;go_ret;exact⟨rfl,z8.out⟩
theorem contract (H:Type) (enc:TypeId×Value->H) (W:World) (base:Nat) (args:Array Value) (ds gs:List (DataW H)) (before:List MemPlace)
 (hval:∀(j:Nat) t v,Tryz.f3.params[j]? =some t->args[j]? =some v->Value.okWide prog W .any base t v)
 (hW:DataW.Whole enc prog Tryz.f3.params.toList Rows.checkGraphSpec.vars false W args.toList ds gs before)
 (hsz:(DataW.weightsEach prog (Tryz.f3.params.toList++(Rows.OpenSpec.upto Rows.checkGraphSpec).bare.plain.varTypes prog) (ds++gs)).all (·<=reachBytes)=true)
 (hk:Rows.uptoSmall H (ds++gs)=true)
 (hL:laidMet prog listed W):
 Calls prog 3 args W fun e W'=>∃v,e= .returned v/\Rows.checkGraphSpec.post enc prog Tryz.f3 false true false false W args v W':=by
 have Sw:=hW;obtain⟨p,q,hA0,hV,rfl,hfz,hnd⟩:=hW;have hA:DataW.TrodAll enc prog W 0 (fun _=>true) true Tryz.f3.params.toList args.toList ds p:=hA0;rw[Tryz.params3] at hA hval hsz;obtain⟨v0,vs0,d0,ds0,p0,q0,hargs,rfl,rfl,h0,r0⟩:=trodAll_cons hA;obtain⟨v1,vs1,d1,ds1,p1,q1,rfl,rfl,rfl,h1,r1⟩:=trodAll_cons r0;obtain⟨rfl,rfl,rfl⟩:=trodAll_nil r1;obtain rfl:args= #[v0,v1]:=by cases args;simp_all
 obtain⟨rfl,rfl⟩:=trodVars_none hV;have k0:=h0;have lt0:∀x∈p0,x.block<W.heap.size:=by obtain⟨m,hm⟩:=k0;exact DataW.trod_lt m _ _ _ hm
 obtain⟨n0,a0,ab6,q0,rfl,x0,w0,u0⟩:=Cb (j:=0) (hval 0 24 v0 rfl rfl) h0 hsz rfl rfl;have k1:=h1;have lt1:∀x∈p1,x.block<W.heap.size:=by obtain⟨m,hm⟩:=k1;exact DataW.trod_lt m _ _ _ hm
 obtain⟨p1,a1,c1,l1,b1,e1,s1,rfl,w1⟩:=zT (j:=1) (hval 1 27 v1 rfl rfl) h1 hk rfl;clear hA0;refine(walk n0 a0 ab6 q0 p1 a1 c1 l1 b1 e1 s1 W x0 w0 u0 w1 (table hL)).mono fun e W' ⟨he,iZ⟩=> ?_
 subst he;exact⟨_,rfl,_,_,_,[],_,[],Sw,trodAll_mk1 (shut_bool Tryz.underlying4 _),(trodAll_cons_mk (Below.trod laidOut (by kernel_rfl) (of_decide_eq_true (by kernel_rfl)) k0 iZ lt0) (trodAll_cons_mk (Below.trod laidOut (by kernel_rfl) (of_decide_eq_true (by kernel_rfl)) k1 iZ lt1) trodAll_mk0)),rfl,iZ.frame _,fun h=>by cases h⟩
theorem laid_met (os:Os):laidMet prog Rows.checkGraphUptoRow.laid ((ug os).forCall (fun _ _=>0) ⟨#[],#[.agg #[.int .i64 0,.slice none 0 0],.agg #[.bool false,.slice none 0 0,.slice none 0 0]],[]⟩).memory:=
 laidMet_of_run' 100 (by kernel_rfl) (by kernel_rfl)
theorem reads (os:Os) {H:Type} (enc:TypeId×Value->H):∃places,DataW.whole enc prog ((ug os).forCall (fun _ _=>0) ⟨#[],#[.agg #[.int .i64 0,.slice none 0 0],.agg #[.bool false,.slice none 0 0,.slice none 0 0]],[]⟩).memory Tryz.f3.params.toList Rows.checkGraphSpec.vars false (#[.agg #[.int .i64 0,.slice none 0 0],.agg #[.bool false,.slice none 0 0,.slice none 0 0]]:Array Value).toList 8=some ([.agg [.lit (.int .i64 0),.nil],.agg [.lit (.bool false),.nil,.nil]],[],places):=
 ⟨[],by kernel_rfl⟩
theorem lifted (os:Os) (started:os.Started) (H:Type) (enc:TypeId×Value->H) (F:Stop.Interp):
 ReturnsInHanded {} Tryz.checked os 3 .any ((Rows.OpenSpec.upto Rows.checkGraphSpec).preRow enc prog Tryz.f3 Rows.checkGraphUptoRow.domain false Rows.checkGraphUptoRow.laid) (((Rows.OpenSpec.upto Rows.checkGraphSpec).at F).post enc prog Tryz.f3 false true false false):=by
 obtain⟨places,hx⟩:=reads os enc
 refine returnsInHanded_of_row (C:=Tryz.checked) (s:=(Rows.OpenSpec.upto Rows.checkGraphSpec)) own started (by kernel_rfl) func3
  (witness_row_at (enc:=enc) (C:=Tryz.checked) false (ug os) #[.agg #[.int .i64 0,.slice none 0 0],.agg #[.bool false,.slice none 0 0,.slice none 0 0]] rfl (by kernel_rfl) (by kernel_rfl) (by kernel_rfl)
    (OpenSpec.preRow_of_cond 8 hx (by kernel_rfl) (fun k hk=>by cases hk;kernel_rfl) (by kernel_rfl) (laid_met os))) ?_
 intro W base args ds gs before hval hW _ Yh hsz hL _ _;exact contract H enc W base args ds gs before hval hW hsz (Yh _ rfl) hL
theorem said:Rows.CheckGraphUptoSaid:=
 OpenClaim.holds_of_cond 3 Tryz.f3 rfl rfl rfl rfl rfl rfl rfl ⟨rfl,rfl,rfl,rfl,rfl⟩ rfl rfl rfl rfl rfl (by kernel_rfl) func3 WY.closed
  (of_decide_eq_true (by kernel_rfl)) (by unfold Func.isWrapper;first|(rw[if_pos (by decide +kernel)];kernel_rfl)|(rw[if_neg (by decide +kernel)];exact⟨rfl,rfl⟩))
  (fun os started H enc _ F=>by rw[OpenClaim.pre_eq_preRow];exact lifted os started H enc F)
theorem plain (f:FuncId) (fn:Func) (hf:Tryz.pinned.checked.prog.funcNamed "tangram/tangramlaw18.CheckGraph"=some f) (hfn:Tryz.pinned.checked.prog.funcs[f]? =some fn):
 true=Tryz.pinned.checked.prog.looks []/\∀(j:Nat) t,fn.params[j]? =some t->Tryz.pinned.checked.prog.wantsStandIn t=false:=by
 obtain rfl:f=3:=aaG ((show prog.funcNamed "tangram/tangramlaw18.CheckGraph"=some 3 by kernel_rfl).symm.trans hf) |>.symm;obtain rfl:fn=Tryz.f3:=(aaG (func3.symm.trans hfn)).symm;refine⟨by kernel_rfl,fun j t ht=> ?_⟩;rw[Tryz.params3] at ht;obtain hx:t=24\/t=27:=by simpa using Array.mem_of_getElem? ht
 rcases hx with rfl|rfl
 .exact(show prog.wantsStandIn 24=false by kernel_rfl)
 .exact(show prog.wantsStandIn 27=false by kernel_rfl)
theorem card:Rows.CheckGraphUptoCardSaid:=
 Claim7.holds_tied_plain_at .later [] _ _ _ _ said (fun _ h=>by cases h) (by kernel_rfl) (fun _ h=>by cases h) checkGraphUpto_row_tie rfl ⟨rfl,rfl⟩ (by kernel_rfl) rfl plain (by kernel_rfl)
end Nz
theorem checkGraphUpto_holds:Rows.CheckGraphUptoCardSaid:=Nz.card
#print axioms checkGraphUpto_holds
end Go.Proofs.YtdbjpbjocmcpkaaGreatDoor
