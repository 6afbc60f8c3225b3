import Derived.Test.YtdbjpbjocmcpkaaGreatDoorMj46
import Derived.Test.YtdbjpbjocmcpkaaGreatDoorMj50
set_option maxHeartbeats 4000000
set_option maxRecDepth 100000
namespace Go.Proofs.YtdbjpbjocmcpkaaGreatDoor
section
open Go.Proofs.Tryz
open Go.RowKit Go.Sort
structure rI (n:Int) (ao:Option Addr) (ca:Nat) (es:List (Int×Int)) (b:Bool) (ar:List (List Int)) (xs:List (Int×Int)) (xo eo:Option Addr) (xc ec:Nat) (w V:World):Prop where
 low:Below w.heap.size w V
 g:V.heap[w.heap.size]? =some (.cells #[.int .i64 n,.slice ao es.length ca] 24 (0,0))
 c:V.heap[w.heap.size+1]? =some (.cells #[.bool b,.slice xo ar.length xc,.slice eo xs.length ec] 27 (0,0))
section
variable {n:Int} {ao:Option Addr} {ca:Nat} {es:List (Int×Int)} {b:Bool} {ar:List (List Int)} {xs:List (Int×Int)} {xo eo:Option Addr} {xc ec:Nat} {w V V':World}
theorem rI.later (h:rI n ao ca es b ar xs xo eo xc ec w V) (hb:Below V.heap.size V V'):rI n ao ca es b ar xs xo eo xc ec w V':=⟨h.low.trans (hb.mono h.low.size),(hb.block _ (lt_of_block h.g)).trans h.g,(hb.block _ (lt_of_block h.c)).trans h.c⟩
theorem rI.start:rI n ao ca es b ar xs xo eo xc ec w ((w.alloc (.cells #[.int .i64 n,.slice ao es.length ca] 24)).alloc (.cells #[.bool b,.slice xo ar.length xc,.slice eo xs.length ec] 27)):=by
 refine⟨((aaG _ _).alloc (aaF _) _).alloc (by simp) _,?_,?_⟩
 .rw[aa0 _ _ _ (by simp)]
  exact heap_alloc_new w _
 .have:=heap_alloc_new (w.alloc (.cells #[.int .i64 n,.slice ao es.length ca] 24)) (.cells #[.bool b,.slice xo ar.length xc,.slice eo xs.length ec] 27)
  rwa[aa7] at this
theorem rI.all (h:rI n ao ca es b ar xs xo eo xc ec w V):V.cell? ⟨w.heap.size,0,none⟩=some (.int .i64 n)/\V.cell? ⟨w.heap.size,1,none⟩=some (.slice ao es.length ca)/\V.cell? ⟨w.heap.size+1,0,none⟩=some (.bool b)/\V.cell? ⟨w.heap.size+1,1,none⟩=some (.slice xo ar.length xc)/\V.cell? ⟨w.heap.size+1,2,none⟩=some (.slice eo xs.length ec)/\w.heap.size+1<V.heap.size:=by
 obtain⟨g0,g1,-⟩:=af h.g;obtain⟨c0,c1,c2,-⟩:=bF h.c;exact⟨g0,g1,c0,c1,c2,lt_of_block h.c⟩
end
namespace Ck
theorem Gz {c:Ce.Cert} {e:Ending} (h:uB c e):∃s z,e= .returned (.tuple #[.string s,.int .i64 z])/\(z=0->may c=true)/\(z≠0->may c=false):=by
 by_cases hg:Ce.good c
 .rcases h.2 hg with ⟨h1,rfl⟩|⟨h1,rfl⟩
  .exact⟨_,_,rfl,fun h=>absurd h (by decide),fun _=>B9 (fun h=>by omega)⟩
  .exact⟨_,_,rfl,fun _=>sw ⟨hg,h1⟩,fun h=>absurd rfl h⟩
 .rw[h.1 hg]
  exact⟨_,_,rfl,fun h=>absurd h (by decide),fun _=>B9 (fun h=>hg h.1)⟩
theorem VR {n:Int} {es:List (Int×Int)} {x:Int×Int} {r:Int} (h:Si.Q0 n es x r):(0<=r->x∈es)/\(r<0->Si.Val n es->x∉es):=by
 rcases h with ⟨k,-,hk,rfl⟩|⟨rfl,h⟩
 .exact⟨fun _=>aaJ hk,fun h=>by omega⟩
 .refine⟨fun h=>by omega,fun _ hv hx=>h ⟨hv,?_⟩⟩
  obtain⟨j,hj⟩:=abg hx;exact⟨j,hj⟩
end Ck
theorem Fc (n:Int) (ao:Option Addr) (ca:Nat) (es:List (Int×Int)) (ar:List (List Int)) (xs:List (Int×Int)) (xo eo:Option Addr) (xc ec:Nat) (w:World) (he:ah w ao es) (hl:es.length<=4611686018427387904) (hs:Ce.jZ w (.agg #[.bool true,.slice xo ar.length xc,.slice eo xs.length ec]) ⟨true,ar,xs⟩ xo eo xc ec) (hf:Ce.Fits ⟨true,ar,xs⟩) (hx:bH w xo ar):
 Calls prog 13 #[.agg #[.int .i64 n,.slice ao es.length ca],.agg #[.bool true,.slice xo ar.length xc,.slice eo xs.length ec]] w fun e w'=>e= .returned (.int .i64 (Ck.code n es ⟨true,ar,xs⟩))/\Below w.heap.size w w':=by
 obtain⟨W,hW⟩:∃W,W=(w.alloc (.cells #[.int .i64 n,.slice ao es.length ca] 24)).alloc (.cells #[.bool true,.slice xo ar.length xc,.slice eo xs.length ec] 27):=⟨_,rfl⟩;have b7:rI n ao ca es true ar xs xo eo xc ec w W:=by rw[hW];exact rI.start
 have HE:Hid (∀V,Below w.heap.size w V->ah V ao es):=fun V h=>he.later h
 have yP:Hid (∀V,Below w.heap.size w V->Ce.jZ V (.agg #[.bool true,.slice xo ar.length xc,.slice eo xs.length ec]) ⟨true,ar,xs⟩ xo eo xc ec):=fun V h=>hs.later h
 have kP:Hid (∀V,Below w.heap.size w V->bH V xo ar):=fun V h=>hx.later h
 have rP:=ζ hx.small;have HF:=ζ hf;have HW:=ζ hW;have jX:=ζ b7;obtain⟨g0,g1,c0,c1,c2,hlt⟩:=b7.all;have dM:=ζ (fO n ao ca es W (HE.out _ b7.low) hl);have qH:=hf.es;dsimp only at qH;unfold aB at dM;clear he hs hf hx hW b7;cases hval:Si.valid n es with
 |false=>
  rw[hval] at dM;have cH:=ζ (Ck.ux (c:=⟨true,ar,xs⟩) hval);clear hval;go_enter func13,ntmps13
  go_upto_region 1 with fail
  rw[<-HW.out];go_wp2_with (go_at_call 25;refine dM.out.mono ?_;rintro e w1 ⟨rfl,hb1⟩;have aD:=ζ (jX.out.later hb1).low;clear hb1 g0 g1 c0 c1 c2 hlt;refine aaI ?_);refine ζ ?_;go_wp2;go_ret;exact⟨by rw[cH.out];rfl,aD.out⟩
 |true=>
  rw[hval] at dM;have yO:=ζ hval;clear hval;go_enter func13,ntmps13
  go_upto_region 1 with fail
  rw[<-HW.out];go_wp2_with (go_at_call 25;refine dM.out.mono ?_;rintro e w1 ⟨rfl,hb1⟩;have aD:=ζ (jX.out.later hb1);clear hb1 g0 g1 c0 c1 c2 hlt;refine aaI ?_);refine ζ ?_;obtain⟨g0,g1,c0,c1,c2,hlt⟩:=aD.out.all;have HPR:=ζ (vn (yP.out _ aD.out.low) HF.out);go_wp2_with (go_at_call 30;refine HPR.out.mono ?_;refine aaI ?_);refine ζ ?_;rintro e w2 ⟨LG,hb2⟩;obtain⟨s,z,rfl,hz⟩:=Ck.Gz LG;have aA:=ζ (aD.out.later hb2);have HZ:=ζ hz;clear LG hb2 hz g0 g1 c0 c1 c2 hlt;obtain⟨g0,g1,c0,c1,c2,hlt⟩:=aA.out.all;by_cases hz0:z=0
  .have kK:(z != 0)=false:=by simp[hz0]
   have hmay:=HZ.out.1 hz0;have HMY:=ζ hmay;have dW:=Ck.sU (c:=⟨true,ar,xs⟩) yO.out hmay rfl;clear hz0 hmay;obtain⟨cc,hcc⟩:∃cc,(Ro.check n es (Ro.hls es 0 ar)).2=cc:=⟨_,rfl⟩;have Ty:Hid (Calls prog 31 #[.agg #[.int .i64 n,.slice ao es.length ca],.slice xo ar.length xc] w2 fun e w'=>Below w2.heap.size w2 w'/\∃ra rl rc z,e= .returned (.tuple #[.slice ra rl rc,.int .i64 z,.int .i64 cc])/\(cc=0->∃rs,ay w' w2.heap.size (.slice ra rl rc) rs (Ro.hls es 0 ar))):=(NX n ao ca es xo xc ar w2 (HE.out _ aA.out.low) hl (kP.out _ aA.out.low)).mono fun e w' h=>h.one hcc
   have Ak:=ζ hcc;have Xe:=ζ dW;clear hcc dW;go_wp2_with (go_at_call 31;refine Ty.out.mono ?_;rintro e w3 ⟨hb3,ra,rl,rc,y,rfl,hr3⟩;have aK:=ζ (aA.out.later hb3);have jl:=ζ hr3;clear hb3 hr3 g0 g1 c0 c1 c2 hlt;refine aaI ?_);refine ζ ?_;obtain⟨g0,g1,c0,c1,c2,hlt⟩:=aK.out.all;by_cases hc0:cc=0
   .have hbf:(cc != 0)=false:=by simp[hc0]
    obtain⟨rs,UR⟩:=jl.out hc0;obtain⟨yo,yc,e,hrw,-⟩:=UR.rws fun l hl=>by
     obtain⟨l2,h2,e2⟩:=Ck.DF es 0 ar l hl;rw[e2];exact rP.out l2 h2
    cases e;have yU:=ζ (IA n ao ca es ra rc (Ro.hls es 0 ar) w3 (HE.out _ aK.out.low) hl hrw);unfold aB at yU;have hck:(Ro.check n es (Ro.hls es 0 ar)).2=0:=Ak.out.trans hc0;have dW:=Xe.out;rw[if_neg (fun h=>h hck)] at dW;clear UR hrw;by_cases lM:Fa.gz n.toNat es (Ro.hls es 0 ar)=0
    .have hdt:decide ((Ro.check n es (Ro.hls es 0 ar)).2=0/\Fa.gz n.toNat es (Ro.hls es 0 ar)=0)=true:=decide_eq_true ⟨hck,lM⟩
     rw[hdt] at yU;have cH:Hid (Ck.code n es ⟨true,ar,xs⟩=0):=dW.trans (if_pos lM);clear hck dW hdt lM hc0;go_wp2_with (go_at_call 22;refine yU.out.mono ?_;rintro e w4 ⟨rfl,hb4⟩;have cZ:=ζ (aK.out.later hb4).low;clear hb4 g0 g1 c0 c1 c2 hlt;refine aaI ?_);refine ζ ?_;go_wp2;go_ret;exact⟨by rw[cH.out];rfl,cZ.out⟩
    .have hdt:decide ((Ro.check n es (Ro.hls es 0 ar)).2=0/\Fa.gz n.toNat es (Ro.hls es 0 ar)=0)=false:=decide_eq_false (fun h=>lM h.2)
     rw[hdt] at yU;have cH:Hid (Ck.code n es ⟨true,ar,xs⟩=183):=dW.trans (if_neg lM);clear hck dW hdt lM hc0;go_wp2_with (go_at_call 22;refine yU.out.mono ?_;rintro e w4 ⟨rfl,hb4⟩;have cZ:=ζ (aK.out.later hb4).low;clear hb4 g0 g1 c0 c1 c2 hlt;refine aaI ?_);refine ζ ?_;go_wp2;go_ret;exact⟨by rw[cH.out];rfl,cZ.out⟩
   .have hbf:(cc != 0)=true:=by simp[hc0]
    have cH:Hid (Ck.code n es ⟨true,ar,xs⟩=182):=Xe.out.trans (if_pos (by rw[Ak.out];exact hc0));have oZ:=ζ aK.out.low;clear hc0;go_wp2;go_ret;exact⟨by rw[cH.out];rfl,oZ.out⟩
  .have kK:(z != 0)=true:=by simp[hz0]
   have cH:=ζ (Ck.uw yO.out (HZ.out.2 hz0));clear hz0;go_wp2;go_ret;exact⟨by rw[cH.out];rfl,aA.out.low⟩
theorem Io (n:Int) (ao:Option Addr) (ca:Nat) (es:List (Int×Int)) (ar:List (List Int)) (xs:List (Int×Int)) (xo eo:Option Addr) (xc ec:Nat) (w:World) (he:ah w ao es) (hl:es.length<=4611686018427387904) (hs:Ce.jZ w (.agg #[.bool false,.slice xo ar.length xc,.slice eo xs.length ec]) ⟨false,ar,xs⟩ xo eo xc ec) (hf:Ce.Fits ⟨false,ar,xs⟩) (hx:bH w xo ar):
 Calls prog 13 #[.agg #[.int .i64 n,.slice ao es.length ca],.agg #[.bool false,.slice xo ar.length xc,.slice eo xs.length ec]] w fun e w'=>e= .returned (.int .i64 (Ck.code n es ⟨false,ar,xs⟩))/\Below w.heap.size w w':=by
 obtain⟨W,hW⟩:∃W,W=(w.alloc (.cells #[.int .i64 n,.slice ao es.length ca] 24)).alloc (.cells #[.bool false,.slice xo ar.length xc,.slice eo xs.length ec] 27):=⟨_,rfl⟩;have b7:rI n ao ca es false ar xs xo eo xc ec w W:=by rw[hW];exact rI.start
 have HE:Hid (∀V,Below w.heap.size w V->ah V ao es):=fun V h=>he.later h
 have yP:Hid (∀V,Below w.heap.size w V->Ce.jZ V (.agg #[.bool false,.slice xo ar.length xc,.slice eo xs.length ec]) ⟨false,ar,xs⟩ xo eo xc ec):=fun V h=>hs.later h
 have kP:Hid (∀V,Below w.heap.size w V->bH V xo ar):=fun V h=>hx.later h
 have rP:=ζ hx.small;have HF:=ζ hf;have HW:=ζ hW;have jX:=ζ b7;obtain⟨g0,g1,c0,c1,c2,hlt⟩:=b7.all;have dM:=ζ (fO n ao ca es W (HE.out _ b7.low) hl);have qH:=hf.es;dsimp only at qH;unfold aB at dM;clear he hs hf hx hW b7;cases hval:Si.valid n es with
 |false=>
  rw[hval] at dM;have cH:=ζ (Ck.ux (c:=⟨false,ar,xs⟩) hval);clear hval;go_enter func13,ntmps13
  go_upto_region 1 with fail
  rw[<-HW.out];go_wp2_with (go_at_call 25;refine dM.out.mono ?_;rintro e w1 ⟨rfl,hb1⟩;have aD:=ζ (jX.out.later hb1).low;clear hb1 g0 g1 c0 c1 c2 hlt;refine aaI ?_);refine ζ ?_;go_wp2;go_ret;exact⟨by rw[cH.out];rfl,aD.out⟩
 |true=>
  rw[hval] at dM;have yO:=ζ hval;clear hval;go_enter func13,ntmps13
  go_upto_region 1 with fail
  rw[<-HW.out];go_wp2_with (go_at_call 25;refine dM.out.mono ?_;rintro e w1 ⟨rfl,hb1⟩;have aD:=ζ (jX.out.later hb1);clear hb1 g0 g1 c0 c1 c2 hlt;refine aaI ?_);refine ζ ?_;obtain⟨g0,g1,c0,c1,c2,hlt⟩:=aD.out.all;have HPR:=ζ (vn (yP.out _ aD.out.low) HF.out);go_wp2_with (go_at_call 30;refine HPR.out.mono ?_;refine aaI ?_);refine ζ ?_;rintro e w2 ⟨LG,hb2⟩;obtain⟨s,z,rfl,hz⟩:=Ck.Gz LG;have aA:=ζ (aD.out.later hb2);have HZ:=ζ hz;clear LG hb2 hz g0 g1 c0 c1 c2 hlt;obtain⟨g0,g1,c0,c1,c2,hlt⟩:=aA.out.all;by_cases hz0:z=0
  .have kK:(z != 0)=false:=by simp[hz0]
   have hmay:=HZ.out.1 hz0;have HMY:=ζ hmay;have dW:=Ck.yB (c:=⟨false,ar,xs⟩) yO.out hmay rfl;have hval:=Si.aL.1 yO.out;have hok:Ce.Ob xs:=by
    have:=(Ck.IX hmay).1;unfold Ce.good at this;rw[if_neg (fun h=>by cases h)] at this;exact this.2.1
   have iB:=ζ hok;have cC:=ζ hval;have Xe:=ζ dW;obtain⟨m,hm⟩:∃m,xs.length=m:=⟨_,rfl⟩;have HM:=ζ hm;have hmb:m<=4611686018427387904:=by omega
   clear hz0 hmay hok hval dW;rw[hm] at c2;clear hm;go_wp2;go_loopw [12] (fun cv wr=>∃i:Nat,i<=m/\cv= .int .i64 i/\rI n ao ca es false ar xs xo eo xc ec w wr/\∀j x,j<i->xs[j]? =some x->x∈es) (fun cv _=>m-(intOf cv).toNat)
   case atStart=>exact⟨0,aaR _,rfl,aA.out,fun j x h=>by omega⟩
   case round=>
    obtain⟨i,hi,rfl,b7,hin⟩:=hrel;obtain⟨w3,rfl⟩:∃w3,w3=wr:=⟨_,rfl⟩;have aK:=ζ b7;have o7:=ζ hin;clear b7 hin g0 g1 c0 c1 c2 hlt;obtain⟨g0,g1,c0,c1,c2,hlt⟩:=aK.out.all;rw[HM.out] at c2;by_cases him:i<m
    .have akl:(i:Int)<(m:Int):=by omega
     have nS:(0:Int)<=(i:Int):=by omega
     obtain⟨x,hx⟩:∃x,xs[i]? =some x:=⟨_,aaE (by have:=HM.out;omega)⟩;have M8:=ζ hx;obtain⟨b,o,rfl,d0,d1⟩:=(yP.out _ aK.out.low).es i x hx;have hbl:b<w3.heap.size:=block_lt_of_cell d0;obtain⟨x1,x2⟩:=x;dsimp only at d0 d1;have HFN:Hid (∀V,Below w3.heap.size w3 V->_):=fun V hV=>NT n ao ca es (x1,x2) V (HE.out _ (aK.out.low.trans (hV.mono aK.out.low.size))) hl
     have HS:Hid (∀V,Below w3.heap.size w3 V->(V.cell? ⟨w.heap.size,0,none⟩=some (.int .i64 n)/\V.cell? ⟨w.heap.size,1,none⟩=some (.slice ao es.length ca)/\V.cell? ⟨w.heap.size+1,2,none⟩=some (.slice (some ⟨b,o,none⟩) m ec)/\V.cell? ⟨b,o+i*2,none⟩=some (.int .i64 x1)/\V.cell? ⟨b,o+i*2+1,none⟩=some (.int .i64 x2)/\Below w3.heap.size w3 V)):=fun V hV=>by
      obtain⟨k0,k1,-,-,k2,-⟩:=(aK.out.later hV).all;rw[HM.out] at k2;exact⟨k0,k1,k2,(hV.cell (p:=⟨b,o+i*2,none⟩) hbl).trans d0,(hV.cell (p:=⟨b,o+i*2+1,none⟩) hbl).trans d1,hV⟩
     unfold aB cM at HFN;have hbr:Below w3.heap.size w3 w3.drew:=(aaG _ _).drew;clear hx;go_wp2_with fail
     go_region_held3 (fun V=>V.cell? ⟨w.heap.size,0,none⟩=some (.int .i64 n)/\V.cell? ⟨w.heap.size,1,none⟩=some (.slice ao es.length ca)/\V.cell? ⟨w.heap.size+1,2,none⟩=some (.slice (some ⟨b,o,none⟩) m ec)/\V.cell? ⟨b,o+i*2,none⟩=some (.int .i64 x1)/\V.cell? ⟨b,o+i*2+1,none⟩=some (.int .i64 x2)/\Below w3.heap.size w3 V)
      (exact HS.out _ (by first|assumption|exact hbr))
      ((go_at_call 32;refine(HFN.out _ (by first|assumption|exact hbr)).mono ?_;rintro e w6 ⟨⟨r,hr,rfl⟩,dO⟩;have hbz:Below w3.heap.size w3 w6:=acd (by first|assumption|exact hbr) (dO.mono (acv (by first|assumption|exact hbr)))))
     have mE:=ζ (aK.out.later hbz);have PN:=ζ (aK.out.later hbz).low;have HFD:=ζ (Ck.VR hr);clear hbz dO hr HFN HS hbr g0 g1 c0 c1 c2 d0 d1;by_cases OI:r<0
     .have cH:Hid (Ck.code n es ⟨false,ar,xs⟩=184):=Xe.out.trans (if_pos (fun h=>HFD.out.2 OI cC.out (h (x1,x2) (aaJ M8.out))))
      go_wp2;go_ret;exact⟨by rw[cH.out];rfl,PN.out⟩
     .have Nn:=ζ (HFD.out.1 (by omega))
      go_wp2;go_roundw
      case rel=>
       refine⟨i+1,by omega,by go_num,mE.out,fun j x hj hx=> ?_⟩;by_cases hji:j=i
       .subst hji
        rw[M8.out] at hx;cases hx;exact Nn.out
       .exact o7.out j x (by omega) hx
      case measure=>simp[intOf];omega
    .have hd:¬((i:Int)<(m:Int)):=by omega
     have hall:∀x∈xs,x∈es:=fun x hx=>by
      obtain⟨j,hj⟩:=abg hx;exact o7.out j x (by have:=(aaH.1 hj).1;have:=HM.out;omega) hj
     have dW:=Xe.out;rw[if_neg (fun h=>h hall)] at dW;have vZ:Si.Val n xs:=Ck.val_sub cC.out (Ck.pJ es xs 0 ((Ck.zC cC.out iB.out).2 hall));have hP:=Ej n eo ec xs w3 (yP.out _ aK.out.low).es qH;rw[HM.out] at hP;have HP:=ζ hP;have oZ:=ζ aK.out.low;clear hall vZ hP;go_wp2_with (go_at_call 33;refine HP.out.mono ?_;refine aaI ?_);refine ζ ?_;rintro e w4 ⟨a1,f1,a2,f2,rfl,-,-,hb4⟩;have cZ:=ζ (oZ.out.trans (hb4.mono oZ.out.size));have hs4:=cZ.out.size;clear hb4 g0 g1 c0 c1 c2 hlt;obtain⟨t,ht⟩:∃t,(Ku.kr n xs).2.2.2.1=t:=⟨_,rfl⟩;have Wm:=ζ ht;rw[ht];clear ht;cases t with
     |true=>
      have cH:Hid (Ck.code n es ⟨false,ar,xs⟩=0):=dW.trans (if_pos Wm.out);clear dW;go_wp2;go_ret;exact⟨by rw[cH.out];rfl,cZ.out.alloc hs4 _⟩
     |false=>
      have cH:Hid (Ck.code n es ⟨false,ar,xs⟩=185):=dW.trans (if_neg (by rw[Wm.out];decide));clear dW;go_wp2;go_ret;exact⟨by rw[cH.out];rfl,cZ.out.alloc hs4 _⟩
  .have kK:(z != 0)=true:=by simp[hz0]
   have cH:=ζ (Ck.uw yO.out (HZ.out.2 hz0));clear hz0;go_wp2;go_ret;exact⟨by rw[cH.out];rfl,aA.out.low⟩
theorem Fe (n:Int) (ao:Option Addr) (ca:Nat) (es:List (Int×Int)) (c:Ce.Cert) (v:Value) (xo eo:Option Addr) (xc ec:Nat) (w:World) (he:ah w ao es) (hl:es.length<=4611686018427387904) (hs:Ce.jZ w v c xo eo xc ec) (hf:Ce.Fits c) (hx:bH w xo c.ar):
 Calls prog 13 #[.agg #[.int .i64 n,.slice ao es.length ca],v] w fun e w'=>e= .returned (.int .i64 (Ck.code n es c))/\Below w.heap.size w w':=by
 have hv:=hs.val;subst hv;obtain⟨pl,ar,xs⟩:=c;cases pl
 .exact Io n ao ca es ar xs xo eo xc ec w he hl hs hf hx
 .exact Fc n ao ca es ar xs xo eo xc ec w he hl hs hf hx
end
end Go.Proofs.YtdbjpbjocmcpkaaGreatDoor
