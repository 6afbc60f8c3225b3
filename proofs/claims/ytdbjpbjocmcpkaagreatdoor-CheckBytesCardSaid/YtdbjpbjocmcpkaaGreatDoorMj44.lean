import Derived.Test.YtdbjpbjocmcpkaaGreatDoorMj43
import Derived.Test.YtdbjpbjocmcpkaaGreatDoorMj37
set_option maxHeartbeats 8000000
set_option maxRecDepth 100000
namespace Go.Proofs.YtdbjpbjocmcpkaaGreatDoor
section
open Go.Proofs.Tryz
open Go.RowKit Go.Sort Go.Maps
namespace Ku
theorem Cz {w:World} {k j:Nat} {t:TypeId} {a0 a1 a2 b0 b1 b2:Value} (hne:j≠k) (hk:w.heap[k]? =some (.cells #[a0,a1,a2] t (0,0))) (hj:w.heap[j]? =some (.cells #[b0,b1,b2] t (0,0))) (x y z:Value):
 (w.cell? ⟨k,0,none⟩=some a0/\w.cell? ⟨k,1,none⟩=some a1/\w.cell? ⟨k,2,none⟩=some a2/\w.frozen? ⟨k,0,none⟩=false/\w.frozen? ⟨k,1,none⟩=false/\w.frozen? ⟨k,2,none⟩=false)/\
 (∀X,X=((w.setCell ⟨k,0,none⟩ x).setCell ⟨k,1,none⟩ y).setCell ⟨k,2,none⟩ z->(X.cell? ⟨k,0,none⟩=some x/\X.cell? ⟨k,1,none⟩=some y/\X.cell? ⟨k,2,none⟩=some z)/\
   (X.cell? ⟨j,0,none⟩=some b0/\X.cell? ⟨j,1,none⟩=some b1/\X.cell? ⟨j,2,none⟩=some b2/\X.frozen? ⟨j,0,none⟩=false/\X.frozen? ⟨j,1,none⟩=false/\X.frozen? ⟨j,2,none⟩=false)):=by
 obtain⟨c0,c1,c2,cf⟩:=aQ hk;refine⟨⟨c0,c1,c2,cf 0,cf 1,cf 2⟩,?_⟩;rintro X rfl;obtain⟨d0,d1,d2,df⟩:=aQ ((pE (u:=w) (k8:=k) x y z j hne).trans hj);exact⟨az c0 c1 c2 x y z,d0,d1,d2,df 0,df 1,df 2⟩
end Ku
theorem BL (n:Int) (ao:Option Addr) (cap:Nat) (es:List (Int×Int)) (w:World) (he:ah w ao es) (hl:es.length<=4611686018427387904):
 Calls prog 98 #[.agg #[.int .i64 n,.slice ao es.length cap]] w (Ku.V8 n es w):=by
 obtain⟨W1,hW1⟩:∃W1,W1=w.alloc (.cells #[.int .i64 n,.slice ao es.length cap] 24):=⟨_,rfl⟩;obtain⟨W,hW⟩:∃W,W=W1.alloc (.cells #[.int .i64 0,.slice none 0 0,.slice none 0 0] 82):=⟨_,rfl⟩;have hsz:W1.heap.size=w.heap.size+1:=by rw[hW1];simp
 have g1:W1.heap[w.heap.size]? =some (.cells #[.int .i64 n,.slice ao es.length cap] 24 (0,0)):=by rw[hW1];exact heap_alloc_new w _
 have hB1:Below w.heap.size w W1:=by rw[hW1];exact(aaG _ _).alloc (aaF _) _
 have hB2:Below W1.heap.size W1 W:=by rw[hW];exact(aaG _ _).alloc (aaF _) _
 have hBW:Below w.heap.size w W:=hB1.trans (hB2.mono hB1.size);have g2:W.heap[w.heap.size+1]? =some (.cells #[.int .i64 0,.slice none 0 0,.slice none 0 0] 82 (0,0)):=by rw[hW,<-hsz];exact heap_alloc_new W1 _
 have g1':W.heap[w.heap.size]? =some (.cells #[.int .i64 n,.slice ao es.length cap] 24 (0,0)):=by rw[hB2.block _ (by omega)];exact g1
 have Ys:w.heap.size+1<W.heap.size:=lt_of_block g2;have rG:=ζ (S8 n ao cap es W (he.later hBW) hl);unfold aB at rG;have cA:=ζ g2;have cN:=ζ hBW;have HW:Hid (W=(w.alloc (.cells #[.int .i64 n,.slice ao es.length cap] 24)).alloc (.cells #[.int .i64 0,.slice none 0 0,.slice none 0 0] 82)):=by rw[hW,hW1];exact ζ rfl
 obtain⟨q0,q1,-⟩:=af g1';rw[HW.out] at q0 q1;clear he hB1 hB2 hBW g1 g2 g1' hW hW1 hsz;go_enter func98,ntmps98;go_wp2_with (go_at_call 121;rw[<-HW.out];refine rG.out.mono ?_;refine aaI ?_);refine ζ ?_;rintro e w1 ⟨dh,hb1⟩;have aD:=ζ (cN.out.trans (hb1.mono cN.out.size));have pT:w1.heap[w.heap.size+1]? =some (.cells #[.int .i64 0,.slice none 0 0,.slice none 0 0] 82 (0,0)):=(hb1.block _ (by omega)).trans cA.out;have dB:=ζ pT;have hs1:=hb1.size;clear q0 q1;rcases dh with ⟨m,p,rfl,hval,rfl,L9⟩|⟨hv,rfl⟩
 .have TC:Hid (∀U:World,Below w1.heap.size w1 U->dy U (.pointer (some ⟨p,0,none⟩)) m es):=fun U hU=>dy.later (.inr ⟨_,p,rfl,hval,L9⟩) hU
  have HV:=ζ hval;have HBR:=ζ (BF p m es w1 (TC.out w1 (aaG _ _)) hval);have hm:m<=1048576:=by have:=hval.hi;omega
  clear L9 hb1 hval pT;go_wp2_with (go_at_call 144;refine HBR.out.mono ?_;refine aaI ?_);refine ζ ?_;rintro e w2 ⟨v,rfl,ho,hb2⟩;obtain⟨la,lc,cG,uL,hlb⟩:=ho.form;obtain⟨q,hq⟩:∃q,(Ku.ZL (Ku.aY es m)).length=q:=⟨_,rfl⟩;rw[hq] at cG;subst cG;have hroom:q<=lc/\lc<=9223372036854775807:=by
   rcases ho.2 with ⟨e,h0⟩|⟨g,cap,cur,e,_,_,h1,h2,_⟩
   .cases e
    exact⟨aaF _,by omega⟩
   .cases e
    rw[<-hq];exact⟨h1,by unfold maxLen at h2;omega⟩
  have hqm:q<=1048576:=by rw[<-hq,Ku.bS];have:=Ku.Bj es m;omega
  have JK:Hid ((Ku.aY es m).length=q):=by rw[<-Ku.bS];exact ζ hq
  have hs2:=hb2.size;obtain⟨V,hV⟩:∃V,V=w2.alloc (.cells #[.int .i64 0,.slice none 0 0,.slice none 0 0] 82):=⟨_,rfl⟩;have hBV:Below w2.heap.size w2 V:=by rw[hV];exact(aaG _ _).alloc (aaF _) _
  have gV:V.heap[w2.heap.size]? =some (.cells #[.int .i64 0,.slice none 0 0,.slice none 0 0] 82 (0,0)):=by rw[hV];exact heap_alloc_new w2 _
  have hVs:w2.heap.size<V.heap.size:=lt_of_block gV;have DV:Below w1.heap.size w1 V:=hb2.trans (hBV.mono hb2.size);have gV2:V.heap[w.heap.size+1]? =some (.cells #[.int .i64 0,.slice none 0 0,.slice none 0 0] 82 (0,0)):=(DV.block _ (by omega)).trans dB.out;have Tu:=ζ hV;have W8:=ζ gV;have aal:=ζ gV2;have akE:=ζ DV;have iD:=ζ (aD.out.trans (DV.mono aD.out.size));have F5:Hid (∀U:World,(∀b,b<w2.heap.size->w1.heap.size<=b->U.heap[b]? =w2.heap[b]?)->ak U w.heap.size (.slice la q lc) (Ku.ZL (Ku.aY es m))):=fun U hU=>(ho.lower (by omega)).same fun g hg hl=>hU g hl (aaO ho g hg).1
  have rj:=ζ (uL.later hBV);have PL:Hid (∀b,(Value.slice la q lc).ownBlock=some b->w1.heap.size<=b/\b<w2.heap.size):=fun b hb=>aaO ho b hb
  have HHV:Hid (∀(d:Nat) (r:Bool),(r=true↔∀v∈Ku.aY es m,Ku.dg es v=d)->Calls prog 145 #[.pointer (some ⟨p,0,none⟩),.slice la q lc,.int .i64 (d:Int)] V fun e w'=>e= .returned (.bool r)/\Below V.heap.size V w'):=fun d r hr=>NA p m es la q lc d (Ku.aY es m) V (TC.out V DV) JK.out rj.out (fun v hv=>(Ku.pL.1 hv).1) (by omega) r hr
  have aap:Hid (∀U:World,Below V.heap.size V U->Calls prog 147 #[.pointer (some ⟨p,0,none⟩)] U (Ku.Q7 es HV.out U)):=fun U hU=>Ib p m es U (TC.out U (DV.trans (hU.mono DV.size))) HV.out
  obtain⟨z0,z1,z2,zf⟩:=aQ gV2;obtain⟨y0,y1,y2,yf⟩:=aQ gV;have hz0:=zf 0;have hz1:=zf 1;have hz2:=zf 2;have hy0:=yf 0;have hy1:=yf 1;have hy2:=yf 2;have hkn:w.heap.size+1≠w2.heap.size:=by omega
  clear uL hlb ho hb2 hV hBV gV gV2 DV hq zf yf;obtain⟨R,hR⟩:∃R,Ku.rows es HV.out es.length=R:=⟨_,rfl⟩;have Tv:=ζ hR;have rP:Hid (Ku.Small R):=by rw[<-hR];exact ζ (Ku.Kl HV.out)
  have Nr:Hid (∀U:World,Below V.heap.size V U->U.heap[w2.heap.size]? =some (.cells #[.int .i64 0,.slice none 0 0,.slice none 0 0] 82 (0,0))/\U.heap[w.heap.size+1]? =some (.cells #[.int .i64 0,.slice none 0 0,.slice none 0 0] 82 (0,0))/\aV U la (Ku.ZL (Ku.aY es m))):=fun U hU=>⟨(hU.block _ (lt_of_block W8.out)).trans W8.out,(hU.block _ (lt_of_block aal.out)).trans aal.out,rj.out.later hU⟩
  have OD:=iD.out.size;have Z6:Hid ((Ku.ZL (Ku.aY es m)).Pairwise (· <·)):=ζ (Ku.V5 (Ku.Ci es m));have Ww:Hid (∀x∈Ku.ZL (Ku.aY es m),0<=x/\x<1048576):=by
   refine ζ fun x hx=> ?_
   unfold Ku.ZL at hx;obtain⟨v,hv',rfl⟩:=abO.1 hx;have:=(Ku.pL.1 hv').1;omega
  have YS:Hid ((Ku.ZL (Ku.aY es m)).length=q):=by rw[Ku.bS];exact JK
  clear hR;clear z0 z1 z2 y0 y1 y2 hz0 hz1 hz2 hy0 hy1 hy2;have wP:Hid (¬((Ku.aY es m).length=5/\∀v∈Ku.aY es m,Ku.dg es v=4)->¬((Ku.aY es m).length=6/\∀v∈Ku.aY es m,Ku.dg es v=3)->Ku.jY (Ku.rows es HV.out es.length) es m=none):=fun h1 h2=>Ku.xl h1 fun h=>h2 ⟨h.1,h.2.1⟩
  by_cases h5:q=5
  .have t5:((q:Int)==5)=true:=by rw[h5];rfl
   have t6:((q:Int)==6)=false:=by rw[h5];rfl
   obtain⟨r,hr⟩:=Ku.CJ (∀v∈Ku.aY es m,Ku.dg es v=4);have Ad:Hid (Calls prog 145 #[.pointer (some ⟨p,0,none⟩),.slice la q lc,.int .i64 4] V fun e w'=>e= .returned (.bool r)/\Below V.heap.size V w'):=HHV.out 4 r hr;have HR:=ζ hr;have H5:=ζ h5;clear hr h5;cases r with
   |true=>
    have jc:=ζ (HR.out.1 rfl);go_wp2_with (go_at_call 145;rw[<-Tu.out];refine Ad.out.mono ?_;rintro e w3 ⟨rfl,hb3⟩;refine aaI ?_);refine ζ ?_;obtain⟨HCc⟩:Nonempty (Hid (Calls prog 147 #[.pointer (some ⟨p,0,none⟩)] w3 (Ku.Q7 es HV.out w3))):=⟨aap.out w3 hb3⟩;have aK:=ζ hb3;have hs3:=hb3.size;clear hb3;go_wp2_with (go_at_call 147;refine HCc.out.mono ?_;refine aaI ?_);refine ζ ?_;rintro e w4 ⟨cv,cs,rfl,jT,hb4⟩;rw[Tv.out] at jT;obtain⟨ca,cc,rfl⟩:=bG jT;obtain⟨J,hJ⟩:∃J,R.length=J:=⟨_,rfl⟩;rw[hJ] at jT ⊢;have HJ:=ζ hJ;have nL:=ζ jT;have cZ:=ζ (aK.out.trans (hb4.mono aK.out.size));have hs4:=hb4.size;have HSP:=ζ (Ct ca J cc R w4 hJ (by rw[<-hJ] at jT ⊢;exact Ku.vS jT) rP.out);clear jT hb4 hJ;go_wp2_with (go_at_call 146;refine HSP.out.mono ?_;refine aaI ?_);refine ζ ?_;rintro e w5 ⟨mb,rfl,hmb,nw,hb5⟩;have fM:=ζ (cZ.out.trans (hb5.mono cZ.out.size));have hs5:=hb5.size;have nW:Hid (∀b,cS cs b->w3.heap.size<=b/\b<w4.heap.size):=fun b hb=>nL.out.within (.inr hb)
    obtain⟨g8,g2,uL⟩:=Nr.out w5 fM.out;have HFV:Hid (Calls prog 148 #[.agg #[.slice ca J cc,.map (some mb)],.slice la q lc] w5 (Ku.oD w3.heap.size cs R 1 (.slice la q lc) (Ku.dN (Ku.ZL (Ku.aY es m)) q) w5)):=by
     have h5:=H5.out;have LH:=Ku.KD (L:=Ku.ZL (Ku.aY es m)) (YS.out.trans h5) Z6.out Ww.out;refine ζ (ND w3.heap.size ca J cc mb R.length cs R la q lc (Ku.ZL (Ku.aY es m)) w5 HJ.out (by omega) (nL.out.later hb5) rP.out nw (fun h=> ?_) YS.out (by omega) (by omega) hroom.1 hroom.2 uL (by rw[h5];exact LH.1) (by rw[h5];exact LH.2));have:=nW.out mb h;omega
    have HG8:=ζ g8;have cA:=ζ g2;clear nw hb5 uL g8 g2;go_wp2_with (go_at_call 148;refine HFV.out.mono ?_;refine aaI ?_);refine ζ ?_;rintro e w6 hk;obtain⟨v1,s1,s2,s3,u1,u2,u3,rr,rfl⟩:=hk.shape;have HK:=ζ hk;have tE:Hid (∀b,b<w5.heap.size->¬cS cs b->w6.heap[b]? =w5.heap[b]?):=fun b h1 h2=>hk.2.block b h1 h2
    have Jc:=hk.2.size;have lR:=ζ hk.2;clear hk;have Vn:w6.heap[w2.heap.size]? =some (.cells #[.int .i64 0,.slice none 0 0,.slice none 0 0] 82 (0,0)):=(tE.out _ (by omega) (fun h=>by have:=nW.out _ h;omega)).trans HG8.out;have hg2:w6.heap[w.heap.size+1]? =some (.cells #[.int .i64 0,.slice none 0 0,.slice none 0 0] 82 (0,0)):=(tE.out _ (by omega) (fun h=>by have:=nW.out _ h;omega)).trans cA.out;obtain⟨⟨y0,y1,y2,hy0,hy1,hy2⟩,oW⟩:=Ku.Cz hkn Vn hg2 (.int .i64 v1) (.slice s1 s2 s3) (.slice u1 u2 u3);obtain⟨⟨x0,x1,x2⟩,z0,z1,z2,hz0,hz1,hz2⟩:=oW _ rfl;have JW:Hid (Below w.heap.size w ((((((w6.setCell ⟨w2.heap.size,0,none⟩ (.int .i64 v1)).setCell ⟨w2.heap.size,1,none⟩ (.slice s1 s2 s3)).setCell ⟨w2.heap.size,2,none⟩ (.slice u1 u2 u3)).setCell ⟨w.heap.size+1,0,none⟩ (.int .i64 v1)).setCell ⟨w.heap.size+1,1,none⟩ (.slice s1 s2 s3)).setCell ⟨w.heap.size+1,2,none⟩ (.slice u1 u2 u3))):=by
     have kL:Below w.heap.size w w6:=⟨lR.out.os.trans (iD.out.trans (fM.out.mono iD.out.size)).os,lR.out.tape.trans (iD.out.trans (fM.out.mono iD.out.size)).tape,lR.out.output.trans (iD.out.trans (fM.out.mono iD.out.size)).output,by omega,fun b hb=>(tE.out b (by omega) (fun h=>by have:=nW.out b h;omega)).trans ((iD.out.trans (fM.out.mono iD.out.size)).block b hb)⟩;exact ζ (bX (bX kL (by omega) _ _ _) (by omega) _ _ _)
    clear oW Vn hg2;go_wp2;refine bodyPost_ret (bW rfl rfl _ _ (w.heap.size+1) _ _ _ _ _ rfl rfl rfl (az z0 z1 z2 _ _ _).1 (az z0 z1 z2 _ _ _).2.1 (az z0 z1 z2 _ _ _).2.2) rfl ?_;have bK:Hid (ak w6 w.heap.size (.slice la q lc) (Ku.ZL (Ku.aY es m))):=F5.out w6 fun b h1 h2=>by
     rw[tE.out b (by omega) (fun h=>by have:=nW.out b h;omega),fM.out.block b (by omega),Tu.out];exact heap_alloc_old w2 _ h1
    refine⟨.inr ⟨m,HV.out,rfl,?_⟩,JW.out⟩;rw[Ku.Ix (JK.out.trans H5.out) jc.out,Tv.out];have hk:=HK.out;rw[show q=5 from H5.out] at hk;rw[show q=5 from H5.out] at bK PL;refine Ku.La (c1:=w2.heap.size) (c2:=w.heap.size+1) hk bK.out (by omega) (fun b h1 h2=> ?_) (fun b hb=> ?_) (fun b k v pv r hb he=> ?_) rfl
    .rw[Ku.pE _ _ _ b h2,Ku.pE _ _ _ b h1]
    .rcases hb with h|h|h
     .have:=PL.out b h
      omega
     .have:=nW.out b h
      omega
     .omega
    .have h1:=PL.out b hb
     refine⟨fun h=> ?_,fun h=>by have:=nW.out b h;omega⟩;rcases hk.1 with ⟨_,h2⟩|⟨_,j9,vs,h2,_,h3,_⟩
     .rw[h2] at he
      unfold Ku.kS at he;cases he;cases h
     .rw[h2] at he
      cases he;have:=h3 b h;omega
   |false=>
    go_wp2_with (go_at_call 145;rw[<-Tu.out];refine Ad.out.mono ?_;rintro e w3 ⟨rfl,hb3⟩;refine aaI ?_);refine ζ ?_;have HX:Hid (Ku.jY (Ku.rows es HV.out es.length) es m=none):=wP.out (fun h=>by have:=HR.out.2 h.2;cases this) (fun h=>by have h1:=JK.out;have h2:=H5.out;omega);obtain⟨g8,g2,-⟩:=Nr.out w3 hb3;have aK:=ζ (iD.out.trans (hb3.mono iD.out.size));obtain⟨y0,y1,y2,yf⟩:=aQ g8;obtain⟨z0,z1,z2,zf⟩:=aQ g2;have hz0:=zf 0;have hz1:=zf 1;have hz2:=zf 2;clear zf yf;go_wp2;refine bodyPost_ret (bW rfl rfl _ _ (w.heap.size+1) _ _ _ _ _ rfl rfl rfl (az z0 z1 z2 _ _ _).1 (az z0 z1 z2 _ _ _).2.1 (az z0 z1 z2 _ _ _).2.2) rfl ?_;exact⟨.inr ⟨m,HV.out,rfl,by rw[HX.out];rfl⟩,bX aK.out (by omega) _ _ _⟩
  .have t5:((q:Int)==5)=false:=by simp;omega
   by_cases h6:q=6
   .have t6:((q:Int)==6)=true:=by rw[h6];rfl
    obtain⟨r,hr⟩:=Ku.CJ (∀v∈Ku.aY es m,Ku.dg es v=3);have Ad:Hid (Calls prog 145 #[.pointer (some ⟨p,0,none⟩),.slice la q lc,.int .i64 3] V fun e w'=>e= .returned (.bool r)/\Below V.heap.size V w'):=HHV.out 3 r hr;have HR:=ζ hr;have H6:=ζ h6;clear hr h6 h5;cases r with
    |true=>
     have jc:=ζ (HR.out.1 rfl);go_wp2_with (go_at_call 145;rw[<-Tu.out];refine Ad.out.mono ?_;rintro e w3 ⟨rfl,hb3⟩;refine aaI ?_);refine ζ ?_;obtain⟨HCc⟩:Nonempty (Hid (Calls prog 147 #[.pointer (some ⟨p,0,none⟩)] w3 (Ku.Q7 es HV.out w3))):=⟨aap.out w3 hb3⟩;have aK:=ζ hb3;have hs3:=hb3.size;clear hb3;go_wp2_with (go_at_call 147;refine HCc.out.mono ?_;refine aaI ?_);refine ζ ?_;rintro e w4 ⟨cv,cs,rfl,jT,hb4⟩;rw[Tv.out] at jT;obtain⟨ca,cc,rfl⟩:=bG jT;obtain⟨J,hJ⟩:∃J,R.length=J:=⟨_,rfl⟩;rw[hJ] at jT ⊢;have HJ:=ζ hJ;have nL:=ζ jT;have cZ:=ζ (aK.out.trans (hb4.mono aK.out.size));have hs4:=hb4.size;have HSP:=ζ (Ct ca J cc R w4 hJ (by rw[<-hJ] at jT ⊢;exact Ku.vS jT) rP.out);clear jT hb4 hJ;go_wp2_with (go_at_call 146;refine HSP.out.mono ?_;refine aaI ?_);refine ζ ?_;rintro e w5 ⟨mb,rfl,hmb,nw,hb5⟩;have fM:=ζ (cZ.out.trans (hb5.mono cZ.out.size));have hs5:=hb5.size;have nW:Hid (∀b,cS cs b->w3.heap.size<=b/\b<w4.heap.size):=fun b hb=>nL.out.within (.inr hb)
     obtain⟨g8,g2,uL⟩:=Nr.out w5 fM.out;have HFV:Hid (Calls prog 149 #[.agg #[.slice ca J cc,.map (some mb)],.slice la q lc] w5 (Ku.V6 w3.heap.size cs R (Ku.ZL (Ku.aY es m)) q w5)):=by
      have h6:=H6.out;have LH:=fun h3=>Ku.MB (R:=R) (L:=Ku.ZL (Ku.aY es m)) (YS.out.trans h6) Z6.out Ww.out h3
      refine ζ (Rc w3.heap.size ca J cc mb R.length cs R la q lc (Ku.ZL (Ku.aY es m)) w5 HJ.out (by omega) (nL.out.later hb5) rP.out nw (fun h=> ?_) YS.out h6 uL Ww.out (by rw[h6];exact fun h3=>(LH h3).1) (by rw[h6];exact fun h3=>(LH h3).2));have:=nW.out mb h;omega
     have HG8:=ζ g8;have cA:=ζ g2;clear nw hb5 uL g8 g2;go_wp2_with (go_at_call 149;refine HFV.out.mono ?_;refine aaI ?_);refine ζ ?_;rintro e w6 hk;have HK:=ζ hk;have hsh:∃(v1:Int) (s1:Option Addr) (s2 s3:Nat) (u1:Option Addr) (u2 u3:Nat) (r:Bool),e= .returned (.tuple #[.agg #[.int .i64 v1,.slice s1 s2 s3,.slice u1 u2 u3],.bool r]):=by
      rcases hk with ⟨_,h,_⟩|⟨_,bv,ho,_,h⟩
      .exact⟨_,_,_,_,_,_,_,_,h⟩
      .obtain⟨xa,xc,rfl,-,-⟩:=ho.form
       exact h.shape
     obtain⟨v1,s1,s2,s3,u1,u2,u3,rr,rfl⟩:=hsh;have hwr:av (fun b=>cS cs b) w5 w6:=by
      rcases hk with ⟨_,_,h⟩|⟨_,bv,_,_,h⟩
      .exact(av.refl _ w5).later h
      .exact h.2
     have tE:Hid (∀b,b<w5.heap.size->¬cS cs b->w6.heap[b]? =w5.heap[b]?):=fun b h1 h2=>hwr.block b h1 h2
     have Jc:=hwr.size;have lR:=ζ hwr;clear hk hwr;have Vn:w6.heap[w2.heap.size]? =some (.cells #[.int .i64 0,.slice none 0 0,.slice none 0 0] 82 (0,0)):=(tE.out _ (by omega) (fun h=>by have:=nW.out _ h;omega)).trans HG8.out;have hg2:w6.heap[w.heap.size+1]? =some (.cells #[.int .i64 0,.slice none 0 0,.slice none 0 0] 82 (0,0)):=(tE.out _ (by omega) (fun h=>by have:=nW.out _ h;omega)).trans cA.out;obtain⟨⟨y0,y1,y2,hy0,hy1,hy2⟩,oW⟩:=Ku.Cz hkn Vn hg2 (.int .i64 v1) (.slice s1 s2 s3) (.slice u1 u2 u3);obtain⟨⟨x0,x1,x2⟩,z0,z1,z2,hz0,hz1,hz2⟩:=oW _ rfl;have JW:Hid (Below w.heap.size w ((((((w6.setCell ⟨w2.heap.size,0,none⟩ (.int .i64 v1)).setCell ⟨w2.heap.size,1,none⟩ (.slice s1 s2 s3)).setCell ⟨w2.heap.size,2,none⟩ (.slice u1 u2 u3)).setCell ⟨w.heap.size+1,0,none⟩ (.int .i64 v1)).setCell ⟨w.heap.size+1,1,none⟩ (.slice s1 s2 s3)).setCell ⟨w.heap.size+1,2,none⟩ (.slice u1 u2 u3))):=by
      have kL:Below w.heap.size w w6:=⟨lR.out.os.trans (iD.out.trans (fM.out.mono iD.out.size)).os,lR.out.tape.trans (iD.out.trans (fM.out.mono iD.out.size)).tape,lR.out.output.trans (iD.out.trans (fM.out.mono iD.out.size)).output,by omega,fun b hb=>(tE.out b (by omega) (fun h=>by have:=nW.out b h;omega)).trans ((iD.out.trans (fM.out.mono iD.out.size)).block b hb)⟩;exact ζ (bX (bX kL (by omega) _ _ _) (by omega) _ _ _)
     clear oW Vn hg2;go_wp2;refine bodyPost_ret (bW rfl rfl _ _ (w.heap.size+1) _ _ _ _ _ rfl rfl rfl (az z0 z1 z2 _ _ _).1 (az z0 z1 z2 _ _ _).2.1 (az z0 z1 z2 _ _ _).2.2) rfl ?_;refine⟨.inr ⟨m,HV.out,rfl,?_⟩,JW.out⟩;have hk:=HK.out;unfold Ku.V6 at hk;rw[show q=6 from H6.out] at hk;rw[Tv.out];rcases hk with ⟨h3,h2,-⟩|⟨h3,bv,ho,hap,hk⟩
     .rw[Ku.xl (fun h=>by have h1:=JK.out;have h2:=H6.out;omega) fun h=>h3 h.2.2]
      unfold Ku.kS at h2;cases h2;rfl
     .rw[Ku.Iw (JK.out.trans H6.out) jc.out h3]
      have hbl:∀b,bv.ownBlock=some b->w5.heap.size<=b:=fun b hb=>(aaO ho b hb).1
      refine Ku.La (c1:=w2.heap.size) (c2:=w.heap.size+1) hk (ho.lower (by omega)) (by omega) (fun b h1 h2=> ?_) (fun b hb=> ?_) (fun b k v pv r hb he=> ?_) rfl
      .rw[Ku.pE _ _ _ b h2,Ku.pE _ _ _ b h1]
      .rcases hb with h|h|h
       .have:=hbl b h
        omega
       .have:=nW.out b h
        omega
       .omega
      .exact⟨(hap b k v pv r hb he).2,fun h=>by have h1:=nW.out b h;have h2:=hbl b hb;omega⟩
    |false=>
     go_wp2_with (go_at_call 145;rw[<-Tu.out];refine Ad.out.mono ?_;rintro e w3 ⟨rfl,hb3⟩;refine aaI ?_);refine ζ ?_;have HX:Hid (Ku.jY (Ku.rows es HV.out es.length) es m=none):=wP.out (fun h=>by have h1:=JK.out;have h2:=H6.out;omega) (fun h=>by have:=HR.out.2 h.2;cases this);obtain⟨g8,g2,-⟩:=Nr.out w3 hb3;have aK:=ζ (iD.out.trans (hb3.mono iD.out.size));obtain⟨y0,y1,y2,yf⟩:=aQ g8;obtain⟨z0,z1,z2,zf⟩:=aQ g2;have hz0:=zf 0;have hz1:=zf 1;have hz2:=zf 2;clear zf yf;go_wp2;refine bodyPost_ret (bW rfl rfl _ _ (w.heap.size+1) _ _ _ _ _ rfl rfl rfl (az z0 z1 z2 _ _ _).1 (az z0 z1 z2 _ _ _).2.1 (az z0 z1 z2 _ _ _).2.2) rfl ?_;exact⟨.inr ⟨m,HV.out,rfl,by rw[HX.out];rfl⟩,bX aK.out (by omega) _ _ _⟩
   .have t6:((q:Int)==6)=false:=by simp;omega
    have HX:Hid (Ku.jY (Ku.rows es HV.out es.length) es m=none):=wP.out (fun h=>by have h1:=JK.out;omega) (fun h=>by have h1:=JK.out;omega);clear h5 h6;obtain⟨g8,g2,-⟩:=Nr.out V (aaG _ _);have aK:=iD;rw[Tu.out] at g8 g2 aK;obtain⟨y0,y1,y2,yf⟩:=aQ g8;obtain⟨z0,z1,z2,zf⟩:=aQ g2;have hz0:=zf 0;have hz1:=zf 1;have hz2:=zf 2;clear zf yf;go_wp2;refine bodyPost_ret (bW rfl rfl _ _ (w.heap.size+1) _ _ _ _ _ rfl rfl rfl (az z0 z1 z2 _ _ _).1 (az z0 z1 z2 _ _ _).2.1 (az z0 z1 z2 _ _ _).2.2) rfl ?_;exact⟨.inr ⟨m,HV.out,rfl,by rw[HX.out];rfl⟩,bX aK.out (by omega) _ _ _⟩
 .have dM:=ζ hv
  obtain⟨z0,z1,z2,zf⟩:=aQ pT;have hf0:=zf 0;have sH:=zf 1;have hf2:=zf 2;clear hv hb1 zf pT;go_wp2;refine bodyPost_ret (bW rfl rfl _ _ (w.heap.size+1) _ _ _ _ _ rfl rfl rfl (az z0 z1 z2 _ _ _).1 (az z0 z1 z2 _ _ _).2.1 (az z0 z1 z2 _ _ _).2.2) rfl ?_;exact⟨.inl ⟨dM.out,rfl⟩,bX aD.out (by omega) _ _ _⟩
end
section
open Go.RowKit Go.Sort Go.Maps
namespace Ku
theorem tT (w:World):qV w (.slice none 0 0) []:=⟨none,0,rfl,fun k l h=>by simp at h⟩
open Classical in
noncomputable def kr (n:Int) (es:List (Int×Int)):Int×List Int×List (List Int)×Bool×Int:=
 if h:Si.Val n es then (match jY (rows es h es.length) es n.toNat with|none=>(0,[],[],false,0)|some (kd,br,ps)=>(kd,br,ps,true,0)) else (0,[],[],false,1)
def YQ (r:Int×List Int×List (List Int)×Bool×Int) (w:World) (e:Ending) (w':World):Prop:=
 ∃a1 c1 a2 c2,e= .returned (.tuple #[.agg #[.int .i64 r.1,.slice a1 r.2.1.length c1,.slice a2 r.2.2.1.length c2],.bool r.2.2.2.1,.int .i64 r.2.2.2.2])/\aV w' a1 r.2.1/\qV w' (.slice a2 r.2.2.1.length c2) r.2.2.1/\Below w.heap.size w w'
theorem ug (w:World):aV w none []:=fun j x h=>by simp at h
theorem Uv {n:Int} {es:List (Int×Int)} (h:Si.valid n es=false):kr n es=(0,[],[],false,1):=by
 have hn:¬Si.Val n es:=fun h'=>by rw[Si.aL.2 h'] at h;cases h
 exact dif_neg hn
theorem Qo {m:Nat} {es:List (Int×Int)} (hv:Si.Val (m:Int) es):kr (m:Int) es=(match jY (rows es hv es.length) es m with|none=>(0,[],[],false,0)|some (kd,br,ps)=>(kd,br,ps,true,0)):=by
 unfold kr;rw[dif_pos hv,abu]
theorem aaX {n:Int} {es:List (Int×Int)} {w w':World} {e:Ending} (h:V8 n es w e w'):YQ (kr n es) w e w':=by
 obtain⟨hc,hb⟩:=h;rcases hc with ⟨hv,rfl⟩|⟨m,hv,rfl,ha⟩
 .rw[Uv hv]
  exact⟨none,0,none,0,rfl,ug _,tT _,hb⟩
 .rw[Qo hv]
  cases hr:jY (rows es hv es.length) es m with
  |none=>
   rw[hr] at ha;exact⟨none,0,none,0,ha,ug _,tT _,hb⟩
  |some x=>
   obtain⟨kd,br,ps⟩:=x;rw[hr] at ha;obtain⟨bv,pv,vs,rfl,h1,h2,-⟩:=ha;obtain⟨ba,bc,rfl,h3,-⟩:=h1.form;obtain⟨pa,pc,rfl⟩:=bG h2;exact⟨ba,bc,pa,pc,rfl,h3,vS h2,hb⟩
end Ku
theorem CW (n:Int) (ao:Option Addr) (cap:Nat) (es:List (Int×Int)) (w:World) (he:ah w ao es) (hl:es.length<=4611686018427387904):
 Calls Tryz.prog 98 #[.agg #[.int .i64 n,.slice ao es.length cap]] w (Ku.YQ (Ku.kr n es) w):=(BL n ao cap es w he hl).mono fun _ _ h=>Ku.aaX h
end
section
open Go.Proofs.Tryz
open Go.RowKit Go.Sort
theorem dK {w:World} {k:Nat} {t:TypeId} {a b c d e f g:Value} (h:w.heap[k]? =some (.cells #[a,b,c,d,e,f,g] t (0,0))):
 w.cell? ⟨k,0,none⟩=some a/\w.cell? ⟨k,1,none⟩=some b/\w.cell? ⟨k,2,none⟩=some c/\w.cell? ⟨k,3,none⟩=some d/\w.cell? ⟨k,4,none⟩=some e/\w.cell? ⟨k,5,none⟩=some f/\w.cell? ⟨k,6,none⟩=some g/\(∀i,w.frozen? ⟨k,i,none⟩=false):=by
 simp[World.cell?,World.frozen?,h]
section
variable {n:Int} {ao:Option Addr} {ca k:Nat} {es:List (Int×Int)} {q1 q2 q3 q4 q5 q6:Value} {w:World}
theorem C5 (hb:w.heap[k]? =some (.cells #[.int .i64 n,.slice ao es.length ca,q2,q3,q4,q5,q6] 68 (0,0))) (he:ah w ao es) (hl:es.length<=4611686018427387904):
 Calls prog 50 #[.pointer (some ⟨k,0,none⟩)] w fun e w'=>e= .returned (.bool (Si.valid n es))/\Below w.heap.size w w':=by
 obtain⟨c0,c1,-⟩:=dK hb;have HV:=ζ (qj n ao ca es w he hl);unfold aB at HV;have hk:=lt_of_block hb;clear hb he;go_enter func50,ntmps50;go_wp2_with (go_at_call 38;refine HV.out.mono ?_;rintro e w1 ⟨rfl,hb1⟩;have aD:=ζ hb1;clear hb1 c0 c1;refine aaI ?_);refine ζ ?_;go_wp2;go_ret;exact⟨rfl,aD.out⟩
theorem Sk {xo:Option Addr} {xc:Nat} {ls:List (List Int)} (hb:w.heap[k]? =some (.cells #[.int .i64 n,.slice ao es.length ca,q2,q3,q4,.slice xo ls.length xc,q6] 68 (0,0))) (he:ah w ao es) (hl:es.length<=4611686018427387904) (hx:bH w xo ls):
 Calls prog 53 #[.pointer (some ⟨k,0,none⟩)] w fun e w'=>e= .returned (.bool (decide ((Ro.check n es ls).2=0/\Fa.gz n.toNat es ls=0)))/\Below w.heap.size w w':=by
 have hk:=lt_of_block hb;have HV:Hid (∀W,Below w.heap.size w W->_):=fun W hW=>Pc n ao ca es xo xc ls W (he.later hW) hl (hx.later hW)
 generalize decide ((Ro.check n es ls).2=0/\Fa.gz n.toNat es ls=0)=t at HV ⊢;have HS:Hid (∀W,Below w.heap.size w W->(W.cell? ⟨k,0,none⟩=some (.int .i64 n)/\W.cell? ⟨k,1,none⟩=some (.slice ao es.length ca)/\W.cell? ⟨k,5,none⟩=some (.slice xo ls.length xc)/\Below w.heap.size w W)):=fun W hW=>by
  obtain⟨c0,c1,-,-,-,c5,-⟩:=dK ((hW.block _ hk).trans hb);exact⟨c0,c1,c5,hW⟩
 unfold aB at HV;obtain⟨c0,c1,-,-,-,c5,-⟩:=dK hb;have hbr:Below w.heap.size w w.drew:=(aaG _ _).drew;clear hb he hx;go_enter func53,ntmps53;go_wp2_with fail
 go_region_held3 (fun W=>W.cell? ⟨k,0,none⟩=some (.int .i64 n)/\W.cell? ⟨k,1,none⟩=some (.slice ao es.length ca)/\W.cell? ⟨k,5,none⟩=some (.slice xo ls.length xc)/\Below w.heap.size w W)
  (exact HS.out _ (by first|assumption|exact hbr))
  ((go_at_call 95;refine(HV.out _ (by first|assumption|exact hbr)).mono ?_;rintro e w6 ⟨rfl,dO⟩;have hbz:Below w.heap.size w w6:=acd (by first|assumption|exact hbr) (dO.mono (acv (by first|assumption|exact hbr)))))
 have JU:=ζ hbz;clear hbz dO HV HS hbr c0 c1 c5;go_wp2;go_ret;exact⟨rfl,JU.out⟩
theorem yD {w':World} {a b c d e f g:Value} {t:TypeId} (h:w.heap[k]? =some (.cells #[a,b,c,d,e,f,g] t (0,0))) (hw:Below w.heap.size w w') (x:Value):
 (w'.setCell ⟨k,5,none⟩ x).heap[k]? =some (.cells #[a,b,c,d,e,x,g] t (0,0))/\(w'.setCell ⟨k,6,none⟩ x).heap[k]? =some (.cells #[a,b,c,d,e,f,x] t (0,0))/\∀i,av (fun b=>b=k) w (w'.setCell ⟨k,i,none⟩ x):=by
 have h':=(hw.block _ (lt_of_block h)).trans h;refine⟨?_,?_,fun i=>av.setCell (S:=fun b=>b=k) ((av.refl _ _).later hw) rfl x⟩
 .rw[heap_setCell_same _ _ _ _ _ _ h']
  rfl
 .rw[heap_setCell_same _ _ _ _ _ _ h']
  rfl
def JC (n:Int) (ao:Option Addr) (ca k:Nat) (es:List (Int×Int)) (q2 q3 q4 q6:Value) (ls:List (List Int)) (w:World) (e:Ending) (w':World):Prop:=
 ∃r,e= .returned (.bool (decide ((Ro.check n es (Ro.hls es 0 ls)).2=0)))/\w'.heap[k]? =some (.cells #[.int .i64 n,.slice ao es.length ca,q2,q3,q4,r,q6] 68 (0,0))/\av (fun b=>b=k) w w'/\
  ((Ro.check n es (Ro.hls es 0 ls)).2=0->∃rs,ay w' w.heap.size r rs (Ro.hls es 0 ls))
theorem lW.one {ls:List (List Int)} {w':World} {e:Ending} {c:Int} (hc:(Ro.check n es (Ro.hls es 0 ls)).2=c) (h:lW n es ls w e w'):Below w.heap.size w w'/\∃ra rl rc z,e= .returned (.tuple #[.slice ra rl rc,.int .i64 z,.int .i64 c])/\(c=0->∃rs,ay w' w.heap.size (.slice ra rl rc) rs (Ro.hls es 0 ls)):=by
 unfold lW Xr at h;rw[hc] at h;obtain⟨hb,⟨h0,rfl⟩|⟨h0,r,rs,rfl,hr⟩⟩:=h
 .exact⟨hb,_,_,_,_,rfl,fun h=>absurd h h0⟩
 .obtain⟨ra,rc,rfl⟩:=bG hr
  exact⟨hb,ra,_,rc,0,by rw[h0],fun _=>⟨rs,hr⟩⟩
theorem XF {xo:Option Addr} {xc:Nat} {ls:List (List Int)} (hb:w.heap[k]? =some (.cells #[.int .i64 n,.slice ao es.length ca,q2,.slice xo ls.length xc,q4,q5,q6] 68 (0,0))) (he:ah w ao es) (hl:es.length<=4611686018427387904) (hx:bH w xo ls):
 Calls prog 52 #[.pointer (some ⟨k,0,none⟩)] w (JC n ao ca k es q2 (.slice xo ls.length xc) q4 q6 ls w):=by
 have hk:=lt_of_block hb;have HB:=ζ hb;obtain⟨c,hc⟩:∃c,(Ro.check n es (Ro.hls es 0 ls)).2=c:=⟨_,rfl⟩
 have HV:Hid (∀W,Below w.heap.size w W->Calls prog 94 #[.agg #[.int .i64 n,.slice ao es.length ca],.slice xo ls.length xc] W fun e w'=>Below W.heap.size W w'/\∃ra rl rc z,e= .returned (.tuple #[.slice ra rl rc,.int .i64 z,.int .i64 c])/\(c=0->∃rs,ay w' W.heap.size (.slice ra rl rc) rs (Ro.hls es 0 ls))):=
  fun W hW=>(Ml n ao ca es xo xc ls W (he.later hW) hl (hx.later hW)).mono fun e w' h=>h.one hc
 have HS:Hid (∀W,Below w.heap.size w W->(W.cell? ⟨k,0,none⟩=some (.int .i64 n)/\W.cell? ⟨k,1,none⟩=some (.slice ao es.length ca)/\W.cell? ⟨k,3,none⟩=some (.slice xo ls.length xc)/\Below w.heap.size w W)):=fun W hW=>by
  obtain⟨c0,c1,-,c3,-⟩:=dK ((hW.block _ hk).trans hb);exact⟨c0,c1,c3,hW⟩
 obtain⟨c0,c1,-,c3,-⟩:=dK hb;have hbr:Below w.heap.size w w.drew:=(aaG _ _).drew;unfold JC;rw[hc];clear hb he hx hc;go_enter func52,ntmps52;go_wp2_with fail
 go_region_held3 (fun W=>W.cell? ⟨k,0,none⟩=some (.int .i64 n)/\W.cell? ⟨k,1,none⟩=some (.slice ao es.length ca)/\W.cell? ⟨k,3,none⟩=some (.slice xo ls.length xc)/\Below w.heap.size w W)
  (exact HS.out _ (by first|assumption|exact hbr))
  ((go_at_call 94;refine(HV.out _ (by first|assumption|exact hbr)).mono ?_;rintro e w6 ⟨dO,ra,rl,rc,z,rfl,hr⟩;have hr2:c=0->∃rs,ay w6 w.heap.size (.slice ra rl rc) rs (Ro.hls es 0 ls):=(fun h=>(hr h).elim fun rs h2=>⟨rs,h2.lower (acv (by first|assumption|exact hbr))⟩);have hbz:Below w.heap.size w w6:=acd (by first|assumption|exact hbr) (dO.mono (acv (by first|assumption|exact hbr)))))
 have HC:=ζ (yD HB.out hbz (.slice ra rl rc));obtain⟨-,-,-,-,-,c5,-,cf⟩:=dK ((hbz.block _ hk).trans HB.out);have cf5:=cf 5;clear cf;have hk1:k<w6.heap.size:=abd hk hbz.size;have HR:Hid (c=0->∃rs,ay (w6.setCell ⟨k,5,none⟩ (.slice ra rl rc)) w.heap.size (.slice ra rl rc) rs (Ro.hls es 0 ls)):=fun h0=>by
  obtain⟨rs,hr⟩:=hr2 h0;refine⟨rs,hr.kept fun b hb' _=>heap_setCell_other _ _ _ _ (fun e=> ?_)⟩;dsimp only at e;rcases hb' with hb'|⟨u,y,hy,hb'⟩
  .have:=(aaO hr.outer b hb').1
   omega
  .obtain⟨l,hl'⟩:=hr.at hy
   have:=(aaO (hr.row u y l hy hl') b hb').1;omega
 clear hbz dO HV HS hbr c0 c1 c3 hr hr2;by_cases hc0:c=0
 .have kK:(c==0)=true:=by simpa using hc0
  go_wp2;go_ret;refine⟨.slice ra rl rc,?_,HC.out.1,HC.out.2.2 5,HR.out⟩;rw[decide_eq_true hc0];rfl
 .have kK:(c==0)=false:=by simpa using hc0
  go_wp2;go_ret;refine⟨.slice ra rl rc,?_,HC.out.1,HC.out.2.2 5,HR.out⟩;rw[decide_eq_false hc0];rfl
def EK (n:Int) (ao:Option Addr) (ca k:Nat) (es:List (Int×Int)) (q2 q3 q4 q5:Value) (xs:List (Int×Int)) (w:World) (e:Ending) (w':World):Prop:=
 ∃v,e= .returned (.bool (decide ((Ck.bB xs es 0).length=xs.length)))/\w'.heap[k]? =some (.cells #[.int .i64 n,.slice ao es.length ca,q2,q3,q4,q5,v] 68 (0,0))/\av (fun b=>b=k) w w'/\ak w' w.heap.size v (Ck.keep xs es)
theorem Ul {xo:Option Addr} {xc:Nat} {xs:List (Int×Int)} (hb:w.heap[k]? =some (.cells #[.int .i64 n,.slice ao es.length ca,q2,q3,.slice xo xs.length xc,q5,q6] 68 (0,0))) (he:ah w ao es) (hl:es.length<=4194304) (hx:ah w xo xs) (hxl:xs.length<=4611686018427387904):
 Calls prog 54 #[.pointer (some ⟨k,0,none⟩)] w (EK n ao ca k es q2 q3 (.slice xo xs.length xc) q5 xs w):=by
 have hk:=lt_of_block hb;have HB:=ζ hb;have HV:Hid (∀W,Below w.heap.size w W->_):=fun W hW=>C6 xo xc xs ao ca es W (hx.later hW) hxl (he.later hW) hl
 have HS:Hid (∀W,Below w.heap.size w W->(W.cell? ⟨k,1,none⟩=some (.slice ao es.length ca)/\W.cell? ⟨k,4,none⟩=some (.slice xo xs.length xc)/\Below w.heap.size w W)):=fun W hW=>by
  obtain⟨-,c1,-,-,c4,-⟩:=dK ((hW.block _ hk).trans hb);exact⟨c1,c4,hW⟩
 unfold EK;generalize decide ((Ck.bB xs es 0).length=xs.length)=t at HV ⊢;obtain⟨-,c1,-,-,c4,-⟩:=dK hb;have hbr:Below w.heap.size w w.drew:=(aaG _ _).drew;clear hb he hx;go_enter func54,ntmps54;go_wp2_with fail
 go_region_held3 (fun W=>W.cell? ⟨k,1,none⟩=some (.slice ao es.length ca)/\W.cell? ⟨k,4,none⟩=some (.slice xo xs.length xc)/\Below w.heap.size w W)
  (exact HS.out _ (by first|assumption|exact hbr))
  ((go_at_call 96;refine(HV.out _ (by first|assumption|exact hbr)).mono ?_;rintro e w6 ⟨v,rfl,hv,dO⟩;obtain⟨va,vc,rfl,-,-⟩:=hv.form;have hv2:ak w6 w.heap.size (.slice va (Ck.keep xs es).length vc) (Ck.keep xs es):=hv.lower (acv (by first|assumption|exact hbr));have hbz:Below w.heap.size w w6:=acd (by first|assumption|exact hbr) (dO.mono (acv (by first|assumption|exact hbr)))))
 generalize hkl:(Ck.keep xs es).length=q at hv2 ⊢;have HC:=ζ (yD HB.out hbz (.slice va q vc));obtain⟨-,-,-,-,-,-,c6,cf⟩:=dK ((hbz.block _ hk).trans HB.out);have cf6:=cf 6;clear cf;have hk1:k<w6.heap.size:=abd hk hbz.size;have HR:Hid (ak (w6.setCell ⟨k,6,none⟩ (.slice va q vc)) w.heap.size (.slice va q vc) (Ck.keep xs es)):=hv2.same fun b hb' _=>heap_setCell_other _ _ _ _ (fun e=>by
  dsimp only at e;have:=(aaO hv2 b hb').1;omega)
 clear hbz dO HV HS hbr c1 c4 hv hv2 hkl;go_wp2;go_ret;exact⟨.slice va q vc,rfl,HC.out.2.1,HC.out.2.2 6,HR.out⟩
theorem aW.Z3 {W:World} {B c:Nat} {a:Option Addr} {l:List (Int×Int)} (h:aW W B (.slice a l.length c) l):ah W a l:=by
 obtain⟨a',c',e,_,_,h1,_⟩:=h.form;cases e;exact h1
theorem aW.aaP {W:World} {B c H:Nat} {a:Option Addr} {l:List (Int×Int)} (h:aW W B (.slice a l.length c) l) (hH:H<B) {x y:Value}:ah ((W.setCell ⟨H,0,none⟩ x).setCell ⟨H,1,none⟩ y) a l:=by
 have h2:aW ((W.setCell ⟨H,0,none⟩ x).setCell ⟨H,1,none⟩ y) B (.slice a l.length c) l:=cO h fun b hb hB _=>eE (by omega) x y
 exact h2.Z3
theorem Sj {lo:Option Addr} {lc:Nat} {l:List Int} {xs:List (Int×Int)} (hb:w.heap[k]? =some (.cells #[.int .i64 n,.slice ao es.length ca,q2,q3,q4,q5,.slice lo l.length lc] 68 (0,0))) (he:ah w ao es) (hl:es.length<=4194304) (hx:aV w lo l) (hxl:l.length<=4611686018427387904)
 (hs:Ed.sub n es l=(n,xs,0)) (hxs:xs.length<=4611686018427387904) (hk0:(Ku.kr n xs).2.2.2.2=0):
 Calls prog 55 #[.pointer (some ⟨k,0,none⟩)] w fun e w'=>e= .returned (.bool (Ku.kr n xs).2.2.2.1)/\Below w.heap.size w w':=by
 have hk:=lt_of_block hb;have HV:Hid (∀W,Below w.heap.size w W->Calls prog 97 #[.agg #[.int .i64 n,.slice ao es.length ca],.slice lo l.length lc] W fun e w'=>Below W.heap.size W w'/\∃yo yc,e= .returned (.tuple #[.agg #[.int .i64 n,.slice yo xs.length yc],.int .i64 0])/\aW w' W.heap.size (.slice yo xs.length yc) xs):=fun W hW=>
  (S2 n lo l.length lc l ao ca es W (he.later hW) (by omega) rfl (hx.later hW) hxl).mono fun e w' ⟨v,h1,h2,h3⟩=>by
    rw[hs] at h1 h2;obtain⟨yo,yc,rfl,-,-,-,-⟩:=h2.form;exact⟨h3,yo,yc,h1,h2⟩
 have HS:Hid (∀W,Below w.heap.size w W->(W.cell? ⟨k,0,none⟩=some (.int .i64 n)/\W.cell? ⟨k,1,none⟩=some (.slice ao es.length ca)/\W.cell? ⟨k,6,none⟩=some (.slice lo l.length lc)/\Below w.heap.size w W)):=fun W hW=>by
  obtain⟨c0,c1,-,-,-,-,c6,-⟩:=dK ((hW.block _ hk).trans hb);exact⟨c0,c1,c6,hW⟩
 obtain⟨c0,c1,-,-,-,-,c6,-⟩:=dK hb;have hbr:Below w.heap.size w w.drew:=(aaG _ _).drew;have Nq:=ζ hk0;obtain⟨R,hR⟩:∃R,Ku.kr n xs=R:=⟨_,rfl⟩;have Tv:=ζ hR;rw[hR] at Nq ⊢;clear hb he hx hs hk0 hR;go_enter func55,ntmps55
 go_upto_region 1 with fail
 go_cut [3,4] from 7 to 18 (fun p q wr=>∃(H:Nat) (va:Option Addr) (vc:Nat),p= .pointer (some ⟨H,0,none⟩)/\q= .int .i64 0/\wr.heap[H]? =some (.cells #[.int .i64 n,.slice va xs.length vc] 24 (0,0))/\ah wr va xs/\Below w.heap.size w wr)
 case first=>
  have hSz:=HS.out _ (aaG _ _);go_wp2_with fail
  go_region_held3 (fun W=>W.cell? ⟨k,0,none⟩=some (.int .i64 n)/\W.cell? ⟨k,1,none⟩=some (.slice ao es.length ca)/\W.cell? ⟨k,6,none⟩=some (.slice lo l.length lc))
   (first|exact⟨hSz.1,hSz.2.1,hSz.2.2.1⟩|exact(fun h=>⟨h.1,h.2.1,h.2.2.1⟩) (HS.out _ (by repeat (first|exact aaG _ _|exact hb0|refine adD ?_|refine Below.setCell ?_ (by first|(simp;done)|(simp;omega)|omega) _|refine adv ?_ (by first|exact aaF _|(simp;done)|(simp;omega)|omega) _))))
   ((go_at_call 97;refine(HV.out _ (by repeat (first|exact aaG _ _|refine adD ?_|refine adv ?_ (by first|exact aaF _|(simp;done)|(simp;omega)) _))).mono ?_;rintro e w6 ⟨dO,yo,yc,rfl,hoL⟩;have hb0:Below w.heap.size w w6:=acd (by repeat (first|exact aaG _ _|refine adD ?_|refine adv ?_ (by first|exact aaF _|(simp;done)|(simp;omega)) _)) (dO.mono (by simp));have vF:w.heap.size<=w6.heap.size:=hb0.size;(try have bx0:w6.heap[w.heap.size]? =some (.cells #[.int .i64 0,.slice none 0 0] 24 (0,0)):=(dO.block _ (by simp)).trans (heap_alloc_new w _));(try have q0:=(af bx0).1);(try have q1:=(af bx0).2.1);(try have q2:=(af bx0).2.2 0);(try have q3:=(af bx0).2.2 1)))
  all_goals
   go_wp2
   go_meet
   first
    |exact⟨_,_,_,rfl,rfl,heap_alloc_new w6 _,(aW.Z3 hoL).later ((aaG _ _).alloc (aaF _) _),hb0.alloc vF _⟩
    |exact⟨_,_,_,rfl,rfl,jA bx0 _ _,aW.aaP hoL (by simp),(hb0.setCell (p:=⟨w.heap.size,0,none⟩) (aaF _) _).setCell (p:=⟨w.heap.size,1,none⟩) (aaF _) _⟩
 case rest=>
 obtain⟨H,va,vc,rfl,rfl,hgp,hat,hb⟩:=hcut;have hP:=CW n va vc xs _ hat hxs;rw[Tv.out] at hP;have HP:=ζ hP;have aA:=ζ hb;obtain⟨g0,g1,-⟩:=af hgp;have SQ:=lt_of_block hgp;clear hP hat hb hgp c0 c1 c6 HV HS hbr;go_wp2_with (go_at_call 98;refine HP.out.mono ?_;refine aaI ?_);refine ζ ?_;rintro e w2 ⟨a1,d1,a2,d2,rfl,-,-,hb3⟩;rw[Nq.out];have aK:=ζ (aA.out.trans (hb3.mono aA.out.size));have hs3:=aK.out.size;clear g0 g1 hb3;obtain⟨t,ht⟩:∃t,R.2.2.2.1=t:=⟨_,rfl⟩;have Wm:=ζ ht;rw[ht];clear ht;cases t with
 |true=>
  go_wp2;go_ret;exact⟨by rw[Wm.out];rfl,aK.out.alloc hs3 _⟩
 |false=>
  go_wp2;go_ret;exact⟨by rw[Wm.out];rfl,aK.out.alloc hs3 _⟩
end
end
end Go.Proofs.YtdbjpbjocmcpkaaGreatDoor
