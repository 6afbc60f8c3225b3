import Derived.Test.YtdbjpbjocmcpkaaGreatDoorMk33
import Derived.Test.YtdbjpbjocmcpkaaGreatDoorMk15
import Derived.Test.YtdbjpbjocmcpkaaGreatDoorMk27
set_option maxHeartbeats 8000000
set_option maxRecDepth 100000
namespace Go.Proofs.YtdbjpbjocmcpkaaGreatDoor
section
open Go.Proofs.Tryz
open Go.RowKit Go.Sort Go.Maps
namespace Ku
theorem wj {w:World} {k j:Nat} {t:TypeId} {a0 a1 a2 b0 b1 b2:Value} (hne:j≠k) (hk:w.heap[k]? =some (.cells #[a0,a1,a2] t (0,0))) (hj:w.heap[j]? =some (.cells #[b0,b1,b2] t (0,0))) (x y z:Value):
 (w.cell? ⟨k,0,none⟩=some a0/\w.cell? ⟨k,1,none⟩=some a1/\w.cell? ⟨k,2,none⟩=some a2/\w.frozen? ⟨k,0,none⟩=false/\w.frozen? ⟨k,1,none⟩=false/\w.frozen? ⟨k,2,none⟩=false)/\
 (∀X,X=((w.setCell ⟨k,0,none⟩ x).setCell ⟨k,1,none⟩ y).setCell ⟨k,2,none⟩ z->(X.cell? ⟨k,0,none⟩=some x/\X.cell? ⟨k,1,none⟩=some y/\X.cell? ⟨k,2,none⟩=some z)/\
   (X.cell? ⟨j,0,none⟩=some b0/\X.cell? ⟨j,1,none⟩=some b1/\X.cell? ⟨j,2,none⟩=some b2/\X.frozen? ⟨j,0,none⟩=false/\X.frozen? ⟨j,1,none⟩=false/\X.frozen? ⟨j,2,none⟩=false)):=by
 obtain⟨c0,c1,c2,cf⟩:=bw hk;refine⟨⟨c0,c1,c2,cf 0,cf 1,cf 2⟩,?_⟩;rintro X rfl;obtain⟨d0,d1,d2,df⟩:=bw ((kK (u:=w) (k8:=k) x y z j hne).trans hj);exact⟨aA c0 c1 c2 x y z,d0,d1,d2,df 0,df 1,df 2⟩
end Ku
theorem uX (n:Int) (ao:Option Addr) (cap:Nat) (es:List (Int×Int)) (w:World) (he:ah w ao es) (hl:es.length<=4611686018427387904):
 Calls prog 98 #[.agg #[.int .i64 n,.slice ao es.length cap]] w (Ku.NG n es w):=by
 obtain⟨W1,hW1⟩:∃W1,W1=w.alloc (.cells #[.int .i64 n,.slice ao es.length cap] 24):=⟨_,rfl⟩;obtain⟨W,hW⟩:∃W,W=W1.alloc (.cells #[.int .i64 0,.slice none 0 0,.slice none 0 0] 82):=⟨_,rfl⟩;have hsz:W1.heap.size=w.heap.size+1:=by rw[hW1];simp
 have g1:W1.heap[w.heap.size]? =some (.cells #[.int .i64 n,.slice ao es.length cap] 24 (0,0)):=by rw[hW1];exact heap_alloc_new w _
 have hB1:Below w.heap.size w W1:=by rw[hW1];exact(aaE _ _).alloc (aaD _) _
 have hB2:Below W1.heap.size W1 W:=by rw[hW];exact(aaE _ _).alloc (aaD _) _
 have hBW:Below w.heap.size w W:=hB1.trans (hB2.mono hB1.size);have g2:W.heap[w.heap.size+1]? =some (.cells #[.int .i64 0,.slice none 0 0,.slice none 0 0] 82 (0,0)):=by rw[hW,<-hsz];exact heap_alloc_new W1 _
 have VU:W.heap[w.heap.size]? =some (.cells #[.int .i64 n,.slice ao es.length cap] 24 (0,0)):=by rw[hB2.block _ (by omega)];exact g1
 have Po:w.heap.size+1<W.heap.size:=lt_of_block g2;have jB:=ζ (KZ n ao cap es W (he.later hBW) hl);unfold aD at jB;have dF:=ζ g2;have eM:=ζ hBW;have HW:Hid (W=(w.alloc (.cells #[.int .i64 n,.slice ao es.length cap] 24)).alloc (.cells #[.int .i64 0,.slice none 0 0,.slice none 0 0] 82)):=by rw[hW,hW1];exact ζ rfl
 obtain⟨q0,q1,-⟩:=af VU;rw[HW.out] at q0 q1;clear he hB1 hB2 hBW g1 g2 VU hW hW1 hsz;go_enter func98,ntmps98;go_wp2_with (go_at_call 121;rw[<-HW.out];refine jB.out.mono ?_;refine aaH ?_);refine ζ ?_;rintro e w1 ⟨fq,hb1⟩;have aN:=ζ (eM.out.trans (hb1.mono eM.out.size));have qd:w1.heap[w.heap.size+1]? =some (.cells #[.int .i64 0,.slice none 0 0,.slice none 0 0] 82 (0,0)):=(hb1.block _ (by omega)).trans dF.out;have gu:=ζ qd;have hs1:=hb1.size;clear q0 q1;rcases fq with ⟨m,p,rfl,hval,rfl,EB⟩|⟨hv,rfl⟩
 .have Lq:Hid (∀U:World,Below w1.heap.size w1 U->bQ U (.pointer (some ⟨p,0,none⟩)) m es):=fun U hU=>bQ.later (.inr ⟨_,p,rfl,hval,EB⟩) hU
  have HV:=ζ hval;have TG:=ζ (uU p m es w1 (Lq.out w1 (aaE _ _)) hval);have hm:m<=1048576:=by have:=hval.hi;omega
  clear EB hb1 hval qd;go_wp2_with (go_at_call 144;refine TG.out.mono ?_;refine aaH ?_);refine ζ ?_;rintro e w2 ⟨v,rfl,ho,hb2⟩;obtain⟨la,lc,je,rz,hlb⟩:=ho.form;obtain⟨q,hq⟩:∃q,(Ku.ZL (Ku.bz es m)).length=q:=⟨_,rfl⟩;rw[hq] at je;subst je;have hroom:q<=lc/\lc<=9223372036854775807:=by
   rcases ho.2 with ⟨e,h0⟩|⟨g,cap,cur,e,_,_,h1,h2,_⟩
   .cases e
    exact⟨aaD _,by omega⟩
   .cases e
    rw[<-hq];exact⟨h1,by unfold maxLen at h2;omega⟩
  have RQ:q<=1048576:=by rw[<-hq,Ku.fB];have:=Ku.uO es m;omega
  have CJ:Hid ((Ku.bz es m).length=q):=by rw[<-Ku.fB];exact ζ hq
  have hs2:=hb2.size;obtain⟨V,hV⟩:∃V,V=w2.alloc (.cells #[.int .i64 0,.slice none 0 0,.slice none 0 0] 82):=⟨_,rfl⟩;have SC:Below w2.heap.size w2 V:=by rw[hV];exact(aaE _ _).alloc (aaD _) _
  have gV:V.heap[w2.heap.size]? =some (.cells #[.int .i64 0,.slice none 0 0,.slice none 0 0] 82 (0,0)):=by rw[hV];exact heap_alloc_new w2 _
  have hVs:w2.heap.size<V.heap.size:=lt_of_block gV;have xZ:Below w1.heap.size w1 V:=hb2.trans (SC.mono hb2.size);have SE:V.heap[w.heap.size+1]? =some (.cells #[.int .i64 0,.slice none 0 0,.slice none 0 0] 82 (0,0)):=(xZ.block _ (by omega)).trans gu.out;have Lj:=ζ hV;have Oa:=ζ gV;have Q2:=ζ SE;have aaB:=ζ xZ;have eD:=ζ (aN.out.trans (xZ.mono aN.out.size));have FE:Hid (∀U:World,(∀b,b<w2.heap.size->w1.heap.size<=b->U.heap[b]? =w2.heap[b]?)->av U w.heap.size (.slice la q lc) (Ku.ZL (Ku.bz es m))):=fun U hU=>(ho.lower (by omega)).same fun g hg hl=>hU g hl (aaJ ho g hg).1
  have yX:=ζ (rz.later SC);have Ix:Hid (∀b,(Value.slice la q lc).ownBlock=some b->w1.heap.size<=b/\b<w2.heap.size):=fun b hb=>aaJ ho b hb
  have W6:Hid (∀(d:Nat) (r:Bool),(r=true↔∀v∈Ku.bz es m,Ku.dg es v=d)->Calls prog 145 #[.pointer (some ⟨p,0,none⟩),.slice la q lc,.int .i64 (d:Int)] V fun e w'=>e= .returned (.bool r)/\Below V.heap.size V w'):=fun d r hr=>FY p m es la q lc d (Ku.bz es m) V (Lq.out V xZ) CJ.out yX.out (fun v hv=>(Ku.mS.1 hv).1) (by omega) r hr
  have Q5:Hid (∀U:World,Below V.heap.size V U->Calls prog 147 #[.pointer (some ⟨p,0,none⟩)] U (Ku.JH es HV.out U)):=fun U hU=>Bl p m es U (Lq.out U (xZ.trans (hU.mono xZ.size))) HV.out
  obtain⟨z0,z1,z2,zf⟩:=bw SE;obtain⟨y0,y1,y2,yf⟩:=bw gV;have hz0:=zf 0;have hz1:=zf 1;have hz2:=zf 2;have hy0:=yf 0;have hy1:=yf 1;have hy2:=yf 2;have hkn:w.heap.size+1≠w2.heap.size:=by omega
  clear rz hlb ho hb2 hV SC gV SE xZ hq zf yf;obtain⟨R,hR⟩:∃R,Ku.rows es HV.out es.length=R:=⟨_,rfl⟩;have Ll:=ζ hR;have Io:Hid (Ku.Small R):=by rw[<-hR];exact ζ (Ku.Dh HV.out)
  have FM:Hid (∀U:World,Below V.heap.size V U->U.heap[w2.heap.size]? =some (.cells #[.int .i64 0,.slice none 0 0,.slice none 0 0] 82 (0,0))/\U.heap[w.heap.size+1]? =some (.cells #[.int .i64 0,.slice none 0 0,.slice none 0 0] 82 (0,0))/\aZ U la (Ku.ZL (Ku.bz es m))):=fun U hU=>⟨(hU.block _ (lt_of_block Oa.out)).trans Oa.out,(hU.block _ (lt_of_block Q2.out)).trans Q2.out,yX.out.later hU⟩
  have Kz:=eD.out.size;have QM:Hid ((Ku.ZL (Ku.bz es m)).Pairwise (· <·)):=ζ (Ku.SS (Ku.Cx es m));have NS:Hid (∀x∈Ku.ZL (Ku.bz es m),0<=x/\x<1048576):=by
   refine ζ fun x hx=> ?_
   unfold Ku.ZL at hx;obtain⟨v,hv',rfl⟩:=abu.1 hx;have:=(Ku.mS.1 hv').1;omega
  have PJ:Hid ((Ku.ZL (Ku.bz es m)).length=q):=by rw[Ku.fB];exact CJ
  clear hR;clear z0 z1 z2 y0 y1 y2 hz0 hz1 hz2 hy0 hy1 hy2;have yV:Hid (¬((Ku.bz es m).length=5/\∀v∈Ku.bz es m,Ku.dg es v=4)->¬((Ku.bz es m).length=6/\∀v∈Ku.bz es m,Ku.dg es v=3)->Ku.gJ (Ku.rows es HV.out es.length) es m=none):=fun h1 h2=>Ku.Dp h1 fun h=>h2 ⟨h.1,h.2.1⟩
  by_cases h5:q=5
  .have t5:((q:Int)==5)=true:=by rw[h5];rfl
   have t6:((q:Int)==6)=false:=by rw[h5];rfl
   obtain⟨r,hr⟩:=Ku.wC (∀v∈Ku.bz es m,Ku.dg es v=4);have CH:Hid (Calls prog 145 #[.pointer (some ⟨p,0,none⟩),.slice la q lc,.int .i64 4] V fun e w'=>e= .returned (.bool r)/\Below V.heap.size V w'):=W6.out 4 r hr;have HR:=ζ hr;have H5:=ζ h5;clear hr h5;cases r with
   |true=>
    have dQ:=ζ (HR.out.1 rfl);go_wp2_with (go_at_call 145;rw[<-Lj.out];refine CH.out.mono ?_;rintro e w3 ⟨rfl,hb3⟩;refine aaH ?_);refine ζ ?_;obtain⟨TC⟩:Nonempty (Hid (Calls prog 147 #[.pointer (some ⟨p,0,none⟩)] w3 (Ku.JH es HV.out w3))):=⟨Q5.out w3 hb3⟩;have aK:=ζ hb3;have hs3:=hb3.size;clear hb3;go_wp2_with (go_at_call 147;refine TC.out.mono ?_;refine aaH ?_);refine ζ ?_;rintro e w4 ⟨cv,cs,rfl,lM,hb4⟩;rw[Ll.out] at lM;obtain⟨ca,cc,rfl⟩:=bJ lM;obtain⟨J,hJ⟩:∃J,R.length=J:=⟨_,rfl⟩;rw[hJ] at lM ⊢;have HJ:=ζ hJ;have vw:=ζ lM;have eZ:=ζ (aK.out.trans (hb4.mono aK.out.size));have Mw:=hb4.size;have S1:=ζ (vT ca J cc R w4 hJ (by rw[<-hJ] at lM ⊢;exact Ku.pQ lM) Io.out);clear lM hb4 hJ;go_wp2_with (go_at_call 146;refine S1.out.mono ?_;refine aaH ?_);refine ζ ?_;rintro e w5 ⟨mb,rfl,hmb,jf,hb5⟩;have gY:=ζ (eZ.out.trans (hb5.mono eZ.out.size));have hs5:=hb5.size;have rS:Hid (∀b,bY cs b->w3.heap.size<=b/\b<w4.heap.size):=fun b hb=>vw.out.within (.inr hb)
    obtain⟨g8,g2,rz⟩:=FM.out w5 gY.out;have Tv:Hid (Calls prog 148 #[.agg #[.slice ca J cc,.map (some mb)],.slice la q lc] w5 (Ku.jW w3.heap.size cs R 1 (.slice la q lc) (Ku.bX (Ku.ZL (Ku.bz es m)) q) w5)):=by
     have h5:=H5.out;have MD:=Ku.LQ (L:=Ku.ZL (Ku.bz es m)) (PJ.out.trans h5) QM.out NS.out;refine ζ (F5 w3.heap.size ca J cc mb R.length cs R la q lc (Ku.ZL (Ku.bz es m)) w5 HJ.out (by omega) (vw.out.later hb5) Io.out jf (fun h=> ?_) PJ.out (by omega) (by omega) hroom.1 hroom.2 rz (by rw[h5];exact MD.1) (by rw[h5];exact MD.2));have:=rS.out mb h;omega
    have Tu:=ζ g8;have dF:=ζ g2;clear jf hb5 rz g8 g2;go_wp2_with (go_at_call 148;refine Tv.out.mono ?_;refine aaH ?_);refine ζ ?_;rintro e w6 hk;obtain⟨v1,s1,s2,s3,u1,u2,u3,rr,rfl⟩:=hk.shape;have HK:=ζ hk;have nN:Hid (∀b,b<w5.heap.size->¬bY cs b->w6.heap[b]? =w5.heap[b]?):=fun b h1 h2=>hk.2.block b h1 h2
    have Yc:=hk.2.size;have ke:=ζ hk.2;clear hk;have MX:w6.heap[w2.heap.size]? =some (.cells #[.int .i64 0,.slice none 0 0,.slice none 0 0] 82 (0,0)):=(nN.out _ (by omega) (fun h=>by have:=rS.out _ h;omega)).trans Tu.out;have hg2:w6.heap[w.heap.size+1]? =some (.cells #[.int .i64 0,.slice none 0 0,.slice none 0 0] 82 (0,0)):=(nN.out _ (by omega) (fun h=>by have:=rS.out _ h;omega)).trans dF.out;obtain⟨⟨y0,y1,y2,hy0,hy1,hy2⟩,iG⟩:=Ku.wj hkn MX hg2 (.int .i64 v1) (.slice s1 s2 s3) (.slice u1 u2 u3);obtain⟨⟨x0,x1,x2⟩,z0,z1,z2,hz0,hz1,hz2⟩:=iG _ rfl;have CS:Hid (Below w.heap.size w ((((((w6.setCell ⟨w2.heap.size,0,none⟩ (.int .i64 v1)).setCell ⟨w2.heap.size,1,none⟩ (.slice s1 s2 s3)).setCell ⟨w2.heap.size,2,none⟩ (.slice u1 u2 u3)).setCell ⟨w.heap.size+1,0,none⟩ (.int .i64 v1)).setCell ⟨w.heap.size+1,1,none⟩ (.slice s1 s2 s3)).setCell ⟨w.heap.size+1,2,none⟩ (.slice u1 u2 u3))):=by
     have pZ:Below w.heap.size w w6:=⟨ke.out.os.trans (eD.out.trans (gY.out.mono eD.out.size)).os,ke.out.tape.trans (eD.out.trans (gY.out.mono eD.out.size)).tape,ke.out.output.trans (eD.out.trans (gY.out.mono eD.out.size)).output,by omega,fun b hb=>(nN.out b (by omega) (fun h=>by have:=rS.out b h;omega)).trans ((eD.out.trans (gY.out.mono eD.out.size)).block b hb)⟩;exact ζ (cL (cL pZ (by omega) _ _ _) (by omega) _ _ _)
    clear iG MX hg2;go_wp2;refine bodyPost_ret (dn rfl rfl _ _ (w.heap.size+1) _ _ _ _ _ rfl rfl rfl (aA z0 z1 z2 _ _ _).1 (aA z0 z1 z2 _ _ _).2.1 (aA z0 z1 z2 _ _ _).2.2) rfl ?_;have fP:Hid (av w6 w.heap.size (.slice la q lc) (Ku.ZL (Ku.bz es m))):=FE.out w6 fun b h1 h2=>by
     rw[nN.out b (by omega) (fun h=>by have:=rS.out b h;omega),gY.out.block b (by omega),Lj.out];exact heap_alloc_old w2 _ h1
    refine⟨.inr ⟨m,HV.out,rfl,?_⟩,CS.out⟩;rw[Ku.OP (CJ.out.trans H5.out) dQ.out,Ll.out];have hk:=HK.out;rw[show q=5 from H5.out] at hk;rw[show q=5 from H5.out] at fP Ix;refine Ku.DW (c1:=w2.heap.size) (c2:=w.heap.size+1) hk fP.out (by omega) (fun b h1 h2=> ?_) (fun b hb=> ?_) (fun b k v pv r hb he=> ?_) rfl
    .rw[Ku.kK _ _ _ b h2,Ku.kK _ _ _ b h1]
    .rcases hb with h|h|h
     .have:=Ix.out b h
      omega
     .have:=rS.out b h
      omega
     .omega
    .have h1:=Ix.out b hb
     refine⟨fun h=> ?_,fun h=>by have:=rS.out b h;omega⟩;rcases hk.1 with ⟨_,h2⟩|⟨_,wL,vs,h2,_,h3,_⟩
     .rw[h2] at he
      unfold Ku.jO at he;cases he;cases h
     .rw[h2] at he
      cases he;have:=h3 b h;omega
   |false=>
    go_wp2_with (go_at_call 145;rw[<-Lj.out];refine CH.out.mono ?_;rintro e w3 ⟨rfl,hb3⟩;refine aaH ?_);refine ζ ?_;have HX:Hid (Ku.gJ (Ku.rows es HV.out es.length) es m=none):=yV.out (fun h=>by have:=HR.out.2 h.2;cases this) (fun h=>by have h1:=CJ.out;have h2:=H5.out;omega);obtain⟨g8,g2,-⟩:=FM.out w3 hb3;have aK:=ζ (eD.out.trans (hb3.mono eD.out.size));obtain⟨y0,y1,y2,yf⟩:=bw g8;obtain⟨z0,z1,z2,zf⟩:=bw g2;have hz0:=zf 0;have hz1:=zf 1;have hz2:=zf 2;clear zf yf;go_wp2;refine bodyPost_ret (dn rfl rfl _ _ (w.heap.size+1) _ _ _ _ _ rfl rfl rfl (aA z0 z1 z2 _ _ _).1 (aA z0 z1 z2 _ _ _).2.1 (aA z0 z1 z2 _ _ _).2.2) rfl ?_;exact⟨.inr ⟨m,HV.out,rfl,by rw[HX.out];rfl⟩,cL aK.out (by omega) _ _ _⟩
  .have t5:((q:Int)==5)=false:=by simp;omega
   by_cases h6:q=6
   .have t6:((q:Int)==6)=true:=by rw[h6];rfl
    obtain⟨r,hr⟩:=Ku.wC (∀v∈Ku.bz es m,Ku.dg es v=3);have CH:Hid (Calls prog 145 #[.pointer (some ⟨p,0,none⟩),.slice la q lc,.int .i64 3] V fun e w'=>e= .returned (.bool r)/\Below V.heap.size V w'):=W6.out 3 r hr;have HR:=ζ hr;have H6:=ζ h6;clear hr h6 h5;cases r with
    |true=>
     have dQ:=ζ (HR.out.1 rfl);go_wp2_with (go_at_call 145;rw[<-Lj.out];refine CH.out.mono ?_;rintro e w3 ⟨rfl,hb3⟩;refine aaH ?_);refine ζ ?_;obtain⟨TC⟩:Nonempty (Hid (Calls prog 147 #[.pointer (some ⟨p,0,none⟩)] w3 (Ku.JH es HV.out w3))):=⟨Q5.out w3 hb3⟩;have aK:=ζ hb3;have hs3:=hb3.size;clear hb3;go_wp2_with (go_at_call 147;refine TC.out.mono ?_;refine aaH ?_);refine ζ ?_;rintro e w4 ⟨cv,cs,rfl,lM,hb4⟩;rw[Ll.out] at lM;obtain⟨ca,cc,rfl⟩:=bJ lM;obtain⟨J,hJ⟩:∃J,R.length=J:=⟨_,rfl⟩;rw[hJ] at lM ⊢;have HJ:=ζ hJ;have vw:=ζ lM;have eZ:=ζ (aK.out.trans (hb4.mono aK.out.size));have Mw:=hb4.size;have S1:=ζ (vT ca J cc R w4 hJ (by rw[<-hJ] at lM ⊢;exact Ku.pQ lM) Io.out);clear lM hb4 hJ;go_wp2_with (go_at_call 146;refine S1.out.mono ?_;refine aaH ?_);refine ζ ?_;rintro e w5 ⟨mb,rfl,hmb,jf,hb5⟩;have gY:=ζ (eZ.out.trans (hb5.mono eZ.out.size));have hs5:=hb5.size;have rS:Hid (∀b,bY cs b->w3.heap.size<=b/\b<w4.heap.size):=fun b hb=>vw.out.within (.inr hb)
     obtain⟨g8,g2,rz⟩:=FM.out w5 gY.out;have Tv:Hid (Calls prog 149 #[.agg #[.slice ca J cc,.map (some mb)],.slice la q lc] w5 (Ku.NF w3.heap.size cs R (Ku.ZL (Ku.bz es m)) q w5)):=by
      have h6:=H6.out;have MD:=fun h3=>Ku.Nt (R:=R) (L:=Ku.ZL (Ku.bz es m)) (PJ.out.trans h6) QM.out NS.out h3
      refine ζ (JL w3.heap.size ca J cc mb R.length cs R la q lc (Ku.ZL (Ku.bz es m)) w5 HJ.out (by omega) (vw.out.later hb5) Io.out jf (fun h=> ?_) PJ.out h6 rz NS.out (by rw[h6];exact fun h3=>(MD h3).1) (by rw[h6];exact fun h3=>(MD h3).2));have:=rS.out mb h;omega
     have Tu:=ζ g8;have dF:=ζ g2;clear jf hb5 rz g8 g2;go_wp2_with (go_at_call 149;refine Tv.out.mono ?_;refine aaH ?_);refine ζ ?_;rintro e w6 hk;have HK:=ζ hk;have hsh:∃(v1:Int) (s1:Option Addr) (s2 s3:Nat) (u1:Option Addr) (u2 u3:Nat) (r:Bool),e= .returned (.tuple #[.agg #[.int .i64 v1,.slice s1 s2 s3,.slice u1 u2 u3],.bool r]):=by
      rcases hk with ⟨_,h,_⟩|⟨_,bv,ho,_,h⟩
      .exact⟨_,_,_,_,_,_,_,_,h⟩
      .obtain⟨xa,xc,rfl,-,-⟩:=ho.form
       exact h.shape
     obtain⟨v1,s1,s2,s3,u1,u2,u3,rr,rfl⟩:=hsh;have hwr:aj (fun b=>bY cs b) w5 w6:=by
      rcases hk with ⟨_,_,h⟩|⟨_,bv,_,_,h⟩
      .exact(aj.refl _ w5).later h
      .exact h.2
     have nN:Hid (∀b,b<w5.heap.size->¬bY cs b->w6.heap[b]? =w5.heap[b]?):=fun b h1 h2=>hwr.block b h1 h2
     have Yc:=hwr.size;have ke:=ζ hwr;clear hk hwr;have MX:w6.heap[w2.heap.size]? =some (.cells #[.int .i64 0,.slice none 0 0,.slice none 0 0] 82 (0,0)):=(nN.out _ (by omega) (fun h=>by have:=rS.out _ h;omega)).trans Tu.out;have hg2:w6.heap[w.heap.size+1]? =some (.cells #[.int .i64 0,.slice none 0 0,.slice none 0 0] 82 (0,0)):=(nN.out _ (by omega) (fun h=>by have:=rS.out _ h;omega)).trans dF.out;obtain⟨⟨y0,y1,y2,hy0,hy1,hy2⟩,iG⟩:=Ku.wj hkn MX hg2 (.int .i64 v1) (.slice s1 s2 s3) (.slice u1 u2 u3);obtain⟨⟨x0,x1,x2⟩,z0,z1,z2,hz0,hz1,hz2⟩:=iG _ rfl;have CS:Hid (Below w.heap.size w ((((((w6.setCell ⟨w2.heap.size,0,none⟩ (.int .i64 v1)).setCell ⟨w2.heap.size,1,none⟩ (.slice s1 s2 s3)).setCell ⟨w2.heap.size,2,none⟩ (.slice u1 u2 u3)).setCell ⟨w.heap.size+1,0,none⟩ (.int .i64 v1)).setCell ⟨w.heap.size+1,1,none⟩ (.slice s1 s2 s3)).setCell ⟨w.heap.size+1,2,none⟩ (.slice u1 u2 u3))):=by
      have pZ:Below w.heap.size w w6:=⟨ke.out.os.trans (eD.out.trans (gY.out.mono eD.out.size)).os,ke.out.tape.trans (eD.out.trans (gY.out.mono eD.out.size)).tape,ke.out.output.trans (eD.out.trans (gY.out.mono eD.out.size)).output,by omega,fun b hb=>(nN.out b (by omega) (fun h=>by have:=rS.out b h;omega)).trans ((eD.out.trans (gY.out.mono eD.out.size)).block b hb)⟩;exact ζ (cL (cL pZ (by omega) _ _ _) (by omega) _ _ _)
     clear iG MX hg2;go_wp2;refine bodyPost_ret (dn rfl rfl _ _ (w.heap.size+1) _ _ _ _ _ rfl rfl rfl (aA z0 z1 z2 _ _ _).1 (aA z0 z1 z2 _ _ _).2.1 (aA z0 z1 z2 _ _ _).2.2) rfl ?_;refine⟨.inr ⟨m,HV.out,rfl,?_⟩,CS.out⟩;have hk:=HK.out;unfold Ku.NF at hk;rw[show q=6 from H6.out] at hk;rw[Ll.out];rcases hk with ⟨h3,h2,-⟩|⟨h3,bv,ho,hap,hk⟩
     .rw[Ku.Dp (fun h=>by have h1:=CJ.out;have h2:=H6.out;omega) fun h=>h3 h.2.2]
      unfold Ku.jO at h2;cases h2;rfl
     .rw[Ku.OO (CJ.out.trans H6.out) dQ.out h3]
      have hbl:∀b,bv.ownBlock=some b->w5.heap.size<=b:=fun b hb=>(aaJ ho b hb).1
      refine Ku.DW (c1:=w2.heap.size) (c2:=w.heap.size+1) hk (ho.lower (by omega)) (by omega) (fun b h1 h2=> ?_) (fun b hb=> ?_) (fun b k v pv r hb he=> ?_) rfl
      .rw[Ku.kK _ _ _ b h2,Ku.kK _ _ _ b h1]
      .rcases hb with h|h|h
       .have:=hbl b h
        omega
       .have:=rS.out b h
        omega
       .omega
      .exact⟨(hap b k v pv r hb he).2,fun h=>by have h1:=rS.out b h;have h2:=hbl b hb;omega⟩
    |false=>
     go_wp2_with (go_at_call 145;rw[<-Lj.out];refine CH.out.mono ?_;rintro e w3 ⟨rfl,hb3⟩;refine aaH ?_);refine ζ ?_;have HX:Hid (Ku.gJ (Ku.rows es HV.out es.length) es m=none):=yV.out (fun h=>by have h1:=CJ.out;have h2:=H6.out;omega) (fun h=>by have:=HR.out.2 h.2;cases this);obtain⟨g8,g2,-⟩:=FM.out w3 hb3;have aK:=ζ (eD.out.trans (hb3.mono eD.out.size));obtain⟨y0,y1,y2,yf⟩:=bw g8;obtain⟨z0,z1,z2,zf⟩:=bw g2;have hz0:=zf 0;have hz1:=zf 1;have hz2:=zf 2;clear zf yf;go_wp2;refine bodyPost_ret (dn rfl rfl _ _ (w.heap.size+1) _ _ _ _ _ rfl rfl rfl (aA z0 z1 z2 _ _ _).1 (aA z0 z1 z2 _ _ _).2.1 (aA z0 z1 z2 _ _ _).2.2) rfl ?_;exact⟨.inr ⟨m,HV.out,rfl,by rw[HX.out];rfl⟩,cL aK.out (by omega) _ _ _⟩
   .have t6:((q:Int)==6)=false:=by simp;omega
    have HX:Hid (Ku.gJ (Ku.rows es HV.out es.length) es m=none):=yV.out (fun h=>by have h1:=CJ.out;omega) (fun h=>by have h1:=CJ.out;omega);clear h5 h6;obtain⟨g8,g2,-⟩:=FM.out V (aaE _ _);have aK:=eD;rw[Lj.out] at g8 g2 aK;obtain⟨y0,y1,y2,yf⟩:=bw g8;obtain⟨z0,z1,z2,zf⟩:=bw g2;have hz0:=zf 0;have hz1:=zf 1;have hz2:=zf 2;clear zf yf;go_wp2;refine bodyPost_ret (dn rfl rfl _ _ (w.heap.size+1) _ _ _ _ _ rfl rfl rfl (aA z0 z1 z2 _ _ _).1 (aA z0 z1 z2 _ _ _).2.1 (aA z0 z1 z2 _ _ _).2.2) rfl ?_;exact⟨.inr ⟨m,HV.out,rfl,by rw[HX.out];rfl⟩,cL aK.out (by omega) _ _ _⟩
 .have jA:=ζ hv
  obtain⟨z0,z1,z2,zf⟩:=bw qd;have hf0:=zf 0;have nj:=zf 1;have hf2:=zf 2;clear hv hb1 zf qd;go_wp2;refine bodyPost_ret (dn rfl rfl _ _ (w.heap.size+1) _ _ _ _ _ rfl rfl rfl (aA z0 z1 z2 _ _ _).1 (aA z0 z1 z2 _ _ _).2.1 (aA z0 z1 z2 _ _ _).2.2) rfl ?_;exact⟨.inl ⟨jA.out,rfl⟩,cL aN.out (by omega) _ _ _⟩
end
section
open Go.RowKit Go.Sort Go.Maps
namespace Ku
theorem Ao (w:World):nI w (.slice none 0 0) []:=⟨none,0,rfl,fun k l h=>by simp at h⟩
open Classical in
noncomputable def kr (n:Int) (es:List (Int×Int)):Int×List Int×List (List Int)×Bool×Int:=
 if h:Si.Val n es then (match gJ (rows es h es.length) es n.toNat with|none=>(0,[],[],false,0)|some (kd,br,ps)=>(kd,br,ps,true,0)) else (0,[],[],false,1)
def V6 (r:Int×List Int×List (List Int)×Bool×Int) (w:World) (e:Ending) (w':World):Prop:=
 ∃a1 c1 a2 c2,e= .returned (.tuple #[.agg #[.int .i64 r.1,.slice a1 r.2.1.length c1,.slice a2 r.2.2.1.length c2],.bool r.2.2.2.1,.int .i64 r.2.2.2.2])/\aZ w' a1 r.2.1/\nI w' (.slice a2 r.2.2.1.length c2) r.2.2.1/\Below w.heap.size w w'
theorem AO (w:World):aZ w none []:=fun j x h=>by simp at h
theorem Rt {n:Int} {es:List (Int×Int)} (h:Si.valid n es=false):kr n es=(0,[],[],false,1):=by
 have hn:¬Si.Val n es:=fun h'=>by rw[Si.aJ.2 h'] at h;cases h
 exact dif_neg hn
theorem O2 {m:Nat} {es:List (Int×Int)} (hv:Si.Val (m:Int) es):kr (m:Int) es=(match gJ (rows es hv es.length) es m with|none=>(0,[],[],false,0)|some (kd,br,ps)=>(kd,br,ps,true,0)):=by
 unfold kr;rw[dif_pos hv,abb]
theorem Rs {n:Int} {es:List (Int×Int)} {w w':World} {e:Ending} (h:NG n es w e w'):V6 (kr n es) w e w':=by
 obtain⟨hc,hb⟩:=h;rcases hc with ⟨hv,rfl⟩|⟨m,hv,rfl,ha⟩
 .rw[Rt hv]
  exact⟨none,0,none,0,rfl,AO _,Ao _,hb⟩
 .rw[O2 hv]
  cases hr:gJ (rows es hv es.length) es m with
  |none=>
   rw[hr] at ha;exact⟨none,0,none,0,ha,AO _,Ao _,hb⟩
  |some x=>
   obtain⟨kd,br,ps⟩:=x;rw[hr] at ha;obtain⟨bv,pv,vs,rfl,h1,h2,-⟩:=ha;obtain⟨ba,bc,rfl,h3,-⟩:=h1.form;obtain⟨pa,pc,rfl⟩:=bJ h2;exact⟨ba,bc,pa,pc,rfl,h3,pQ h2,hb⟩
end Ku
theorem wR (n:Int) (ao:Option Addr) (cap:Nat) (es:List (Int×Int)) (w:World) (he:ah w ao es) (hl:es.length<=4611686018427387904):
 Calls Tryz.prog 98 #[.agg #[.int .i64 n,.slice ao es.length cap]] w (Ku.V6 (Ku.kr n es) w):=(uX n ao cap es w he hl).mono fun _ _ h=>Ku.Rs h
end
section
open Go.Proofs.Tryz
open Go.RowKit Go.Sort
theorem bV {w:World} {k:Nat} {t:TypeId} {a b c d e f g:Value} (h:w.heap[k]? =some (.cells #[a,b,c,d,e,f,g] t (0,0))):
 w.cell? ⟨k,0,none⟩=some a/\w.cell? ⟨k,1,none⟩=some b/\w.cell? ⟨k,2,none⟩=some c/\w.cell? ⟨k,3,none⟩=some d/\w.cell? ⟨k,4,none⟩=some e/\w.cell? ⟨k,5,none⟩=some f/\w.cell? ⟨k,6,none⟩=some g/\(∀i,w.frozen? ⟨k,i,none⟩=false):=by
 simp[World.cell?,World.frozen?,h]
section
variable {n:Int} {ao:Option Addr} {ca k:Nat} {es:List (Int×Int)} {q1 q2 q3 q4 q5 q6:Value} {w:World}
theorem wV (hb:w.heap[k]? =some (.cells #[.int .i64 n,.slice ao es.length ca,q2,q3,q4,q5,q6] 68 (0,0))) (he:ah w ao es) (hl:es.length<=4611686018427387904):
 Calls prog 50 #[.pointer (some ⟨k,0,none⟩)] w fun e w'=>e= .returned (.bool (Si.valid n es))/\Below w.heap.size w w':=by
 obtain⟨c0,c1,-⟩:=bV hb;have HV:=ζ (lu n ao ca es w he hl);unfold aD at HV;have hk:=lt_of_block hb;clear hb he;go_enter func50,ntmps50;go_wp2_with (go_at_call 38;refine HV.out.mono ?_;rintro e w1 ⟨rfl,hb1⟩;have aN:=ζ hb1;clear hb1 c0 c1;refine aaH ?_);refine ζ ?_;go_wp2;go_ret;exact⟨rfl,aN.out⟩
theorem Kr {xo:Option Addr} {xc:Nat} {ls:List (List Int)} (hb:w.heap[k]? =some (.cells #[.int .i64 n,.slice ao es.length ca,q2,q3,q4,.slice xo ls.length xc,q6] 68 (0,0))) (he:ah w ao es) (hl:es.length<=4611686018427387904) (hx:bu w xo ls):
 Calls prog 53 #[.pointer (some ⟨k,0,none⟩)] w fun e w'=>e= .returned (.bool (decide ((Ro.check n es ls).2=0/\Fa.gz n.toNat es ls=0)))/\Below w.heap.size w w':=by
 have hk:=lt_of_block hb;have HV:Hid (∀W,Below w.heap.size w W->_):=fun W hW=>Hj n ao ca es xo xc ls W (he.later hW) hl (hx.later hW)
 generalize decide ((Ro.check n es ls).2=0/\Fa.gz n.toNat es ls=0)=t at HV ⊢;have HS:Hid (∀W,Below w.heap.size w W->(W.cell? ⟨k,0,none⟩=some (.int .i64 n)/\W.cell? ⟨k,1,none⟩=some (.slice ao es.length ca)/\W.cell? ⟨k,5,none⟩=some (.slice xo ls.length xc)/\Below w.heap.size w W)):=fun W hW=>by
  obtain⟨c0,c1,-,-,-,c5,-⟩:=bV ((hW.block _ hk).trans hb);exact⟨c0,c1,c5,hW⟩
 unfold aD at HV;obtain⟨c0,c1,-,-,-,c5,-⟩:=bV hb;have hbr:Below w.heap.size w w.drew:=(aaE _ _).drew;clear hb he hx;go_enter func53,ntmps53;go_wp2_with fail
 go_region_held3 (fun W=>W.cell? ⟨k,0,none⟩=some (.int .i64 n)/\W.cell? ⟨k,1,none⟩=some (.slice ao es.length ca)/\W.cell? ⟨k,5,none⟩=some (.slice xo ls.length xc)/\Below w.heap.size w W)
  (exact HS.out _ (by first|assumption|exact hbr))
  ((go_at_call 95;refine(HV.out _ (by first|assumption|exact hbr)).mono ?_;rintro e w6 ⟨rfl,fZ⟩;have hbz:Below w.heap.size w w6:=abL (by first|assumption|exact hbr) (fZ.mono (acm (by first|assumption|exact hbr)))))
 have CQ:=ζ hbz;clear hbz fZ HV HS hbr c0 c1 c5;go_wp2;go_ret;exact⟨rfl,CQ.out⟩
theorem rL {w':World} {a b c d e f g:Value} {t:TypeId} (h:w.heap[k]? =some (.cells #[a,b,c,d,e,f,g] t (0,0))) (hw:Below w.heap.size w w') (x:Value):
 (w'.setCell ⟨k,5,none⟩ x).heap[k]? =some (.cells #[a,b,c,d,e,x,g] t (0,0))/\(w'.setCell ⟨k,6,none⟩ x).heap[k]? =some (.cells #[a,b,c,d,e,f,x] t (0,0))/\∀i,aj (fun b=>b=k) w (w'.setCell ⟨k,i,none⟩ x):=by
 have h':=(hw.block _ (lt_of_block h)).trans h;refine⟨?_,?_,fun i=>aj.setCell (S:=fun b=>b=k) ((aj.refl _ _).later hw) rfl x⟩
 .rw[heap_setCell_same _ _ _ _ _ _ h']
  rfl
 .rw[heap_setCell_same _ _ _ _ _ _ h']
  rfl
def CB (n:Int) (ao:Option Addr) (ca k:Nat) (es:List (Int×Int)) (q2 q3 q4 q6:Value) (ls:List (List Int)) (w:World) (e:Ending) (w':World):Prop:=
 ∃r,e= .returned (.bool (decide ((Ro.check n es (Ro.hls es 0 ls)).2=0)))/\w'.heap[k]? =some (.cells #[.int .i64 n,.slice ao es.length ca,q2,q3,q4,r,q6] 68 (0,0))/\aj (fun b=>b=k) w w'/\
  ((Ro.check n es (Ro.hls es 0 ls)).2=0->∃rs,ay w' w.heap.size r rs (Ro.hls es 0 ls))
theorem CU.one {ls:List (List Int)} {w':World} {e:Ending} {c:Int} (hc:(Ro.check n es (Ro.hls es 0 ls)).2=c) (h:CU n es ls w e w'):Below w.heap.size w w'/\∃ra rl rc z,e= .returned (.tuple #[.slice ra rl rc,.int .i64 z,.int .i64 c])/\(c=0->∃rs,ay w' w.heap.size (.slice ra rl rc) rs (Ro.hls es 0 ls)):=by
 unfold CU Ow at h;rw[hc] at h;obtain⟨hb,⟨h0,rfl⟩|⟨h0,r,rs,rfl,hr⟩⟩:=h
 .exact⟨hb,_,_,_,_,rfl,fun h=>absurd h h0⟩
 .obtain⟨ra,rc,rfl⟩:=bJ hr
  exact⟨hb,ra,_,rc,0,by rw[h0],fun _=>⟨rs,hr⟩⟩
theorem OJ {xo:Option Addr} {xc:Nat} {ls:List (List Int)} (hb:w.heap[k]? =some (.cells #[.int .i64 n,.slice ao es.length ca,q2,.slice xo ls.length xc,q4,q5,q6] 68 (0,0))) (he:ah w ao es) (hl:es.length<=4611686018427387904) (hx:bu w xo ls):
 Calls prog 52 #[.pointer (some ⟨k,0,none⟩)] w (CB n ao ca k es q2 (.slice xo ls.length xc) q4 q6 ls w):=by
 have hk:=lt_of_block hb;have HB:=ζ hb;obtain⟨c,hc⟩:∃c,(Ro.check n es (Ro.hls es 0 ls)).2=c:=⟨_,rfl⟩
 have HV:Hid (∀W,Below w.heap.size w W->Calls prog 94 #[.agg #[.int .i64 n,.slice ao es.length ca],.slice xo ls.length xc] W fun e w'=>Below W.heap.size W w'/\∃ra rl rc z,e= .returned (.tuple #[.slice ra rl rc,.int .i64 z,.int .i64 c])/\(c=0->∃rs,ay w' W.heap.size (.slice ra rl rc) rs (Ro.hls es 0 ls))):=
  fun W hW=>(EJ n ao ca es xo xc ls W (he.later hW) hl (hx.later hW)).mono fun e w' h=>h.one hc
 have HS:Hid (∀W,Below w.heap.size w W->(W.cell? ⟨k,0,none⟩=some (.int .i64 n)/\W.cell? ⟨k,1,none⟩=some (.slice ao es.length ca)/\W.cell? ⟨k,3,none⟩=some (.slice xo ls.length xc)/\Below w.heap.size w W)):=fun W hW=>by
  obtain⟨c0,c1,-,c3,-⟩:=bV ((hW.block _ hk).trans hb);exact⟨c0,c1,c3,hW⟩
 obtain⟨c0,c1,-,c3,-⟩:=bV hb;have hbr:Below w.heap.size w w.drew:=(aaE _ _).drew;unfold CB;rw[hc];clear hb he hx hc;go_enter func52,ntmps52;go_wp2_with fail
 go_region_held3 (fun W=>W.cell? ⟨k,0,none⟩=some (.int .i64 n)/\W.cell? ⟨k,1,none⟩=some (.slice ao es.length ca)/\W.cell? ⟨k,3,none⟩=some (.slice xo ls.length xc)/\Below w.heap.size w W)
  (exact HS.out _ (by first|assumption|exact hbr))
  ((go_at_call 94;refine(HV.out _ (by first|assumption|exact hbr)).mono ?_;rintro e w6 ⟨fZ,ra,rl,rc,z,rfl,hr⟩;have hr2:c=0->∃rs,ay w6 w.heap.size (.slice ra rl rc) rs (Ro.hls es 0 ls):=(fun h=>(hr h).elim fun rs h2=>⟨rs,h2.lower (acm (by first|assumption|exact hbr))⟩);have hbz:Below w.heap.size w w6:=abL (by first|assumption|exact hbr) (fZ.mono (acm (by first|assumption|exact hbr)))))
 have HC:=ζ (rL HB.out hbz (.slice ra rl rc));obtain⟨-,-,-,-,-,c5,-,cf⟩:=bV ((hbz.block _ hk).trans HB.out);have cf5:=cf 5;clear cf;have hk1:k<w6.heap.size:=aa0 hk hbz.size;have HR:Hid (c=0->∃rs,ay (w6.setCell ⟨k,5,none⟩ (.slice ra rl rc)) w.heap.size (.slice ra rl rc) rs (Ro.hls es 0 ls)):=fun h0=>by
  obtain⟨rs,hr⟩:=hr2 h0;refine⟨rs,hr.kept fun b hb' _=>heap_setCell_other _ _ _ _ (fun e=> ?_)⟩;dsimp only at e;rcases hb' with hb'|⟨u,y,hy,hb'⟩
  .have:=(aaJ hr.outer b hb').1
   omega
  .obtain⟨l,hl'⟩:=hr.at hy
   have:=(aaJ (hr.row u y l hy hl') b hb').1;omega
 clear hbz fZ HV HS hbr c0 c1 c3 hr hr2;by_cases hc0:c=0
 .have gQ:(c==0)=true:=by simpa using hc0
  go_wp2;go_ret;refine⟨.slice ra rl rc,?_,HC.out.1,HC.out.2.2 5,HR.out⟩;rw[decide_eq_true hc0];rfl
 .have gQ:(c==0)=false:=by simpa using hc0
  go_wp2;go_ret;refine⟨.slice ra rl rc,?_,HC.out.1,HC.out.2.2 5,HR.out⟩;rw[decide_eq_false hc0];rfl
def yN (n:Int) (ao:Option Addr) (ca k:Nat) (es:List (Int×Int)) (q2 q3 q4 q5:Value) (xs:List (Int×Int)) (w:World) (e:Ending) (w':World):Prop:=
 ∃v,e= .returned (.bool (decide ((Ck.aP xs es 0).length=xs.length)))/\w'.heap[k]? =some (.cells #[.int .i64 n,.slice ao es.length ca,q2,q3,q4,q5,v] 68 (0,0))/\aj (fun b=>b=k) w w'/\av w' w.heap.size v (Ck.keep xs es)
theorem L6 {xo:Option Addr} {xc:Nat} {xs:List (Int×Int)} (hb:w.heap[k]? =some (.cells #[.int .i64 n,.slice ao es.length ca,q2,q3,.slice xo xs.length xc,q5,q6] 68 (0,0))) (he:ah w ao es) (hl:es.length<=4194304) (hx:ah w xo xs) (hxl:xs.length<=4611686018427387904):
 Calls prog 54 #[.pointer (some ⟨k,0,none⟩)] w (yN n ao ca k es q2 q3 (.slice xo xs.length xc) q5 xs w):=by
 have hk:=lt_of_block hb;have HB:=ζ hb;have HV:Hid (∀W,Below w.heap.size w W->_):=fun W hW=>wW xo xc xs ao ca es W (hx.later hW) hxl (he.later hW) hl
 have HS:Hid (∀W,Below w.heap.size w W->(W.cell? ⟨k,1,none⟩=some (.slice ao es.length ca)/\W.cell? ⟨k,4,none⟩=some (.slice xo xs.length xc)/\Below w.heap.size w W)):=fun W hW=>by
  obtain⟨-,c1,-,-,c4,-⟩:=bV ((hW.block _ hk).trans hb);exact⟨c1,c4,hW⟩
 unfold yN;generalize decide ((Ck.aP xs es 0).length=xs.length)=t at HV ⊢;obtain⟨-,c1,-,-,c4,-⟩:=bV hb;have hbr:Below w.heap.size w w.drew:=(aaE _ _).drew;clear hb he hx;go_enter func54,ntmps54;go_wp2_with fail
 go_region_held3 (fun W=>W.cell? ⟨k,1,none⟩=some (.slice ao es.length ca)/\W.cell? ⟨k,4,none⟩=some (.slice xo xs.length xc)/\Below w.heap.size w W)
  (exact HS.out _ (by first|assumption|exact hbr))
  ((go_at_call 96;refine(HV.out _ (by first|assumption|exact hbr)).mono ?_;rintro e w6 ⟨v,rfl,hv,fZ⟩;obtain⟨va,vc,rfl,-,-⟩:=hv.form;have hv2:av w6 w.heap.size (.slice va (Ck.keep xs es).length vc) (Ck.keep xs es):=hv.lower (acm (by first|assumption|exact hbr));have hbz:Below w.heap.size w w6:=abL (by first|assumption|exact hbr) (fZ.mono (acm (by first|assumption|exact hbr)))))
 generalize hkl:(Ck.keep xs es).length=q at hv2 ⊢;have HC:=ζ (rL HB.out hbz (.slice va q vc));obtain⟨-,-,-,-,-,-,c6,cf⟩:=bV ((hbz.block _ hk).trans HB.out);have cf6:=cf 6;clear cf;have hk1:k<w6.heap.size:=aa0 hk hbz.size;have HR:Hid (av (w6.setCell ⟨k,6,none⟩ (.slice va q vc)) w.heap.size (.slice va q vc) (Ck.keep xs es)):=hv2.same fun b hb' _=>heap_setCell_other _ _ _ _ (fun e=>by
  dsimp only at e;have:=(aaJ hv2 b hb').1;omega)
 clear hbz fZ HV HS hbr c1 c4 hv hv2 hkl;go_wp2;go_ret;exact⟨.slice va q vc,rfl,HC.out.2.1,HC.out.2.2 6,HR.out⟩
theorem aL.QJ {W:World} {B c:Nat} {a:Option Addr} {l:List (Int×Int)} (h:aL W B (.slice a l.length c) l):ah W a l:=by
 obtain⟨a',c',e,_,_,h1,_⟩:=h.form;cases e;exact h1
theorem aL.BG {W:World} {B c H:Nat} {a:Option Addr} {l:List (Int×Int)} (h:aL W B (.slice a l.length c) l) (hH:H<B) {x y:Value}:ah ((W.setCell ⟨H,0,none⟩ x).setCell ⟨H,1,none⟩ y) a l:=by
 have h2:aL ((W.setCell ⟨H,0,none⟩ x).setCell ⟨H,1,none⟩ y) B (.slice a l.length c) l:=bN h fun b hb hB _=>cB (by omega) x y
 exact h2.QJ
theorem Kq {lo:Option Addr} {lc:Nat} {l:List Int} {xs:List (Int×Int)} (hb:w.heap[k]? =some (.cells #[.int .i64 n,.slice ao es.length ca,q2,q3,q4,q5,.slice lo l.length lc] 68 (0,0))) (he:ah w ao es) (hl:es.length<=4194304) (hx:aZ w lo l) (hxl:l.length<=4611686018427387904)
 (hs:Ed.sub n es l=(n,xs,0)) (hxs:xs.length<=4611686018427387904) (hk0:(Ku.kr n xs).2.2.2.2=0):
 Calls prog 55 #[.pointer (some ⟨k,0,none⟩)] w fun e w'=>e= .returned (.bool (Ku.kr n xs).2.2.2.1)/\Below w.heap.size w w':=by
 have hk:=lt_of_block hb;have HV:Hid (∀W,Below w.heap.size w W->Calls prog 97 #[.agg #[.int .i64 n,.slice ao es.length ca],.slice lo l.length lc] W fun e w'=>Below W.heap.size W w'/\∃yo yc,e= .returned (.tuple #[.agg #[.int .i64 n,.slice yo xs.length yc],.int .i64 0])/\aL w' W.heap.size (.slice yo xs.length yc) xs):=fun W hW=>
  (KU n lo l.length lc l ao ca es W (he.later hW) (by omega) rfl (hx.later hW) hxl).mono fun e w' ⟨v,h1,h2,h3⟩=>by
    rw[hs] at h1 h2;obtain⟨yo,yc,rfl,-,-,-,-⟩:=h2.form;exact⟨h3,yo,yc,h1,h2⟩
 have HS:Hid (∀W,Below w.heap.size w W->(W.cell? ⟨k,0,none⟩=some (.int .i64 n)/\W.cell? ⟨k,1,none⟩=some (.slice ao es.length ca)/\W.cell? ⟨k,6,none⟩=some (.slice lo l.length lc)/\Below w.heap.size w W)):=fun W hW=>by
  obtain⟨c0,c1,-,-,-,-,c6,-⟩:=bV ((hW.block _ hk).trans hb);exact⟨c0,c1,c6,hW⟩
 obtain⟨c0,c1,-,-,-,-,c6,-⟩:=bV hb;have hbr:Below w.heap.size w w.drew:=(aaE _ _).drew;have PY:=ζ hk0;obtain⟨R,hR⟩:∃R,Ku.kr n xs=R:=⟨_,rfl⟩;have Ll:=ζ hR;rw[hR] at PY ⊢;clear hb he hx hs hk0 hR;go_enter func55,ntmps55
 go_upto_region 1 with fail
 go_cut [3,4] from 7 to 18 (fun p q wr=>∃(H:Nat) (va:Option Addr) (vc:Nat),p= .pointer (some ⟨H,0,none⟩)/\q= .int .i64 0/\wr.heap[H]? =some (.cells #[.int .i64 n,.slice va xs.length vc] 24 (0,0))/\ah wr va xs/\Below w.heap.size w wr)
 case first=>
  have G0:=HS.out _ (aaE _ _);go_wp2_with fail
  go_region_held3 (fun W=>W.cell? ⟨k,0,none⟩=some (.int .i64 n)/\W.cell? ⟨k,1,none⟩=some (.slice ao es.length ca)/\W.cell? ⟨k,6,none⟩=some (.slice lo l.length lc))
   (first|exact⟨G0.1,G0.2.1,G0.2.2.1⟩|exact(fun h=>⟨h.1,h.2.1,h.2.2.1⟩) (HS.out _ (by repeat (first|exact aaE _ _|exact hb0|refine abU ?_|refine acU ?_ (by first|(simp;done)|(simp;omega)|omega) _|refine abK ?_ (by first|exact aaD _|(simp;done)|(simp;omega)|omega) _))))
   ((go_at_call 97;refine(HV.out _ (by repeat (first|exact aaE _ _|refine abU ?_|refine abK ?_ (by first|exact aaD _|(simp;done)|(simp;omega)) _))).mono ?_;rintro e w6 ⟨fZ,yo,yc,rfl,UN⟩;have hb0:Below w.heap.size w w6:=abL (by repeat (first|exact aaE _ _|refine abU ?_|refine abK ?_ (by first|exact aaD _|(simp;done)|(simp;omega)) _)) (fZ.mono (by simp));have kY:w.heap.size<=w6.heap.size:=hb0.size;(try have bx0:w6.heap[w.heap.size]? =some (.cells #[.int .i64 0,.slice none 0 0] 24 (0,0)):=(fZ.block _ (by simp)).trans (heap_alloc_new w _));(try have q0:=(af bx0).1);(try have q1:=(af bx0).2.1);(try have q2:=(af bx0).2.2 0);(try have q3:=(af bx0).2.2 1)))
  all_goals
   go_wp2
   go_meet
   first
    |exact⟨_,_,_,rfl,rfl,heap_alloc_new w6 _,(aL.QJ UN).later ((aaE _ _).alloc (aaD _) _),hb0.alloc kY _⟩
    |exact⟨_,_,_,rfl,rfl,bS bx0 _ _,aL.BG UN (by simp),(hb0.setCell (p:=⟨w.heap.size,0,none⟩) (aaD _) _).setCell (p:=⟨w.heap.size,1,none⟩) (aaD _) _⟩
 case rest=>
 obtain⟨H,va,vc,rfl,rfl,R9,hat,hb⟩:=hcut;have hP:=wR n va vc xs _ hat hxs;rw[Ll.out] at hP;have HP:=ζ hP;have aC:=ζ hb;obtain⟨g0,g1,-⟩:=af R9;have KL:=lt_of_block R9;clear hP hat hb R9 c0 c1 c6 HV HS hbr;go_wp2_with (go_at_call 98;refine HP.out.mono ?_;refine aaH ?_);refine ζ ?_;rintro e w2 ⟨a1,d1,a2,d2,rfl,-,-,hb3⟩;rw[PY.out];have aK:=ζ (aC.out.trans (hb3.mono aC.out.size));have hs3:=aK.out.size;clear g0 g1 hb3;obtain⟨t,ht⟩:∃t,R.2.2.2.1=t:=⟨_,rfl⟩;have Wh:=ζ ht;rw[ht];clear ht;cases t with
 |true=>
  go_wp2;go_ret;exact⟨by rw[Wh.out];rfl,aK.out.alloc hs3 _⟩
 |false=>
  go_wp2;go_ret;exact⟨by rw[Wh.out];rfl,aK.out.alloc hs3 _⟩
end
end
end Go.Proofs.YtdbjpbjocmcpkaaGreatDoor
