/-
  Proved: for every graph, every certificate and two numbers of bulk at most 1048576 the law CheckMore answers true, and they read afterwards as before.
-/
import Derived.Test.YtdbjpbjocmcpkaaGreatDoorMk37
set_option maxHeartbeats 4000000
set_option maxRecDepth 100000
namespace Go.Proofs.YtdbjpbjocmcpkaaGreatDoor
open Go.Proofs.Tryz
open Go.ChangeShapes Go.WideShapes Go.ChangeAt Go.RowKit
namespace I8
theorem BG {W:World} {B H:Nat} {a:Option Addr} {l:List (Int×Int)} {x y:Value} (h:ah W a l) (hn:∀p,a=some p->B<=p.block) (hH:H<B):ah ((W.setCell ⟨H,0,none⟩ x).setCell ⟨H,1,none⟩ y) a l:=fun j p hj=>by
 obtain⟨b,o,e,h0,h1⟩:=h j p hj;have hb:B<=b:=hn _ e;have hk:((W.setCell ⟨H,0,none⟩ x).setCell ⟨H,1,none⟩ y).heap[b]? =W.heap[b]? :=cB (by omega) x y;exact⟨b,o,e,by rw[abD (w:=W) hk];exact h0,by rw[abD (w:=W) hk];exact h1⟩
theorem Me {w:World} {B A:Nat} {v:Value} {l:List (Int×Int)} (h:cU w B v l) (hA:A<=B):cU w A v l:=by
 unfold cU at h ⊢;rcases h.2 with h2|⟨g,c,cur,e,h3,h4⟩
 .exact⟨h.1,.inl h2⟩
 .exact⟨h.1,.inr ⟨g,c,cur,e,aaM hA h3,h4⟩⟩
theorem Bo {H:Type} {enc:TypeId×Value->H} {W:World} {base:Nat} {v:Value} {d:DataW H} {p:List MemPlace} (hval:Value.okWide prog W .any base 57 v)
 (h:DataW.Trod enc prog W 0 (fun _=>true) true 57 v d p):∃q:Int×Int,v= .agg #[.int .i64 q.1,.int .i64 q.2]/\dI q:=by
 have hs:∃cs,v= .agg cs/\cs.size=prog.cellsOf 57:=by
  simp only[Value.okWide,Tryz.underlying57] at hval;obtain⟨cs,h1,h2,_⟩:=hval;exact⟨cs,h1,h2⟩
 obtain⟨cs,rfl,hcs⟩:=hs;have ce:prog.cellsOf 57=2:=by kernel_rfl
 rw[ce] at hcs;obtain⟨fuel,hf⟩:=h;obtain⟨cl⟩:=cs;have hl:cl.length=2:=hcs;clear hcs;obtain⟨u,v,rfl⟩:∃u v,cl=[u,v]:=by
  match cl,hl with
  |[u,v],_=>exact⟨u,v,rfl⟩
 obtain⟨a,b,e,hw⟩:=LC Tryz.underlying57 ce rfl hf;simp[Value.cells] at e;obtain⟨rfl,rfl⟩:=e;exact⟨(a,b),rfl,hw⟩
theorem walk (n:Int) (ao:Option Addr) (ca:Nat) (es:List (Int×Int)) (pl:Bool) (xo:Option Addr) (xc:Nat) (ls:List (List Int)) (eo:Option Addr) (ec:Nat) (xs:List (Int×Int)) (q:Int×Int) (w:World) (_: -9223372036854775808<=n/\n<=9223372036854775807) (hq:yL w ao es.length ca es) (hle:es.length*16<=140737488351232) (w1:Bf w pl xo ls eo ec xs) (_:dI q) (ht:iE w):
 Calls prog 8 #[.agg #[.int .i64 n,.slice ao es.length ca],.agg #[.bool pl,.slice xo ls.length xc,.slice eo xs.length ec],.agg #[.int .i64 q.1,.int .i64 q.2]] w fun e w'=>e= .returned (.bool true)/\Below w.heap.size w w':=by
 obtain⟨W0,hW0⟩:∃W,W=(w.alloc (.cells #[.int .i64 n,.slice ao es.length ca] 24)).alloc (.cells #[.bool pl,.slice xo ls.length xc,.slice eo xs.length ec] 27):=⟨_,rfl⟩;have Qw:nR n ao ca es pl ls xs xo eo xc ec w W0:=by rw[hW0];exact nR.start
 obtain⟨W,hW⟩:∃W,W=W0.alloc (.cells #[.int .i64 q.1,.int .i64 q.2] 57):=⟨_,rfl⟩;have QG:Below W0.heap.size W0 W:=by rw[hW];exact(aaE _ _).alloc (aaD _) _
 have cR:nR n ao ca es pl ls xs xo eo xc ec w W:=Qw.later QG;have VG:W.heap[w.heap.size+1+1]? =some (.cells #[.int .i64 q.1,.int .i64 q.2] 57 (0,0)):=by
  have hs:W0.heap.size=w.heap.size+1+1:=by rw[hW0];simp
  rw[hW,<-hs];exact heap_alloc_new W0 _
 have hl:es.length<=4611686018427387904:=by omega
 have iG:=ζ (dB ht);have Y0:Hid (Calls prog 9 #[] W fun e w'=>e= .returned (.bool true)/\Below W.heap.size W w'):=Bi W (iG.out _ cR.low);have jA:Hid (∀V,Below w.heap.size w V->Calls prog 25 #[.agg #[.int .i64 n,.slice ao es.length ca]] V fun e w'=>e= .returned (.bool (Si.valid n es))/\Below V.heap.size V w'):=fun V hV=>De n ao ca es V (hq.hat.later hV) hl
 have Xk:Hid (∀V,Below w.heap.size w V->Calls prog 11 #[.agg #[.int .i64 n,.slice ao es.length ca]] V fun e w'=>∃a c,e= .returned (.agg #[.int .i64 n,.slice a es.length c])/\ah w' a es/\Below V.heap.size V w'):=fun V hV=>(Gg n ao ca es V (hq.hat.later hV) (by omega)).mono (by
  rintro e w' ⟨v,rfl,h1,h2⟩;obtain⟨a,c,rfl,_,_,h3,_⟩:=h1.form;exact⟨a,c,rfl,h3,h2⟩)
 have FR:Hid (∀V,Below w.heap.size w V->Calls prog 12 #[.agg #[.bool pl,.slice xo ls.length xc,.slice eo xs.length ec]] V fun e w'=>Below V.heap.size V w'/\∃ya yb yc za zb zc,e= .returned (.agg #[.bool pl,.slice ya yb yc,.slice za zb zc])/\Ce.jV w' (.agg #[.bool pl,.slice ya yb yc,.slice za zb zc]) ⟨pl,ls,xs⟩ ya za yc zc/\bu w' ya ls):=fun V hV=>(w1.cert.later hV).copy.mono (by
  rintro e w' ⟨hb,v,rfl,hv⟩;obtain⟨yo,zo,yc,zc,xJ,hrw⟩:=hv.Rf (fun l hl=>aaM (w1.cert.row l hl) (by omega));have hval:=xJ.val;subst hval;exact⟨hb,_,_,_,_,_,_,rfl,xJ,hrw⟩)
 have Iu:Hid (∀V (m:Int) (fs:List (Int×Int)) v a c ya za yc zc,ah V a fs->fs.length<=4611686018427387904->Ce.jV V v ⟨pl,ls,xs⟩ ya za yc zc->bu V ya ls->Below w.heap.size w V->Calls prog 10 #[.agg #[.int .i64 m,.slice a fs.length c],v] V fun e w'=>e= .returned (.int .i64 (Ck.code m fs ⟨pl,ls,xs⟩))/\Below V.heap.size V w'):=fun V m fs v a c ya za yc zc h1 hl h2 h3 h4=>lU m a c fs ⟨pl,ls,xs⟩ v ya za yc zc V h1 hl h2 w1.cert.SI h3 (iG.out _ h4)
 have S8:Hid (∀V,Below w.heap.size w V->Calls prog 26 #[.agg #[.int .i64 n,.slice ao es.length ca]] V (uR es V)):=fun V hV=>Dg n ao ca es V (hq.hat.later hV) (by omega)
 have jC:Hid (∀_:World,es.length*16<=140737488351232):=fun _=>hle
 obtain⟨N,hN⟩:∃N,es.length=N:=⟨_,rfl⟩;obtain⟨M,hM⟩:∃M,ls.length=M:=⟨_,rfl⟩;obtain⟨L,hL⟩:∃L,xs.length=L:=⟨_,rfl⟩;obtain⟨q1,q2⟩:=q;have HW:=ζ (hW.trans (by rw[hW0]));have mC:=ζ cR;have WM:=ζ VG;have dQ:Hid (∀V,nR n ao ca es pl ls xs xo eo xc ec w V->V.cell? ⟨w.heap.size,0,none⟩=some (.int .i64 n)/\V.cell? ⟨w.heap.size,1,none⟩=some (.slice ao N ca)/\V.cell? ⟨w.heap.size+1,0,none⟩=some (.bool pl)/\V.cell? ⟨w.heap.size+1,1,none⟩=some (.slice xo M xc)/\V.cell? ⟨w.heap.size+1,2,none⟩=some (.slice eo L ec)/\w.heap.size+1<V.heap.size):=fun V h=>by
  have:=h.all;rw[hN,hM,hL] at this;exact this
 rw[hN,hM,hL] at HW;rw[hN,hM,hL];rw[hN] at jA S8 Xk;rw[hM,hL] at FR;have HN:=ζ hN;clear hq hle w1 ht hW hW0 cR Qw QG hl hM hL VG hN;go_enter func8,ntmps8
 go_upto_region 1 with fail
 rw[<-HW.out];go_wp2_with (go_at_call 9;refine Y0.out.mono ?_;rintro e w2 ⟨rfl,hb2⟩;have aC:=ζ (mC.out.later hb2);have WR:=ζ ((hb2.block _ (lt_of_block WM.out)).trans WM.out);clear hb2;refine aaH ?_);refine ζ ?_;obtain⟨k0,k1,k2,k3,k4,hlt⟩:=dQ.out _ aC.out;cases hv:Si.valid n es with
 |false=>
  rw[hv] at jA;go_wp2_with (go_at_call 25;refine(jA.out _ aC.out.low).mono ?_;rintro e w3 ⟨rfl,hb3⟩;have aK:=ζ (aC.out.later hb3).low;clear hb3 k0 k1 k2 k3 k4 hlt;refine aaH ?_);refine ζ ?_;go_wp2;go_ret;exact⟨rfl,aK.out⟩
 |true=>
  have zS:=ζ hv;rw[hv] at jA;clear hv;have xV:=(jA.out _ aC.out.low);have TD:=ζ xV;clear xV;by_cases hn1:(1048576:Int)<=n
  .go_wp2_with (go_at_call 25;refine TD.out.mono ?_;rintro e w3 ⟨rfl,hb3⟩;have aK:=ζ (aC.out.later hb3);clear hb3 k0 k1 k2 k3 k4 hlt;obtain⟨k0,k1,k2,k3,k4,hlt⟩:=dQ.out _ aK.out;refine aaH ?_)
   refine ζ ?_;go_wp2;go_ret;exact⟨rfl,aK.out.low⟩
  .have hg1:decide ((1048576:Int)<=n)=false:=decide_eq_false hn1
   have tH:Hid (∀_:World,n<1048576):=fun _=>by omega
   by_cases hn2:(4194304:Int)<=(N:Int)
   .go_wp2_with (go_at_call 25;refine TD.out.mono ?_;rintro e w3 ⟨rfl,hb3⟩;have aK:=ζ (aC.out.later hb3);clear hb3 k0 k1 k2 k3 k4 hlt;obtain⟨k0,k1,k2,k3,k4,hlt⟩:=dQ.out _ aK.out;refine aaH ?_)
    refine ζ ?_;go_wp2;go_ret;exact⟨rfl,aK.out.low⟩
   .have hg2:decide ((4194304:Int)<=(N:Int))=false:=decide_eq_false hn2
    have PV:Hid (∀_:World,N<4194304):=fun _=>by omega
    clear hn1 hn2;go_wp2_with (go_at_call 25;refine TD.out.mono ?_;rintro e w3 ⟨rfl,hb3⟩;have aK:=ζ (aC.out.later hb3);have WO:=ζ ((hb3.block _ (lt_of_block WR.out)).trans WR.out);clear hb3 k0 k1 k2 k3 k4 hlt;obtain⟨k0,k1,k2,k3,k4,hlt⟩:=dQ.out _ aK.out;refine aaH ?_);refine ζ ?_;go_wp2_with fail;have hbr:Below w3.heap.size w3 w3.drew:=(aaE _ _).drew;have HS:Hid (∀V,Below w3.heap.size w3 V->(V.cell? ⟨w.heap.size,0,none⟩=some (.int .i64 n)/\V.cell? ⟨w.heap.size,1,none⟩=some (.slice ao N ca)/\V.cell? ⟨w.heap.size+1,0,none⟩=some (.bool pl)/\V.cell? ⟨w.heap.size+1,1,none⟩=some (.slice xo M xc)/\V.cell? ⟨w.heap.size+1,2,none⟩=some (.slice eo L ec)/\Below w3.heap.size w3 V)):=fun V hV=>by
     obtain⟨k0,k1,k2,k3,k4,-⟩:=dQ.out _ (aK.out.later hV);exact⟨k0,k1,k2,k3,k4,hV⟩
    have FI:Hid (∀V,Below w3.heap.size w3 V->Below w.heap.size w V):=fun V hV=>aK.out.low.trans (hV.mono aK.out.low.size)
    go_region_held3 (fun V=>V.cell? ⟨w.heap.size,0,none⟩=some (.int .i64 n)/\V.cell? ⟨w.heap.size,1,none⟩=some (.slice ao N ca)/\V.cell? ⟨w.heap.size+1,0,none⟩=some (.bool pl)/\V.cell? ⟨w.heap.size+1,1,none⟩=some (.slice xo M xc)/\V.cell? ⟨w.heap.size+1,2,none⟩=some (.slice eo L ec)/\Below w3.heap.size w3 V)
     (exact HS.out _ (by first|assumption|exact hbr))
     (first
       |(go_at_call 11;refine(Xk.out _ (FI.out _ (by first|assumption|exact hbr))).mono ?_;rintro e w4 ⟨a4,c4,rfl,Vo,QA⟩;have O5:Below w3.heap.size w3 w4:=abL (by first|assumption|exact hbr) (QA.mono (acm (by first|assumption|exact hbr))))
       |(go_at_call 12;refine(FR.out _ (FI.out _ O5)).mono ?_;rintro e w5 ⟨rD,ya,yb,yc,za,zb,zc,rfl,xJ,hrw⟩;have oT:Below w3.heap.size w3 w5:=O5.trans (rD.mono O5.size))
       |(go_at_call 10;rw[<-HN.out];refine(Iu.out _ n es _ _ _ _ _ _ _ (Vo.later rD) (by have:=jC.out w;omega) xJ hrw (FI.out _ oT)).mono ?_;rintro e w6 ⟨rfl,uz⟩;have pV:Below w3.heap.size w3 w6:=oT.trans (uz.mono oT.size)))
    have tK:=ζ (aK.out.later pV);have Te:=ζ ((pV.block _ (lt_of_block WO.out)).trans WO.out);clear O5 oT pV QA rD uz xJ hrw Vo HS FI hbr k0 k1 k2 k3 k4 hlt hg1 hg2;obtain⟨k,hk⟩:∃k,Ck.code n es ⟨pl,ls,xs⟩=k:=⟨_,rfl⟩;have HK:=ζ hk;rw[hk];clear hk;by_cases hk0:k=0
    .have gQ:(k != 0)=false:=by simp[hk0]
     subst hk0;obtain⟨k0,k1,k2,k3,k4,hlt⟩:=dQ.out _ tK.out;obtain⟨m0,m1,-⟩:=af Te.out;go_wp2_with fail;obtain⟨R,hR⟩:∃R,(es++[(q1,q2)]).length=R:=⟨_,rfl⟩;have NT:=ζ hR;clear hR
     go_cut [7] from 36 to 40 (fun p wr=>∃(po:Option Addr) (pc:Nat),p= .slice po R pc/\ah wr po (es++[(q1,q2)])/\Below w6.heap.size w6 wr)
     case first=>
      have hbr:Below w6.heap.size w6 w6.drew:=(aaE _ _).drew;have HS:Hid (∀V,Below w6.heap.size w6 V->(V.cell? ⟨w.heap.size,0,none⟩=some (.int .i64 n)/\V.cell? ⟨w.heap.size,1,none⟩=some (.slice ao N ca)/\V.cell? ⟨w.heap.size+1+1,0,none⟩=some (.int .i64 q1)/\V.cell? ⟨w.heap.size+1+1,1,none⟩=some (.int .i64 q2))):=fun V hV=>by
       obtain⟨k0,k1,-,-,-,-⟩:=dQ.out _ (tK.out.later hV);obtain⟨m0,m1,-⟩:=af ((hV.block _ (lt_of_block Te.out)).trans Te.out);exact⟨k0,k1,m0,m1⟩
      have G0:=HS.out _ (aaE _ _)
      go_region_held3 (fun V=>V.cell? ⟨w.heap.size,0,none⟩=some (.int .i64 n)/\V.cell? ⟨w.heap.size,1,none⟩=some (.slice ao N ca)/\V.cell? ⟨w.heap.size+1+1,0,none⟩=some (.int .i64 q1)/\V.cell? ⟨w.heap.size+1+1,1,none⟩=some (.int .i64 q2))
       (first|exact G0|exact HS.out _ (by repeat (first|exact aaE _ _|exact Ug|exact hb0|refine abU ?_|refine acU ?_ (by first|(simp;done)|(simp;omega)|omega) _|refine abK ?_ (by first|exact aaD _|(simp;done)|(simp;omega)|omega) _)))
       (first
         |(go_at_call 26;refine(S8.out _ (tK.out.low.trans (Below.mono (by repeat (first|exact aaE _ _|refine abU ?_|refine abK ?_ (by first|exact aaD _|(simp;done)|(simp;omega)) _)) tK.out.low.size))).mono ?_;rintro e w7 ⟨v7,rfl,Yg,fZ⟩;have hb0:Below w6.heap.size w6 w7:=abL (by repeat (first|exact aaE _ _|refine abU ?_|refine abK ?_ (by first|exact aaD _|(simp;done)|(simp;omega)) _)) (fZ.mono (by simp));have kY:w6.heap.size<=w7.heap.size:=hb0.size;have UH:cU w7 w6.heap.size v7 es:=Me Yg (by simp);(try have bx0:w7.heap[w6.heap.size]? =some (.cells #[.int .i64 q1,.int .i64 q2] 57 (0,0)):=(fZ.block _ (by simp)).trans (heap_alloc_new w6 _)))
         |(rw[if_pos (by rfl)];refine CW _ _ (by rfl) w6.heap.size v7 es q1 q2 (by first|exact UH|exact abe UH _) (by first|exact kY|(simp;omega)) (by rfl) _ (by rfl) (by first|exact bx0|exact heap_alloc_new w7 _) (by have:=jC.out w;omega) ?_;intro v9 w9 Yf Vu;have Ug:Below w6.heap.size w6 w9:=abL (by first|exact hb0|exact hb0.alloc kY _) Vu))
      all_goals
       obtain⟨po,pc,rfl,-,-,kZ,-⟩:=Yf.form;rw[NT.out];go_wp2
       go_meet
       exact⟨_,_,rfl,kZ,Ug⟩
     case rest=>
     obtain⟨po,pc,rfl,kZ,QC⟩:=hcut;have z7:=ζ (tK.out.later QC);have Wx:=ζ kZ;clear QC kZ k0 k1 k2 k3 k4 hlt m0 m1;obtain⟨w7,rfl⟩:∃w7,w7=wc:=⟨_,rfl⟩;have hval:=Si.aJ.1 zS.out;have MN:=Ck.Gr hval (tH.out w);have Y3:=ζ MN.2;have hn0:=hval.lo;have UQ:=tH.out w;have hwr:IntKind.i64.wrap (n+1)=n+1:=by rw[aaK];omega
     have Iw:Hid (∀V a c,ah V a es->Calls prog 27 #[.int .i64 (n+1),.slice a es.length c] V fun e w'=>∃a' c',e= .returned (.tuple #[.agg #[.int .i64 (n+1),.slice a' es.length c'],.int .i64 0])/\ah w' a' es/\Below V.heap.size V w'/\∀x,a'=some x->V.heap.size<=x.block):=fun V a c h=>(wJ (n+1) a c es V h (by have:=jC.out w;omega)).mono (by
      rintro e w' ⟨a',c',h1,h2,h3,h4⟩;rw[MN.1] at h1 h2;exact⟨a',c',h1,h2,h3,h4⟩)
     clear hval MN hn0 UQ;go_wp2_with fail
     go_cut [8,9] from 41 to 49 (fun p r wr=>∃(H:Nat) (va:Option Addr) (vc:Nat),p= .pointer (some ⟨H,0,none⟩)/\r= .int .i64 0/\wr.heap[H]? =some (.cells #[.int .i64 (n+1),.slice va es.length vc] 24 (0,0))/\ah wr va es/\Below w7.heap.size w7 wr)
     case first=>
      have HS:Hid (∀V,Below w7.heap.size w7 V->(V.cell? ⟨w.heap.size,0,none⟩=some (.int .i64 n)/\V.cell? ⟨w.heap.size,1,none⟩=some (.slice ao N ca))):=fun V hV=>by
       obtain⟨k0,k1,-,-,-,-⟩:=dQ.out _ (z7.out.later hV);exact⟨k0,k1⟩
      have G0:=HS.out _ (aaE _ _)
      go_region_held3 (fun V=>V.cell? ⟨w.heap.size,0,none⟩=some (.int .i64 n)/\V.cell? ⟨w.heap.size,1,none⟩=some (.slice ao N ca))
       (first|exact G0|exact HS.out _ (by repeat (first|exact aaE _ _|exact mI|exact mJ|refine abU ?_|refine acU ?_ (by first|(simp;done)|(simp;omega)|omega) _|refine abK ?_ (by first|exact aaD _|(simp;done)|(simp;omega)|omega) _)))
       (first
         |(go_at_call 26;refine(S8.out _ (z7.out.low.trans (Below.mono (by repeat (first|exact aaE _ _|refine abU ?_|refine abK ?_ (by first|exact aaD _|(simp;done)|(simp;omega)) _)) z7.out.low.size))).mono ?_;rintro e wA ⟨vA,rfl,Ye,fZ⟩;have mJ:Below w7.heap.size w7 wA:=abL (by repeat (first|exact aaE _ _|refine abU ?_|refine abK ?_ (by first|exact aaD _|(simp;done)|(simp;omega)) _)) (fZ.mono (by simp));have GK:w7.heap.size<=wA.heap.size:=mJ.size;obtain⟨pa,XM,rfl,-,-,xT,-⟩:=Ye.form;(try have SR:wA.heap[w7.heap.size]? =some (.cells #[.int .i64 0,.slice none 0 0] 24 (0,0)):=(fZ.block _ (by simp)).trans (heap_alloc_new w7 _)))
         |(go_at_call 27;refine(Iw.out _ pa XM (by first|exact xT|exact xT.later ((aaE _ _).alloc (aaD _) _))).mono ?_;rintro e wM ⟨va,vc,rfl,hev,M5,hnew⟩;have mI:Below w7.heap.size w7 wM:=abL (by repeat (first|exact mJ|refine abK ?_ (by first|exact GK|(simp;omega)|omega) _)) (M5.mono (by first|exact GK|(simp;omega)|omega));have Yb:w7.heap.size<=wM.heap.size:=mI.size;(try have bx0:wM.heap[w7.heap.size]? =some (.cells #[.int .i64 0,.slice none 0 0] 24 (0,0)):=(M5.block _ (lt_of_block SR)).trans SR);(try have bx1:wM.heap[wA.heap.size]? =some (.cells #[.int .i64 0,.slice none 0 0] 24 (0,0)):=(M5.block _ (by simp)).trans (heap_alloc_new wA _));(try have c0:=(af bx0).1);(try have c1:=(af bx0).2.1);(try have c2:=(af bx0).2.2 0);(try have c3:=(af bx0).2.2 1);(try have d0:=(af bx1).1);(try have d1:=(af bx1).2.1);(try have d2:=(af bx1).2.2 0);(try have d3:=(af bx1).2.2 1)))
      all_goals
       go_wp2
       go_meet
       first
        |exact⟨_,_,_,rfl,rfl,heap_alloc_new wM _,hev.later ((aaE _ _).alloc (aaD _) _),mI.alloc Yb _⟩
        |exact⟨_,_,_,rfl,rfl,bS bx1 _ _,BG hev hnew (by simp),(mI.setCell (p:=⟨wA.heap.size,0,none⟩) GK _).setCell (p:=⟨wA.heap.size,1,none⟩) GK _⟩
        |exact⟨_,_,_,rfl,rfl,bS bx0 _ _,BG hev hnew (lt_of_block SR),(mI.setCell (p:=⟨w7.heap.size,0,none⟩) (aaD _) _).setCell (p:=⟨w7.heap.size,1,none⟩) (aaD _) _⟩
     case rest=>
     obtain⟨H,va,vc,rfl,rfl,Vw,hev,M8⟩:=hcut;have Ot:=ζ (z7.out.later M8);have QV:=ζ (Wx.out.later M8);have Xf:=ζ hev;have Xp:=ζ Vw;clear M8 hev Vw hwr Iw Wx z7;obtain⟨w8,rfl⟩:∃w8,w8=wc:=⟨_,rfl⟩;have Ey:Below w8.heap.size w8 w8.drew:=(aaE _ _).drew;have mo:Hid (∀V,Below w8.heap.size w8 V->(V.cell? ⟨H,0,none⟩=some (.int .i64 (n+1))/\V.cell? ⟨H,1,none⟩=some (.slice va es.length vc)/\V.cell? ⟨w.heap.size+1,0,none⟩=some (.bool pl)/\V.cell? ⟨w.heap.size+1,1,none⟩=some (.slice xo M xc)/\V.cell? ⟨w.heap.size+1,2,none⟩=some (.slice eo L ec)/\Below w8.heap.size w8 V)):=fun V hV=>by
      obtain⟨-,-,k2,k3,k4,-⟩:=dQ.out _ (Ot.out.later hV);obtain⟨x0,x1,-⟩:=af ((hV.block _ (lt_of_block Xp.out)).trans Xp.out);exact⟨x0,x1,k2,k3,k4,hV⟩
     have N3:Hid (∀V,Below w8.heap.size w8 V->Below w.heap.size w V):=fun V hV=>Ot.out.low.trans (hV.mono Ot.out.low.size)
     obtain⟨x0,x1,k2,k3,k4,-⟩:=mo.out _ (aaE _ _);go_wp2_with fail
     go_region_held3 (fun V=>V.cell? ⟨H,0,none⟩=some (.int .i64 (n+1))/\V.cell? ⟨H,1,none⟩=some (.slice va es.length vc)/\V.cell? ⟨w.heap.size+1,0,none⟩=some (.bool pl)/\V.cell? ⟨w.heap.size+1,1,none⟩=some (.slice xo M xc)/\V.cell? ⟨w.heap.size+1,2,none⟩=some (.slice eo L ec)/\Below w8.heap.size w8 V)
      (exact mo.out _ (by first|assumption|exact Ey))
      (first
        |(go_at_call 12;refine(FR.out _ (N3.out _ (by first|assumption|exact Ey))).mono ?_;rintro e w5 ⟨rD,ya,yb,yc,za,zb,zc,rfl,xJ,hrw⟩;have oT:Below w8.heap.size w8 w5:=abL (by first|assumption|exact Ey) (rD.mono (acm (by first|assumption|exact Ey))))
        |(go_at_call 10;refine(Iu.out _ (n+1) es _ _ _ _ _ _ _ (Xf.out.later oT) (by have:=jC.out w;omega) xJ hrw (N3.out _ oT)).mono ?_;rintro e w6 ⟨rfl,uz⟩;have pV:Below w8.heap.size w8 w6:=oT.trans (uz.mono oT.size)))
     obtain⟨w9,rfl⟩:∃w9,w9=w6:=⟨_,rfl⟩;have TI:=ζ (Ot.out.later pV);have QU:=ζ (QV.out.later pV);clear oT pV rD uz xJ hrw mo N3 Ey x0 x1 k2 k3 k4 Ot QV Xf;have HA:=ζ (Ck.Cr HK.out Y3.out);obtain⟨kA,U5⟩:∃kA,Ck.code (n+1) es ⟨pl,ls,xs⟩=kA:=⟨_,rfl⟩;rw[U5] at HA ⊢;clear U5;obtain⟨N2,fs,c2,Jh⟩:∃N2 fs c2,Si.mk n (es++[(q1,q2)])=(N2,fs,c2):=⟨_,_,_,rfl⟩;have WQ:=ζ Jh;have ZB:Hid (∀_:World,fs.length<=4611686018427387904):=fun _=>by
      have h1:=Ck.O0 n (es++[(q1,q2)]);rw[Jh,aaN] at h1;have:=jC.out w;simp at h1;omega
     have QX:Hid (∀V,ah V po (es++[(q1,q2)])->Calls prog 27 #[.int .i64 n,.slice po R pc] V fun e w'=>∃a' c',e= .returned (.tuple #[.agg #[.int .i64 N2,.slice a' fs.length c'],.int .i64 c2])/\ah w' a' fs/\Below V.heap.size V w'):=fun V h=>by
      have h1:=Gf n po pc (es++[(q1,q2)]) V h (by have:=jC.out w;rw[aaN];simp;omega);rw[NT.out] at h1;refine h1.mono ?_;rintro e w' ⟨a',c',h1,h2,h3⟩;rw[Jh] at h1 h2;exact⟨a',c',h1,h2,h3⟩
     clear Jh;obtain⟨k0,-⟩:=dQ.out _ TI.out;go_wp2_with (go_at_call 27;refine(QX.out _ QU.out).mono ?_;rintro e wB ⟨fa,fc,rfl,xR,Sp⟩;have ID:=ζ (TI.out.later Sp);have Iy:=ζ xR;clear Sp xR k0;refine aaH ?_);refine ζ ?_;clear QX QU TI;obtain⟨wK,O7⟩:∃wK,wK=wB.alloc (.cells #[.int .i64 N2,.slice fa fs.length fc] 24):=⟨_,rfl⟩;have Sn:Below wB.heap.size wB wK:=by rw[O7];exact(aaE _ _).alloc (aaD _) _
     have N7:Hid (wK.heap[wB.heap.size]? =some (.cells #[.int .i64 N2,.slice fa fs.length fc] 24 (0,0))):=by rw[O7];exact heap_alloc_new wB _
     have Oo:=ζ (ID.out.later Sn);have Xe:=ζ (Iy.out.later Sn);have V9:=ζ O7;clear Sn O7 ID Iy;go_wp2_with fail;rw[<-V9.out];have Ex:Below wK.heap.size wK wK.drew:=(aaE _ _).drew;have S3:Hid (∀V,Below wK.heap.size wK V->(V.cell? ⟨wB.heap.size,0,none⟩=some (.int .i64 (N2))/\V.cell? ⟨wB.heap.size,1,none⟩=some (.slice fa fs.length fc)/\V.cell? ⟨w.heap.size+1,0,none⟩=some (.bool pl)/\V.cell? ⟨w.heap.size+1,1,none⟩=some (.slice xo M xc)/\V.cell? ⟨w.heap.size+1,2,none⟩=some (.slice eo L ec)/\Below wK.heap.size wK V)):=fun V hV=>by
      obtain⟨-,-,k2,k3,k4,-⟩:=dQ.out _ (Oo.out.later hV);obtain⟨x0,x1,-⟩:=af ((hV.block _ (lt_of_block N7.out)).trans N7.out);exact⟨x0,x1,k2,k3,k4,hV⟩
     have N0:Hid (∀V,Below wK.heap.size wK V->Below w.heap.size w V):=fun V hV=>Oo.out.low.trans (hV.mono Oo.out.low.size)
     obtain⟨x0,x1,k2,k3,k4,-⟩:=S3.out _ (aaE _ _);go_wp2_with fail
     go_region_held3 (fun V=>V.cell? ⟨wB.heap.size,0,none⟩=some (.int .i64 (N2))/\V.cell? ⟨wB.heap.size,1,none⟩=some (.slice fa fs.length fc)/\V.cell? ⟨w.heap.size+1,0,none⟩=some (.bool pl)/\V.cell? ⟨w.heap.size+1,1,none⟩=some (.slice xo M xc)/\V.cell? ⟨w.heap.size+1,2,none⟩=some (.slice eo L ec)/\Below wK.heap.size wK V)
      (exact S3.out _ (by first|assumption|exact Ex))
      (first
        |(go_at_call 12;refine(FR.out _ (N0.out _ (by first|assumption|exact Ex))).mono ?_;rintro e w5 ⟨rD,ya,yb,yc,za,zb,zc,rfl,xJ,hrw⟩;have oT:Below wK.heap.size wK w5:=abL (by first|assumption|exact Ex) (rD.mono (acm (by first|assumption|exact Ex))))
        |(go_at_call 10;refine(Iu.out _ (N2) fs _ _ _ _ _ _ _ (Xe.out.later oT) (ZB.out w) xJ hrw (N0.out _ oT)).mono ?_;rintro e w6 ⟨rfl,uz⟩;have pV:Below wK.heap.size wK w6:=oT.trans (uz.mono oT.size)))
     obtain⟨wE,rfl⟩:∃wE,wE=w6:=⟨_,rfl⟩;have gw:=ζ (Oo.out.later pV);have ZF:=ζ ((pV.block _ (lt_of_block N7.out)).trans N7.out);clear oT pV rD uz xJ hrw S3 N0 Ex x0 x1 k2 k3 k4 Oo Xe N7;have Oq:Hid (∀_:c2=0,N2=n/\Si.Val n fs/\∀x∈es,x∈fs):=fun h=>Ck.Ma (Si.aJ.1 zS.out) WQ.out h
     obtain⟨kB,R3⟩:∃kB,Ck.code N2 fs ⟨pl,ls,xs⟩=kB:=⟨_,rfl⟩;have Zx:=ζ R3;rw[R3];clear R3;have Xl:Hid (c2=0->(pl=true->N<fs.length->kB=182)/\(pl=false->kB=0)):=fun h0=>by
      obtain⟨e1,e2,e3⟩:=Oq.out h0;have h4:=Ck.Hs HK.out e2 e3;have h5:=Zx.out;rw[e1] at h5;rw[<-HN.out,<-h5];exact h4
     obtain⟨k0,k1,k2,k3,k4,-⟩:=dQ.out _ gw.out;obtain⟨x0,x1,-⟩:=af ZF.out;have FK:=ζ gw.out.low;cases pl with
     |true=>
      have hA:kA=182:=HA.out;have YO:(kA==182)=true:=by rw[hA];rfl
      have Xw:=ζ hA;clear hA;by_cases h0:c2=0
      .have hc0:(c2==0)=true:=by rw[h0];rfl
       by_cases hg:(N:Int)<(fs.length:Int)
       .have hB:(kB==182)=true:=by rw[(Xl.out h0).1 rfl (by omega)];rfl
        clear h0;go_wp2;go_ret;exact⟨rfl,FK.out⟩
       .clear h0
        go_wp2;go_ret;exact⟨rfl,FK.out⟩
      .have hc0:(c2==0)=false:=by simpa using h0
       clear h0;go_wp2;go_ret;exact⟨rfl,FK.out⟩
     |false=>
      have hA:kA=0:=HA.out;have YO:(kA==0)=true:=by rw[hA];rfl
      clear hA;by_cases h0:c2=0
      .have hc0:(c2 != 0)=false:=by rw[h0];rfl
       have hB:(kB==0)=true:=by rw[(Xl.out h0).2 rfl];rfl
       clear h0;go_wp2;go_ret;exact⟨rfl,FK.out⟩
      .have hc0:(c2 != 0)=true:=by simpa using h0
       clear h0;go_wp2;go_ret;exact⟨rfl,FK.out⟩
    .have gQ:(k != 0)=true:=by simp[hk0]
     have Th:=ζ tK.out.low;clear hk0;go_wp2;go_ret;exact⟨rfl,Th.out⟩
theorem contract (H:Type) (enc:TypeId×Value->H) (W:World) (base:Nat) (args:Array Value) (ds gs:List (DataW H)) (before:List MemPlace)
 (hval:∀(j:Nat) t v,Tryz.f8.params[j]? =some t->args[j]? =some v->Value.okWide prog W .any base t v)
 (hW:DataW.Whole enc prog Tryz.f8.params.toList Rows.checkMoreSpec.vars false W args.toList ds gs before)
 (hsz:(DataW.weightsEach prog (Tryz.f8.params.toList++(Rows.OpenSpec.upto Rows.checkMoreSpec).bare.plain.varTypes prog) (ds++gs)).all (·<=reachBytes)=true)
 (hk:Rows.uptoSmall H (ds++gs)=true)
 (hL:laidMet prog listed W):
 Calls prog 8 args W fun e W'=>∃v,e= .returned v/\Rows.checkMoreSpec.post enc prog Tryz.f8 false true false false W args v W':=by
 have YC:=hW;obtain⟨p,q,VR,hV,rfl,hfz,hnd⟩:=hW;have hA:DataW.TrodAll enc prog W 0 (fun _=>true) true Tryz.f8.params.toList args.toList ds p:=VR;rw[Tryz.params8] at hA hval hsz;obtain⟨v0,vs0,d0,ds0,p0,q0,hargs,rfl,rfl,h0,r0⟩:=trodAll_cons hA;obtain⟨v1,vs1,d1,ds1,p1,q1,rfl,rfl,rfl,h1,r1⟩:=trodAll_cons r0;obtain⟨v2,vs2,d2,ds2,p2,q2,rfl,rfl,rfl,h2,r2⟩:=trodAll_cons r1;obtain⟨rfl,rfl,rfl⟩:=trodAll_nil r2;obtain rfl:args= #[v0,v1,v2]:=by cases args;simp_all
 obtain⟨rfl,rfl⟩:=trodVars_none hV;have k0:=h0;have XT:∀x∈p0,x.block<W.heap.size:=by obtain⟨m,hm⟩:=k0;exact DataW.trod_lt m _ _ _ hm
 obtain⟨n0,a0,VY,q0,rfl,x0,w0,u0⟩:=yh (j:=0) (hval 0 24 v0 rfl rfl) h0 hsz rfl rfl;have k1:=h1;have XS:∀x∈p1,x.block<W.heap.size:=by obtain⟨m,hm⟩:=k1;exact DataW.trod_lt m _ _ _ hm
 obtain⟨p1,a1,c1,l1,b1,e1,s1,rfl,w1⟩:=vu (j:=1) (hval 1 27 v1 rfl rfl) h1 hk rfl;have k2:=h2;have XR:∀x∈p2,x.block<W.heap.size:=by obtain⟨m,hm⟩:=k2;exact DataW.trod_lt m _ _ _ hm
 obtain⟨q2,rfl,w2⟩:=Bo (hval 2 57 v2 rfl rfl) h2;clear VR;refine(walk n0 a0 VY q0 p1 a1 c1 l1 b1 e1 s1 q2 W x0 w0 u0 w1 w2 (table hL)).mono fun e W' ⟨he,fK⟩=> ?_
 subst he;exact⟨_,rfl,_,_,_,[],_,[],YC,trodAll_mk1 (shut_bool Tryz.underlying4 _),(trodAll_cons_mk (Below.trod laidOut (by kernel_rfl) (of_decide_eq_true (by kernel_rfl)) k0 fK XT) (trodAll_cons_mk (Below.trod laidOut (by kernel_rfl) (of_decide_eq_true (by kernel_rfl)) k1 fK XS) (trodAll_cons_mk (Below.trod laidOut (by kernel_rfl) (of_decide_eq_true (by kernel_rfl)) k2 fK XR) trodAll_mk0))),rfl,fK.frame _,fun h=>by cases h⟩
theorem laid_met (os:Os):laidMet prog Rows.checkMoreUptoRow.laid ((pU os).forCall (fun _ _=>0) ⟨#[],#[.agg #[.int .i64 0,.slice none 0 0],.agg #[.bool false,.slice none 0 0,.slice none 0 0],.agg #[.int .i64 0,.int .i64 0]],[]⟩).memory:=
 laidMet_of_run' 100 (by kernel_rfl) (by kernel_rfl)
theorem reads (os:Os) {H:Type} (enc:TypeId×Value->H):∃places,DataW.whole enc prog ((pU os).forCall (fun _ _=>0) ⟨#[],#[.agg #[.int .i64 0,.slice none 0 0],.agg #[.bool false,.slice none 0 0,.slice none 0 0],.agg #[.int .i64 0,.int .i64 0]],[]⟩).memory Tryz.f8.params.toList Rows.checkMoreSpec.vars false (#[.agg #[.int .i64 0,.slice none 0 0],.agg #[.bool false,.slice none 0 0,.slice none 0 0],.agg #[.int .i64 0,.int .i64 0]]:Array Value).toList 8=some ([.agg [.lit (.int .i64 0),.nil],.agg [.lit (.bool false),.nil,.nil],.agg [.lit (.int .i64 0),.lit (.int .i64 0)]],[],places):=
 ⟨[],by kernel_rfl⟩
theorem lifted (os:Os) (started:os.Started) (H:Type) (enc:TypeId×Value->H) (F:Stop.Interp):
 ReturnsInHanded {} Tryz.checked os 8 .any ((Rows.OpenSpec.upto Rows.checkMoreSpec).preRow enc prog Tryz.f8 Rows.checkMoreUptoRow.domain false Rows.checkMoreUptoRow.laid) (((Rows.OpenSpec.upto Rows.checkMoreSpec).at F).post enc prog Tryz.f8 false true false false):=by
 obtain⟨places,hx⟩:=reads os enc
 refine returnsInHanded_of_row (C:=Tryz.checked) (s:=(Rows.OpenSpec.upto Rows.checkMoreSpec)) own started (by kernel_rfl) func8
  (witness_row_at (enc:=enc) (C:=Tryz.checked) false (pU os) #[.agg #[.int .i64 0,.slice none 0 0],.agg #[.bool false,.slice none 0 0,.slice none 0 0],.agg #[.int .i64 0,.int .i64 0]] rfl (by kernel_rfl) (by kernel_rfl) (by kernel_rfl)
    (OpenSpec.preRow_of_cond 8 hx (by kernel_rfl) (fun k hk=>by cases hk;kernel_rfl) (by kernel_rfl) (laid_met os))) ?_
 intro W base args ds gs before hval hW _ Sk hsz hL _ _;exact contract H enc W base args ds gs before hval hW hsz (Sk _ rfl) hL
theorem said:Rows.CheckMoreUptoSaid:=
 OpenClaim.holds_of_cond 8 Tryz.f8 rfl rfl rfl rfl rfl rfl rfl ⟨rfl,rfl,rfl,rfl,rfl⟩ rfl rfl rfl rfl rfl (by kernel_rfl) func8 Q9.closed
  (of_decide_eq_true (by kernel_rfl)) (by unfold Func.isWrapper;first|(rw[if_pos (by decide +kernel)];kernel_rfl)|(rw[if_neg (by decide +kernel)];exact⟨rfl,rfl⟩))
  (fun os started H enc _ F=>by rw[OpenClaim.pre_eq_preRow];exact lifted os started H enc F)
theorem plain (f:FuncId) (fn:Func) (hf:Tryz.pinned.checked.prog.funcNamed "tangram/tangramlaw18.CheckMore"=some f) (hfn:Tryz.pinned.checked.prog.funcs[f]? =some fn):
 true=Tryz.pinned.checked.prog.looks []/\∀(j:Nat) t,fn.params[j]? =some t->Tryz.pinned.checked.prog.wantsStandIn t=false:=by
 obtain rfl:f=8:=aaQ ((show prog.funcNamed "tangram/tangramlaw18.CheckMore"=some 8 by kernel_rfl).symm.trans hf) |>.symm;obtain rfl:fn=Tryz.f8:=(aaQ (func8.symm.trans hfn)).symm;refine⟨by kernel_rfl,fun j t ht=> ?_⟩;rw[Tryz.params8] at ht;obtain hx:t=24\/t=27\/t=57:=by simpa using Array.mem_of_getElem? ht
 rcases hx with rfl|rfl|rfl
 .exact(show prog.wantsStandIn 24=false by kernel_rfl)
 .exact(show prog.wantsStandIn 27=false by kernel_rfl)
 .exact(show prog.wantsStandIn 57=false by kernel_rfl)
theorem card:Rows.CheckMoreUptoCardSaid:=
 Claim7.holds_tied_plain_at .later [] _ _ _ _ said (fun _ h=>by cases h) (by kernel_rfl) (fun _ h=>by cases h) checkMoreUpto_row_tie rfl ⟨rfl,rfl⟩ (by kernel_rfl) rfl plain (by kernel_rfl)
end I8
theorem checkMoreUpto_holds:Rows.CheckMoreUptoCardSaid:=I8.card
#print axioms checkMoreUpto_holds
end Go.Proofs.YtdbjpbjocmcpkaaGreatDoor
