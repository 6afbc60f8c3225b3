/-
  Proved: for every graph, forest and list of numbers the law LrOwn answers true, and all reads afterwards as before. No condition.
-/
import Derived.Test.YtdjmnpmdmjclhabGreatMg40
import Derived.Test.YtdjmnpmdmjclhabGreatMg04
import Derived.Test.YtdjmnpmdmjclhabGreatMg07
import Derived.Test.YtdjmnpmdmjclhabGreatMg05
import Derived.Deep.RegionHeld3
import Derived.Deep.Cut
namespace Go.Proofs.YtdjmnpmdmjclhabGreat
open Go.ChangeShapes Go.WideShapes Go.ChangeAt Go.RowKit
namespace D5
theorem NV {w:World} {B g k c:Nat} {es:List (Int×Int)} (h:fj w B (.slice (some ⟨g,0,none⟩) k c) es):es.length≤c:=by
 rcases h.2 with ⟨h,_⟩|⟨g',cap,cur,e,hb,hh,hc,_⟩
 ·cases h
 ·injection e with _ _ e3
  omega
set_option maxRecDepth 100000 in
set_option maxHeartbeats 32000000 in
theorem Zr (n:Int) (ao:Option Addr) (ca:Nat) (es:List (Int×Int)) (f:For) (s:Df.St) (pa:Option Addr) (k pc:Nat) (ps:List Int) (w:World) (YE:aQ w ao es) (hnil:ao=none→ca=0) (hl:es.length*16≤140737488351232) (hF:dI w f s) (hP:gI w pa k pc ps) (hk:k≤17592186043904):
 Calls Tryz.prog 4 #[.agg #[.int .i64 n,.slice ao es.length ca,.slice f.a1 s.par.length f.c1,.slice f.a2 s.az.length f.c2,.slice f.a3 s.ord.length f.c3,.slice f.a4 s.aJ.length f.c4,.slice pa k pc]] w fun e w'=>e= .returned (.bool true)∧Below w.heap.size w w':=by
 obtain⟨i0,hi,hz0,hz1,hz2⟩:=info_parts Tryz.wW
 obtain⟨i1,hi1,hy0,hy1,hy2⟩:=info_parts Tryz.bO
 obtain⟨tl,tb,tz,wY,wZ⟩:=NC n es
 obtain⟨T,hT⟩:∃T,tl.length=T:=⟨_,rfl⟩
 rw[hT] at wY wZ
 obtain⟨a1,a2,a3,a4,c1,c2,c3,c4⟩:=f
 dsimp only
 obtain⟨W,hW⟩:∃W,W=w.alloc (.cells #[.int .i64 n,.slice ao es.length ca,.slice a1 s.par.length c1,.slice a2 s.az.length c2,.slice a3 s.ord.length c3,.slice a4 s.aJ.length c4,.slice pa k pc] 39):=⟨_,rfl⟩
 have hB0:Below w.heap.size w W:=by rw[hW];exact(aae _ _).alloc (aad _) _
 have g1:W.heap[w.heap.size]? =some (.cells #[.int .i64 n,.slice ao es.length ca,.slice a1 s.par.length c1,.slice a2 s.az.length c2,.slice a3 s.ord.length c3,.slice a4 s.aJ.length c4,.slice pa k pc] 39 (0,0)):=by rw[hW];exact heap_alloc_new w _
 have lt1:=lt_of_block g1
 have hat:=YE.later hB0
 have HFW:=Nu.hid (hF.later hB0)
 have HPW:=Nu.hid (hP.later hB0)
 have JD:=Nu.hid hat
 have vZ:Hid (∀V,Below W.heap.size W V→V.cell? ⟨w.heap.size,0,none⟩=some (.int .i64 n)∧V.cell? ⟨w.heap.size,1,none⟩=some (.slice ao es.length ca)∧V.cell? ⟨w.heap.size,2,none⟩=some (.slice a1 s.par.length c1)∧V.cell? ⟨w.heap.size,3,none⟩=some (.slice a2 s.az.length c2)∧V.cell? ⟨w.heap.size,4,none⟩=some (.slice a3 s.ord.length c3)∧V.cell? ⟨w.heap.size,5,none⟩=some (.slice a4 s.aJ.length c4)∧V.cell? ⟨w.heap.size,6,none⟩=some (.slice pa k pc)):=fun V hV=>by
  have kk:=(hV.block w.heap.size lt1).trans g1
  refine⟨?_,?_,?_,?_,?_,?_,?_⟩<;>simp[World.cell?,kk]
 have HCF:Hid (∀V,Below W.heap.size W V→Calls Tryz.prog 10 #[.agg #[.slice a1 s.par.length c1,.slice a2 s.az.length c2,.slice a3 s.ord.length c3,.slice a4 s.aJ.length c4]] V fun e V'=>∃a1 a2 a3 a4 c1 c2 c3 c4,e= .returned (.agg #[.slice a1 s.par.length c1,.slice a2 s.az.length c2,.slice a3 s.ord.length c3,.slice a4 s.aJ.length c4])∧dI V' ⟨a1,a2,a3,a4,c1,c2,c3,c4⟩ s∧Below V.heap.size V V'):=fun V hV=>OU ⟨a1,a2,a3,a4,c1,c2,c3,c4⟩ s V (HFW.out.later hV)
 have WG:Hid (∀V,Below W.heap.size W V→Calls Tryz.prog 11 #[.slice pa k pc] V fun e V'=>∃gb cb,e= .returned (.slice (some ⟨gb,0,none⟩) k cb)∧V'.ownsRow V.heap.size 3 1 (.slice (some ⟨gb,0,none⟩) k cb) k (ps.map (Value.int .i64))∧Below V.heap.size V V'):=fun V hV=>ya pa k pc ps V (HPW.out.later hV) hk
 have HAW:=Nu.hid (EL W)
 have lg:=Nu.hid hW
 have cZ:=Nu.hid hB0
 have vU:=Nu.hid hP.len
 have HTE:=Nu.hid wZ
 have HT:=Nu.hid hT
 clear hF g1 hB0 hW hat YE hP wZ hT
 rw[lg.out] at HAW
 go_enter Tryz.func4,Tryz.ntmps4
 go_wp2_with (go_at_call 5;refine HAW.out.mono ?_;rw[←lg.out];rintro e w1 ⟨rfl,hb1⟩;refine aaB ?_)
 refine Nu.hid ?_
 have aY:=Nu.hid hb1
 obtain⟨x0,x1,-,-,-,-,-⟩:=vZ.out w1 hb1
 have Uo:Hid (∀V,Below W.heap.size W V→Below w.heap.size w V):=fun V hV=>cZ.out.trans (hV.mono cZ.out.size)
 obtain⟨W2,hW2⟩:∃W2,W2=w1.alloc (.cells #[.int .i64 n,.slice ao es.length ca] 24):=⟨_,rfl⟩
 have hb2:Below w1.heap.size w1 W2:=by rw[hW2];exact(aae _ _).alloc (aad _) _
 have g2:W2.heap[w1.heap.size]? =some (.cells #[.int .i64 n,.slice ao es.length ca] 24 (0,0)):=by rw[hW2];exact heap_alloc_new w1 _
 have ct:=Nu.hid (hb1.trans (hb2.mono hb1.size))
 have iN:=Nu.hid g2
 have jD:=Nu.hid hW2
 have ak5:=hb1.size
 have ak9:w1.heap.size<W2.heap.size:=lt_of_block g2
 obtain⟨y0,y1,-⟩:=ay g2
 clear hb1 hb2 g2 hW2 HAW
 go_upto_region 4 with fail
 rw[←jD.out]
 clear x0 x1
 by_cases hm:3000<es.length
 ·have hm':(3000:Int)<(es.length:Int):=by omega
  go_wp2_with fail
  go_ret
  exact⟨rfl,Uo.out _ ct.out⟩
 by_cases hnn:20000<n
 ·have hm':¬(3000:Int)<(es.length:Int):=by omega
  go_wp2_with fail
  go_ret
  exact⟨rfl,Uo.out _ ct.out⟩
 have hm':¬(3000:Int)<(es.length:Int):=by omega
 have HCG:=Nu.hid (GV n ao ca es W2 (JD.out.later ct.out) hnil (by omega))
 unfold bX at HCG
 go_wp2_with (go_at_call 8;refine HCG.out.mono ?_;rintro e w4 ⟨gb,gc,rfl,Bi,hb4⟩;refine aaB ?_)
 refine Nu.hid ?_
 have HO4:=Nu.hid Bi
 have alC:=Nu.hid hb4
 have ak8:=hb4.size
 have hgb:=aa9 Bi gb rfl
 obtain⟨W5,VJ⟩:∃W5,W5=w4.alloc (.cells #[.int .i64 n,.slice (some ⟨gb,0,none⟩) es.length gc] 24):=⟨_,rfl⟩
 have hb5:Below w4.heap.size w4 W5:=by rw[VJ];exact(aae _ _).alloc (aad _) _
 have g5:W5.heap[w4.heap.size]? =some (.cells #[.int .i64 n,.slice (some ⟨gb,0,none⟩) es.length gc] 24 (0,0)):=by rw[VJ];exact heap_alloc_new w4 _
 have ahp:=Nu.hid (hb4.trans (hb5.mono hb4.size))
 have HG5:=Nu.hid g5
 have vQ:=Nu.hid VJ
 have WJ:=Nu.hid (Bi.below hb5 (aad _))
 have aeb:w4.heap.size<W5.heap.size:=lt_of_block g5
 obtain⟨z0,z1,-⟩:=ay g5
 clear Bi hb4 hb5 g5 VJ y0 y1 HCG hm hnn hm'
 go_upto_region 7 with fail
 rw[←vQ.out]
 go_wp2_with (at_builtin;refine wpList_append_own_at _ rfl _ _ 22 rfl W2.heap.size 33 i0 (.agg #[.int .i64 0,.int .i64 0]) 2 16 Tryz.underlying22 hi hz0 hz1 hz2 rfl (by decide) _ _ _ rfl (WJ.out.alloc _) ⟨W5.heap.size,0,none⟩ 1 1 [.int .i64 (-5),.int .i64 (-6)] rfl rfl (abZ (heap_alloc_new W5 _)) (by simp[Value.oneCell']) (by unfold maxLen;omega) (by omega) (by simp;omega) ?_;refine aaB ?_)
 refine Nu.hid ?_
 intro v' w6 KM Ow _ YA
 obtain⟨ge,ce,hv'⟩:∃ge ce,v'= .slice (some ⟨ge,0,none⟩) (es.length+1) ce:=by
  rcases KM.2 with ⟨_,h0⟩|⟨g,cap,cur,e,_⟩
  ·omega
  ·exact⟨g,cap,e⟩
 subst hv'
 have Vl:fj w6 W2.heap.size (.slice (some ⟨ge,0,none⟩) (es.length+1) ce) (es++[(-5,-6)]):=by
  have e:jm (es++[(-5,-6)])=jm es++[.int .i64 (-5),.int .i64 (-6)]:=by simp[jm]
  unfold fj
  rw[e,aaA]
  exact KM
 have ru:Below W2.heap.size W2 w6:=by
  have h1:=ahp.out
  exact(h1.alloc h1.size _).grown Ow (by simp;omega) (fun b hb=>by
      have:gb=b:=by simpa[Value.ownBlock] using hb
      omega)
 have g6:w6.heap[w4.heap.size]? =some (.cells #[.int .i64 n,.slice (some ⟨gb,0,none⟩) es.length gc] 24 (0,0)):=by
  rw[Ow.block w4.heap.size (by simp;omega) (fun e=>by
      have:gb=w4.heap.size:=by simpa[Value.ownBlock] using e.symm
      omega)]
  exact(aap _ _ _ aeb).trans HG5.out
 have hge:=aa9 Vl ge rfl
 have RI:ge≠w4.heap.size:=by
  rcases YA with e|e
  ·have:ge=gb:=by simpa[Value.ownBlock] using e
   omega
  ·have:ge=W5.heap.size+1:=by simpa[Value.ownBlock] using e
   omega
 have hce:es.length+1≤ce:=by
  have:=NV Vl
  simpa using this
 obtain⟨u0,u1,uf⟩:=ay g6
 have uf1:=uf 1
 obtain⟨W7,zv⟩:∃W7,W7=w6.setCell ⟨w4.heap.size,1,none⟩ (.slice (some ⟨ge,0,none⟩) (es.length+1) ce):=⟨_,rfl⟩
 have g7:W7.heap[w4.heap.size]? =some (.cells #[.int .i64 n,.slice (some ⟨ge,0,none⟩) (es.length+1) ce] 24 (0,0)):=by
  rw[zv,heap_setCell_same w6 w4.heap.size 1 _ _ _ g6]
  rfl
 have kY:Below W2.heap.size W2 W7:=by rw[zv];exact ru.setCell (p:=⟨w4.heap.size,1,none⟩) (by show W2.heap.size≤w4.heap.size;omega) _
 have ho7:fj W7 W2.heap.size (.slice (some ⟨ge,0,none⟩) (es.length+1) ce) (es++[(-5,-6)]):=by
  refine mz Vl fun g hg _ _=> ?_
  have e:ge=g:=by simpa[Value.ownBlock] using hg
  rw[zv]
  exact heap_setCell_other w6 ⟨w4.heap.size,1,none⟩ g _ (fun e2=>RI (by rw[e];exact e2))
 have Dz:=Nu.hid kY
 have zI:=Nu.hid g7
 have HO7:=Nu.hid ho7
 have Tp:=Nu.hid zv
 have ak7:W5.heap.size≤W7.heap.size:=by
  have h1:=Ow.size
  rw[zv]
  simp at h1 ⊢
  omega
 have HCE:=Nu.hid hce
 clear KM YA Ow Vl ru g6 RI hce u0 uf zv g7 kY ho7 z0 z1 HO4 WJ hgb hge
 go_upto_region 8 with fail
 rw[←Tp.out]
 clear u1 uf1
 have Y1:Hid (∀V,Below W7.heap.size W7 V→(V.cell? ⟨w1.heap.size,0,none⟩=some (.int .i64 n)∧V.cell? ⟨w1.heap.size,1,none⟩=some (.slice ao es.length ca))∧V.cell? ⟨w4.heap.size,1,none⟩=some (.slice (some ⟨ge,0,none⟩) (es.length+1) ce)∧Below W7.heap.size W7 V):=fun V hV=>by
  have h2:=Dz.out.trans (hV.mono Dz.out.size)
  obtain⟨q0,q1,-⟩:=ay ((h2.block _ (lt_of_block iN.out)).trans iN.out)
  obtain⟨-,q3,-⟩:=ay ((hV.block _ (lt_of_block zI.out)).trans zI.out)
  exact⟨⟨q0,q1⟩,q3,hV⟩
 have i1:(0:Int)≤(es.length:Int):=by omega
 have i2:(es.length:Int)≤(es.length:Int)+1:=by omega
 have i3:(es.length:Int)≤(ce:Int):=by have:=HCE.out;omega
 have Yt:Below W7.heap.size W7 W7.drew:=(aae _ _).drew
 go_region_held3 (fun V=>(V.cell? ⟨w1.heap.size,0,none⟩=some (.int .i64 n)∧V.cell? ⟨w1.heap.size,1,none⟩=some (.slice ao es.length ca))∧V.cell? ⟨w4.heap.size,1,none⟩=some (.slice (some ⟨ge,0,none⟩) (es.length+1) ce)∧Below W7.heap.size W7 V)
  (exact Y1.out _ (by first|assumption|exact Yt|exact((aae W7.heap.size W7).alloc (aad _) _).drew))
  (fail)
 obtain⟨W9,VI⟩:∃W9,W9=(W7.alloc (.cells #[.int .i64 n,.slice (some ⟨ge,0,none⟩) es.length ce] 24)).drew:=⟨_,rfl⟩
 have gm:Below W7.heap.size W7 W9:=by rw[VI];exact((aae _ _).alloc (aad _) _).drew
 have Gc:Hid (W9.heap[W7.heap.size]? =some (.cells #[.int .i64 n,.slice (some ⟨ge,0,none⟩) es.length ce] 24 (0,0))):=by rw[VI];exact heap_alloc_new W7 _
 rw[←VI]
 have UB:=Nu.hid gm
 have EF:Hid (Below W.heap.size W W2):=ct.out
 have ad8:=EF.out.size
 have Np:Hid (Below W.heap.size W W9):=EF.out.trans ((Dz.out.trans (gm.mono Dz.out.size)).mono ad8)
 clear i1 i2 i3 Yt Y1 VI gm
 obtain⟨-,-,x2,x3,x4,x5,-⟩:=vZ.out W9 Np.out
 have Uv:=Nu.hid (HCF.out W9 Np.out)
 go_wp2_with (go_at_call 10;refine Uv.out.mono ?_;rintro e mE ⟨e1,e2,e3,e4,d1,d2,d3,d4,rfl,YL,MW⟩;refine aaB ?_)
 refine Nu.hid ?_
 obtain⟨B9,MX⟩:∃B9,B9=mE.alloc (.cells #[.slice e1 s.par.length d1,.slice e2 s.az.length d2,.slice e3 s.ord.length d3,.slice e4 s.aJ.length d4] 36):=⟨_,rfl⟩
 have Sh:Below mE.heap.size mE B9:=by rw[MX];exact(aae _ _).alloc (aad _) _
 have Nn:Hid (B9.heap[mE.heap.size]? =some (.cells #[.slice e1 s.par.length d1,.slice e2 s.az.length d2,.slice e3 s.ord.length d3,.slice e4 s.aJ.length d4] 36 (0,0))):=by rw[MX];exact heap_alloc_new mE _
 have Zi:=Nu.hid (YL.later Sh)
 have Gh:=Nu.hid (MW.trans (Sh.mono MW.size))
 have Gg:=Nu.hid (Np.out.trans (Gh.out.mono Np.out.size))
 have af7:=Nu.hid MX
 have ah8:W9.heap.size≤mE.heap.size∧mE.heap.size<B9.heap.size:=⟨MW.size,lt_of_block Nn.out⟩
 clear YL MW Sh MX Uv
 go_upto_region 10 with fail
 rw[←af7.out]
 clear x2 x3 x4 x5
 obtain⟨-,-,-,-,-,-,x6⟩:=vZ.out B9 Gg.out
 have Zk:=Nu.hid (WG.out B9 Gg.out)
 go_wp2_with (first
  |(go_at_call 11;refine Zk.out.mono ?_;rintro e w12 ⟨gp,cp,rfl,XX,Sg⟩;have TY:=Nu.hid XX;have UE:=Nu.hid Sg;clear XX Sg)
  |(at_builtin;refine wpList_append_own_at _ rfl _ _ 37 rfl B9.heap.size 3 i1 (.int .i64 0) 1 8 Tryz.underlying37 hi1 hy0 hy1 hy2 rfl (by decide) _ _ _ rfl (abo TY.out _) ⟨w12.heap.size,0,none⟩ 2 2 [.int .i64 7,.int .i64 8] rfl rfl (abZ (heap_alloc_new w12 _)) (by simp[Value.oneCell']) (by unfold maxLen;omega) (by omega) (by have:=UE.out.size;simp;omega) ?_;refine aaB ?_))
 refine Nu.hid ?_
 intro v13 X vg Yn _ aaV
 obtain⟨gf,cf,rfl⟩:∃gf cf,v13= .slice (some ⟨gf,0,none⟩) (k+2) cf:=by
  rcases vg.2 with ⟨_,h0⟩|⟨g,cap,cur,e,_⟩
  ·omega
  ·exact⟨g,cap,e⟩
 have OA:k+2≤cf:=by
  rcases vg.2 with ⟨_,h0⟩|⟨g,cap,cur,e,_,_,h1,_⟩
  ·omega
  ·injection e with _ _ e3
   omega
 have zP:Below B9.heap.size B9 X:=by
  have h1:=UE.out
  exact(h1.alloc h1.size _).grown Yn (by have:=h1.size;simp;omega) (fun b hb=>by
      have e:gp=b:=by simpa[Value.ownBlock] using hb
      have:=(aa9 TY.out gp rfl).1
      omega)
 have hfc:∀(i:Nat) (x:Int),(ps++[7,8])[i]? =some x→X.cell? ⟨gf,i,none⟩=some (.int .i64 x):=fun i x hx=>by
  have h1:(ps.map (Value.int .i64)++[.int .i64 7,.int .i64 8])[i]? =some (.int .i64 x):=by
   have:(ps.map (Value.int .i64)++[.int .i64 7,.int .i64 8])=(ps++[7,8]).map (Value.int .i64):=by simp
   rw[this,aay,hx]
   rfl
  have c1:=abj vg (g:=gf) rfl i _ h1
  have ea:((⟨gf,0,none⟩:Addr).add i)=⟨gf,i,none⟩:=by
   by_cases h0:i=0<;>simp[Addr.add,h0]
  rwa[ea] at c1
 have Ym:=aa9 vg gf rfl
 have HFC:=Nu.hid hfc
 have Zj:=Nu.hid OA
 have xS:=Nu.hid zP
 have Zl:=Nu.hid (Gg.out.trans (zP.mono Gg.out.size))
 have QK:B9.heap.size≤X.heap.size:=zP.size
 clear vg Yn aaV hfc OA zP x6 Zk
 have HX9:Hid (∀V,Below X.heap.size X V→Below W9.heap.size W9 V):=fun V hV=>by
  have h1:=xS.out.trans (hV.mono xS.out.size)
  exact Gh.out.trans (h1.mono Gh.out.size)
 have FZ:Hid (∀V,Below X.heap.size X V→Below W7.heap.size W7 V):=fun V hV=>UB.out.trans ((HX9.out V hV).mono UB.out.size)
 have F0:Hid (∀V,Below X.heap.size X V→Below W2.heap.size W2 V):=fun V hV=>Dz.out.trans ((FZ.out V hV).mono Dz.out.size)
 have Ci:Hid (∀V,Below X.heap.size X V→Below W.heap.size W V):=fun V hV=>Zl.out.trans (hV.mono Zl.out.size)
 have R5:Hid (∀V,Below X.heap.size X V→V.cell? ⟨W7.heap.size,0,none⟩=some (.int .i64 n)∧V.cell? ⟨W7.heap.size,1,none⟩=some (.slice (some ⟨ge,0,none⟩) es.length ce)):=fun V hV=>by
  obtain⟨q0,q1,-⟩:=ay (((HX9.out V hV).block _ (lt_of_block Gc.out)).trans Gc.out)
  exact⟨q0,q1⟩
 have R6:Hid (∀V,Below X.heap.size X V→V.cell? ⟨mE.heap.size,0,none⟩=some (.slice e1 s.par.length d1)∧V.cell? ⟨mE.heap.size,1,none⟩=some (.slice e2 s.az.length d2)∧V.cell? ⟨mE.heap.size,2,none⟩=some (.slice e3 s.ord.length d3)∧V.cell? ⟨mE.heap.size,3,none⟩=some (.slice e4 s.aJ.length d4)):=fun V hV=>by
  have h1:=xS.out.trans (hV.mono xS.out.size)
  obtain⟨r0,r1,r2,r3,-⟩:=au ((h1.block _ (lt_of_block Nn.out)).trans Nn.out)
  exact⟨r0,r1,r2,r3⟩
 have R3:Hid (∀V,Below X.heap.size X V→V.cell? ⟨w1.heap.size,0,none⟩=some (.int .i64 n)∧V.cell? ⟨w1.heap.size,1,none⟩=some (.slice ao es.length ca)):=fun V hV=>by
  obtain⟨q0,q1,-⟩:=ay (((F0.out V hV).block _ (lt_of_block iN.out)).trans iN.out)
  exact⟨q0,q1⟩
 have R4:Hid (∀V,Below X.heap.size X V→V.cell? ⟨w4.heap.size,1,none⟩=some (.slice (some ⟨ge,0,none⟩) (es.length+1) ce)):=fun V hV=>by
  obtain⟨-,q1,-⟩:=ay (((FZ.out V hV).block _ (lt_of_block zI.out)).trans zI.out)
  exact q1
 have RE:Hid (∀V,Below X.heap.size X V→aQ V (some ⟨ge,0,none⟩) (es++[(-5,-6)])):=fun V hV=>by
  obtain⟨a,c,e,_,_,h1,_⟩:=(HO7.out.below (FZ.out V hV) (aad _)).form
  injection e with q1 q2 q3
  rw[q1]
  exact h1
 have Wm:Hid (∀V,Below X.heap.size X V→aQ V (some ⟨ge,0,none⟩) es):=fun V hV j p hj=>RE.out V hV j p (by rw[abI (aas.1 hj).1];exact hj)
 have RL:Hid (∀V,Below X.heap.size X V→V.cell? ⟨ge,es.length*2,none⟩=some (.int .i64 (-5))∧V.cell? ⟨ge,es.length*2+1,none⟩=some (.int .i64 (-6))):=fun V hV=>by
  obtain⟨fb,fo,efo,f0,f1⟩:=RE.out V hV es.length (-5,-6) (by simp)
  cases efo
  rw[abv] at f0 f1
  exact⟨f0,f1⟩
 have RF:Hid (∀V,Below X.heap.size X V→dI V ⟨e1,e2,e3,e4,d1,d2,d3,d4⟩ s∧dI V ⟨a1,a2,a3,a4,c1,c2,c3,c4⟩ s):=fun V hV=>⟨Zi.out.later (xS.out.trans (hV.mono xS.out.size)),HFW.out.later (Ci.out V hV)⟩
 have RP:Hid (∀V,Below X.heap.size X V→gI V (some ⟨gf,0,none⟩) k cf ps∧gI V pa k pc ps∧V.cell? ⟨gf,k,none⟩=some (.int .i64 7)∧V.cell? ⟨gf,k+1,none⟩=some (.int .i64 8)):=fun V hV=>by
  have hc:∀(i:Nat) (x:Int),(ps++[7,8])[i]? =some x→V.cell? ⟨gf,i,none⟩=some (.int .i64 x):=fun i x hx=>(hV.cell (p:=⟨gf,i,none⟩) Ym.2).trans (HFC.out i x hx)
  refine⟨⟨vU.out,fun j x hj=>⟨gf,0,rfl,?_⟩,fun e=>by cases e⟩,HPW.out.later (Ci.out V hV),hc k 7 ?_,hc (k+1) 8 ?_⟩
  ·rw[abv]
   exact hc j x (by rw[abI (aas.1 hj).1];exact hj)
  ·rw[ab2 (by rw[vU.out];exact aad _),vU.out]
   simp
  ·rw[ab2 (by rw[vU.out];omega),vU.out]
   simp
 have LY:Hid (∀V,Below X.heap.size X V→Calls Tryz.prog 12 #[.agg #[.int .i64 n,.slice (some ⟨ge,0,none⟩) es.length ce],.agg #[.slice e1 s.par.length d1,.slice e2 s.az.length d2,.slice e3 s.ord.length d3,.slice e4 s.aJ.length d4],.slice (some ⟨gf,0,none⟩) k cf] V fun e V'=>(∃b z,e= .returned (.tuple #[.bool b,.int .i64 z]))∧Below V.heap.size V V'):=fun V hV=>(Hg n (some ⟨ge,0,none⟩) ce es e1 e2 e3 e4 d1 d2 d3 d4 s (some ⟨gf,0,none⟩) cf k ps V (Wm.out V hV) (by omega) (RF.out V hV).1 (RP.out V hV).1).mono fun e V' h=>⟨⟨_,_,h.1⟩,h.2⟩
 have jr:Hid (∀V,Below X.heap.size X V→Calls Tryz.prog 13 #[.agg #[.int .i64 n,.slice (some ⟨ge,0,none⟩) es.length ce]] V fun e V'=>∃a c,e= .returned (.tuple #[.slice a T c,.bool tb,.int .i64 tz])∧aP V' V.heap.size (.slice a T c) tl∧Below V.heap.size V V'):=fun V hV=>HTE.out _ _ V (Wm.out V hV) (by omega)
 have HPN:Hid (∀V,Below X.heap.size X V→Calls Tryz.prog 14 #[.agg #[.int .i64 n,.slice (some ⟨ge,0,none⟩) es.length ce]] V fun e V'=>(∃b z,e= .returned (.tuple #[.bool b,.int .i64 z]))∧Below V.heap.size V V'):=fun V hV=>GY n es _ _ V (Wm.out V hV) (by omega)
 have HSG:Hid (∀V,Below X.heap.size X V→Calls Tryz.prog 15 #[.agg #[.int .i64 n,.slice (some ⟨ge,0,none⟩) es.length ce],.agg #[.int .i64 n,.slice ao es.length ca]] V fun e V'=>e= .returned (.bool true)∧Below V.heap.size V V'):=fun V hV=>GS n (some ⟨ge,0,none⟩) ao ce ca es V (Wm.out V hV) (JD.out.later (Ci.out V hV)) (by omega)
 have HSF:Hid (∀V,Below X.heap.size X V→Calls Tryz.prog 16 #[.agg #[.slice e1 s.par.length d1,.slice e2 s.az.length d2,.slice e3 s.ord.length d3,.slice e4 s.aJ.length d4],.agg #[.slice a1 s.par.length c1,.slice a2 s.az.length c2,.slice a3 s.ord.length c3,.slice a4 s.aJ.length c4]] V fun e V'=>e= .returned (.bool true)∧Below V.heap.size V V'):=fun V hV=>J2 ⟨e1,e2,e3,e4,d1,d2,d3,d4⟩ ⟨a1,a2,a3,a4,c1,c2,c3,c4⟩ s V (RF.out V hV).1 (RF.out V hV).2
 have HSI:Hid (∀V,Below X.heap.size X V→Calls Tryz.prog 17 #[.slice (some ⟨gf,0,none⟩) k cf,.slice pa k pc] V fun e V'=>e= .returned (.bool true)∧Below V.heap.size V V'):=fun V hV=>by
  obtain⟨r1,r2,-,-⟩:=RP.out V hV
  refine(kM (some ⟨gf,0,none⟩) pa cf pc k k ps ps V vU.out vU.out r1.ints r2.ints (by omega)).mono ?_
  rintro e V' ⟨h1,h2⟩
  exact⟨by rw[h1];simp,h2⟩
 clear iN HG5 zI Gc Nn HO7 TY HFC Zi Dz UB Gh UE
 have j1:(0:Int)≤(k:Int):=by omega
 have j2:(k:Int)≤(k:Int)+2:=by omega
 have j3:(k:Int)≤(cf:Int):=by have:=Zj.out;omega
 have IL:Below X.heap.size X X.drew:=(aae _ _).drew
 have YR:Hid (∀V,Below X.heap.size X V→(V.cell? ⟨W7.heap.size,0,none⟩=some (.int .i64 n)∧V.cell? ⟨W7.heap.size,1,none⟩=some (.slice (some ⟨ge,0,none⟩) es.length ce))∧(V.cell? ⟨mE.heap.size,0,none⟩=some (.slice e1 s.par.length d1)∧V.cell? ⟨mE.heap.size,1,none⟩=some (.slice e2 s.az.length d2)∧V.cell? ⟨mE.heap.size,2,none⟩=some (.slice e3 s.ord.length d3)∧V.cell? ⟨mE.heap.size,3,none⟩=some (.slice e4 s.aJ.length d4))∧V.cell? ⟨w.heap.size,6,none⟩=some (.slice pa k pc)∧Below X.heap.size X V):=fun V hV=>⟨R5.out V hV,R6.out V hV,(vZ.out V (Ci.out V hV)).2.2.2.2.2.2,hV⟩
 go_wp2_with fail
 go_region_held3 (fun V=>(V.cell? ⟨W7.heap.size,0,none⟩=some (.int .i64 n)∧V.cell? ⟨W7.heap.size,1,none⟩=some (.slice (some ⟨ge,0,none⟩) es.length ce))∧(V.cell? ⟨mE.heap.size,0,none⟩=some (.slice e1 s.par.length d1)∧V.cell? ⟨mE.heap.size,1,none⟩=some (.slice e2 s.az.length d2)∧V.cell? ⟨mE.heap.size,2,none⟩=some (.slice e3 s.ord.length d3)∧V.cell? ⟨mE.heap.size,3,none⟩=some (.slice e4 s.aJ.length d4))∧V.cell? ⟨w.heap.size,6,none⟩=some (.slice pa k pc)∧Below X.heap.size X V)
  (exact YR.out _ (by first|assumption|exact IL|exact aae _ _))
  ((first
    |(go_at_call 12;refine(LY.out _ (by first|assumption|exact IL|exact aae _ _)).mono ?_;rintro e FV ⟨⟨S3,z14,rfl⟩,XB⟩;have Yw:Below X.heap.size X FV:=acr (by first|assumption|exact IL|exact aae _ _) (XB.mono (acp (by first|assumption|exact IL|exact aae _ _))))))
 have yX:=Nu.hid Yw
 clear XB Yw LY YR IL j2 j3
 obtain⟨q0,q1⟩:=R5.out FV yX.out
 go_wp2_with (go_at_call 13;refine(jr.out _ yX.out).mono ?_;rintro e PE ⟨zg,AK,rfl,XW,Sd⟩;refine aaB ?_)
 refine Nu.hid ?_
 have A15:=Nu.hid XW
 have Xb:=Nu.hid Sd
 have Cz:=Nu.hid (yX.out.trans (Sd.mono yX.out.size))
 clear XW Sd q0 q1
 obtain⟨q0,q1⟩:=R5.out PE Cz.out
 go_wp2_with (go_at_call 13;refine(jr.out _ Cz.out).mono ?_;rintro e Zt ⟨NU,N5,rfl,XV,Sc⟩;refine aaB ?_)
 refine Nu.hid ?_
 have Xf:=Nu.hid XV
 have Gj:=Nu.hid Sc
 have Nr:=Nu.hid (Cz.out.trans (Sc.mono Cz.out.size))
 clear XV Sc q0 q1
 obtain⟨q0,q1⟩:=R5.out Zt Nr.out
 go_wp2_with (go_at_call 14;refine(HPN.out _ Nr.out).mono ?_;rintro e lB ⟨⟨S2,z17,rfl⟩,Sb⟩;refine aaB ?_)
 refine Nu.hid ?_
 have Gi:=Nu.hid Sb
 have EG:=Nu.hid (Nr.out.trans (Sb.mono Nr.out.size))
 clear Sb q0 q1
 have jg:Hid (∀D:LW lB,Below X.heap.size X D.val):=fun D=>EG.out.trans (D.h.mono EG.out.size)
 have q0:∀D:LW lB,D.val.cell? ⟨W7.heap.size,0,none⟩=some (.int .i64 n):=fun D=>(R5.out _ (jg.out D)).1
 have q1:∀D:LW lB,D.val.cell? ⟨W7.heap.size,1,none⟩=some (.slice (some ⟨ge,0,none⟩) es.length ce):=fun D=>(R5.out _ (jg.out D)).2
 have y0:∀D:LW lB,D.val.cell? ⟨w1.heap.size,0,none⟩=some (.int .i64 n):=fun D=>(R3.out _ (jg.out D)).1
 have y1:∀D:LW lB,D.val.cell? ⟨w1.heap.size,1,none⟩=some (.slice ao es.length ca):=fun D=>(R3.out _ (jg.out D)).2
 have y4:∀D:LW lB,D.val.cell? ⟨w4.heap.size,1,none⟩=some (.slice (some ⟨ge,0,none⟩) (es.length+1) ce):=fun D=>R4.out _ (jg.out D)
 have l0:∀D:LW lB,D.val.cell? ⟨ge,es.length*2,none⟩=some (.int .i64 (-5)):=fun D=>(RL.out _ (jg.out D)).1
 have l1:∀D:LW lB,D.val.cell? ⟨ge,es.length*2+1,none⟩=some (.int .i64 (-6)):=fun D=>(RL.out _ (jg.out D)).2
 have r0:∀D:LW lB,D.val.cell? ⟨mE.heap.size,0,none⟩=some (.slice e1 s.par.length d1):=fun D=>(R6.out _ (jg.out D)).1
 have r1:∀D:LW lB,D.val.cell? ⟨mE.heap.size,1,none⟩=some (.slice e2 s.az.length d2):=fun D=>(R6.out _ (jg.out D)).2.1
 have r2:∀D:LW lB,D.val.cell? ⟨mE.heap.size,2,none⟩=some (.slice e3 s.ord.length d3):=fun D=>(R6.out _ (jg.out D)).2.2.1
 have r3:∀D:LW lB,D.val.cell? ⟨mE.heap.size,3,none⟩=some (.slice e4 s.aJ.length d4):=fun D=>(R6.out _ (jg.out D)).2.2.2
 have x2:∀D:LW lB,D.val.cell? ⟨w.heap.size,2,none⟩=some (.slice a1 s.par.length c1):=fun D=>(vZ.out _ (Ci.out _ (jg.out D))).2.2.1
 have x3:∀D:LW lB,D.val.cell? ⟨w.heap.size,3,none⟩=some (.slice a2 s.az.length c2):=fun D=>(vZ.out _ (Ci.out _ (jg.out D))).2.2.2.1
 have x4:∀D:LW lB,D.val.cell? ⟨w.heap.size,4,none⟩=some (.slice a3 s.ord.length c3):=fun D=>(vZ.out _ (Ci.out _ (jg.out D))).2.2.2.2.1
 have x5:∀D:LW lB,D.val.cell? ⟨w.heap.size,5,none⟩=some (.slice a4 s.aJ.length c4):=fun D=>(vZ.out _ (Ci.out _ (jg.out D))).2.2.2.2.2.1
 have x6:∀D:LW lB,D.val.cell? ⟨w.heap.size,6,none⟩=some (.slice pa k pc):=fun D=>(vZ.out _ (Ci.out _ (jg.out D))).2.2.2.2.2.2
 have k7:∀D:LW lB,D.val.cell? ⟨gf,k,none⟩=some (.int .i64 7):=fun D=>(RP.out _ (jg.out D)).2.2.1
 have k8:∀D:LW lB,D.val.cell? ⟨gf,k+1,none⟩=some (.int .i64 8):=fun D=>(RP.out _ (jg.out D)).2.2.2
 have CG:Hid (∀D:LW lB,Calls Tryz.prog 15 #[.agg #[.int .i64 n,.slice (some ⟨ge,0,none⟩) es.length ce],.agg #[.int .i64 n,.slice ao es.length ca]] D.val fun e V'=>e= .returned (.bool true)∧Below D.val.heap.size D.val V'):=fun D=>HSG.out _ (jg.out D)
 have CF:Hid (∀D:LW lB,Calls Tryz.prog 16 #[.agg #[.slice e1 s.par.length d1,.slice e2 s.az.length d2,.slice e3 s.ord.length d3,.slice e4 s.aJ.length d4],.agg #[.slice a1 s.par.length c1,.slice a2 s.az.length c2,.slice a3 s.ord.length c3,.slice a4 s.aJ.length c4]] D.val fun e V'=>e= .returned (.bool true)∧Below D.val.heap.size D.val V'):=fun D=>HSF.out _ (jg.out D)
 have CI:Hid (∀D:LW lB,Calls Tryz.prog 17 #[.slice (some ⟨gf,0,none⟩) k cf,.slice pa k pc] D.val fun e V'=>e= .returned (.bool true)∧Below D.val.heap.size D.val V'):=fun D=>HSI.out _ (jg.out D)
 have hne:=LW.any lB
 have eqE:=M0
 have i1:(0:Int)≤(es.length:Int):=by omega
 have i2:(es.length:Int)<(es.length:Int)+1:=by omega
 have j2:(k:Int)≤(k:Int)+2:=by omega
 have j3:(k:Int)≤(cf:Int):=by have:=Zj.out;omega
 have j4:(k:Int)<(k:Int)+2:=by omega
 have j5:(0:Int)≤(k:Int)+1:=by omega
 have j6:(k:Int)+1<(k:Int)+2:=by omega
 have j7:IntKind.i64.wrap ((k:Int)+1)=(k:Int)+1:=by rw[aa1];omega
 have t1:((-5:Int)== -5&&(-6:Int)== -6)=true:=by decide
 have t2:((7:Int) != 7)=false:=by decide
 have t3:((8:Int) != 8)=false:=by decide
 go_wp2_with fail
 refine aB (by kernel_rfl) (by kernel_rfl) ?_
 repeat (go_big_quiet_step ((first|(go_at_call 15;exact Calls.lw (CG.out _))|(go_at_call 16;exact Calls.lw (CF.out _))|(go_at_call 17;exact Calls.lw (CI.out _)))))
 refine wpQuiet_nil ?_
 rintro _ ⟨E,rfl⟩
 have zU:Hid (Below lB.heap.size lB E.val):=E.h
 obtain⟨Gm,Xz⟩:∃Gm,Gm=E.val:=⟨_,rfl⟩
 rw[←Xz] at zU ⊢
 have Zo:=Nu.hid (EG.out.trans (zU.out.mono EG.out.size))
 clear q0 q1 y0 y1 y4 l0 l1 r0 r1 r2 r3 x2 x3 x4 x5 x6 k7 k8 hne eqE i1 i2 j2 j3 j4 j5 j6 j7 t1 t2 t3 Xz
 have tbb:(tb != tb)=false:=by simp
 have LP:Hid (Below PE.heap.size PE Gm):=by
  have h1:=Gj.out.trans (Gi.out.mono Gj.out.size)
  exact h1.trans (zU.out.mono h1.size)
 have Cg:Hid (Below Zt.heap.size Zt Gm):=Gi.out.trans (zU.out.mono Gi.out.size)
 have WA:Hid (Calls Tryz.prog 17 #[.slice zg T AK,.slice NU T N5] Gm fun e V'=>e= .returned (.bool true)∧Below Gm.heap.size Gm V'):=by
  have r1:=qK (A15.out.later LP.out) HT.out
  have r2:=qK (Xf.out.later Cg.out) HT.out
  refine(kM zg NU AK N5 T T tl tl Gm HT.out HT.out r1.ints r2.ints (by omega)).mono ?_
  rintro e V' ⟨h1,h2⟩
  exact⟨by rw[h1];simp,h2⟩
 go_wp2_with (go_at_call 17;refine WA.out.mono ?_;rintro e w21 ⟨rfl,Eh⟩;refine aaB ?_)
 refine Nu.hid ?_
 have ahu:=Nu.hid Eh
 have Zn:=Nu.hid (Zo.out.trans (Eh.mono Zo.out.size))
 have Th:=Nu.hid (LP.out.trans (Eh.mono LP.out.size))
 have LO:=Nu.hid (Cg.out.trans (Eh.mono Cg.out.size))
 have HPQ:=Nu.hid (ya NU T N5 tl w21 (qK (Xf.out.later (Cg.out.trans (Eh.mono Cg.out.size))) HT.out) (by omega))
 clear Eh j1 tbb WA
 go_wp2_with (go_at_call 11;refine HPQ.out.mono ?_;rintro e V ⟨gw,cw,rfl,XT,Fv⟩;refine aaB ?_)
 refine Nu.hid ?_
 have HOW:=Nu.hid (ZI XT HT.out)
 have K15:=Nu.hid (Th.out.trans (Fv.mono Th.out.size))
 have K16:=Nu.hid (LO.out.trans (Fv.mono LO.out.size))
 have HBV:=Nu.hid (Zn.out.trans (Fv.mono Zn.out.size))
 have hs1:=Xb.out.size
 have hs2:=Gj.out.size
 have hs3:=LO.out.size
 have hs4:=Fv.size
 have hs0:w.heap.size≤FV.heap.size:=by
  have h1:=cZ.out.size
  have h2:=(Ci.out FV yX.out).size
  omega
 have HPR:=Nu.hid (A15.out.later K15.out)
 have hpl:∀b,(Value.slice zg T AK).ownBlock=some b→FV.heap.size≤b∧b<PE.heap.size:=fun b hb=>aa9 A15.out b hb
 have aj0:=Nu.hid hpl
 have oQ:Hid (∀U,aC (fun b=>(Value.slice zg T AK).ownBlock=some b) V U→Below w.heap.size w U∧Calls Tryz.prog 17 #[.slice NU T N5,.slice (some ⟨gw,0,none⟩) T cw] U fun e V'=>e= .returned (.bool true)∧Below U.heap.size U V'):=fun U hU=>by
  have hq:aP U PE.heap.size (.slice NU T N5) tl:=(Xf.out.later K16.out).same fun g hg hlt=>hU.block g hlt fun h=>by
   have h1:=(aa9 Xf.out g hg).1
   have:=hpl g h
   omega
  have hw:aP U w21.heap.size (.slice (some ⟨gw,0,none⟩) T cw) tl:=HOW.out.same fun g hg hlt=>hU.block g hlt fun h=>by
   have h1:=(aa9 HOW.out g hg).1
   have:=hpl g h
   omega
  have ij:=cZ.out.trans ((Ci.out V HBV.out).mono cZ.out.size)
  refine⟨ij.trans (hU.below ij.size fun b hb=>by have:=hpl b hb;omega),?_⟩
  refine(kM NU (some ⟨gw,0,none⟩) N5 cw T T tl tl U HT.out HT.out (qK hq HT.out).ints (qK hw HT.out).ints (by omega)).mono ?_
  rintro e V' ⟨h1,h2⟩
  exact⟨by rw[h1];simp,h2⟩
 clear XT Fv hpl HPQ
 go_wp2
 go_loopw [142] (fun cv wr=>∃(i:Nat) (l:List Int),i≤T∧cv= .int .i64 (i:Int)∧l.length=T∧wr.ownsRow FV.heap.size 3 1 (.slice zg T AK) T (l.map (Value.int .i64))∧aC (fun b=>(Value.slice zg T AK).ownBlock=some b) V wr) (fun cv _=>T-(intOf cv).toNat)
 case atStart=>exact⟨0,tl,aax _,rfl,HT.out,Zq HPR.out HT.out,aC.refl _ _⟩
 case round=>
  obtain⟨i,l,hiT,rfl,hlT,hrow,hwr⟩:=hrel
  have vW:=Nu.hid hlT
  have j8:=Nu.hid hrow
  have m8:=Nu.hid hwr
  by_cases hlt:i<T
  ·have lV:(i:Int)<(T:Int):=by omega
   have i0:(0:Int)≤(i:Int):=by omega
   have hwi:IntKind.i64.wrap ((i:Int)+1)=(i:Int)+1:=by rw[aa1];omega
   obtain⟨gq,rfl⟩:∃g,zg=some ⟨g,0,none⟩:=by
    rcases hrow.2 with ⟨_,h0⟩|⟨g,cap,cur,e,_⟩
    ·omega
    ·injection e with q1
     exact⟨g,q1⟩
   obtain⟨x0,hx0⟩:∃x,l[i]? =some x:=⟨_,aac (by omega)⟩
   obtain⟨s1,s2,s3⟩:=PY hrow hx0 9
   have F8:=Nu.hid s1
   have jE:=Nu.hid (hwr.setCell (b:=gq) (i:=i) rfl (.int .i64 9))
   clear hrow hwr s1 hx0 hlT
   go_wp2
   go_roundw
   case rel=>exact⟨i+1,l.set i 9,by omega,by go_num,by rw[aaT];exact vW.out,F8.out,jE.out⟩
   case measure=>simp[intOf];omega
  ·have hd:¬(i:Int)<(T:Int):=by omega
   clear hrow hwr hlT
   go_wp2
   clear hd
   go_loopw [8,16] (fun pv cv wx=>∃(j:Nat) (yo:Option Addr) (yc:Nat) (ys:List Value),j≤40∧cv= .int .i64 (j:Int)∧pv= .slice yo (T+j) yc∧wx.ownsRow FV.heap.size 3 1 (.slice yo (T+j) yc) (T+j) ys∧(∀b,(Value.slice yo (T+j) yc).ownBlock=some b→(Value.slice zg T AK).ownBlock=some b∨V.heap.size≤b)∧aC (fun b=>(Value.slice zg T AK).ownBlock=some b) V wx) (fun _ cv _=>40-(intOf cv).toNat)
   case atStart=>exact⟨0,zg,AK,_,by omega,rfl,rfl,j8.out,fun b hb=> .inl hb,m8.out⟩
   case round=>
    obtain⟨j,yo,yc,ys,hj,rfl,rfl,hrow,hyb,hwr⟩:=hrel
    have L0:=Nu.hid hrow
    have HYB:=Nu.hid hyb
    have Nd:=Nu.hid hwr
    have hwV:=hwr.size
    by_cases hj4:j<40
    ·have alh:(j:Int)<40:=by omega
     have hwj:IntKind.i64.wrap ((j:Int)+1)=(j:Int)+1:=by rw[aa1];omega
     have alw:FV.heap.size≤wr.heap.size:=by omega
     clear hrow hyb hwr
     go_wp2_with (at_builtin;refine wpList_append_own_at _ rfl _ _ 37 rfl FV.heap.size 3 i1 (.int .i64 0) 1 8 Tryz.underlying37 hi1 hy0 hy1 hy2 rfl (by decide) _ _ _ rfl (abo L0.out _) ⟨wr.heap.size,0,none⟩ 1 1 [.int .i64 9] rfl rfl (abZ (heap_alloc_new wr _)) (by simp[Value.oneCell']) (by unfold maxLen;omega) (by omega) (by simp;omega) ?_;refine aaB ?_)
     refine Nu.hid ?_
     intro v' w2 hrow2 hg2 _ vr
     obtain⟨g2,m2,rfl⟩:∃g c,v'= .slice (some ⟨g,0,none⟩) (T+(j+1)) c:=by
      rcases hrow2.2 with ⟨_,h0⟩|⟨g,cap,cur,e,_⟩
      ·omega
      ·exact⟨g,cap,e⟩
     have qy:=Nu.hid hrow2
     have jD:Hid (aC (fun b=>(Value.slice zg T AK).ownBlock=some b) V w2):=by
      have hba:Below wr.heap.size wr (wr.alloc (.cells #[.int .i64 9] 3)):=(aae _ _).alloc (aad _) _
      have h1:=Nd.out.later hba
      refine⟨hg2.os.trans h1.os,hg2.tape.trans h1.tape,hg2.output.trans h1.output,abb h1.size hg2.size,fun b hb hne=> ?_⟩
      rw[hg2.block b (aa7 hb h1.size) (fun e=> ?_)]
      ·exact h1.block b hb hne
      ·rcases HYB.out b e.symm with h2|h2
       ·exact hne h2
       ·omega
     have HY2:Hid (∀b,(Value.slice (some ⟨g2,0,none⟩) (T+(j+1)) m2).ownBlock=some b→(Value.slice zg T AK).ownBlock=some b∨V.heap.size≤b):=fun b hb=>by
      rcases vr with e|e
      ·exact HYB.out b (by rw[←e];exact hb)
      ·rw[hb] at e
       cases e
       exact .inr (by first|omega|(simp;omega))
     clear hrow2 hg2 vr
     go_wp2
     go_roundw
     case rel=>exact⟨j+1,some ⟨g2,0,none⟩,m2,_,by omega,by go_num,rfl,qy.out,HY2.out,jD.out⟩
     case measure=>simp[intOf];omega
    ·have hd3:¬(j:Int)<40:=by omega
     obtain⟨dH,dZ⟩:=oQ.out wr hwr
     have Jw:=Nu.hid dH
     have Cx:=Nu.hid dZ
     clear hrow hyb hwr dH dZ
     go_wp2_with (go_at_call 17;refine Cx.out.mono ?_;rintro e u2 ⟨rfl,hb2⟩;refine aaB ?_)
     refine Nu.hid ?_
     have ach:=Nu.hid (Jw.out.trans (hb2.mono Jw.out.size))
     clear hb2
     go_wp2
     go_ret
     exact⟨rfl,ach.out⟩
theorem walk (n:Int) (ao:Option Addr) (ca:Nat) (es:List (Int×Int)) (f:For) (s:Df.St) (pa:Option Addr) (pc:Nat) (ps:List Int) (w:World) (hq:Ce w ao es.length ca es) (hl:es.length*16≤140737488351232) (hF:dI w f s) (hP:gI w pa ps.length pc ps) (hk:ps.length≤17592186043904):
 Calls Tryz.prog 4 #[.agg #[.int .i64 n,.slice ao es.length ca,.slice f.a1 s.par.length f.c1,.slice f.a2 s.az.length f.c2,.slice f.a3 s.ord.length f.c3,.slice f.a4 s.aJ.length f.c4,.slice pa ps.length pc]] w fun e w'=>e= .returned (.bool true)∧Below w.heap.size w w':=
 Zr n ao ca es f s pa ps.length pc ps w hq.hat (fun h=>(hq.hnil h).2) hl hF hP hk
set_option maxRecDepth 100000 in
theorem contract (H:Type) (enc:TypeId×Value→H) (W:World) (base:Nat) (args:Array Value) (ds gs:List (DataW H)) (before:List MemPlace)
 (hval:∀(j:Nat) t v,Tryz.f4.params[j]? =some t→args[j]? =some v→Value.okWide Tryz.prog W .any base t v)
 (hW:DataW.Whole enc Tryz.prog Tryz.f4.params.toList Rows.lrOwnSpec.vars false W args.toList ds gs before)
 (hsz:(DataW.weightsEach Tryz.prog (Tryz.f4.params.toList++(OpenSpec.ofChange Rows.lrOwnSpec).bare.plain.varTypes Tryz.prog) (ds++gs)).all (·≤reachBytes)=true)
 :
 Calls Tryz.prog 4 args W fun e W'=>∃v,e= .returned v∧Rows.lrOwnSpec.post enc Tryz.prog Tryz.f4 false true false false W args v W':=by
 have hW':=hW
 obtain⟨p,q,hA0,hV,rfl,hfz,hnd⟩:=hW
 have hA:DataW.TrodAll enc Tryz.prog W 0 (fun _=>true) true Tryz.f4.params.toList args.toList ds p:=hA0
 rw[Tryz.params4] at hA hval hsz
 obtain⟨v0,vs0,d0,ds0,p0,q0,hargs,rfl,rfl,h0,r0⟩:=trodAll_cons hA
 obtain⟨rfl,rfl,rfl⟩:=trodAll_nil r0
 obtain rfl:args= #[v0]:=by cases args;simp_all
 obtain⟨rfl,rfl⟩:=trodVars_none hV
 have k0:=h0
 have lt0:∀x∈p0,x.block<W.heap.size:=by obtain⟨m,hm⟩:=k0;exact DataW.trod_lt m _ _ _ hm
 obtain⟨n0,a0,afN,q0,f0,s0,g0,c0,l0,rfl,z0,w0,u0,t0,r0⟩:=Dn (j:=0) (hval 0 39 v0 rfl rfl) h0 hsz rfl rfl
 clear hA0
 refine(walk n0 a0 afN q0 f0 s0 g0 c0 l0 W z0 w0 u0 t0 r0).mono fun e W' ⟨he,aI⟩=> ?_
 subst he
 exact⟨_,rfl,_,_,_,[],_,[],hW',trodAll_mk1 (shut_bool Tryz.underlying4 _),(trodAll_cons_mk (Below.trod laidOut (by kernel_rfl) (of_decide_eq_true (by kernel_rfl)) k0 aI lt0) trodAll_mk0),rfl,aI.frame _,fun h=>by cases h⟩
theorem laid_met (os:Os):laidMet Tryz.prog Rows.lrOwnRow.laid ((settled os).forCall (fun _ _=>0) ⟨#[],#[.agg #[.int .i64 0,.slice none 0 0,.slice none 0 0,.slice none 0 0,.slice none 0 0,.slice none 0 0,.slice none 0 0]],[]⟩).memory:=
 laidMet_of_run' 100 (by kernel_rfl) (by kernel_rfl)
theorem reads (os:Os) {H:Type} (enc:TypeId×Value→H):∃places,DataW.whole enc Tryz.prog ((settled os).forCall (fun _ _=>0) ⟨#[],#[.agg #[.int .i64 0,.slice none 0 0,.slice none 0 0,.slice none 0 0,.slice none 0 0,.slice none 0 0,.slice none 0 0]],[]⟩).memory Tryz.f4.params.toList Rows.lrOwnSpec.vars false (#[.agg #[.int .i64 0,.slice none 0 0,.slice none 0 0,.slice none 0 0,.slice none 0 0,.slice none 0 0,.slice none 0 0]]:Array Value).toList 8=some ([.agg [.agg [.lit (.int .i64 0),.nil],.agg [.nil,.nil,.nil,.nil],.nil]],[],places):=
 ⟨[],by kernel_rfl⟩
set_option maxRecDepth 100000 in
theorem lifted (os:Os) (started:os.Started) (H:Type) (enc:TypeId×Value→H) (F:Stop.Interp):
 ReturnsInHanded {} Tryz.checked os 4 .any ((OpenSpec.ofChange Rows.lrOwnSpec).preRow enc Tryz.prog Tryz.f4 Rows.lrOwnRow.domain false Rows.lrOwnRow.laid) (((OpenSpec.ofChange Rows.lrOwnSpec).at F).post enc Tryz.prog Tryz.f4 false true false false):=by
 obtain⟨places,hx⟩:=reads os enc
 refine returnsInHanded_of_row (C:=Tryz.checked) (s:=(OpenSpec.ofChange Rows.lrOwnSpec)) own started (by kernel_rfl) Tryz.func4
  (witness_row_at (enc:=enc) (C:=Tryz.checked) false (settled os) #[.agg #[.int .i64 0,.slice none 0 0,.slice none 0 0,.slice none 0 0,.slice none 0 0,.slice none 0 0,.slice none 0 0]] rfl (by kernel_rfl) (by kernel_rfl) (by kernel_rfl)
    (OpenSpec.preRow_of_cond 8 hx (by kernel_rfl) (fun k hk=>by cases hk) (by kernel_rfl) (laid_met os))) ?_
 intro W base args ds gs before hval hW _ _ hsz _ _ _
 exact contract H enc W base args ds gs before hval hW hsz
theorem said:Rows.LrOwnSaid:=
 OpenClaim.holds_of_cond 4 Tryz.f4 rfl rfl rfl rfl rfl rfl rfl ⟨rfl,rfl,rfl,rfl,rfl⟩ rfl rfl rfl rfl rfl (by kernel_rfl) Tryz.func4 (by kernel_rfl)
  (of_decide_eq_true (by kernel_rfl)) (by unfold Func.isWrapper;first|(rw[if_pos (by decide +kernel)];kernel_rfl)|(rw[if_neg (by decide +kernel)];exact⟨rfl,rfl⟩))
  (fun os started H enc _ F=>by rw[OpenClaim.pre_eq_preRow];exact lifted os started H enc F)
end D5
theorem lrOwn_holds:Rows.LrOwnSaid:=D5.said
#print axioms lrOwn_holds
end Go.Proofs.YtdjmnpmdmjclhabGreat
