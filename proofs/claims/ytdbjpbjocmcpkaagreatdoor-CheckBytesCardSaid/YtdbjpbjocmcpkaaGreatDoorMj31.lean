import Derived.Test.YtdbjpbjocmcpkaaGreatDoorMj30
import Derived.Deep.Cut
set_option maxHeartbeats 8000000
set_option maxRecDepth 100000
namespace Go.Proofs.YtdbjpbjocmcpkaaGreatDoor
section
open Go.RowKit Go.Sort
theorem BN (n:Int) (ao:Option Addr) (cap:Nat) (es:List (Int×Int)) (w:World) (he:ah w ao es) (hl:es.length<=4611686018427387904):
 Calls Tryz.prog 33 #[.agg #[.int .i64 n,.slice ao es.length cap]] w (Ku.EI n es w):=by
 obtain⟨W1,hW1⟩:∃W1,W1=w.alloc (.cells #[.int .i64 n,.slice ao es.length cap] 24):=⟨_,rfl⟩;obtain⟨W,hW⟩:∃W,W=W1.alloc (.cells #[.int .i64 0,.slice none 0 0,.slice none 0 0] 82):=⟨_,rfl⟩;have hsz:W1.heap.size=w.heap.size+1:=by rw[hW1];simp
 have g1:W1.heap[w.heap.size]? =some (.cells #[.int .i64 n,.slice ao es.length cap] 24 (0,0)):=by rw[hW1];exact heap_alloc_new w _
 have hB1:Below w.heap.size w W1:=by rw[hW1];exact(aaG _ _).alloc (aaF _) _
 have hB2:Below W1.heap.size W1 W:=by rw[hW];exact(aaG _ _).alloc (aaF _) _
 have hB0:Below w.heap.size w W:=hB1.trans (hB2.mono hB1.size);have G1:=ζ (aZ g1 hB2);have g2:W.heap[w.heap.size+1]? =some (.cells #[.int .i64 0,.slice none 0 0,.slice none 0 0] 82 (0,0)):=by rw[hW,<-hsz];exact heap_alloc_new W1 _
 have G2:=ζ g2;have VD:W=(w.alloc (.cells #[.int .i64 n,.slice ao es.length cap] 24)).alloc (.cells #[.int .i64 0,.slice none 0 0,.slice none 0 0] 82):=by rw[hW,hW1]
 have HW:=ζ VD;have HE:=ζ (he.later hB0);have ry:=ζ (vu n ao cap es W (he.later hB0) hl);have aI:=ζ hB0;obtain⟨q0,q1,-⟩:=af G1.out;rw[VD] at q0 q1;clear hW1 hW VD hsz g1 g2 hB1 hB2 hB0 he;go_enter Tryz.func33,Tryz.ntmps33;go_wp2_with (go_at_call 62;rw[<-HW.out];refine ry.out.mono ?_;refine aaI ?_);refine ζ ?_;rintro e w1 ⟨dh,hb1⟩;have j5:=ζ (aI.out.trans (hb1.mono aI.out.size));have G11:=ζ (aZ G1.out hb1);have Zh:=ζ (aZ G2.out hb1);obtain⟨z0,z1,z2,zf⟩:=aQ Zh.out;clear q0 q1;obtain⟨q0,q1,-⟩:=af G11.out;rcases dh with ⟨hv,gd,m,rfl,rfl,hgd,Jl⟩|⟨hv,rfl⟩
 .have hval:Si.Val (m:Int) es:=Si.aL.1 hv
  have bV:=hval.few;have HDI:=ζ Jl.at;have B3:Hid ((Si.aS (m:Int) es).length=m):=by
   refine ζ ?_;simp[Si.jK]
  have HV:=ζ hval;have JS:=ζ (I6 (m:Int) ao cap es w1 (HE.out.later hb1) hl);have hs1:=j5.out.size;have hm:m<=17592186044000:=by have:=hval.hi;omega
  clear hv Jl hb1 hval ry z0 z1 z2 zf;go_wp2_with (go_at_call 63;refine JS.out.mono ?_;refine aaI ?_);refine ζ ?_;rintro e w2 ⟨dh,hb2⟩;rcases dh with ⟨QC,-⟩|⟨hv',vc,us,rfl,jT⟩
  .have:=Si.aL.2 HV.out
   rw[this] at QC;cases QC
  .obtain⟨J,hJ⟩:∃J,(Ku.rows es hv' es.length).length=J:=⟨_,rfl⟩
   have HJ:=ζ hJ;have nL:=ζ jT;obtain⟨va,NF,cG⟩:=bG jT;rw[hJ] at cG;subst cG;have Zb:=ζ (HDI.out.later hb2);have G12:=ζ (aZ G11.out hb2);have G22:=ζ (aZ Zh.out hb2);have rH:=ζ (j5.out.trans (hb2.mono j5.out.size));have agi:Hid (w1.heap.size<=w2.heap.size):=ζ hb2.size;have uT:=ζ (xS (some ⟨gd,0,none⟩) m m (Si.aS (m:Int) es) 2 w2 B3.out Zb.out hm);clear jT hb2 hJ q0 q1 JS;go_wp2_with (go_at_call 64;refine uT.out.mono ?_;refine aaI ?_);refine ζ ?_;rintro e w3 ⟨v2,rfl,ho2,hb3⟩;obtain⟨a2,c2,hv2,-,-⟩:=ho2.form;obtain⟨N2,Yu⟩:∃N2,(Ku.cQ (Si.aS (m:Int) es) 2 m).length=N2:=⟨_,rfl⟩;have akx:N2<=m:=by rw[<-Yu];exact Ku.oh _ _ _
   rw[Yu] at hv2;subst hv2;have yS:=ζ Yu;have agl:=ζ (nL.out.later hb3);have HD3:=ζ (Zb.out.later hb3);have G13:=ζ (aZ G12.out hb3);have G23:=ζ (aZ G22.out hb3);have aat:=ζ (rH.out.trans (hb3.mono rH.out.size));have agh:Hid (w1.heap.size<=w3.heap.size):=ζ (aa1 agi.out hb3.size);have Al:Hid (∀V,Below w3.heap.size w3 V->Calls Tryz.prog 64 #[.slice (some ⟨gd,0,none⟩) m m,.int .i64 0] V fun e w'=>∃v,e= .returned v/\ak w' V.heap.size v (Ku.cQ (Si.aS (m:Int) es) 0 m)/\Below V.heap.size V w'):=fun V hV=>xS (some ⟨gd,0,none⟩) m m (Si.aS (m:Int) es) 0 V B3.out (HD3.out.later hV) hm
   obtain⟨N0,hN0⟩:∃N0,(Ku.cQ (Si.aS (m:Int) es) 0 m).length=N0:=⟨_,rfl⟩;have aky:N0<=m:=by rw[<-hN0];exact Ku.oh _ _ _
   have Y4:=ζ hN0;obtain⟨q0,-,-⟩:=af G13.out;have hS:∀V,Below w3.heap.size w3 V->(V.cell? ⟨w.heap.size,0,none⟩=some (.int .i64 (m:Int))/\Below w3.heap.size w3 V):=fun V hV=>⟨(hV.cell (p:=⟨w.heap.size,0,none⟩) (block_lt_of_cell q0)).trans q0,hV⟩
   have HS:=ζ hS;have hbr:Below w3.heap.size w3 w3.drew:=(aaG _ _).drew;have ajR:IntKind.i64.wrap ((m:Int)-(N0:Int))=(m:Int)-(N0:Int):=by rw[aaK];omega
   have aed:IntKind.i64.wrap ((m:Int)-(N0:Int)-(N2:Int))=(m:Int)-(N0:Int)-(N2:Int):=by rw[aaK];omega
   clear ho2 hb3 Yu hN0 hS uT;go_wp2_with fail
   go_region_held3 (fun V=>V.cell? ⟨w.heap.size,0,none⟩=some (.int .i64 (m:Int))/\Below w3.heap.size w3 V)
    (exact HS.out _ (by first|assumption|exact hbr))
    ((go_at_call 64;refine(Al.out _ (by first|assumption|exact hbr)).mono ?_;rintro e w6 ⟨v0,rfl,ho0,dO⟩;have hbz:Below w3.heap.size w3 w6:=acd (by first|assumption|exact hbr) (dO.mono (acv (by first|assumption|exact hbr)));obtain⟨a0,c0,hv0,-,-⟩:=ho0.form;rw[Y4.out] at hv0;subst hv0))
   have agk:=ζ (agl.out.later hbz);have G26:=ζ (aZ G23.out hbz);have aas:=ζ (aat.out.trans (hbz.mono aat.out.size));have Z9:Hid (w1.heap.size<=w6.heap.size):=ζ (aa1 agh.out hbz.size);have HD6:=ζ (HD3.out.later hbz);have B4:=ζ (xS (some ⟨gd,0,none⟩) m m (Si.aS (m:Int) es) 4 w6 B3.out HD6.out hm);clear hbz dO hbr ho0 HS Al q0;go_wp2_with (go_at_call 64;refine B4.out.mono ?_;refine aaI ?_);refine ζ ?_;rintro e w7 ⟨v4,rfl,U7,wo⟩;obtain⟨a4,c4,hv4,hi4,ZV⟩:=U7.form;have ahm:=ζ ZV;clear ZV;obtain⟨N4,hN4⟩:∃N4,(Ku.cQ (Si.aS (m:Int) es) 4 m).length=N4:=⟨_,rfl⟩;rw[hN4] at hv4;subst hv4;have HN4:=ζ hN4;have PR:=ζ hi4;have agj:=ζ (agk.out.later wo);have G27:=ζ (aZ G26.out wo);have aar:=ζ (aas.out.trans (wo.mono aas.out.size));have agf:Hid (w6.heap.size<=w7.heap.size):=ζ wo.size;have Gb:=ζ (xS (some ⟨gd,0,none⟩) m m (Si.aS (m:Int) es) 3 w7 B3.out (HD6.out.later wo) hm);clear U7 wo hN4 hi4 B4;go_wp2_with (go_at_call 64;refine Gb.out.mono ?_;refine aaI ?_);refine ζ ?_;rintro e w8 ⟨v3,rfl,pQ,SE⟩;obtain⟨a3,c3,hv3,hi3,ZW⟩:=pQ.form;have akD:=ζ ZW;have Z8:Hid (w6.heap.size<=w7.heap.size/\w7.heap.size<=w8.heap.size):=⟨agf.out,SE.size⟩;clear ZW;obtain⟨N3,hN3⟩:∃N3,(Ku.cQ (Si.aS (m:Int) es) 3 m).length=N3:=⟨_,rfl⟩;rw[hN3] at hv3;subst hv3;have WL:=ζ hN3;have jW:=ζ hi3;have agQ:=ζ (PR.out.later SE);have Hu:=ζ (agj.out.later SE);have Zg:=ζ (aZ G27.out SE);have E4:=ζ (aar.out.trans (SE.mono aar.out.size));clear pQ SE hN3 hi3 Gb;have H5:Hid (Ku.M7 (Si.aS (m:Int) es) m (Ku.rows es hv' es.length)↔(N4=5/\(m:Int)-(N0:Int)-(N2:Int)=5/\J=10)):=by
    refine ζ ?_;unfold Ku.M7 Ku.zu;rw[HN4.out,Y4.out,yS.out,HJ.out]
   have H33:Hid (Ku.Bo (Si.aS (m:Int) es) m (Ku.rows es hv' es.length)↔(N3=6/\(m:Int)-(N0:Int)-(N2:Int)=6/\J=9)):=by
    refine ζ ?_;unfold Ku.Bo Ku.zu;rw[WL.out,Y4.out,yS.out,HJ.out]
   obtain⟨RI,hRI⟩:∃RI,(m:Int)-(N0:Int)-(N2:Int)=RI:=⟨_,rfl⟩;rw[hRI] at H5 H33 aed ⊢;obtain⟨y1,hy1⟩:∃y,((N4:Int)==5)=y:=⟨_,rfl⟩;obtain⟨y2,hy2⟩:∃y,(RI==5)=y:=⟨_,rfl⟩;obtain⟨y3,Sp⟩:∃y,((J:Int)==10)=y:=⟨_,rfl⟩;obtain⟨x1,hx1⟩:∃y,((N3:Int)==6)=y:=⟨_,rfl⟩;obtain⟨x2,hx2⟩:∃y,(RI==6)=y:=⟨_,rfl⟩;obtain⟨x3,hx3⟩:∃y,((J:Int)==9)=y:=⟨_,rfl⟩;have hsum:=Ku.RR (Si.aS (m:Int) es) m;rw[Y4.out,yS.out,WL.out,HN4.out] at hsum;obtain⟨z0,z1,z2,zf⟩:=aQ Zg.out;have hk1:w.heap.size+1<w8.heap.size:=(abX.1 Zg.out).1;have hkn:w.heap.size+1≠w8.heap.size:=by omega
   have ajO:=zf 0;have ajN:=zf 1;have ajM:=zf 2;by_cases hA:N4=5/\RI=5/\J=10
   .have HIS:Hid (Ku.M7 (Si.aS (m:Int) es) m (Ku.rows es hv' es.length)):=H5.out.2 hA
    obtain⟨hA1,hA2,Yz⟩:=hA;have e1:y1=true:=by rw[<-hy1,hA1];rfl
    have e2:y2=true:=by rw[<-hy2,hA2];rfl
    have e3:y3=true:=by rw[<-Sp,Yz];rfl
    have e4:x1=false:=by
     rw[<-hx1];simp;omega
    subst e1 e2 e3 e4;have hN5:N4<=6:=by omega
    have EU:Hid (∀l∈Ku.rows es hv' es.length,1<=l.length/\l.length<=17592186044000):=by
     refine ζ fun l hl=> ?_
     obtain⟨t,ht⟩:=abg hl;obtain⟨c,hc,rfl⟩:=Ku.rZ ht;have oO:=Ku.yE (hv:=hv') (aaF _) (aaJ hc);rw[Ku.bS,Ku.bE oO.ne];have:=Ku.Jv oO;omega
    have Md:J<=17592186044000:=by omega
    obtain⟨V,hV⟩:∃V,V=w8.alloc (.cells #[.int .i64 1,.slice a4 N4 c4,.slice none 0 0] 82):=⟨_,rfl⟩;have FM:Below w8.heap.size w8 V:=by rw[hV];exact(aaG _ _).alloc (aaF _) _
    have gK:V.heap[w8.heap.size]? =some (.cells #[.int .i64 1,.slice a4 N4 c4,.slice none 0 0] 82 (0,0)):=by rw[hV];exact heap_alloc_new w8 _
    have hw1:w.heap.size+1<w1.heap.size:=lt_of_block Zh.out;have h6:w1.heap.size<=w6.heap.size:=Z9.out;have h78:=Z8.out;have HT:=ζ (fun (e:Ending) (w':World) (hf:Ku.Found w.heap.size 1 (Ku.rows es hv' es.length) (Ku.cQ (Si.aS (m:Int) es) 4 m) e w') (hb:Below w.heap.size w w')=>(⟨.inr ⟨m,hv',rfl,.inr (.inl ⟨HIS.out,hf⟩)⟩,hb⟩:Ku.EI (m:Int) es w e w'));have k1:ay V w1.heap.size (.slice va J NF) us (Ku.rows es hv' es.length):=Hu.out.later FM;have k2:∀b,((Value.slice va J NF).ownBlock=some b\/cS us b)->b≠w8.heap.size/\b≠w.heap.size+1:=fun b hb=>by
     have:=Hu.out.within hb;omega
    have k3:∀x,a4=some x->x.block≠w8.heap.size/\x.block≠w.heap.size+1/\w.heap.size<=x.block:=fun x hx=>by
     have:=ahm.out x hx;omega
    have k4:V.heap[w.heap.size+1]? =_:=aZ Zg.out FM;have k5:Below w.heap.size w V:=E4.out.trans (FM.mono E4.out.size);have k6:aV V a4 (Ku.cQ (Si.aS (m:Int) es) 4 m):=agQ.out.later FM;have jc:=ζ (And.intro k1 (And.intro k2 (And.intro k3 (And.intro k4 (And.intro k5 (And.intro k6 gK))))));obtain⟨c0,-,-,-⟩:=aQ gK;have HV:=ζ hV;rw[hV] at c0;clear hA1 hA2 Yz hsum hx2 hx3 x2 x3 zf hRI k1 k2 k3 k4 k5 k6 FM gK hV
    go_upto_region 16 with fail
    rw[<-HV.out];obtain⟨k1,k2,k3,k4,k5,k6,gK⟩:=jc.out;clear c0;obtain⟨c0,-,-,-⟩:=aQ gK
    repeat (first|exact TZ w1.heap.size w8.heap.size (w.heap.size+1) J NF N4 c4 1 va a4 us (Ku.rows es hv' es.length) (Ku.cQ (Si.aS (m:Int) es) 4 m) (m:Int) es w V (.inl rfl) HN4.out hN5 HJ.out Md k1 k2 EU.out k6 k3 (by omega) gK k4 hkn ⟨by omega,by omega⟩ k5 HT.out|go_step)
   .by_cases hB:N3=6/\RI=6/\J=9
    .have HIS:Hid (Ku.Bo (Si.aS (m:Int) es) m (Ku.rows es hv' es.length)):=H33.out.2 hB
     obtain⟨hB1,hB2,hB3⟩:=hB;have e1:x1=true:=by rw[<-hx1,hB1];rfl
     have e2:x2=true:=by rw[<-hx2,hB2];rfl
     have e3:x3=true:=by rw[<-hx3,hB3];rfl
     have e4:y1=false:=by
      rw[<-hy1];simp;omega
     subst e1 e2 e3 e4;have H6:Hid (N3=6):=ζ hB1;have EU:Hid (∀l∈Ku.rows es hv' es.length,1<=l.length/\l.length<=17592186044000):=by
      refine ζ fun l hl=> ?_
      obtain⟨t,ht⟩:=abg hl;obtain⟨c,hc,rfl⟩:=Ku.rZ ht;have oO:=Ku.yE (hv:=hv') (aaF _) (aaJ hc);rw[Ku.bS,Ku.bE oO.ne];have:=Ku.Jv oO;omega
     have Md:J<=17592186044000:=by omega
     obtain⟨V,hV⟩:∃V,V=w8.alloc (.cells #[.int .i64 2,.slice none 0 0,.slice none 0 0] 82):=⟨_,rfl⟩;have FM:Below w8.heap.size w8 V:=by rw[hV];exact(aaG _ _).alloc (aaF _) _
     have gK:V.heap[w8.heap.size]? =some (.cells #[.int .i64 2,.slice none 0 0,.slice none 0 0] 82 (0,0)):=by rw[hV];exact heap_alloc_new w8 _
     have hw1:w.heap.size+1<w1.heap.size:=lt_of_block Zh.out;have h6:w1.heap.size<=w6.heap.size:=Z9.out;have h78:=Z8.out;have iA:=ζ (Lf w1.heap.size va J NF us (Ku.rows es hv' es.length) a3 N3 c3 (Ku.cQ (Si.aS (m:Int) es) 3 m) V HJ.out (Hu.out.later FM) Md EU.out WL.out (jW.out.later FM) (by omega));have OD:w8.heap.size<V.heap.size:=lt_of_block gK;have HGK:=ζ gK;have HBK:=ζ FM;have HV:=ζ hV;have HT:=ζ (fun (e:Ending) (w':World) (hf:Ku.Found w.heap.size 2 (Ku.rows es hv' es.length) (Ku.fT (Ku.rows es hv' es.length) (Ku.cQ (Si.aS (m:Int) es) 3 m) 6++Ku.jJ (Ku.rows es hv' es.length) (Ku.cQ (Si.aS (m:Int) es) 3 m) 6) e w') (hb:Below w.heap.size w w')=>(⟨.inr ⟨m,hv',rfl,.inr (.inr ⟨HIS.out,hf⟩)⟩,hb⟩:Ku.EI (m:Int) es w e w'));clear hA hB1 hB2 hB3 hsum hy2 Sp y2 y3 zf hRI FM gK hV;go_wp2_with (go_at_call 65;rw[<-HV.out];refine iA.out.mono ?_;refine aaI ?_);refine ζ ?_;rintro e w9 ⟨v9,rfl,ho9,Jm⟩;rw[H6.out] at ho9;obtain⟨sa,sc,cG,hi9,ZT⟩:=ho9.form;obtain⟨br,hbr⟩:∃br,Ku.fT (Ku.rows es hv' es.length) (Ku.cQ (Si.aS (m:Int) es) 3 m) 6++Ku.jJ (Ku.rows es hv' es.length) (Ku.cQ (Si.aS (m:Int) es) 3 m) 6=br:=⟨_,rfl⟩;have hbl:br.length=6:=by rw[<-hbr,aaZ];exact Ku.vR _ _ 6
     rw[hbr] at cG hi9 HT;obtain⟨q6,OJ⟩:∃q6,br.length=q6:=⟨_,rfl⟩;rw[OJ] at cG hbl;subst cG;have HQ6:=ζ OJ;have aeI:q6<=6:=by omega
     have g9:=aZ HGK.out Jm;obtain⟨y0,y1,y2,yf⟩:=aQ g9;have hyf:=yf 1;have hs9:=Jm.size;obtain⟨X,hX⟩:∃X,X=w9.setCell ⟨w8.heap.size,1,none⟩ (.slice sa q6 sc):=⟨_,rfl⟩;have gX:X.heap[w8.heap.size]? =some (.cells #[.int .i64 2,.slice sa q6 sc,.slice none 0 0] 82 (0,0)):=by
      rw[hX,heap_setCell_same w9 w8.heap.size 1 _ _ _ g9];simp
     have oX:∀b,b≠w8.heap.size->X.heap[b]? =w9.heap[b]? :=fun b hb=>by
      rw[hX];exact heap_setCell_other _ ⟨w8.heap.size,1,none⟩ b _ hb
     have QD:Below w8.heap.size w8 w9:=HBK.out.trans (Jm.mono HBK.out.size);have ZU:Below w.heap.size w X:=by
      rw[hX];exact(E4.out.trans (QD.mono E4.out.size)).setCell (p:=⟨w8.heap.size,1,none⟩) (by have:=E4.out.size;omega) _
     have k1:ay X w1.heap.size (.slice va J NF) us (Ku.rows es hv' es.length):=(Hu.out.later QD).kept fun b hb _=>oX b (by have:=Hu.out.within hb;omega)
     have k2:∀b,((Value.slice va J NF).ownBlock=some b\/cS us b)->b≠w8.heap.size/\b≠w.heap.size+1:=fun b hb=>by
      have:=Hu.out.within hb;omega
     have k3:∀x,sa=some x->x.block≠w8.heap.size/\x.block≠w.heap.size+1/\w.heap.size<=x.block:=fun x hx=>by
      have:=ZT x hx;omega
     have k4:X.heap[w.heap.size+1]? =some (.cells #[.int .i64 0,.slice none 0 0,.slice none 0 0] 82 (0,0)):=(oX _ hkn).trans (aZ Zg.out QD);have k6:aV X sa br:=fun j x hj=>by
      obtain⟨b,o,he,hc⟩:=hi9 j x hj;exact⟨b,o,he,(abF (a:=⟨b,o+j,none⟩) (oX b (k3 _ he).1)).trans hc⟩
     have jc:=ζ (And.intro k1 (And.intro k2 (And.intro k3 (And.intro k4 (And.intro ZU (And.intro k6 gX))))));have HX:=ζ hX;clear yf hbr hbl OJ k1 k2 k3 k4 k6 ZU gX oX QD hX ho9 hi9 ZT Jm g9
     go_upto_region 16 with fail
     rw[<-HX.out];obtain⟨k1,k2,k3,k4,k5,k6,gK⟩:=jc.out;clear y0 y1 y2;obtain⟨c0,-,-,-⟩:=aQ gK
     repeat (first|exact TZ w1.heap.size w8.heap.size (w.heap.size+1) J NF q6 sc 2 va sa us (Ku.rows es hv' es.length) br (m:Int) es w X (.inr rfl) HQ6.out aeI HJ.out Md k1 k2 EU.out k6 k3 (by omega) gK k4 hkn ⟨by omega,by omega⟩ k5 HT.out|go_step)
    .have HNA:Hid (¬Ku.M7 (Si.aS (m:Int) es) m (Ku.rows es hv' es.length)):=fun h=>hA (H5.out.1 h)
     have HNB:Hid (¬Ku.Bo (Si.aS (m:Int) es) m (Ku.rows es hv' es.length)):=fun h=>hB (H33.out.1 h)
     have hya:y1=false\/(y1=true/\y2=false)\/(y1=true/\y2=true/\y3=false):=by
      have hno:¬(y1=true/\y2=true/\y3=true):=fun ⟨a,b,c⟩=>hA ⟨by have:=hy1.trans a;simp at this;omega,by have:=hy2.trans b;simpa using this,by have:=Sp.trans c;simp at this;omega⟩
      revert hno;clear hy1 hy2 Sp;cases y1<;>cases y2<;>cases y3<;>simp
     have X4:x1=false\/(x1=true/\x2=false)\/(x1=true/\x2=true/\x3=false):=by
      have hno:¬(x1=true/\x2=true/\x3=true):=fun ⟨a,b,c⟩=>hB ⟨by have:=hx1.trans a;simp at this;omega,by have:=hx2.trans b;simpa using this,by have:=hx3.trans c;simp at this;omega⟩
      revert hno;clear hx1 hx2 hx3;cases x1<;>cases x2<;>cases x3<;>simp
     clear hA hB hsum zf;rcases hya with rfl|⟨rfl,rfl⟩|⟨rfl,rfl,rfl⟩<;>rcases X4 with rfl|⟨rfl,rfl⟩|⟨rfl,rfl,rfl⟩
     all_goals
      go_wp2;refine bodyPost_ret (bW rfl rfl _ _ (w.heap.size+1) _ _ _ _ _ rfl rfl rfl (EB (az z0 z1 z2 _ _ _).1 _) (EB (az z0 z1 z2 _ _ _).2.1 _) (EB (az z0 z1 z2 _ _ _).2.2 _)) rfl ?_;exact⟨.inr ⟨m,hv',rfl,.inl ⟨HNA.out,HNB.out,rfl⟩⟩,(bX E4.out (by omega) _ _ _).alloc (bX E4.out (by omega) _ _ _).size _⟩
 .have HV:=ζ hv
  clear hv hb1;go_wp2;refine bodyPost_ret (bW rfl rfl _ _ (w.heap.size+1) _ _ _ _ _ rfl rfl rfl (az z0 z1 z2 _ _ _).1 (az z0 z1 z2 _ _ _).2.1 (az z0 z1 z2 _ _ _).2.2) rfl ?_;exact⟨.inl ⟨HV.out,rfl⟩,bX j5.out (by omega) _ _ _⟩
end
section
open Go.Proofs.Tryz
open Go.RowKit Go.Sort
theorem NT (n:Int) (ao:Option Addr) (cap:Nat) (es:List (Int×Int)) (t:Int×Int) (w:World) (he:ah w ao es) (hl:es.length<=4611686018427387904):
 Calls prog 32 #[aB n ao es.length cap,cM t] w fun e w'=>(∃r:Int,Si.Q0 n es t r/\e= .returned (.int .i64 r))/\Below w.heap.size w w':=by
 have HE:=ζ he;have kG:=fun W (hb:Below w.heap.size w W)=>fO n ao cap es W (he.later hb) hl
 unfold aB at kG ⊢;unfold cM;have dM:=ζ kG;clear he kG;have eA:Below w.heap.size w ((w.alloc (.cells #[.int .i64 n,.slice ao es.length cap] 24)).alloc (.cells #[.int .i64 t.1,.int .i64 t.2] 66)):=((aaG _ _).alloc (aaF _) _).alloc (by simp) _;have bZ:=ζ eA;clear eA;cases hv:Si.valid n es with
 |false=>
  rw[hv] at dM;have Yd:¬Si.Val n es:=fun h=>by rw[Si.aL.2 h] at hv;cases hv
  go_enter func32,ntmps32;go_wp2_with (go_at_call 25;refine(dM.out _ bZ.out).mono ?_;rintro e w' ⟨rfl,hb⟩;refine aaI ?_);refine ζ ?_;go_wp2;go_ret;exact⟨⟨-1,.inr ⟨rfl,fun h=>Yd h.1⟩,rfl⟩,bZ.out.trans (hb.mono bZ.out.size)⟩
 |true=>
  rw[hv] at dM;have hval:=Si.aL.1 hv;have bV:=hval.few;have cC:=ζ hval;clear hval;go_enter func32,ntmps32;go_wp2_with (go_at_call 25;refine(dM.out _ bZ.out).mono ?_;rintro e w' ⟨rfl,hb⟩;refine aaI ?_);refine ζ ?_;have dA:Below w.heap.size w w':=bZ.out.trans (hb.mono bZ.out.size);have hG:w'.heap[w.heap.size]? =some (.cells #[.int .i64 n,.slice ao es.length cap] 24 (0,0)):=by
   refine(hb.block _ (by simp;omega)).trans ?_;rw[aa0 _ _ _ (by simp)];exact heap_alloc_new w _
  have hT:w'.heap[w.heap.size+1]? =some (.cells #[.int .i64 t.1,.int .i64 t.2] 66 (0,0)):=by
   refine(hb.block _ (by simp)).trans ?_;have:=heap_alloc_new (w.alloc (.cells #[.int .i64 n,.slice ao es.length cap] 24)) (.cells #[.int .i64 t.1,.int .i64 t.2] 66);simpa using this
  obtain⟨g0,g1,-⟩:=af hG;obtain⟨t0,t1,-⟩:=af hT;have hsT:=lt_of_block hT;have pP:=lt_of_block hG;have cN:=ζ dA;have hs0:w.heap.size<=w'.heap.size:=dA.size;clear hb dA hG hT;go_wp2;go_loopw [6] (fun c wr=>∃k:Nat,k<=es.length/\c= .int .i64 k/\(∀j,j<k->es[j]? ≠some t)/\Below w'.heap.size w' wr) (fun c _=>es.length-(intOf c).toNat)
  case atStart=>exact⟨0,aaR _,rfl,fun j h=>by omega,aaG _ _⟩
  case round=>
   obtain⟨k,hk,rfl,hno,hb2⟩:=hrel;have x0:=(hb2.cell (p:=⟨w.heap.size,0,none⟩) pP).trans g0;have x1:=(hb2.cell (p:=⟨w.heap.size,1,none⟩) pP).trans g1;have y0:=(hb2.cell (p:=⟨w.heap.size+1,0,none⟩) hsT).trans t0;have y1:=(hb2.cell (p:=⟨w.heap.size+1,1,none⟩) hsT).trans t1;have hsz:w'.heap.size<=wr.heap.size:=hb2.size;have UQ:w.heap.size<wr.heap.size:=by omega
   have Zr:w.heap.size+1<wr.heap.size:=by omega
   have cB:=ζ hno;have aA:=ζ hb2;have Q4:=ζ (cN.out.trans (hb2.mono hs0));clear hno;by_cases hlt:k<es.length
   .have aP:(k:Int)<(es.length:Int):=by omega
    have hk0:(0:Int)<=(k:Int):=by omega
    obtain⟨p,hp⟩:∃p,es[k]? =some p:=⟨_,aaE hlt⟩;obtain⟨b,o,rfl,c0,c1⟩:=(HE.out.later Q4.out) k p hp;have hbl:b<wr.heap.size:=block_lt_of_cell c0;have HP:=ζ hp;obtain⟨p1,p2⟩:=p;obtain⟨s1,s2⟩:=t;dsimp only at c0 c1 y0 y1 ⊢;have X1:∀D:LW wr,D.val.cell? ⟨w.heap.size,1,none⟩=some (.slice (some ⟨b,o,none⟩) es.length cap):=fun D=>(D.h.cell (p:=⟨w.heap.size,1,none⟩) UQ).trans x1
    have Y0:∀D:LW wr,D.val.cell? ⟨w.heap.size+1,0,none⟩=some (.int .i64 s1):=fun D=>(D.h.cell (p:=⟨w.heap.size+1,0,none⟩) Zr).trans y0
    have Y1:∀D:LW wr,D.val.cell? ⟨w.heap.size+1,1,none⟩=some (.int .i64 s2):=fun D=>(D.h.cell (p:=⟨w.heap.size+1,1,none⟩) Zr).trans y1
    have C0:∀D:LW wr,D.val.cell? ⟨b,o+k*2,none⟩=some (.int .i64 p1):=fun D=>(D.h.cell (p:=⟨b,o+k*2,none⟩) hbl).trans c0
    have C1:∀D:LW wr,D.val.cell? ⟨b,o+k*2+1,none⟩=some (.int .i64 p2):=fun D=>(D.h.cell (p:=⟨b,o+k*2+1,none⟩) hbl).trans c1
    have hne:=LW.any wr;have jr:Hid (∀D:LW wr,Below w'.heap.size w' D.val/\Below w.heap.size w D.val):=fun D=>⟨aA.out.trans (D.h.mono aA.out.size),Q4.out.trans (D.h.mono Q4.out.size)⟩
    clear hp hb2 x0 y0 y1 c0 c1;by_cases e1:p1=s1
    .have q1:(p1==s1)=true:=by simp[e1]
     by_cases e2:p2=s2
     .have q2:(p2==s2)=true:=by simp[e2]
      have hpt:(p1,p2)=(s1,s2):=by rw[e1,e2]
      have HPT:=ζ hpt;clear e1 e2 hpt;go_wp2_with fail;refine aH (by kernel_rfl) (by kernel_rfl) ?_
      repeat (go_big_quiet_step (fail))
      refine wpQuiet_nil ?_;rintro _ ⟨D,rfl⟩;go_wp2;go_ret;exact⟨⟨k,.inl ⟨k,cC.out,by rw[HP.out,HPT.out],rfl⟩,rfl⟩,(jr.out D).2⟩
     .have q2:(p2==s2)=false:=by simp[e2]
      clear e1;go_wp2_with fail;refine aH (by kernel_rfl) (by kernel_rfl) ?_
      repeat (go_big_quiet_step (fail))
      refine wpQuiet_nil ?_;rintro _ ⟨D,rfl⟩;go_wp2;go_roundw
      case rel=>
       refine⟨k+1,by omega,by go_num,fun j hj h=> ?_,(jr.out D).1⟩;by_cases hjk:j=k
       .subst hjk;rw[HP.out] at h;cases h;exact e2 rfl
       .exact cB.out j (by omega) h
      case measure=>simp[intOf];omega
    .have q1:(p1==s1)=false:=by simp[e1]
     go_wp2_with fail;refine aH (by kernel_rfl) (by kernel_rfl) ?_
     repeat (go_big_quiet_step (fail))
     refine wpQuiet_nil ?_;rintro _ ⟨D,rfl⟩;go_wp2;go_roundw
     case rel=>
      refine⟨k+1,by omega,by go_num,fun j hj h=> ?_,(jr.out D).1⟩;by_cases hjk:j=k
      .subst hjk;rw[HP.out] at h;cases h;exact e1 rfl
      .exact cB.out j (by omega) h
     case measure=>simp[intOf];omega
   .have hd:¬((k:Int)<(es.length:Int)):=by omega
    clear hb2;go_wp2;go_ret;refine⟨⟨-1,.inr ⟨rfl,fun h=> ?_⟩,rfl⟩,Q4.out⟩;obtain⟨j,hj⟩:=h.2;exact cB.out j (by have:=(aaH.1 hj).1;omega) hj
end
end Go.Proofs.YtdbjpbjocmcpkaaGreatDoor
