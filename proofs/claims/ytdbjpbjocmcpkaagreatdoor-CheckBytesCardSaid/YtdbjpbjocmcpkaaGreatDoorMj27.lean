import Derived.Test.YtdbjpbjocmcpkaaGreatDoorMj26
set_option maxHeartbeats 8000000
set_option maxRecDepth 100000
namespace Go.Proofs.YtdbjpbjocmcpkaaGreatDoor
section
open Go.Proofs.Tryz
open Go.RowKit Go.Sort
theorem aG.congr {w:World} {g n:Nat} {f f':Nat->Bool} (h:aG w g n f) (e:∀i,i<n->f i=f' i):aG w g n f':=by
 unfold aG at h ⊢;rw[h]
 congr 2
 unfold Co.bools
 congr 1
 exact abS fun i hi=>by rw[e i (abq.1 hi)]
theorem CQ (n:Int) (ao:Option Addr) (cap:Nat) (es:List (Int×Int)) (w:World) (he:ah w ao es) (hl:es.length<=4611686018427387904):
 Calls prog 90 #[aB n ao es.length cap] w (M6 n es w):=by
 obtain⟨i0,hi,hz0,hz1,hz2⟩:=info_parts Tryz.pO;have HE:=ζ he;have kG:=fun W (hb:Below w.heap.size w W)=>fO n ao cap es W (he.later hb) hl
 unfold aB at kG ⊢;have dM:=ζ kG;clear he kG;have eA:Below w.heap.size w (w.alloc (.cells #[.int .i64 n,.slice ao es.length cap] 24)):=(aaG _ _).alloc (aaF _) _;have bZ:=ζ eA;clear eA;cases hv:Si.valid n es with
 |false=>
  rw[hv] at dM;have HV:=ζ hv;clear hv;go_enter func90,ntmps90;go_wp2_with (go_at_call 25;refine(dM.out _ bZ.out).mono ?_;rintro e w' ⟨rfl,hb⟩;refine aaI ?_);refine ζ ?_;have HB:=ζ (bZ.out.trans (hb.mono bZ.out.size));clear hb;go_wp2;go_ret2;exact⟨.inr ⟨HV.out,rfl⟩,HB.out⟩
 |true=>
  rw[hv] at dM;have hval:=Si.aL.1 hv;have bV:=hval.few;have hlo:=hval.lo;have hhi:=hval.hi;obtain⟨m,rfl⟩:∃m:Nat,n=(m:Int):=⟨n.toNat,by omega⟩;have cC:=ζ hval;have hmk:∀W,(Instr.makeSlice 237 (.int .i64 (m:Int)) (.int .i64 (m:Int))).run prog W= .ok (.slice (some ⟨W.heap.size,0,none⟩) m m) (W.alloc (.cells (madeCells #[.bool false] m) 4)):=fun W=>by
   have:=run_make (P:=prog) W 237 4 i0 (.bool false) Tryz.underlying237 hi hz0 .i64 .i64 (m:Int) (m:Int) (by omega) (acq _) (by rw[hz2];omega) (by omega);rw[this,hz1];simp[Value.cells]
  clear hval hv;go_enter func90,ntmps90;go_wp2_with (go_at_call 25;refine(dM.out _ bZ.out).mono ?_;rintro e w1 ⟨rfl,hb⟩;refine aaI ?_);refine ζ ?_;have hG:w1.heap[w.heap.size]? =some (.cells #[.int .i64 m,.slice ao es.length cap] 24 (0,0)):=(hb.block _ (by simp)).trans (heap_alloc_new w _);have aD:=ζ (bZ.out.trans (hb.mono bZ.out.size));have HG:=ζ hG;have pP:=lt_of_block hG;obtain⟨g0,g1,-⟩:=af hG;have F9:Hid (aG (w1.alloc (.cells (madeCells #[.bool false] m) 4)) w1.heap.size m (fun v=>Co.met (es.take 0) v)):=k9 rfl m;have jR:=ζ ((aa0 w1 (.cells (madeCells #[.bool false] m) 4) w.heap.size pP).trans hG);have aI:=ζ (aD.out.alloc aD.out.size (.cells (madeCells #[.bool false] m) 4));clear hb hG dM;go_wp2;clear hmk g0 g1;go_loopw [5] (fun cv wr=>∃i:Nat,i<=es.length/\cv= .int .i64 (i:Int)/\aG wr w1.heap.size m (fun v=>Co.met (es.take i) v)/\wr.heap[w.heap.size]? =some (.cells #[.int .i64 m,.slice ao es.length cap] 24 (0,0))/\Below w.heap.size w wr) (fun cv _=>es.length-(intOf cv).toNat)
  case atStart=>exact⟨0,aaR _,rfl,F9.out,jR.out,aI.out⟩
  case round=>
   obtain⟨i,hi',rfl,hI,hg,hb⟩:=hrel;have HI:=ζ hI;have HGr:=ζ hg;have HB:=ζ hb;have hsb:=hb.size;have hsI:=hI.lt;obtain⟨x0,x1,-⟩:=af hg;have hs1:=aD.out.size;by_cases hlt:i<es.length
   .have aP:(i:Int)<(es.length:Int):=by omega
    have ZC:(0:Int)<=(i:Int):=by omega
    obtain⟨q,hq⟩:∃q,es[i]? =some q:=⟨_,aaE hlt⟩;have hok:=cC.out.each i q hq;unfold Si.ok at hok;obtain⟨b,o,rfl,c0,c1⟩:=(HE.out.later hb) i q hq;have dA:b<w.heap.size:=by
     obtain⟨b',o',e',h0,_⟩:=HE.out i q hq;cases e';exact block_lt_of_cell h0
    obtain⟨qu,qv⟩:=q;dsimp only at c0 c1 hok;obtain⟨u,rfl⟩:∃u:Nat,qu=(u:Int):=⟨qu.toNat,by omega⟩;obtain⟨v,rfl⟩:∃v:Nat,qv=(v:Int):=⟨qv.toNat,by omega⟩;have FA:u<m:=by omega
    have wh:v<m:=by omega
    have u0:(0:Int)<=(u:Int):=by omega
    have u1:(u:Int)<(m:Int):=by omega
    have v0:(0:Int)<=(v:Int):=by omega
    have v1:(v:Int)<(m:Int):=by omega
    have cu:=hI.cell FA;have cf:=hI.free;have n1:=hI.set u true;have cv:=n1.cell wh;have cvf:=n1.free;have n2:=n1.set v true;have cw:=hI.cell wh;have yh:w.heap.size≠w1.heap.size:=by omega
    have Yr:b≠w1.heap.size:=by omega
    have k1:(wr.setCell ⟨w1.heap.size,u,none⟩ (.bool true)).cell? ⟨w.heap.size,1,none⟩=some (.slice (some ⟨b,o,none⟩) es.length cap):=by
     rw[<-x1];exact abF (w:=wr) (a:=⟨w.heap.size,1,none⟩) (heap_setCell_other wr ⟨w1.heap.size,u,none⟩ w.heap.size _ yh)
    have k2:(wr.setCell ⟨w1.heap.size,u,none⟩ (.bool true)).cell? ⟨b,o+i*2+1,none⟩=some (.int .i64 (v:Int)):=by
     rw[<-c1];exact abF (w:=wr) (a:=⟨b,o+i*2+1,none⟩) (heap_setCell_other wr ⟨w1.heap.size,u,none⟩ b _ Yr)
    have yS:Hid (aG ((wr.setCell ⟨w1.heap.size,u,none⟩ (.bool true)).setCell ⟨w1.heap.size,v,none⟩ (.bool true)) w1.heap.size m (fun x=>Co.met (es.take (i+1)) x)):=by
     refine n2.congr (fun j hj=> ?_);rw[Si.fR hq,Co.RS];by_cases ev:j=v
     .subst ev
      rw[Co.fQ];simp
     .rw[Co.dS _ ev]
      by_cases eu:j=u
      .subst eu
       rw[Co.fQ];simp
      .rw[Co.dS _ eu]
       have e1:((u:Int)==(j:Int))=false:=by simp;omega
       have e2:((v:Int)==(j:Int))=false:=by simp;omega
       rw[e1,e2];simp
    have cA:Hid (((wr.setCell ⟨w1.heap.size,u,none⟩ (.bool true)).setCell ⟨w1.heap.size,v,none⟩ (.bool true)).heap[w.heap.size]? =some (.cells #[.int .i64 m,.slice (some ⟨b,o,none⟩) es.length cap] 24 (0,0))):=by
     show _=_;rw[heap_setCell_other _ ⟨w1.heap.size,v,none⟩ w.heap.size _ yh,heap_setCell_other _ ⟨w1.heap.size,u,none⟩ w.heap.size _ yh];exact hg
    have aA:=ζ ((hb.setCell (p:=⟨w1.heap.size,u,none⟩) hs1 (.bool true)).setCell (p:=⟨w1.heap.size,v,none⟩) hs1 (.bool true));clear hI hg hb hq hok n1 n2;go_wp2;go_roundw
    case rel=>exact⟨i+1,by omega,by go_num,yS.out,cA.out,aA.out⟩
    case measure=>simp[intOf];omega
   .have hd:¬((i:Int)<(es.length:Int)):=by omega
    obtain⟨w0,rfl⟩:∃w0,w0=wr:=⟨wr,rfl⟩;rw[abn (by omega)] at HI;clear hI hg hb;go_wp2;go_loopw [6,7] (fun s c wr=>∃k:Nat,k<=m/\c= .int .i64 (k:Int)/\s= .int .i64 (Co.aC (fun v=> !Co.met es v) k:Int)/\wr=w0) (fun _ c _=>m-(intOf c).toNat)
    case atStart=>exact⟨0,aaR _,rfl,rfl,rfl⟩
    case round=>
     obtain⟨k,hk,rfl,rfl,hwr⟩:=hrel;obtain rfl:=hwr.symm;clear hwr;have hcl:=Co.bM (fun v=> !Co.met es v) k;by_cases hkn:k<m
     .have hk0:(0:Int)<=(k:Int):=by omega
      have hk1:(k:Int)<(m:Int):=by omega
      have c0:=HI.out.cell hkn;have kH:Co.aC (fun v=> !Co.met es v) (k+1)=Co.aC (fun v=> !Co.met es v) k+(if !Co.met es k then 1 else 0):=rfl;obtain⟨z,hz⟩:∃z,Co.aC (fun v=> !Co.met es v) k=z:=⟨_,rfl⟩;rw[hz] at hcl kH ⊢;clear hz;cases Dz:Co.met es k with
      |false=>
       rw[Dz] at kH c0;have rO:=ζ kH;clear kH Dz;go_wp2;go_roundw
       case rel=>exact⟨k+1,by omega,by go_num,by rw[rO.out];go_num,by first|rfl|trivial⟩
       case measure=>simp[intOf];omega
      |true=>
       rw[Dz] at kH c0;have rO:=ζ kH;clear kH Dz;go_wp2;go_roundw
       case rel=>exact⟨k+1,by omega,by go_num,by rw[rO.out];go_num,by first|rfl|trivial⟩
       case measure=>simp[intOf];omega
     .have hd2:¬((k:Int)<(m:Int)):=by omega
      obtain rfl:k=m:=by omega
      go_wp2;go_ret2;exact⟨.inl ⟨k,rfl,cC.out,rfl⟩,HB.out⟩
end
section
open Go.Proofs.Tryz
open Go.RowKit Go.Sort
theorem vu (n:Int) (ao:Option Addr) (cap:Nat) (es:List (Int×Int)) (w:World) (he:ah w ao es) (hl:es.length<=4611686018427387904):
 Calls prog 62 #[aB n ao es.length cap] w (Nw n es w):=by
 obtain⟨i0,hi,hz0,hz1,hz2⟩:=info_parts Tryz.cL;have HE:=ζ he;have kG:=fun W (hb:Below w.heap.size w W)=>fO n ao cap es W (he.later hb) hl
 unfold aB at kG ⊢;have dM:=ζ kG;clear he kG;have eA:Below w.heap.size w (w.alloc (.cells #[.int .i64 n,.slice ao es.length cap] 24)):=(aaG _ _).alloc (aaF _) _;have bZ:=ζ eA;clear eA;cases hv:Si.valid n es with
 |false=>
  rw[hv] at dM;have HV:=ζ hv;clear hv;go_enter func62,ntmps62;go_wp2_with (go_at_call 25;refine(dM.out _ bZ.out).mono ?_;rintro e w' ⟨rfl,hb⟩;refine aaI ?_);refine ζ ?_;have HB:=ζ (bZ.out.trans (hb.mono bZ.out.size));clear hb;go_wp2;go_ret2;exact⟨.inr ⟨HV.out,rfl⟩,HB.out⟩
 |true=>
  rw[hv] at dM;have hval:=Si.aL.1 hv;have bV:=hval.few;have hlo:=hval.lo;have hhi:=hval.hi;obtain⟨m,rfl⟩:∃m:Nat,n=(m:Int):=⟨n.toNat,by omega⟩;have cC:=ζ hval;have HV:=ζ hv;clear hval hv;go_enter func62,ntmps62;go_wp2_with (go_at_call 25;refine(dM.out _ bZ.out).mono ?_;rintro e w' ⟨rfl,hb⟩;refine aaI ?_);refine ζ ?_;have hG:w'.heap[w.heap.size]? =some (.cells #[.int .i64 m,.slice ao es.length cap] 24 (0,0)):=(hb.block _ (by simp)).trans (heap_alloc_new w _);have HB:=ζ (bZ.out.trans (hb.mono bZ.out.size));have pP:=lt_of_block hG;obtain⟨g0,g1,-⟩:=af hG;have HG:=ζ hG;clear hb hG;go_wp2_with (at_make;refine wpList_make_full _ rfl _ _ 55 rfl w'.heap.size 3 i0 (.int .i64 0) 1 Tryz.underlying55 hi hz0 hz1 _ _ _ _ m rfl rfl rfl rfl (by rw[hz2];omega) (by unfold maxLen;omega) (aaF _) ?_;refine aaI ?_);refine ζ ?_;intro w2 hrow hg2;rw[dx] at hrow;have hik:=eR hrow;have hb2:Below w'.heap.size w' w2:=(aaG _ _).grown hg2 (aaF _) (fun j hj=>by cases hj);have aA:=ζ (HB.out.trans (hb2.mono HB.out.size));have cA:=ζ ((hb2.block _ pP).trans HG.out);have hs2:w'.heap.size<w2.heap.size:=hik.lt;have HIK:Hid (aq w2 w'.heap.size (Si.aS m [])):=by
   show aq _ _ _;have:Si.aS m []=List.replicate m 0:=by simp[Si.aS]
   rw[this];exact hik
  have hwg:w.heap.size<=w'.heap.size:=by omega
  have UQ:w.heap.size<w2.heap.size:=by omega
  clear hrow hg2 hb2 hik g0 g1;go_wp2;go_loopw [6] (fun c wr=>∃(k:Nat) (l:List Int),k<=es.length/\c= .int .i64 k/\l=Si.aS m (es.take k)/\aq wr w'.heap.size l/\wr.heap[w.heap.size]? =some (.cells #[.int .i64 m,.slice ao es.length cap] 24 (0,0))/\Below w.heap.size w wr) (fun c _=>es.length-(intOf c).toNat)
  case atStart=>exact⟨0,_,aaR _,rfl,by simp,HIK.out,cA.out,aA.out⟩
  case round=>
   obtain⟨k,l,hk,rfl,hl0,hik,hgr,hb⟩:=hrel;obtain⟨-,k1,-⟩:=af hgr;have jQ:=ζ hgr;have ajW:=lt_of_block hgr;clear hgr;have hsw:=hik.lt;have hs0:=hb.size;have eB:l.length=m:=by rw[hl0,Si.jK];simp
   have e6:Si.Bl (2*k) l:=by
    rw[hl0];have:=Si.El m (es.take k);have e:(es.take k).length=k:=by simp;omega
    rw[e] at this;exact this
   have WY:=ζ hik;have aK:=ζ hb;have tK:=ζ hl0;clear hl0;by_cases hlt:k<es.length
   .have aP:(k:Int)<(es.length:Int):=by omega
    have hk0:(0:Int)<=(k:Int):=by omega
    obtain⟨p,hp⟩:∃p,es[k]? =some p:=⟨_,aaE hlt⟩;obtain⟨b,o,rfl,q0,-⟩:=HE.out k p hp;have hb0:b<w.heap.size:=block_lt_of_cell q0;obtain⟨b',o',e',c0,c1⟩:=(HE.out.later hb) k p hp;cases e';have hbl:b<wr.heap.size:=block_lt_of_cell c0;clear q0;have wj:Si.aS m (es.take (k+1))=Si.bump (Si.bump l p.1) p.2:=by rw[Si.fR hp,Si.wE,<-tK.out]
    have hok:=cC.out.each k p hp;unfold Si.ok at hok;obtain⟨pu,pv⟩:=p;dsimp only at c0 c1 wj hok;obtain⟨u,rfl⟩:∃u:Nat,pu=(u:Int):=⟨pu.toNat,by omega⟩;obtain⟨v,rfl⟩:∃v:Nat,pv=(v:Int):=⟨pv.toNat,by omega⟩;obtain⟨x,hx⟩:∃x,l[u]? =some x:=⟨_,aaE (by omega)⟩;obtain⟨y,hy⟩:∃y,l[v]? =some y:=⟨_,aaE (by omega)⟩;have hxb:=e6 u x hx;have hyb:=e6 v y hy;have hne:u≠v:=by omega
    have LC:Si.aS m (es.take (k+1))=(l.set u (x+1)).set v (y+1):=by
     rw[wj,Si.pY hx,Si.pY (x:=y) (by rw[aa8,if_neg hne];exact hy)]
    have Nc:=ζ LC;have hcx:=hik.cell hx;have Vt:=hik.cell hy;have hfr:=hik.free;have hi1:=hik.set u (x+1);have afi:=hi1.cell (i:=v) (x:=y) (by rw[aa8,if_neg hne];exact hy);have Vp:=hi1.free;have tL:=ζ (hi1.set v (y+1));have c1':(wr.setCell ⟨w'.heap.size,u,none⟩ (.int .i64 (x+1))).cell? ⟨b,o+k*2+1,none⟩=some (.int .i64 v):=(Bg (by omega) _).trans c1;have k1':(wr.setCell ⟨w'.heap.size,u,none⟩ (.int .i64 (x+1))).cell? ⟨w.heap.size,1,none⟩=some (.slice (some ⟨b,o,none⟩) es.length cap):=(Bg (by omega) _).trans k1;have agU:Hid (((wr.setCell ⟨w'.heap.size,u,none⟩ (.int .i64 (x+1))).setCell ⟨w'.heap.size,v,none⟩ (.int .i64 (y+1))).heap[w.heap.size]? =some (.cells #[.int .i64 m,.slice (some ⟨b,o,none⟩) es.length cap] 24 (0,0))):=by
     show _=_;rw[heap_setCell_other _ ⟨w'.heap.size,v,none⟩ w.heap.size _ (by simp;omega),heap_setCell_other _ ⟨w'.heap.size,u,none⟩ w.heap.size _ (by simp;omega)];exact jQ.out
    have u0:(0:Int)<=(u:Int):=by omega
    have v0:(0:Int)<=(v:Int):=by omega
    have um:(u:Int)<(m:Int):=by omega
    have vm:(v:Int)<(m:Int):=by omega
    clear wj LC e6 hok hx hy hb hik hi1 hp;go_wp2;go_roundw
    case rel=>exact⟨k+1,_,by omega,by go_num,Nc.out.symm,tL.out,agU.out,(aK.out.setCell (by simp;omega) _).setCell (by simp;omega) _⟩
    case measure=>simp[intOf];omega
   .have hd:¬((k:Int)<(es.length:Int)):=by omega
    have hle:l=Si.aS m es:=by rw[tK.out,abn (by omega)]
    have Af:=ζ hle;clear hle hb hik e6;go_wp2;go_ret2;refine⟨.inl ⟨HV.out,w'.heap.size,m,rfl,rfl,hwg,?_⟩,aK.out⟩;rw[<-Af.out];exact WY.out
end
section
open Go.Proofs.Tryz
open Go.RowKit Go.Sort
theorem Lg (a b v:Int) (w:World):Calls prog 214 #[.agg #[.int .i64 a,.int .i64 b],.int .i64 v] w fun e w'=>e= .returned (.int .i64 (if a=v then b else a))/\Below w.heap.size w w':=by
 have eA:Below w.heap.size w (w.alloc (.cells #[.int .i64 a,.int .i64 b] 66)):=(aaG _ _).alloc (aaF _) _;have HB:=ζ eA;clear eA;by_cases h1:a=v
 .rw[if_pos h1]
  have d1:(a==v)=true:=by simp[h1]
  clear h1;go_enter func214,ntmps214;go_wp2;go_ret;exact⟨rfl,HB.out⟩
 .rw[if_neg h1]
  have d1:(a==v)=false:=by simp[h1]
  go_enter func214,ntmps214;go_wp2;go_ret;exact⟨rfl,HB.out⟩
theorem Uw (n:Int) (ao:Option Addr) (cap:Nat) (es:List (Int×Int)) (v x:Int) (w:World) (he:ah w ao es) (hl:es.length<=4611686018427387904):
 Calls prog 215 #[.agg #[.int .i64 n,.slice ao es.length cap],.int .i64 v,.int .i64 x] w fun e w'=>∃r,e= .returned (.int .i64 r)/\Ku.QZ es v x r/\Below w.heap.size w w':=by
 obtain⟨W,hW⟩:∃W,W=w.alloc (.cells #[.int .i64 n,.slice ao es.length cap] 24):=⟨_,rfl⟩;have hB0:Below w.heap.size w W:=by rw[hW];exact(aaG _ _).alloc (aaF _) _
 have g1:W.heap[w.heap.size]? =some (.cells #[.int .i64 n,.slice ao es.length cap] 24 (0,0)):=by rw[hW];exact heap_alloc_new w _
 obtain⟨-,c1,-⟩:=af g1;have HE:=ζ (he.later hB0);have HB:=ζ hB0;have HW:=ζ hW;clear he hB0 g1 hW;go_enter func215,ntmps215;go_wp2_with fail;rw[<-HW.out];go_wp2;go_loopw [7] (fun cv wr=>∃k:Nat,k<=es.length/\cv= .int .i64 (k:Int)/\(∀(i:Nat) (p:Int×Int),i<k->es[i]? =some p->(i:Int)≠x->p.1≠v/\p.2≠v)/\wr=W) (fun cv _=>es.length-(intOf cv).toNat)
 case atStart=>exact⟨0,aaR _,rfl,fun i p hi=>by omega,rfl⟩
 case round=>
  obtain⟨k,hk,rfl,hno,hwr⟩:=hrel;obtain rfl:=hwr.symm;have cB:=ζ hno;have hwk:IntKind.i64.wrap ((k:Int)+1)=(k:Int)+1:=by rw[aaK];omega
  clear hwr hno;by_cases hlt:k<es.length
  .have aP:(k:Int)<(es.length:Int):=by omega
   have hk0:(0:Int)<=(k:Int):=by omega
   obtain⟨⟨p1,p2⟩,hp⟩:∃p,es[k]? =some p:=⟨_,aaE hlt⟩;obtain⟨b,o,rfl,d0,d1⟩:=HE.out k _ hp;dsimp only at d0 d1;have HP:=ζ hp;clear hp;have next:(((k:Int)≠x)->p1≠v/\p2≠v)->∀(i:Nat) (p:Int×Int),i<k+1->es[i]? =some p->(i:Int)≠x->p.1≠v/\p.2≠v:=fun h i p hi hp hx=>by
    by_cases e:i=k
    .subst e
     rw[HP.out] at hp;cases hp;exact h hx
    .exact cB.out i p (by omega) hp hx
   have iZ:=ζ next
   clear next
   by_cases hx:(k:Int)=x
   .have t1:((k:Int) != x)=false:=by simp[hx]
    have HG:=ζ (iZ.out (fun h=>absurd hx h));clear hx;go_wp2;go_roundw
    case rel=>exact⟨k+1,by omega,by go_num,HG.out,by first|rfl|trivial⟩
    case measure=>simp[intOf];omega
   .have t1:((k:Int) != x)=true:=by simp[hx]
    have HX:=ζ hx;clear hx;by_cases h1:p1=v
    .have t2:(p1==v)=true:=by simp[h1]
     have HF:Hid (Ku.QZ es v x (k:Int)):= .inr ⟨k,_,rfl,HP.out,HX.out,.inl h1⟩;clear h1;go_wp2;go_ret;exact⟨_,rfl,HF.out,HB.out⟩
    .have t2:(p1==v)=false:=by simp[h1]
     by_cases h2:p2=v
     .have t3:(p2==v)=true:=by simp[h2]
      have HF:Hid (Ku.QZ es v x (k:Int)):= .inr ⟨k,_,rfl,HP.out,HX.out,.inr h2⟩;clear h1 h2;go_wp2;go_ret;exact⟨_,rfl,HF.out,HB.out⟩
     .have t3:(p2==v)=false:=by simp[h2]
      have HG:=ζ (iZ.out (fun _=>⟨h1,h2⟩));clear h1 h2;go_wp2;go_roundw
      case rel=>exact⟨k+1,by omega,by go_num,HG.out,by first|rfl|trivial⟩
      case measure=>simp[intOf];omega
  .have hd:¬((k:Int)<(es.length:Int)):=by omega
   have HF:Hid (Ku.QZ es v x (-1)):= .inl ⟨rfl,fun i p hp=>cB.out i p (by have:=(aaH.1 hp).1;omega) hp⟩;go_wp2;go_ret;exact⟨_,rfl,HF.out,HB.out⟩
theorem qA (ao:Option Addr) (q c:Nat) (l:List Int) (w:World) (hq:l.length=q) (h:aV w ao l) (hl:q<=17592186044000):
 Calls prog 104 #[.slice ao q c] w fun e w'=>∃v,e= .returned v/\ak w' w.heap.size v l.reverse/\Below w.heap.size w w':=by
 have HL:=ζ h;have HQ:=ζ hq;have hw0:IntKind.i64.wrap ((q:Int)-1)=(q:Int)-1:=by rw[aaK];omega
 clear h hq;go_enter func104,ntmps104;go_wp2;go_loopw [3,4] (fun v cv wr=>∃(j:Nat) (x:Int),j<=q/\cv= .int .i64 x/\x=(j:Int)-1/\ak wr w.heap.size v (l.drop j).reverse/\Below w.heap.size w wr) (fun _ cv _=>((intOf cv)+1).toNat)
 case atStart=>exact⟨q,_,aaF _,rfl,rfl,by rw[ab2 (by rw[HQ.out];exact aaF _)];exact ak.nil _ _,aaG _ _⟩
 case round=>
  obtain⟨j,x,hj,rfl,hx,hown,hb⟩:=hrel;have bK:=ζ hown;have HB:=ζ hb;have hs0:=hb.size;cases j with
  |zero=>
   obtain rfl:x= -1:=by simpa using hx
   have HF:Hid (l.drop 0=l):=rfl;clear hown hb hx;go_wp2;go_ret;exact⟨_,rfl,by simpa using bK.out,HB.out⟩
  |succ k=>
   obtain rfl:x=(k:Int):=by omega
   have hk0:(0:Int)<=(k:Int):=by omega
   have hk1:(k:Int)<(q:Int):=by omega
   have hwk:IntKind.i64.wrap ((k:Int)-1)=(k:Int)-1:=by rw[aaK];omega
   obtain⟨y,hy⟩:∃y,l[k]? =some y:=⟨_,aaE (by rw[HQ.out];omega)⟩;obtain⟨b,o,rfl,d0⟩:=(HL.out.later hb) k y hy;have qh:=ζ (Ku.Rz hy);have eB:((l.drop (k+1)).reverse).length<=17592186044000:=by rw[acm,acQ,HQ.out];omega
   clear hown hb hx hy;go_wp2_with (at_builtin;refine bu rfl _ _ rfl _ w.heap.size _ _ y bK.out hs0 eB rfl rfl ?_;refine aaI ?_);refine ζ ?_;intro v' w3 hrow3 _ _ hb3;have fK:=ζ hrow3;have aK:=ζ (HB.out.trans hb3);clear hrow3 hb3;go_wp2;go_roundw
   case rel=>exact⟨k,_,by omega,rfl,rfl,by rw[<-qh.out];exact fK.out,aK.out⟩
   case measure=>simp[intOf]
theorem Lh (ao:Option Addr) (q c:Nat) (l:List Int) (w:World) (hq:l.length=q) (h:aV w ao l) (h0:0<q) (hl:q<=17592186044000):
 Calls prog 216 #[.slice ao q c] w fun e w'=>∃k:Nat,e= .returned (.int .i64 (k:Int))/\k<q/\(∀(i:Nat),i<q->l.getD k 0<=l.getD i 0)/\Below w.heap.size w w':=by
 have HL:=ζ h;have HQ:=ζ hq;clear h hq;go_enter func216,ntmps216;go_wp2;go_loopw [3,4] (fun v cv wr=>∃(a k:Nat),k<=q/\a<k/\v= .int .i64 (a:Int)/\cv= .int .i64 (k:Int)/\(∀(i:Nat),i<k->l.getD a 0<=l.getD i 0)/\Below w.heap.size w wr) (fun _ cv _=>q-(intOf cv).toNat)
 case atStart=>
  refine⟨0,1,by omega,by omega,rfl,rfl,fun i hi=> ?_,aaG _ _⟩;obtain rfl:i=0:=by omega
  exact acq _
 case round=>
  obtain⟨a,k,hk,hak,rfl,rfl,hmin,hb⟩:=hrel;obtain⟨w1,rfl⟩:∃w1,w1=wr:=⟨wr,rfl⟩;have Nl:=ζ hmin;have HB:=ζ hb;have hwk:IntKind.i64.wrap ((k:Int)+1)=(k:Int)+1:=by rw[aaK];omega
  by_cases hlt:k<q
  .have aP:(k:Int)<(q:Int):=by omega
   have hk0:(0:Int)<=(k:Int):=by omega
   have ha0:(0:Int)<=(a:Int):=by omega
   have ha1:(a:Int)<(q:Int):=by omega
   obtain⟨y,hy⟩:∃y,l[k]? =some y:=⟨_,aaE (by rw[HQ.out];omega)⟩;obtain⟨z,hz⟩:∃z,l[a]? =some z:=⟨_,aaE (by rw[HQ.out];omega)⟩;obtain⟨b,o,rfl,e0⟩:=(HL.out.later hb) k y hy;obtain⟨b',o',e,e1⟩:=(HL.out.later hb) a z hz;cases e;have gy:l.getD k 0=y:=by rw[aaL,hy];rfl
   have gz:l.getD a 0=z:=by rw[aaL,hz];rfl
   have d0:∀D:LW w1,D.val.cell? ⟨b,o+k,none⟩=some (.int .i64 y):=fun D=>(D.h.cell (p:=⟨b,o+k,none⟩) (block_lt_of_cell e0)).trans e0
   have d1:∀D:LW w1,D.val.cell? ⟨b,o+a,none⟩=some (.int .i64 z):=fun D=>(D.h.cell (p:=⟨b,o+a,none⟩) (block_lt_of_cell e1)).trans e1
   have W6:=ζ gy;have Ah:=ζ gz;have hne:=LW.any w1;clear hmin hb hy hz gy gz e0 e1;by_cases hyz:y<z
   .have HN:Hid (∀(i:Nat),i<k+1->l.getD k 0<=l.getD i 0):=fun i hi=>by
     by_cases e:i=k
     .rw[e];exact acq _
     .have:=Nl.out i (by omega)
      rw[Ah.out] at this;rw[W6.out];omega
    go_wp2_with fail;refine aH (by kernel_rfl) (by kernel_rfl) ?_
    repeat (go_big_quiet_step (fail))
    refine wpQuiet_nil ?_;rintro _ ⟨E,rfl⟩;have b9:=ζ (HB.out.trans (E.h.mono HB.out.size));obtain⟨WE,dP⟩:∃WE,WE=E.val:=⟨_,rfl⟩;rw[<-dP] at b9 ⊢;clear d0 d1 hne dP;go_wp2;go_roundw
    case rel=>exact⟨k,k+1,by omega,by omega,rfl,by go_num,HN.out,b9.out⟩
    case measure=>simp[intOf];omega
   .have HN:Hid (∀(i:Nat),i<k+1->l.getD a 0<=l.getD i 0):=fun i hi=>by
     by_cases e:i=k
     .rw[e,W6.out,Ah.out];omega
     .exact Nl.out i (by omega)
    go_wp2_with fail;refine aH (by kernel_rfl) (by kernel_rfl) ?_
    repeat (go_big_quiet_step (fail))
    refine wpQuiet_nil ?_;rintro _ ⟨E,rfl⟩;have b9:=ζ (HB.out.trans (E.h.mono HB.out.size));obtain⟨WE,dP⟩:∃WE,WE=E.val:=⟨_,rfl⟩;rw[<-dP] at b9 ⊢;clear d0 d1 hne dP;go_wp2;go_roundw
    case rel=>exact⟨a,k+1,by omega,by omega,rfl,by go_num,HN.out,b9.out⟩
    case measure=>simp[intOf];omega
  .have hd:¬((k:Int)<(q:Int)):=by omega
   obtain rfl:k=q:=by omega
   clear hmin hb;go_wp2;go_ret;exact⟨a,rfl,hak,Nl.out,HB.out⟩
end
section
open Go.Proofs.Tryz
open Go.RowKit Go.Sort
namespace Ku
end Ku
theorem vD (B:Nat) (ao:Option Addr) (q c:Nat) (l:List Int) (w:World) (hq:l.length=q) (h:ak w B (.slice ao q c) l) (hB:B<=w.heap.size) (h2:2<=q) (hl:q<=17592186044000):
 Calls prog 152 #[.slice ao q c] w fun e w'=>∃v,e= .returned v/\ak w' B v (Ku.bU l)/\Below w.heap.size w w':=by
 obtain⟨ao',c',e,hat,-⟩:=h.form;rw[hq] at e;cases e;have bK:=ζ h;have Am:=ζ hat;obtain⟨q1,hq1⟩:∃q1,q1=q-1:=⟨_,rfl⟩;obtain⟨q2,xZ⟩:∃q2,q2=q-2:=⟨_,rfl⟩;obtain⟨x0,hx0⟩:∃x,l[0]? =some x:=⟨_,aaE (by omega)⟩;obtain⟨x1,hx1⟩:∃x,l[1]? =some x:=⟨_,aaE (by omega)⟩;obtain⟨xn,qC⟩:∃x,l[q1]? =some x:=⟨_,aaE (by omega)⟩;obtain⟨xm,Fw⟩:∃x,l[q2]? =some x:=⟨_,aaE (by omega)⟩;obtain⟨b,o,rfl,e0⟩:=hat 0 x0 hx0;obtain⟨_,_,e,e1⟩:=hat 1 x1 hx1;cases e;obtain⟨_,_,e,e2⟩:=hat q1 xn qC;cases e;obtain⟨_,_,e,e3⟩:=hat q2 xm Fw;cases e;rw[abG] at e0;have hw1:IntKind.i64.wrap ((q:Int)-1)=(q1:Int):=by rw[aaK];omega
 have hw2:IntKind.i64.wrap ((q:Int)-2)=(q2:Int):=by rw[aaK];omega
 have i0:(0:Int)<(q:Int):=by omega
 have i1:(1:Int)<(q:Int):=by omega
 have i2:(0:Int)<=(q1:Int):=by omega
 have i3:(q1:Int)<(q:Int):=by omega
 have i4:(0:Int)<=(q2:Int):=by omega
 have i5:(q2:Int)<(q:Int):=by omega
 have d0:∀D:LW w,D.val.cell? ⟨b,o,none⟩=some (.int .i64 x0):=fun D=>(D.h.cell (p:=⟨b,o,none⟩) (block_lt_of_cell e0)).trans e0
 have d1:∀D:LW w,D.val.cell? ⟨b,o+1,none⟩=some (.int .i64 x1):=fun D=>(D.h.cell (p:=⟨b,o+1,none⟩) (block_lt_of_cell e1)).trans e1
 have d2:∀D:LW w,D.val.cell? ⟨b,o+q1,none⟩=some (.int .i64 xn):=fun D=>(D.h.cell (p:=⟨b,o+q1,none⟩) (block_lt_of_cell e2)).trans e2
 have d3:∀D:LW w,D.val.cell? ⟨b,o+q2,none⟩=some (.int .i64 xm):=fun D=>(D.h.cell (p:=⟨b,o+q2,none⟩) (block_lt_of_cell e3)).trans e3
 have hne:=LW.any w;have yV:Hid (Ku.bU l=if xn<x0\/(x0=xn/\xm<x1) then l.reverse else l):=by
  show _=_;unfold Ku.bU;rw[hq,<-hq1,<-xZ,Ku.bR hx0,Ku.bR hx1,Ku.bR qC,Ku.bR Fw]
 have HTU:Hid (∀W,Below w.heap.size w W->Calls prog 104 #[.slice (some ⟨b,o,none⟩) q c] W fun e w'=>∃v,e= .returned v/\ak w' W.heap.size v l.reverse/\Below W.heap.size W w'):=fun W hb=>qA _ q c l W hq (Am.out.later hb) hl
 clear h hat hx0 hx1 qC Fw hq1 xZ e0 e1 e2 e3;by_cases ha:xn<x0
 .have HR:Hid (Ku.bU l=l.reverse):=by show _=_;rw[yV.out,if_pos (.inl ha)]
  go_enter func152,ntmps152;go_wp2_with fail;refine aH (by kernel_rfl) (by kernel_rfl) ?_
  repeat (go_big_quiet_step (fail))
  refine wpQuiet_nil ?_;rintro _ ⟨E,rfl⟩;have b9:=ζ E.h;obtain⟨WE,dP⟩:∃WE,WE=E.val:=⟨_,rfl⟩;rw[<-dP] at b9 ⊢;have HT:=ζ (HTU.out WE b9.out);clear d0 d1 d2 d3 hne dP;go_wp2_with (go_at_call 104;refine HT.out.mono ?_;rintro e w2 ⟨v,rfl,ho,hb⟩;refine aaI ?_);refine ζ ?_;have HO:=ζ ho;have HB:=ζ (b9.out.trans (hb.mono b9.out.size));have hs:=b9.out.size;clear ho hb;go_wp2;go_ret;exact⟨_,rfl,by rw[HR.out];exact HO.out.lower (by omega),HB.out⟩
 .have u1:decide (xn<x0)=false:=by simp only[decide_eq_false_iff_not];exact ha
  by_cases hb:x0=xn
  .have t1:(x0==xn)=true:=by simp[hb]
   by_cases hc:xm<x1
   .have u2:decide (xm<x1)=true:=by simp only[decide_eq_true_eq];exact hc
    have HR:Hid (Ku.bU l=l.reverse):=by show _=_;rw[yV.out,if_pos (.inr ⟨hb,hc⟩)]
    clear hb;go_enter func152,ntmps152;go_wp2_with fail;refine aH (by kernel_rfl) (by kernel_rfl) ?_
    repeat (go_big_quiet_step (fail))
    refine wpQuiet_nil ?_;rintro _ ⟨E,rfl⟩;have b9:=ζ E.h;obtain⟨WE,dP⟩:∃WE,WE=E.val:=⟨_,rfl⟩;rw[<-dP] at b9 ⊢;have HT:=ζ (HTU.out WE b9.out);clear d0 d1 d2 d3 hne dP;go_wp2_with (go_at_call 104;refine HT.out.mono ?_;rintro e w2 ⟨v,rfl,ho,hb⟩;refine aaI ?_);refine ζ ?_;have HO:=ζ ho;have HB:=ζ (b9.out.trans (hb.mono b9.out.size));have hs:=b9.out.size;clear ho hb;go_wp2;go_ret;exact⟨_,rfl,by rw[HR.out];exact HO.out.lower (by omega),HB.out⟩
   .have u2:decide (xm<x1)=false:=by simp only[decide_eq_false_iff_not];exact hc
    have HR:Hid (Ku.bU l=l):=by show _=_;rw[yV.out,if_neg (by omega)]
    clear hb;go_enter func152,ntmps152;go_wp2_with fail;refine aH (by kernel_rfl) (by kernel_rfl) ?_
    repeat (go_big_quiet_step (fail))
    refine wpQuiet_nil ?_;rintro _ ⟨E,rfl⟩;have b9:=ζ E.h;have HO:=ζ (bK.out.later E.h);obtain⟨WE,dP⟩:∃WE,WE=E.val:=⟨_,rfl⟩;rw[<-dP] at b9 HO ⊢;clear d0 d1 d2 d3 hne dP;go_wp2;go_ret;exact⟨_,rfl,by rw[HR.out];exact HO.out,b9.out⟩
  .have t1:(x0==xn)=false:=by simp[hb]
   have HR:Hid (Ku.bU l=l):=by show _=_;rw[yV.out,if_neg (by omega)]
   clear hb;go_enter func152,ntmps152;go_wp2_with fail;refine aH (by kernel_rfl) (by kernel_rfl) ?_
   repeat (go_big_quiet_step (fail))
   refine wpQuiet_nil ?_;rintro _ ⟨E,rfl⟩;have b9:=ζ E.h;have HO:=ζ (bK.out.later E.h);obtain⟨WE,dP⟩:∃WE,WE=E.val:=⟨_,rfl⟩;rw[<-dP] at b9 HO ⊢;clear d0 d1 d2 d3 hne dP;go_wp2;go_ret;exact⟨_,rfl,by rw[HR.out];exact HO.out,b9.out⟩
theorem Le (ao:Option Addr) (q c:Nat) (l:List Int) (a b:Int) (w:World) (hq:l.length=q) (h:aV w ao l) (h1q:1<=q) (hl:q<=17592186044000):
 Calls prog 102 #[.slice ao q c,.agg #[.int .i64 a,.int .i64 b]] w (Ku.Tf l a b w):=by
 obtain⟨W,hW⟩:∃W,W=w.alloc (.cells #[.int .i64 a,.int .i64 b] 66):=⟨_,rfl⟩;have hB0:Below w.heap.size w W:=by rw[hW];exact(aaG _ _).alloc (aaF _) _
 have g1:W.heap[w.heap.size]? =some (.cells #[.int .i64 a,.int .i64 b] 66 (0,0)):=by rw[hW];exact heap_alloc_new w _
 have HL:=ζ (h.later hB0);have HQ:=ζ hq;have aI:=ζ hB0;have HW:=ζ hW;have HG:=ζ g1;clear h hq hB0 g1 hW;go_enter func102,ntmps102;go_wp2_with fail;rw[<-HW.out];go_wp2;go_loopw [5] (fun cv wr=>∃(k j:Nat),k<=q/\k=j+1/\cv= .int .i64 (k:Int)/\(∀(i:Nat) (x y:Int),i<j->l[i]? =some x->l[i+1]? =some y->¬((x=a/\y=b)\/(x=b/\y=a)))/\Below W.heap.size W wr) (fun cv _=>q-(intOf cv).toNat)
 case atStart=>exact⟨1,0,h1q,rfl,rfl,fun i x y hi=>by omega,aaG _ _⟩
 case round=>
  obtain⟨k,j,hk,hkj,rfl,hno,hb⟩:=hrel;obtain⟨w1,rfl⟩:∃w1,w1=wr:=⟨wr,rfl⟩;have cB:=ζ hno;have HB:=ζ hb;have hwk:IntKind.i64.wrap ((k:Int)+1)=(k:Int)+1:=by rw[aaK];omega
  have X7:IntKind.i64.wrap ((k:Int)-1)=(j:Int):=by rw[aaK];omega
  by_cases hlt:k<q
  .have aP:(k:Int)<(q:Int):=by omega
   have hk0:(0:Int)<=(k:Int):=by omega
   have hj0:(0:Int)<=(j:Int):=by omega
   have hj1:(j:Int)<(q:Int):=by omega
   obtain⟨x,hx⟩:∃x,l[j]? =some x:=⟨_,aaE (by rw[HQ.out];omega)⟩;obtain⟨y,hy⟩:∃y,l[k]? =some y:=⟨_,aaE (by rw[HQ.out];omega)⟩;obtain⟨bb,o,rfl,e0⟩:=(HL.out.later hb) j x hx;obtain⟨_,_,e,e1⟩:=(HL.out.later hb) k y hy;cases e;obtain⟨c0,c1,-⟩:=af ((hb.block _ (lt_of_block HG.out)).trans HG.out);have d0:∀D:LW w1,D.val.cell? ⟨bb,o+j,none⟩=some (.int .i64 x):=fun D=>(D.h.cell (p:=⟨bb,o+j,none⟩) (block_lt_of_cell e0)).trans e0
   have d1:∀D:LW w1,D.val.cell? ⟨bb,o+k,none⟩=some (.int .i64 y):=fun D=>(D.h.cell (p:=⟨bb,o+k,none⟩) (block_lt_of_cell e1)).trans e1
   have d2:∀D:LW w1,D.val.cell? ⟨w.heap.size,0,none⟩=some (.int .i64 a):=fun D=>(D.h.cell (p:=⟨w.heap.size,0,none⟩) (block_lt_of_cell c0)).trans c0
   have d3:∀D:LW w1,D.val.cell? ⟨w.heap.size,1,none⟩=some (.int .i64 b):=fun D=>(D.h.cell (p:=⟨w.heap.size,1,none⟩) (block_lt_of_cell c1)).trans c1
   have hne:=LW.any w1;have We:Hid (((x=a/\y=b)\/(x=b/\y=a))->Ku.JB l a b):=fun hh=>⟨j,x,y,hx,by rw[<-hkj];exact hy,hh⟩
   have ac9:Hid (¬((x=a/\y=b)\/(x=b/\y=a))->∀(i:Nat) (u v:Int),i<j+1->l[i]? =some u->l[i+1]? =some v->¬((u=a/\v=b)\/(u=b/\v=a))):=fun hh i u v hi hu hv=>by
    by_cases e:i=j
    .subst e
     rw[hx] at hu;rw[<-hkj,hy] at hv;cases hu;cases hv;exact hh
    .exact cB.out i u v (by omega) hu hv
   have HKJ:=ζ hkj;clear hno hb hx hy e0 e1 c0 c1 hkj;by_cases hh:(x=a/\y=b)\/(x=b/\y=a)
   .have HR:=ζ (We.out hh)
    have:(x==a&&y==b||x==b&&y==a)=true:=by
     rcases hh with ⟨rfl,rfl⟩|⟨rfl,rfl⟩<;>simp
    obtain⟨t1,ht1⟩:∃t,(x==a)=t:=⟨_,rfl⟩;obtain⟨t2,ht2⟩:∃t,(y==b)=t:=⟨_,rfl⟩;obtain⟨t3,ht3⟩:∃t,(x==b)=t:=⟨_,rfl⟩;obtain⟨t4,ht4⟩:∃t,(y==a)=t:=⟨_,rfl⟩;rw[ht1,ht2,ht3,ht4] at this;clear hh
    cases t1<;>cases t2<;>cases t3<;>cases t4<;>first
     |(exfalso;revert this;decide)
     |(clear this
       go_wp2_with fail;refine aH (by kernel_rfl) (by kernel_rfl) ?_
       repeat (go_big_quiet_step (fail))
       refine wpQuiet_nil ?_;rintro _ ⟨E,rfl⟩;have b9:=ζ (aI.out.trans ((HB.out.trans (E.h.mono HB.out.size)).mono aI.out.size));obtain⟨WE,dP⟩:∃WE,WE=E.val:=⟨_,rfl⟩;rw[<-dP] at b9 ⊢;clear d0 d1 d2 d3 hne dP;go_wp2;go_ret;exact⟨true,rfl,⟨fun _=>HR.out,fun _=>rfl⟩,b9.out⟩)
   .have HN:=ζ (ac9.out hh)
    have:(x==a&&y==b||x==b&&y==a)=false:=by
     cases hc:(x==a&&y==b||x==b&&y==a) with
     |false=>rfl
     |true=>
      exfalso;simp only[ab6,abB,beq_iff_eq] at hc;exact hh hc
    obtain⟨t1,ht1⟩:∃t,(x==a)=t:=⟨_,rfl⟩;obtain⟨t2,ht2⟩:∃t,(y==b)=t:=⟨_,rfl⟩;obtain⟨t3,ht3⟩:∃t,(x==b)=t:=⟨_,rfl⟩;obtain⟨t4,ht4⟩:∃t,(y==a)=t:=⟨_,rfl⟩;rw[ht1,ht2,ht3,ht4] at this;clear hh
    cases t1<;>cases t2<;>cases t3<;>cases t4<;>first
     |(exfalso;revert this;decide)
     |(clear this
       go_wp2_with fail;refine aH (by kernel_rfl) (by kernel_rfl) ?_
       repeat (go_big_quiet_step (fail))
       refine wpQuiet_nil ?_;rintro _ ⟨E,rfl⟩;have b9:=ζ (HB.out.trans (E.h.mono HB.out.size));obtain⟨WE,dP⟩:∃WE,WE=E.val:=⟨_,rfl⟩;rw[<-dP] at b9 ⊢;clear d0 d1 d2 d3 hne dP;go_wp2;go_roundw
       case rel=>exact⟨k+1,j+1,by omega,by have:=HKJ.out;omega,by go_num,HN.out,b9.out⟩
       case measure=>simp[intOf];omega)
  .have hd:¬((k:Int)<(q:Int)):=by omega
   have HN:Hid (¬Ku.JB l a b):=fun ⟨i,x,y,hx,hy,hh⟩=>hno i x y (by have:=(aaH.1 hy).1;rw[HQ.out] at this;omega) hx hy hh
   clear hno hb hkj;go_wp2;go_ret;exact⟨false,rfl,⟨fun h=>(by cases h),fun h=>absurd h HN.out⟩,aI.out.trans (HB.out.mono aI.out.size)⟩
end
end Go.Proofs.YtdbjpbjocmcpkaaGreatDoor
