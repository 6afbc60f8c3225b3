import Derived.Test.YtdbjpbjocmcpkaaGreatDoorMg27
set_option maxHeartbeats 8000000
set_option maxRecDepth 100000
namespace Go.Proofs.YtdbjpbjocmcpkaaGreatDoor
section
open Go.Proofs.Tryz
open Go.RowKit Go.Sort
theorem eW (n:Int) (ao:Option Addr) (cap:Nat) (es:List (Int×Int)) (w:World) (he:ah w ao es) (hl:es.length<=4611686018427387904):
 Calls prog 25 #[az n ao es.length cap] w fun e w'=>e= .returned (.bool (Si.valid n es))/\Below w.heap.size w w':=by
 have HE:=ζ he;clear he;unfold az;by_cases h1:n<0
 .have hv:=Si.cM (n:=n) (es:=es) (fun h=>by have:=h.lo;omega)
  rw[hv];go_enter func25,ntmps25;go_wp2;go_ret;exact⟨rfl,(aae _ _).alloc (aad _) _⟩
 by_cases h2:1048576<n
 .have hv:=Si.cM (n:=n) (es:=es) (fun h=>by have:=h.hi;omega)
  rw[hv];go_enter func25,ntmps25;go_wp2;go_ret;exact⟨rfl,(aae _ _).alloc (aad _) _⟩
 by_cases h3:4194304<(es.length:Int)
 .have hv:=Si.cM (n:=n) (es:=es) (fun h=>by have:=h.few;omega)
  rw[hv];go_enter func25,ntmps25;go_wp2;go_ret;exact⟨rfl,(aae _ _).alloc (aad _) _⟩
 go_enter func25,ntmps25;go_wp2;go_loopw [3] (fun c wr=>∃(k:Nat) (l:Int×Int),k<=es.length/\c= .int .i64 k/\Si.jY n es k l/\wr.heap[w.heap.size]? =some (.cells #[.int .i64 n,.slice ao es.length cap] 24 (0,0))/\Below w.heap.size w wr) (fun c _=>es.length-(intOf c).toNat)
 case atStart=>exact⟨0,(0,0),aax _,rfl,Si.jY.start n es,heap_alloc_new w _,(aae _ _).alloc (aad _) _⟩
 case round=>
  obtain⟨k,l,hk,rfl,eC,hgb,hb⟩:=hrel;obtain⟨g0,g1,-⟩:=af hgb;have tL:=lt_of_block hgb;have pM:=ζ hgb;have q9:=ζ eC;have HB:=ζ hb;clear hgb eC;by_cases hlt:k<es.length
  .have aQ:(k:Int)<(es.length:Int):=by omega
   have hk0:(0:Int)<=(k:Int):=by omega
   obtain⟨p,hp⟩:∃p,es[k]? =some p:=⟨_,aac hlt⟩;obtain⟨b,o,rfl,c0,c1⟩:=(HE.out.later hb) k p hp;have hbl:b<wr.heap.size:=block_lt_of_cell c0;have HP:=ζ hp;clear hp;by_cases q1:p.1<0
   .have hv:=Si.cM (n:=n) (es:=es) (fun h=>by have:=(q9.out.must h HP.out).1.1;omega)
    clear hb;go_wp2;go_ret;exact⟨by first|rfl|exact congrArg (fun b=>Ending.returned (.bool b)) hv.symm,HB.out.alloc (by omega) _⟩
   by_cases q2:p.1<p.2
   rotate_left
   .have hv:=Si.cM (n:=n) (es:=es) (fun h=>by have:=(q9.out.must h HP.out).1.2.1;omega)
    clear hb;go_wp2;go_ret;exact⟨by first|rfl|exact congrArg (fun b=>Ending.returned (.bool b)) hv.symm,HB.out.alloc (by omega) _⟩
   by_cases q3:p.2<n
   rotate_left
   .have hv:=Si.cM (n:=n) (es:=es) (fun h=>by have:=(q9.out.must h HP.out).1.2.2;omega)
    clear hb;go_wp2;go_ret;exact⟨by first|rfl|exact congrArg (fun b=>Ending.returned (.bool b)) hv.symm,HB.out.alloc (by omega) _⟩
   have hok:Si.ok n p:=⟨by omega,q2,q3⟩;have wm:Below wr.heap.size wr (wr.alloc (.cells #[.int .i64 p.1,.int .i64 p.2] 66)):=(aae _ _).alloc (aad _) _;by_cases XV:k=0
   .have hkn:¬((0:Int)<(k:Int)):=by omega
    have VT:Si.lt l p:=by
     have:=q9.out;rw[XV] at this;exact this.first hok
    have HST:=ζ (q9.out.step HP.out hok VT);have Hg:=ζ (HB.out.trans (wm.mono HB.out.size));have cZ:=ζ ((wm.block _ tL).trans pM.out);clear hok wm hb XV VT;go_wp2;go_roundw
    case rel=>exact⟨k+1,p,by omega,by go_num,HST.out,cZ.out,Hg.out⟩
    case measure=>simp[intOf];omega
   .obtain⟨k',hk'⟩:∃k',k=k'+1:=⟨k-1,by omega⟩
    have hl':es[k']? =some l:=by
     have:=q9.out;rw[hk'] at this;exact this.last
    obtain⟨b2,o2,e2,d0,d1⟩:=(HE.out.later hb) k' l hl';cases e2;have hk1:(k:Int)-1=(k':Int):=by omega
    have hkw:IntKind.i64.wrap (k':Int)=(k':Int):=by simp[IntKind.wrap,IntKind.bits,IntKind.signed];omega
    have agR:(0:Int)<=(k':Int):=by omega
    have agQ:(k':Int)<(es.length:Int):=by omega
    have hkp:(0:Int)<(k:Int):=by omega
    have hca:=fun W=>O2 l p W
    unfold fT at hca;have HK:=ζ hk';clear hk' hl' XV hb;have Hg:=ζ wm;have y0:=(wm.cell (p:=⟨b,o+k'*2,none⟩) hbl).trans d0;have y1:=(wm.cell (p:=⟨b,o+k'*2+1,none⟩) hbl).trans d1;have z0:=(wm.cell (p:=⟨w.heap.size,0,none⟩) tL).trans g0;have z1:=(wm.cell (p:=⟨w.heap.size,1,none⟩) tL).trans g1;obtain⟨p0,p1,-⟩:=af (heap_alloc_new wr (.cells #[.int .i64 p.1,.int .i64 p.2] 66));have hsA:(wr.alloc (.cells #[.int .i64 p.1,.int .i64 p.2] 66)).heap.size=wr.heap.size+1:=by simp
    by_cases q4:Si.lt l p
    .have hd:decide (Si.lt l p)=true:=by simp[q4]
     rw[hd] at hca;have sR:=ζ hca;have HST:=ζ (q9.out.step HP.out hok q4);clear hca hd hok wm d0 d1;go_wp2_with fail;generalize hX:wr.alloc (.cells #[.int .i64 p.1,.int .i64 p.2] 66)=X at y0 y1 z0 z1 p0 p1 hsA Hg ⊢;clear hX c0 c1 g0 g1
     go_region_held3 (fun w'=>w'.cell? ⟨b,o+k'*2,none⟩=some (.int .i64 l.1)/\w'.cell? ⟨b,o+k'*2+1,none⟩=some (.int .i64 l.2)/\w'.cell? ⟨w.heap.size,1,none⟩=some (.slice (some ⟨b,o,none⟩) es.length cap)/\w'.cell? ⟨wr.heap.size,0,none⟩=some (.int .i64 p.1)/\w'.cell? ⟨wr.heap.size,1,none⟩=some (.int .i64 p.2))
      (first
        |go_keep
        |(go_split_ands
          refine⟨?_,?_,?_,?_,?_⟩<;>(refine(hb2.cell (p:=⟨_,_,none⟩) ?_).trans ?_<;>first|assumption|(simp;omega))))
      ((go_at_call 48;refine(sR.out _).mono ?_;rintro e w2 ⟨rfl,hgr⟩;have hb2:Below X.heap.size X w2:=(aae X.heap.size X).drew.trans (qL hgr)))
     have hb3:Below wr.heap.size wr w2:=Hg.out.trans (hb2.mono (by omega));have aJ:=ζ (HB.out.trans (hb3.mono HB.out.size));have l7:=ζ ((hb3.block _ tL).trans pM.out);clear hb2 hb3 hgr;go_wp2;go_roundw
     case rel=>exact⟨k+1,p,by omega,by go_num,HST.out,l7.out,aJ.out⟩
     case measure=>simp[intOf];omega
    .have hv:=Si.cM (n:=n) (es:=es) (fun h=>q4 (q9.out.must h HP.out).2)
     have HV:=ζ hv;have hd:decide (Si.lt l p)=false:=by simp[q4]
     rw[hd] at hca;have sR:=ζ hca;clear hca hd hok wm d0 d1 hv;go_wp2_with fail;generalize hX:wr.alloc (.cells #[.int .i64 p.1,.int .i64 p.2] 66)=X at y0 y1 z0 z1 p0 p1 hsA Hg ⊢;clear hX c0 c1 g0 g1
     go_region_held3 (fun w'=>w'.cell? ⟨b,o+k'*2,none⟩=some (.int .i64 l.1)/\w'.cell? ⟨b,o+k'*2+1,none⟩=some (.int .i64 l.2)/\w'.cell? ⟨w.heap.size,1,none⟩=some (.slice (some ⟨b,o,none⟩) es.length cap)/\w'.cell? ⟨wr.heap.size,0,none⟩=some (.int .i64 p.1)/\w'.cell? ⟨wr.heap.size,1,none⟩=some (.int .i64 p.2))
      (first
        |go_keep
        |(go_split_ands
          refine⟨?_,?_,?_,?_,?_⟩<;>(refine(hb2.cell (p:=⟨_,_,none⟩) ?_).trans ?_<;>first|assumption|(simp;omega))))
      ((go_at_call 48;refine(sR.out _).mono ?_;rintro e w2 ⟨rfl,hgr⟩;have hb2:Below X.heap.size X w2:=(aae X.heap.size X).drew.trans (qL hgr)))
     have hb3:Below wr.heap.size wr w2:=Hg.out.trans (hb2.mono (by omega));have aJ:=ζ (HB.out.trans (hb3.mono HB.out.size));clear hb2 hb3 hgr;go_wp2;go_ret;exact⟨by rw[HV.out];rfl,aJ.out⟩
  .have hd:¬((k:Int)<(es.length:Int)):=by omega
   obtain rfl:k=es.length:=by omega
   have hv:=Si.aK.2 (q9.out.done (by omega) (by omega) (by omega));have HV:=ζ hv;clear hb hv;go_wp2;go_ret;exact⟨by rw[HV.out];rfl,HB.out⟩
end
section
open Go.Proofs.Tryz
open Go.RowKit Go.Sort
theorem tE (n:Int) (ao:Option Addr) (cap:Nat) (es:List (Int×Int)) (w:World) (he:ah w ao es) (hl:es.length<=4611686018427387904):
 Calls prog 62 #[az n ao es.length cap] w (KW n es w):=by
 obtain⟨i0,hi,hz0,hz1,hz2⟩:=info_parts Tryz.b7;have HE:=ζ he;have jC:=fun W (hb:Below w.heap.size w W)=>eW n ao cap es W (he.later hb) hl
 unfold az at jC ⊢;have cS:=ζ jC;clear he jC;have dJ:Below w.heap.size w (w.alloc (.cells #[.int .i64 n,.slice ao es.length cap] 24)):=(aae _ _).alloc (aad _) _;have bR:=ζ dJ;clear dJ;cases hv:Si.valid n es with
 |false=>
  rw[hv] at cS;have HV:=ζ hv;clear hv;go_enter func62,ntmps62;go_wp2_with (go_at_call 25;refine(cS.out _ bR.out).mono ?_;rintro e w' ⟨rfl,hb⟩;refine aaj ?_);refine ζ ?_;have HB:=ζ (bR.out.trans (hb.mono bR.out.size));clear hb;go_wp2;go_ret2;exact⟨.inr ⟨HV.out,rfl⟩,HB.out⟩
 |true=>
  rw[hv] at cS;have hval:=Si.aK.1 hv;have bQ:=hval.few;have hlo:=hval.lo;have hhi:=hval.hi;obtain⟨m,rfl⟩:∃m:Nat,n=(m:Int):=⟨n.toNat,by omega⟩;have bY:=ζ hval;have HV:=ζ hv;clear hval hv;go_enter func62,ntmps62;go_wp2_with (go_at_call 25;refine(cS.out _ bR.out).mono ?_;rintro e w' ⟨rfl,hb⟩;refine aaj ?_);refine ζ ?_;have hG:w'.heap[w.heap.size]? =some (.cells #[.int .i64 m,.slice ao es.length cap] 24 (0,0)):=(hb.block _ (by simp)).trans (heap_alloc_new w _);have HB:=ζ (bR.out.trans (hb.mono bR.out.size));have sG:=lt_of_block hG;obtain⟨g0,g1,-⟩:=af hG;have HG:=ζ hG;clear hb hG;go_wp2_with (at_make;refine wpList_make_full _ rfl _ _ 55 rfl w'.heap.size 3 i0 (.int .i64 0) 1 Tryz.underlying55 hi hz0 hz1 _ _ _ _ m rfl rfl rfl rfl (by rw[hz2];omega) (by unfold maxLen;omega) (aad _) ?_;refine aaj ?_);refine ζ ?_;intro w2 hrow hg2;rw[cK] at hrow;have hik:=dV hrow;have hb2:Below w'.heap.size w' w2:=(aae _ _).grown hg2 (aad _) (fun j hj=>by cases hj);have aB:=ζ (HB.out.trans (hb2.mono HB.out.size));have cZ:=ζ ((hb2.block _ sG).trans HG.out);have hs2:w'.heap.size<w2.heap.size:=hik.lt;have Zs:Hid (ak w2 w'.heap.size (Si.aS m [])):=by
   show ak _ _ _;have:Si.aS m []=List.replicate m 0:=by simp[Si.aS]
   rw[this];exact hik
  have Xt:w.heap.size<=w'.heap.size:=by omega
  have Ru:w.heap.size<w2.heap.size:=by omega
  clear hrow hg2 hb2 hik g0 g1;go_wp2;go_loopw [6] (fun c wr=>∃(k:Nat) (l:List Int),k<=es.length/\c= .int .i64 k/\l=Si.aS m (es.take k)/\ak wr w'.heap.size l/\wr.heap[w.heap.size]? =some (.cells #[.int .i64 m,.slice ao es.length cap] 24 (0,0))/\Below w.heap.size w wr) (fun c _=>es.length-(intOf c).toNat)
  case atStart=>exact⟨0,_,aax _,rfl,by simp,Zs.out,cZ.out,aB.out⟩
  case round=>
   obtain⟨k,l,hk,rfl,hl0,hik,hgr,hb⟩:=hrel;obtain⟨-,k1,-⟩:=af hgr;have TI:=ζ hgr;have agB:=lt_of_block hgr;clear hgr;have hsw:=hik.lt;have hs0:=hb.size;have dW:l.length=m:=by rw[hl0,Si.iQ];simp
   have eC:Si.zm (2*k) l:=by
    rw[hl0];have:=Si.Cq m (es.take k);have e:(es.take k).length=k:=by simp;omega
    rw[e] at this;exact this
   have TD:=ζ hik;have aJ:=ζ hb;have CY:=ζ hl0;clear hl0;by_cases hlt:k<es.length
   .have aQ:(k:Int)<(es.length:Int):=by omega
    have hk0:(0:Int)<=(k:Int):=by omega
    obtain⟨p,hp⟩:∃p,es[k]? =some p:=⟨_,aac hlt⟩;obtain⟨b,o,rfl,q0,-⟩:=HE.out k p hp;have hb0:b<w.heap.size:=block_lt_of_cell q0;obtain⟨b',o',e',c0,c1⟩:=(HE.out.later hb) k p hp;cases e';have hbl:b<wr.heap.size:=block_lt_of_cell c0;clear q0;have LR:Si.aS m (es.take (k+1))=Si.bump (Si.bump l p.1) p.2:=by rw[Si.gW hp,Si.uE,<-CY.out]
    have hok:=bY.out.each k p hp;unfold Si.ok at hok;obtain⟨pu,pv⟩:=p;dsimp only at c0 c1 LR hok;obtain⟨u,rfl⟩:∃u:Nat,pu=(u:Int):=⟨pu.toNat,by omega⟩;obtain⟨v,rfl⟩:∃v:Nat,pv=(v:Int):=⟨pv.toNat,by omega⟩;obtain⟨x,hx⟩:∃x,l[u]? =some x:=⟨_,aac (by omega)⟩;obtain⟨y,hy⟩:∃y,l[v]? =some y:=⟨_,aac (by omega)⟩;have hxb:=eC u x hx;have hyb:=eC v y hy;have hne:u≠v:=by omega
    have Jh:Si.aS m (es.take (k+1))=(l.set u (x+1)).set v (y+1):=by
     rw[LR,Si.nY hx,Si.nY (x:=y) (by rw[aaI,if_neg hne];exact hy)]
    have Tk:=ζ Jh;have hcx:=hik.cell hx;have Sj:=hik.cell hy;have hfr:=hik.free;have hi1:=hik.set u (x+1);have abw:=hi1.cell (i:=v) (x:=y) (by rw[aaI,if_neg hne];exact hy);have Sc:=hi1.free;have rz:=ζ (hi1.set v (y+1));have c1':(wr.setCell ⟨w'.heap.size,u,none⟩ (.int .i64 (x+1))).cell? ⟨b,o+k*2+1,none⟩=some (.int .i64 v):=(zg (by omega) _).trans c1;have k1':(wr.setCell ⟨w'.heap.size,u,none⟩ (.int .i64 (x+1))).cell? ⟨w.heap.size,1,none⟩=some (.slice (some ⟨b,o,none⟩) es.length cap):=(zg (by omega) _).trans k1;have adg:Hid (((wr.setCell ⟨w'.heap.size,u,none⟩ (.int .i64 (x+1))).setCell ⟨w'.heap.size,v,none⟩ (.int .i64 (y+1))).heap[w.heap.size]? =some (.cells #[.int .i64 m,.slice (some ⟨b,o,none⟩) es.length cap] 24 (0,0))):=by
     show _=_;rw[heap_setCell_other _ ⟨w'.heap.size,v,none⟩ w.heap.size _ (by simp;omega),heap_setCell_other _ ⟨w'.heap.size,u,none⟩ w.heap.size _ (by simp;omega)];exact TI.out
    have u0:(0:Int)<=(u:Int):=by omega
    have v0:(0:Int)<=(v:Int):=by omega
    have um:(u:Int)<(m:Int):=by omega
    have vm:(v:Int)<(m:Int):=by omega
    clear LR Jh eC hok hx hy hb hik hi1 hp;go_wp2;go_roundw
    case rel=>exact⟨k+1,_,by omega,by go_num,Tk.out.symm,rz.out,adg.out,(aJ.out.setCell (by simp;omega) _).setCell (by simp;omega) _⟩
    case measure=>simp[intOf];omega
   .have hd:¬((k:Int)<(es.length:Int)):=by omega
    have hle:l=Si.aS m es:=by rw[CY.out,aaX (by omega)]
    have zY:=ζ hle;clear hle hb hik eC;go_wp2;go_ret2;refine⟨.inl ⟨HV.out,w'.heap.size,m,rfl,rfl,Xt,?_⟩,aJ.out⟩;rw[<-zY.out];exact TD.out
end
section
open Go.Proofs.Tryz
open Go.RowKit Go.Sort
theorem I0 (a b v:Int) (w:World):Calls prog 214 #[.agg #[.int .i64 a,.int .i64 b],.int .i64 v] w fun e w'=>e= .returned (.int .i64 (if a=v then b else a))/\Below w.heap.size w w':=by
 have dJ:Below w.heap.size w (w.alloc (.cells #[.int .i64 a,.int .i64 b] 66)):=(aae _ _).alloc (aad _) _;have HB:=ζ dJ;clear dJ;by_cases h1:a=v
 .rw[if_pos h1]
  have d1:(a==v)=true:=by simp[h1]
  clear h1;go_enter func214,ntmps214;go_wp2;go_ret;exact⟨rfl,HB.out⟩
 .rw[if_neg h1]
  have d1:(a==v)=false:=by simp[h1]
  go_enter func214,ntmps214;go_wp2;go_ret;exact⟨rfl,HB.out⟩
theorem Rb (n:Int) (ao:Option Addr) (cap:Nat) (es:List (Int×Int)) (v x:Int) (w:World) (he:ah w ao es) (hl:es.length<=4611686018427387904):
 Calls prog 215 #[.agg #[.int .i64 n,.slice ao es.length cap],.int .i64 v,.int .i64 x] w fun e w'=>∃r,e= .returned (.int .i64 r)/\Ku.Ob es v x r/\Below w.heap.size w w':=by
 obtain⟨W,hW⟩:∃W,W=w.alloc (.cells #[.int .i64 n,.slice ao es.length cap] 24):=⟨_,rfl⟩;have hB0:Below w.heap.size w W:=by rw[hW];exact(aae _ _).alloc (aad _) _
 have g1:W.heap[w.heap.size]? =some (.cells #[.int .i64 n,.slice ao es.length cap] 24 (0,0)):=by rw[hW];exact heap_alloc_new w _
 obtain⟨-,c1,-⟩:=af g1;have HE:=ζ (he.later hB0);have HB:=ζ hB0;have HW:=ζ hW;clear he hB0 g1 hW;go_enter func215,ntmps215;go_wp2_with fail;rw[<-HW.out];go_wp2;go_loopw [7] (fun cv wr=>∃k:Nat,k<=es.length/\cv= .int .i64 (k:Int)/\(∀(i:Nat) (p:Int×Int),i<k->es[i]? =some p->(i:Int)≠x->p.1≠v/\p.2≠v)/\wr=W) (fun cv _=>es.length-(intOf cv).toNat)
 case atStart=>exact⟨0,aax _,rfl,fun i p hi=>by omega,rfl⟩
 case round=>
  obtain⟨k,hk,rfl,hno,hwr⟩:=hrel;obtain rfl:=hwr.symm;have cG:=ζ hno;have hwk:IntKind.i64.wrap ((k:Int)+1)=(k:Int)+1:=by rw[aam];omega
  clear hwr hno;by_cases hlt:k<es.length
  .have aQ:(k:Int)<(es.length:Int):=by omega
   have hk0:(0:Int)<=(k:Int):=by omega
   obtain⟨⟨p1,p2⟩,hp⟩:∃p,es[k]? =some p:=⟨_,aac hlt⟩;obtain⟨b,o,rfl,d0,d1⟩:=HE.out k _ hp;dsimp only at d0 d1;have HP:=ζ hp;clear hp;have next:(((k:Int)≠x)->p1≠v/\p2≠v)->∀(i:Nat) (p:Int×Int),i<k+1->es[i]? =some p->(i:Int)≠x->p.1≠v/\p.2≠v:=fun h i p hi hp hx=>by
    by_cases e:i=k
    .subst e
     rw[HP.out] at hp;cases hp;exact h hx
    .exact cG.out i p (by omega) hp hx
   have gS:=ζ next
   clear next
   by_cases hx:(k:Int)=x
   .have t1:((k:Int) != x)=false:=by simp[hx]
    have HG:=ζ (gS.out (fun h=>absurd hx h));clear hx;go_wp2;go_roundw
    case rel=>exact⟨k+1,by omega,by go_num,HG.out,by first|rfl|trivial⟩
    case measure=>simp[intOf];omega
   .have t1:((k:Int) != x)=true:=by simp[hx]
    have HX:=ζ hx;clear hx;by_cases h1:p1=v
    .have t2:(p1==v)=true:=by simp[h1]
     have HF:Hid (Ku.Ob es v x (k:Int)):= .inr ⟨k,_,rfl,HP.out,HX.out,.inl h1⟩;clear h1;go_wp2;go_ret;exact⟨_,rfl,HF.out,HB.out⟩
    .have t2:(p1==v)=false:=by simp[h1]
     by_cases h2:p2=v
     .have t3:(p2==v)=true:=by simp[h2]
      have HF:Hid (Ku.Ob es v x (k:Int)):= .inr ⟨k,_,rfl,HP.out,HX.out,.inr h2⟩;clear h1 h2;go_wp2;go_ret;exact⟨_,rfl,HF.out,HB.out⟩
     .have t3:(p2==v)=false:=by simp[h2]
      have HG:=ζ (gS.out (fun _=>⟨h1,h2⟩));clear h1 h2;go_wp2;go_roundw
      case rel=>exact⟨k+1,by omega,by go_num,HG.out,by first|rfl|trivial⟩
      case measure=>simp[intOf];omega
  .have hd:¬((k:Int)<(es.length:Int)):=by omega
   have HF:Hid (Ku.Ob es v x (-1)):= .inl ⟨rfl,fun i p hp=>cG.out i p (by have:=(aah.1 hp).1;omega) hp⟩;go_wp2;go_ret;exact⟨_,rfl,HF.out,HB.out⟩
theorem oF (ao:Option Addr) (q c:Nat) (l:List Int) (w:World) (hq:l.length=q) (h:aU w ao l) (hl:q<=17592186044000):
 Calls prog 104 #[.slice ao q c] w fun e w'=>∃v,e= .returned v/\aj w' w.heap.size v l.reverse/\Below w.heap.size w w':=by
 have HL:=ζ h;have HQ:=ζ hq;have hw0:IntKind.i64.wrap ((q:Int)-1)=(q:Int)-1:=by rw[aam];omega
 clear h hq;go_enter func104,ntmps104;go_wp2;go_loopw [3,4] (fun v cv wr=>∃(j:Nat) (x:Int),j<=q/\cv= .int .i64 x/\x=(j:Int)-1/\aj wr w.heap.size v (l.drop j).reverse/\Below w.heap.size w wr) (fun _ cv _=>((intOf cv)+1).toNat)
 case atStart=>exact⟨q,_,aad _,rfl,rfl,by rw[abZ (by rw[HQ.out];exact aad _)];exact aj.nil _ _,aae _ _⟩
 case round=>
  obtain⟨j,x,hj,rfl,hx,hown,hb⟩:=hrel;have ct:=ζ hown;have HB:=ζ hb;have hs0:=hb.size;cases j with
  |zero=>
   obtain rfl:x= -1:=by simpa using hx
   have HF:Hid (l.drop 0=l):=rfl;clear hown hb hx;go_wp2;go_ret;exact⟨_,rfl,by simpa using ct.out,HB.out⟩
  |succ k=>
   obtain rfl:x=(k:Int):=by omega
   have hk0:(0:Int)<=(k:Int):=by omega
   have hk1:(k:Int)<(q:Int):=by omega
   have hwk:IntKind.i64.wrap ((k:Int)-1)=(k:Int)-1:=by rw[aam];omega
   obtain⟨y,hy⟩:∃y,l[k]? =some y:=⟨_,aac (by rw[HQ.out];omega)⟩;obtain⟨b,o,rfl,d0⟩:=(HL.out.later hb) k y hy;have uU:=ζ (Ku.OG hy);have dW:((l.drop (k+1)).reverse).length<=17592186044000:=by rw[acr,ada,HQ.out];omega
   clear hown hb hx hy;go_wp2_with (at_builtin;refine bB rfl _ _ rfl _ w.heap.size _ _ y ct.out hs0 dW rfl rfl ?_;refine aaj ?_);refine ζ ?_;intro v' w3 hrow3 _ _ hb3;have iX:=ζ hrow3;have aJ:=ζ (HB.out.trans hb3);clear hrow3 hb3;go_wp2;go_roundw
   case rel=>exact⟨k,_,by omega,rfl,rfl,by rw[<-uU.out];exact iX.out,aJ.out⟩
   case measure=>simp[intOf]
theorem I1 (ao:Option Addr) (q c:Nat) (l:List Int) (w:World) (hq:l.length=q) (h:aU w ao l) (h0:0<q) (hl:q<=17592186044000):
 Calls prog 216 #[.slice ao q c] w fun e w'=>∃k:Nat,e= .returned (.int .i64 (k:Int))/\k<q/\(∀(i:Nat),i<q->l.getD k 0<=l.getD i 0)/\Below w.heap.size w w':=by
 have HL:=ζ h;have HQ:=ζ hq;clear h hq;go_enter func216,ntmps216;go_wp2;go_loopw [3,4] (fun v cv wr=>∃(a k:Nat),k<=q/\a<k/\v= .int .i64 (a:Int)/\cv= .int .i64 (k:Int)/\(∀(i:Nat),i<k->l.getD a 0<=l.getD i 0)/\Below w.heap.size w wr) (fun _ cv _=>q-(intOf cv).toNat)
 case atStart=>
  refine⟨0,1,by omega,by omega,rfl,rfl,fun i hi=> ?_,aae _ _⟩;obtain rfl:i=0:=by omega
  exact acE _
 case round=>
  obtain⟨a,k,hk,hak,rfl,rfl,hmin,hb⟩:=hrel;obtain⟨w1,rfl⟩:∃w1,w1=wr:=⟨wr,rfl⟩;have KN:=ζ hmin;have HB:=ζ hb;have hwk:IntKind.i64.wrap ((k:Int)+1)=(k:Int)+1:=by rw[aam];omega
  by_cases hlt:k<q
  .have aQ:(k:Int)<(q:Int):=by omega
   have hk0:(0:Int)<=(k:Int):=by omega
   have ha0:(0:Int)<=(a:Int):=by omega
   have ha1:(a:Int)<(q:Int):=by omega
   obtain⟨y,hy⟩:∃y,l[k]? =some y:=⟨_,aac (by rw[HQ.out];omega)⟩;obtain⟨z,hz⟩:∃z,l[a]? =some z:=⟨_,aac (by rw[HQ.out];omega)⟩;obtain⟨b,o,rfl,e0⟩:=(HL.out.later hb) k y hy;obtain⟨b',o',e,e1⟩:=(HL.out.later hb) a z hz;cases e;have gy:l.getD k 0=y:=by rw[aao,hy];rfl
   have gz:l.getD a 0=z:=by rw[aao,hz];rfl
   have d0:∀D:LW w1,D.val.cell? ⟨b,o+k,none⟩=some (.int .i64 y):=fun D=>(D.h.cell (p:=⟨b,o+k,none⟩) (block_lt_of_cell e0)).trans e0
   have d1:∀D:LW w1,D.val.cell? ⟨b,o+a,none⟩=some (.int .i64 z):=fun D=>(D.h.cell (p:=⟨b,o+a,none⟩) (block_lt_of_cell e1)).trans e1
   have TG:=ζ gy;have HGZ:=ζ gz;have hne:=LW.any w1;clear hmin hb hy hz gy gz e0 e1;by_cases hyz:y<z
   .have HN:Hid (∀(i:Nat),i<k+1->l.getD k 0<=l.getD i 0):=fun i hi=>by
     by_cases e:i=k
     .rw[e];exact acE _
     .have:=KN.out i (by omega)
      rw[HGZ.out] at this;rw[TG.out];omega
    go_wp2_with fail;refine aG (by kernel_rfl) (by kernel_rfl) ?_
    repeat (go_big_quiet_step (fail))
    refine wpQuiet_nil ?_;rintro _ ⟨E,rfl⟩;have bT:=ζ (HB.out.trans (E.h.mono HB.out.size));obtain⟨WE,cX⟩:∃WE,WE=E.val:=⟨_,rfl⟩;rw[<-cX] at bT ⊢;clear d0 d1 hne cX;go_wp2;go_roundw
    case rel=>exact⟨k,k+1,by omega,by omega,rfl,by go_num,HN.out,bT.out⟩
    case measure=>simp[intOf];omega
   .have HN:Hid (∀(i:Nat),i<k+1->l.getD a 0<=l.getD i 0):=fun i hi=>by
     by_cases e:i=k
     .rw[e,TG.out,HGZ.out];omega
     .exact KN.out i (by omega)
    go_wp2_with fail;refine aG (by kernel_rfl) (by kernel_rfl) ?_
    repeat (go_big_quiet_step (fail))
    refine wpQuiet_nil ?_;rintro _ ⟨E,rfl⟩;have bT:=ζ (HB.out.trans (E.h.mono HB.out.size));obtain⟨WE,cX⟩:∃WE,WE=E.val:=⟨_,rfl⟩;rw[<-cX] at bT ⊢;clear d0 d1 hne cX;go_wp2;go_roundw
    case rel=>exact⟨a,k+1,by omega,by omega,rfl,by go_num,HN.out,bT.out⟩
    case measure=>simp[intOf];omega
  .have hd:¬((k:Int)<(q:Int)):=by omega
   obtain rfl:k=q:=by omega
   clear hmin hb;go_wp2;go_ret;exact⟨a,rfl,hak,KN.out,HB.out⟩
end
section
open Go.Proofs.Tryz
open Go.RowKit Go.Sort
namespace Ku
end Ku
theorem tJ (B:Nat) (ao:Option Addr) (q c:Nat) (l:List Int) (w:World) (hq:l.length=q) (h:aj w B (.slice ao q c) l) (hB:B<=w.heap.size) (h2:2<=q) (hl:q<=17592186044000):
 Calls prog 152 #[.slice ao q c] w fun e w'=>∃v,e= .returned v/\aj w' B v (Ku.bM l)/\Below w.heap.size w w':=by
 obtain⟨SU,c',e,hat,-⟩:=h.form;rw[hq] at e;cases e;have ct:=ζ h;have ym:=ζ hat;obtain⟨q1,hq1⟩:∃q1,q1=q-1:=⟨_,rfl⟩;obtain⟨q2,qF⟩:∃q2,q2=q-2:=⟨_,rfl⟩;obtain⟨x0,hx0⟩:∃x,l[0]? =some x:=⟨_,aac (by omega)⟩;obtain⟨x1,hx1⟩:∃x,l[1]? =some x:=⟨_,aac (by omega)⟩;obtain⟨xn,oH⟩:∃x,l[q1]? =some x:=⟨_,aac (by omega)⟩;obtain⟨xm,Du⟩:∃x,l[q2]? =some x:=⟨_,aac (by omega)⟩;obtain⟨b,o,rfl,e0⟩:=hat 0 x0 hx0;obtain⟨_,_,e,e1⟩:=hat 1 x1 hx1;cases e;obtain⟨_,_,e,e2⟩:=hat q1 xn oH;cases e;obtain⟨_,_,e,e3⟩:=hat q2 xm Du;cases e;rw[abN] at e0;have hw1:IntKind.i64.wrap ((q:Int)-1)=(q1:Int):=by rw[aam];omega
 have hw2:IntKind.i64.wrap ((q:Int)-2)=(q2:Int):=by rw[aam];omega
 have i0:(0:Int)<(q:Int):=by omega
 have i1:(1:Int)<(q:Int):=by omega
 have i2:(0:Int)<=(q1:Int):=by omega
 have i3:(q1:Int)<(q:Int):=by omega
 have i4:(0:Int)<=(q2:Int):=by omega
 have i5:(q2:Int)<(q:Int):=by omega
 have d0:∀D:LW w,D.val.cell? ⟨b,o,none⟩=some (.int .i64 x0):=fun D=>(D.h.cell (p:=⟨b,o,none⟩) (block_lt_of_cell e0)).trans e0
 have d1:∀D:LW w,D.val.cell? ⟨b,o+1,none⟩=some (.int .i64 x1):=fun D=>(D.h.cell (p:=⟨b,o+1,none⟩) (block_lt_of_cell e1)).trans e1
 have d2:∀D:LW w,D.val.cell? ⟨b,o+q1,none⟩=some (.int .i64 xn):=fun D=>(D.h.cell (p:=⟨b,o+q1,none⟩) (block_lt_of_cell e2)).trans e2
 have d3:∀D:LW w,D.val.cell? ⟨b,o+q2,none⟩=some (.int .i64 xm):=fun D=>(D.h.cell (p:=⟨b,o+q2,none⟩) (block_lt_of_cell e3)).trans e3
 have hne:=LW.any w;have wS:Hid (Ku.bM l=if xn<x0\/(x0=xn/\xm<x1) then l.reverse else l):=by
  show _=_;unfold Ku.bM;rw[hq,<-hq1,<-qF,Ku.bK hx0,Ku.bK hx1,Ku.bK oH,Ku.bK Du]
 have HTU:Hid (∀W,Below w.heap.size w W->Calls prog 104 #[.slice (some ⟨b,o,none⟩) q c] W fun e w'=>∃v,e= .returned v/\aj w' W.heap.size v l.reverse/\Below W.heap.size W w'):=fun W hb=>oF _ q c l W hq (ym.out.later hb) hl
 clear h hat hx0 hx1 oH Du hq1 qF e0 e1 e2 e3;by_cases ha:xn<x0
 .have HR:Hid (Ku.bM l=l.reverse):=by show _=_;rw[wS.out,if_pos (.inl ha)]
  go_enter func152,ntmps152;go_wp2_with fail;refine aG (by kernel_rfl) (by kernel_rfl) ?_
  repeat (go_big_quiet_step (fail))
  refine wpQuiet_nil ?_;rintro _ ⟨E,rfl⟩;have bT:=ζ E.h;obtain⟨WE,cX⟩:∃WE,WE=E.val:=⟨_,rfl⟩;rw[<-cX] at bT ⊢;have HT:=ζ (HTU.out WE bT.out);clear d0 d1 d2 d3 hne cX;go_wp2_with (go_at_call 104;refine HT.out.mono ?_;rintro e w2 ⟨v,rfl,ho,hb⟩;refine aaj ?_);refine ζ ?_;have HO:=ζ ho;have HB:=ζ (bT.out.trans (hb.mono bT.out.size));have hs:=bT.out.size;clear ho hb;go_wp2;go_ret;exact⟨_,rfl,by rw[HR.out];exact HO.out.lower (by omega),HB.out⟩
 .have u1:decide (xn<x0)=false:=by simp only[decide_eq_false_iff_not];exact ha
  by_cases hb:x0=xn
  .have t1:(x0==xn)=true:=by simp[hb]
   by_cases hc:xm<x1
   .have u2:decide (xm<x1)=true:=by simp only[decide_eq_true_eq];exact hc
    have HR:Hid (Ku.bM l=l.reverse):=by show _=_;rw[wS.out,if_pos (.inr ⟨hb,hc⟩)]
    clear hb;go_enter func152,ntmps152;go_wp2_with fail;refine aG (by kernel_rfl) (by kernel_rfl) ?_
    repeat (go_big_quiet_step (fail))
    refine wpQuiet_nil ?_;rintro _ ⟨E,rfl⟩;have bT:=ζ E.h;obtain⟨WE,cX⟩:∃WE,WE=E.val:=⟨_,rfl⟩;rw[<-cX] at bT ⊢;have HT:=ζ (HTU.out WE bT.out);clear d0 d1 d2 d3 hne cX;go_wp2_with (go_at_call 104;refine HT.out.mono ?_;rintro e w2 ⟨v,rfl,ho,hb⟩;refine aaj ?_);refine ζ ?_;have HO:=ζ ho;have HB:=ζ (bT.out.trans (hb.mono bT.out.size));have hs:=bT.out.size;clear ho hb;go_wp2;go_ret;exact⟨_,rfl,by rw[HR.out];exact HO.out.lower (by omega),HB.out⟩
   .have u2:decide (xm<x1)=false:=by simp only[decide_eq_false_iff_not];exact hc
    have HR:Hid (Ku.bM l=l):=by show _=_;rw[wS.out,if_neg (by omega)]
    clear hb;go_enter func152,ntmps152;go_wp2_with fail;refine aG (by kernel_rfl) (by kernel_rfl) ?_
    repeat (go_big_quiet_step (fail))
    refine wpQuiet_nil ?_;rintro _ ⟨E,rfl⟩;have bT:=ζ E.h;have HO:=ζ (ct.out.later E.h);obtain⟨WE,cX⟩:∃WE,WE=E.val:=⟨_,rfl⟩;rw[<-cX] at bT HO ⊢;clear d0 d1 d2 d3 hne cX;go_wp2;go_ret;exact⟨_,rfl,by rw[HR.out];exact HO.out,bT.out⟩
  .have t1:(x0==xn)=false:=by simp[hb]
   have HR:Hid (Ku.bM l=l):=by show _=_;rw[wS.out,if_neg (by omega)]
   clear hb;go_enter func152,ntmps152;go_wp2_with fail;refine aG (by kernel_rfl) (by kernel_rfl) ?_
   repeat (go_big_quiet_step (fail))
   refine wpQuiet_nil ?_;rintro _ ⟨E,rfl⟩;have bT:=ζ E.h;have HO:=ζ (ct.out.later E.h);obtain⟨WE,cX⟩:∃WE,WE=E.val:=⟨_,rfl⟩;rw[<-cX] at bT HO ⊢;clear d0 d1 d2 d3 hne cX;go_wp2;go_ret;exact⟨_,rfl,by rw[HR.out];exact HO.out,bT.out⟩
theorem IY (ao:Option Addr) (q c:Nat) (l:List Int) (a b:Int) (w:World) (hq:l.length=q) (h:aU w ao l) (h1q:1<=q) (hl:q<=17592186044000):
 Calls prog 102 #[.slice ao q c,.agg #[.int .i64 a,.int .i64 b]] w (Ku.P9 l a b w):=by
 obtain⟨W,hW⟩:∃W,W=w.alloc (.cells #[.int .i64 a,.int .i64 b] 66):=⟨_,rfl⟩;have hB0:Below w.heap.size w W:=by rw[hW];exact(aae _ _).alloc (aad _) _
 have g1:W.heap[w.heap.size]? =some (.cells #[.int .i64 a,.int .i64 b] 66 (0,0)):=by rw[hW];exact heap_alloc_new w _
 have HL:=ζ (h.later hB0);have HQ:=ζ hq;have aH:=ζ hB0;have HW:=ζ hW;have HG:=ζ g1;clear h hq hB0 g1 hW;go_enter func102,ntmps102;go_wp2_with fail;rw[<-HW.out];go_wp2;go_loopw [5] (fun cv wr=>∃(k j:Nat),k<=q/\k=j+1/\cv= .int .i64 (k:Int)/\(∀(i:Nat) (x y:Int),i<j->l[i]? =some x->l[i+1]? =some y->¬((x=a/\y=b)\/(x=b/\y=a)))/\Below W.heap.size W wr) (fun cv _=>q-(intOf cv).toNat)
 case atStart=>exact⟨1,0,h1q,rfl,rfl,fun i x y hi=>by omega,aae _ _⟩
 case round=>
  obtain⟨k,j,hk,hkj,rfl,hno,hb⟩:=hrel;obtain⟨w1,rfl⟩:∃w1,w1=wr:=⟨wr,rfl⟩;have cG:=ζ hno;have HB:=ζ hb;have hwk:IntKind.i64.wrap ((k:Int)+1)=(k:Int)+1:=by rw[aam];omega
  have UC:IntKind.i64.wrap ((k:Int)-1)=(j:Int):=by rw[aam];omega
  by_cases hlt:k<q
  .have aQ:(k:Int)<(q:Int):=by omega
   have hk0:(0:Int)<=(k:Int):=by omega
   have hj0:(0:Int)<=(j:Int):=by omega
   have Me:(j:Int)<(q:Int):=by omega
   obtain⟨x,hx⟩:∃x,l[j]? =some x:=⟨_,aac (by rw[HQ.out];omega)⟩;obtain⟨y,hy⟩:∃y,l[k]? =some y:=⟨_,aac (by rw[HQ.out];omega)⟩;obtain⟨bb,o,rfl,e0⟩:=(HL.out.later hb) j x hx;obtain⟨_,_,e,e1⟩:=(HL.out.later hb) k y hy;cases e;obtain⟨c0,c1,-⟩:=af ((hb.block _ (lt_of_block HG.out)).trans HG.out);have d0:∀D:LW w1,D.val.cell? ⟨bb,o+j,none⟩=some (.int .i64 x):=fun D=>(D.h.cell (p:=⟨bb,o+j,none⟩) (block_lt_of_cell e0)).trans e0
   have d1:∀D:LW w1,D.val.cell? ⟨bb,o+k,none⟩=some (.int .i64 y):=fun D=>(D.h.cell (p:=⟨bb,o+k,none⟩) (block_lt_of_cell e1)).trans e1
   have d2:∀D:LW w1,D.val.cell? ⟨w.heap.size,0,none⟩=some (.int .i64 a):=fun D=>(D.h.cell (p:=⟨w.heap.size,0,none⟩) (block_lt_of_cell c0)).trans c0
   have d3:∀D:LW w1,D.val.cell? ⟨w.heap.size,1,none⟩=some (.int .i64 b):=fun D=>(D.h.cell (p:=⟨w.heap.size,1,none⟩) (block_lt_of_cell c1)).trans c1
   have hne:=LW.any w1;have S7:Hid (((x=a/\y=b)\/(x=b/\y=a))->Ku.GQ l a b):=fun hh=>⟨j,x,y,hx,by rw[<-hkj];exact hy,hh⟩
   have Zg:Hid (¬((x=a/\y=b)\/(x=b/\y=a))->∀(i:Nat) (u v:Int),i<j+1->l[i]? =some u->l[i+1]? =some v->¬((u=a/\v=b)\/(u=b/\v=a))):=fun hh i u v hi hu hv=>by
    by_cases e:i=j
    .subst e
     rw[hx] at hu;rw[<-hkj,hy] at hv;cases hu;cases hv;exact hh
    .exact cG.out i u v (by omega) hu hv
   have HKJ:=ζ hkj;clear hno hb hx hy e0 e1 c0 c1 hkj;by_cases hh:(x=a/\y=b)\/(x=b/\y=a)
   .have HR:=ζ (S7.out hh)
    have:(x==a&&y==b||x==b&&y==a)=true:=by
     rcases hh with ⟨rfl,rfl⟩|⟨rfl,rfl⟩<;>simp
    obtain⟨t1,vV⟩:∃t,(x==a)=t:=⟨_,rfl⟩;obtain⟨t2,Rq⟩:∃t,(y==b)=t:=⟨_,rfl⟩;obtain⟨t3,XE⟩:∃t,(x==b)=t:=⟨_,rfl⟩;obtain⟨t4,XD⟩:∃t,(y==a)=t:=⟨_,rfl⟩;rw[vV,Rq,XE,XD] at this;clear hh
    cases t1<;>cases t2<;>cases t3<;>cases t4<;>first
     |(exfalso;revert this;decide)
     |(clear this
       go_wp2_with fail;refine aG (by kernel_rfl) (by kernel_rfl) ?_
       repeat (go_big_quiet_step (fail))
       refine wpQuiet_nil ?_;rintro _ ⟨E,rfl⟩;have bT:=ζ (aH.out.trans ((HB.out.trans (E.h.mono HB.out.size)).mono aH.out.size));obtain⟨WE,cX⟩:∃WE,WE=E.val:=⟨_,rfl⟩;rw[<-cX] at bT ⊢;clear d0 d1 d2 d3 hne cX;go_wp2;go_ret;exact⟨true,rfl,⟨fun _=>HR.out,fun _=>rfl⟩,bT.out⟩)
   .have HN:=ζ (Zg.out hh)
    have:(x==a&&y==b||x==b&&y==a)=false:=by
     cases hc:(x==a&&y==b||x==b&&y==a) with
     |false=>rfl
     |true=>
      exfalso;simp only[abR,aa2,beq_iff_eq] at hc;exact hh hc
    obtain⟨t1,vV⟩:∃t,(x==a)=t:=⟨_,rfl⟩;obtain⟨t2,Rq⟩:∃t,(y==b)=t:=⟨_,rfl⟩;obtain⟨t3,XE⟩:∃t,(x==b)=t:=⟨_,rfl⟩;obtain⟨t4,XD⟩:∃t,(y==a)=t:=⟨_,rfl⟩;rw[vV,Rq,XE,XD] at this;clear hh
    cases t1<;>cases t2<;>cases t3<;>cases t4<;>first
     |(exfalso;revert this;decide)
     |(clear this
       go_wp2_with fail;refine aG (by kernel_rfl) (by kernel_rfl) ?_
       repeat (go_big_quiet_step (fail))
       refine wpQuiet_nil ?_;rintro _ ⟨E,rfl⟩;have bT:=ζ (HB.out.trans (E.h.mono HB.out.size));obtain⟨WE,cX⟩:∃WE,WE=E.val:=⟨_,rfl⟩;rw[<-cX] at bT ⊢;clear d0 d1 d2 d3 hne cX;go_wp2;go_roundw
       case rel=>exact⟨k+1,j+1,by omega,by have:=HKJ.out;omega,by go_num,HN.out,bT.out⟩
       case measure=>simp[intOf];omega)
  .have hd:¬((k:Int)<(q:Int)):=by omega
   have HN:Hid (¬Ku.GQ l a b):=fun ⟨i,x,y,hx,hy,hh⟩=>hno i x y (by have:=(aah.1 hy).1;rw[HQ.out] at this;omega) hx hy hh
   clear hno hb hkj;go_wp2;go_ret;exact⟨false,rfl,⟨fun h=>(by cases h),fun h=>absurd h HN.out⟩,aH.out.trans (HB.out.mono aH.out.size)⟩
end
section
open Go.Proofs.Tryz
open Go.RowKit Go.Sort
theorem I2 (n:Nat) (ao:Option Addr) (cap:Nat) (es:List (Int×Int)) (da:Option Addr) (dc:Nat) (w:World) (hv:Si.Val (n:Int) es) (he:ah w ao es) (hd:aU w da (Si.aS (n:Int) es)) (h:Nat) (hh:h<2*es.length):
 Calls prog 150 #[.agg #[.int .i64 (n:Int),.slice ao es.length cap],.slice da n dc,.int .i64 (Cs.fr es h:Int),.int .i64 ((h/2:Nat):Int)] w fun e w'=>∃v,e= .returned v/\aj w' w.heap.size v (Ku.ZL (Ku.vs (Ku.gs es hv) (Ku.all (Ku.gs es hv).toSys h)))/\Below w.heap.size w w':=by
 obtain⟨W,hW⟩:∃W,W=w.alloc (.cells #[.int .i64 (n:Int),.slice ao es.length cap] 24):=⟨_,rfl⟩;have hB0:Below w.heap.size w W:=by rw[hW];exact(aae _ _).alloc (aad _) _
 have g1:W.heap[w.heap.size]? =some (.cells #[.int .i64 (n:Int),.slice ao es.length cap] 24 (0,0)):=by rw[hW];exact heap_alloc_new w _
 have bQ:=hv.few;obtain⟨T,hT⟩:∃T,Ku.all (Ku.gs es hv).toSys h=T:=⟨_,rfl⟩;have pW:h<(Ku.gs es hv).toSys.M:=hh;obtain⟨-,hnd,lR,-⟩:=Ku.bJ pW;have CQ:=ζ (Ku.all_zero pW);have uV:Hid (∀j x,T[j]? =some x->Ku.fL es x=none->j+1=T.length):=fun j x hx e=>by rw[<-hT] at hx ⊢;exact Ku.all_none pW hx e
 have Nc:Hid (∀j x,T[j]? =some x->Ku.fL es x=some h->j+1=T.length):=fun j x hx e=>by rw[<-hT] at hx ⊢;exact Ku.xS pW hx e
 have pL:Hid (∀j x k,T[j]? =some x->Ku.fL es x=some k->k≠h->T[j+1]? =some k):=fun j x k hx e hk=>by rw[<-hT] at hx ⊢;exact Ku.Al pW hx e hk
 have HTW:Hid (∀j x k,T[j]? =some x->Ku.fL es x=some k->k≠Cs.twin h):=fun j x k hx e=>by rw[<-hT] at hx;exact Ku.P8 pW hx e
 rw[hT] at CQ hnd lR ⊢;have nh:T.length<=8388608:=by
  have:=Ku.fk hnd lR;have h2:(Ku.gs es hv).toSys.M=2*es.length:=rfl;omega
 have l5:Hid (∀x∈T,x<2*es.length):=lR;have HV:=ζ hv;have HE:=ζ (he.later hB0);have HD:=ζ (hd.later hB0);have aH:=ζ hB0;have HW:=ζ hW;have HG:=ζ g1;have WC:Hid (∀(x:Nat) (p:Int×Int) (U:World),x<2*es.length->es[x/2]? =some p->Calls prog 214 #[.agg #[.int .i64 p.1,.int .i64 p.2],.int .i64 (Cs.fr es x:Int)] U fun e w'=>e= .returned (.int .i64 (Cs.to es x:Int))/\Below U.heap.size U w'):=fun x p U hx hp=>by
  have:=I0 p.1 p.2 (Cs.fr es x:Int) U;rw[Ku.LC hv hx hp] at this;exact this
 have Ql:Hid (∀(x k:Nat) (U:World),Ku.fL es x=some k->Below W.heap.size W U->Calls prog 215 #[.agg #[.int .i64 (n:Int),.slice ao es.length cap],.int .i64 (Cs.to es x:Int),.int .i64 ((x/2:Nat):Int)] U fun e w'=>e= .returned (.int .i64 ((k/2:Nat):Int))/\Below U.heap.size U w'):=fun x k U hk hU=>by
  refine(Rb (n:Int) ao cap es (Cs.to es x:Int) ((x/2:Nat):Int) U (HE.out.later hU) (by omega)).mono ?_;rintro e w' ⟨r,rfl,RH,hb⟩;refine⟨?_,hb⟩;rcases RH with ⟨rfl,hno⟩|⟨i,p,rfl,hp,hi,hin⟩
  .exfalso
   obtain⟨p,hp,hin,hne,_⟩:=Ku.Be hv hk;have:=hno (k/2) p hp (by omega);rcases hin with hin|hin
   .exact this.1 hin
   .exact this.2 hin
  .rw[Ku.QV hv hk hp (by omega) hin]
 have jf:Hid (∀j,j+1=T.length->T.take (j+1)=T):=fun j hj=>aaX (by omega)
 have TL:Hid (∀(x k:Nat),Ku.fL es x=some k->k/2=h/2->k≠Cs.twin h->k=h):=fun x k _ e1 e2=>by
  unfold Cs.twin at e2
  split at e2<;>omega
 obtain⟨⟨p1,p2⟩,hp⟩:=Ku.JF hh;obtain⟨eb,eo,rfl,c0,c1⟩:=HE.out (h/2) _ hp;dsimp only at c0 c1;obtain⟨ee,hee⟩:∃e,e=h/2:=⟨_,rfl⟩;have pI:=ζ (WC.out h (p1,p2) W hh hp);dsimp only at pI;rw[<-hee] at c0 c1 TL ⊢;have agY:ee<es.length:=by omega
 have he0:(0:Int)<=(ee:Int):=by omega
 have dL:(ee:Int)<(es.length:Int):=by omega
 obtain⟨q0,q1,-⟩:=af g1;have HEE:=ζ hee;clear he hd hB0 g1 hW hT hnd lR hp hee pW;rw[HW.out] at c0 c1 q0 q1;go_enter func150,ntmps150;go_wp2_with (go_at_call 214;rw[<-HW.out];refine pI.out.mono ?_;rintro e w1 ⟨rfl,hb1⟩;refine aaj ?_);refine ζ ?_;have hs1:=hb1.size;have HI:Hid (ak (w1.alloc (.cells #[.int .i64 (Cs.fr es h:Int),.int .i64 (Cs.to es h:Int)] 3)) w1.heap.size [(Cs.fr es h:Int),(Cs.to es h:Int)]):=heap_alloc_new w1 _;have aI:=ζ hb1;have hsw:=aH.out.size;clear hb1 c0 c1 q0 q1;go_wp2;go_loopw [9,10,11] (fun a v l wr=>∃(j x:Nat),T[j]? =some x/\a= .int .i64 (Cs.to es x:Int)/\l= .int .i64 ((x/2:Nat):Int)/\aj wr W.heap.size v (Ku.ZL (Ku.vs (Ku.gs es HV.out) (T.take (j+1))))/\Below W.heap.size W wr) (fun _ v _ _=>(T.length+2)-Ku.tW v)
 case atStart=>
  refine⟨0,h,CQ.out,rfl,by rw[HEE.out],?_,aI.out.alloc (by simpa using hs1) _⟩;have e1:T.take 1=[h]:=by
   have:=CQ.out;cases T with
   |nil=>simp at this
   |cons y T=>simp at this;subst this;rfl
  have e2:Ku.ZL (Ku.vs (Ku.gs es HV.out) (T.take (0+1)))=[(Cs.fr es h:Int),(Cs.to es h:Int)]:=by
   rw[e1];show [((Cs.fr es h:Nat):Int),((Cs.fr es (Cs.twin h):Nat):Int)]=_;rw[Cs.fQ]
  rw[e2];exact ak.own HI.out (by omega) rfl (by omega)
 case round=>
  obtain⟨j,x,hx,rfl,rfl,hown,hb⟩:=hrel;obtain⟨U,rfl⟩:∃U,U=wr:=⟨wr,rfl⟩;have X0:=(aah.1 hx).1;have hne:T.take (j+1)≠[]:=fun e=>by
   have:=congrArg List.length e;simp at this;rw[this] at X0;simp at X0
  have hlen:(Ku.ZL (Ku.vs (Ku.gs es HV.out) (T.take (j+1)))).length=j+2:=by
   rw[Ku.bL,Ku.bC hne,abu];omega
  obtain⟨oa,oc,bZ,-,-⟩:=hown.form;rw[hlen] at bZ;subst bZ;have hxl:=l5.out x (aai hx);have htn:=(Cs.dX HV.out hxl).2;have hdx:=Ku.GH HV.out htn;obtain⟨db,dof,rfl,MB⟩:=(HD.out.later hb) _ _ hdx;have ct:=ζ hown;have HB:=ζ hb;have HX:=ζ hx;have sL:=ζ hne;have l6:=ζ hlen;have aau:(0:Int)<=(Cs.to es x:Int):=by omega
  have aat:(Cs.to es x:Int)<(n:Int):=by omega
  obtain⟨q0,q1,-⟩:=af ((hb.block _ (lt_of_block HG.out)).trans HG.out);have LU:=hb.size;obtain⟨dv,DJ⟩:∃dv,(Ku.dg es (Cs.to es x):Int)=dv:=⟨_,rfl⟩;rw[DJ] at MB;obtain⟨ta,Gh⟩:∃ta,ta=Cs.to es x:=⟨_,rfl⟩;rw[<-Gh] at MB aau aat ⊢;obtain⟨lx,hlx⟩:∃lx,lx=x/2:=⟨_,rfl⟩;rw[<-hlx];have HTA:=ζ Gh;have HLX:=ζ hlx;clear hown hb hx hne hlen hdx Gh hlx;by_cases h2:Ku.dg es (Cs.to es x)=2
  .have t1:(dv==2)=true:=by rw[<-DJ,h2];rfl
   obtain⟨k,hk⟩:∃k,Ku.fL es x=some k:=by
    cases hk:Ku.fL es x with
    |none=>exact absurd h2 ((Ku.kX hxl).1 hk)
    |some k=>exact⟨k,rfl⟩
   obtain⟨⟨r1,r2⟩,hr,-,-,hkl,RY⟩:=Ku.Be HV.out hk;have dn:=Ql.out x k U hk HB.out;rw[<-HTA.out,<-HLX.out] at dn;have dn:=ζ dn;obtain⟨kk,hkk⟩:∃kk,kk=k/2:=⟨_,rfl⟩;rw[<-hkk] at dn;have M5:=ζ hkk;have HK:=ζ hk;have HR:=ζ hr;have agM:(kk:Int)<(es.length:Int):=by omega
   have agN:(0:Int)<=(kk:Int):=by omega
   clear h2 hk hr DJ hkk;go_wp2_with (go_at_call 215;refine dn.out.mono ?_;rintro e U1 ⟨rfl,hb1⟩;refine aaj ?_);refine ζ ?_;have WU:=ζ hb1;have zv:=ζ (HB.out.trans (hb1.mono HB.out.size));have agD:=hb1.size;clear hb1 q0 q1 MB;by_cases heq:kk=ee
   .have t2:((kk:Int)==(ee:Int))=true:=by simp[heq]
    have RX:k=h:=TL.out x k HK.out (by rw[<-M5.out];exact heq) (HTW.out j x k HX.out HK.out);have hjl:=Nc.out j x HX.out (by rw[HK.out,RX]);have HF:=ζ (jf.out j hjl);clear heq RX hjl;go_wp2;go_ret;refine⟨_,rfl,?_,aH.out.trans (zv.out.mono aH.out.size)⟩;have:=(ct.out.later WU.out).lower hsw;rw[HF.out] at this;exact this
   .have t2:((kk:Int)==(ee:Int))=false:=by simp;omega
    have RX:k≠h:=fun e=>heq (by rw[M5.out,HEE.out,e])
    have gS:=ζ (pL.out j x k HX.out HK.out RX);have hr2:=HR.out;rw[<-M5.out] at hr2;obtain⟨_,_,e9,c0,c1⟩:=(HE.out.later zv.out) kk _ hr2;cases e9;dsimp only at c0 c1;have KJ:=WC.out k (r1,r2) U1 hkl HR.out;rw[RY,<-HTA.out] at KJ;dsimp only at KJ;have KJ:=ζ KJ;obtain⟨q0,q1,-⟩:=af ((zv.out.block _ (lt_of_block HG.out)).trans HG.out);clear heq RX hr2;go_wp2_with (go_at_call 214;refine KJ.out.mono ?_;rintro e U2 ⟨rfl,hb2⟩;refine aaj ?_);refine ζ ?_;have aB:=ζ (zv.out.trans (hb2.mono zv.out.size));have hO2:=(ct.out.later WU.out).later hb2;have kQ:=ζ hO2;have agC:=aB.out.size;clear hb2 hO2 c0 c1 q0 q1;go_wp2_with (at_builtin;refine bB rfl _ _ rfl _ W.heap.size _ _ (Cs.to es k:Int) kQ.out (by omega) (by rw[l6.out];omega) rfl rfl ?_;refine aaj ?_);refine ζ ?_;intro v' w3 hrow3 _ _ hb3;have iX:=ζ hrow3;have aJ:=ζ (aB.out.trans hb3);have hnew:aj w3 W.heap.size v' (Ku.ZL (Ku.vs (Ku.gs es HV.out) (T.take (j+1+1)))):=by
     rw[Ku.tV gS.out,Ku.Qv sL.out];have e:Ku.ZL (Ku.vs (Ku.gs es HV.out) (T.take (j+1))++[(Ku.gs es HV.out).to k])=Ku.ZL (Ku.vs (Ku.gs es HV.out) (T.take (j+1)))++[(Cs.to es k:Int)]:=by
      unfold Ku.ZL;rw[abj,Ku.Gy];rfl
     rw[e];exact hrow3
    have Pm:Ku.tW v'=j+3:=by
     obtain⟨a',c',e,-,-⟩:=hrow3.form;rw[e,aar,l6.out];rfl
    have pR:=ζ hnew;have HSL:=ζ Pm;clear hrow3 hb3 hnew Pm;go_wp2;go_roundw
    case rel=>exact⟨j+1,k,gS.out,rfl,by rw[M5.out],pR.out,aJ.out⟩
    case measure=>
     rw[HSL.out];show _<(T.length+2)-(j+2);omega
  .have t1:(dv==2)=false:=by rw[<-DJ];simp;omega
   have hjl:=uV.out j x HX.out ((Ku.kX hxl).2 h2);have HF:=ζ (jf.out j hjl);clear h2 hjl DJ;go_wp2;go_ret;refine⟨_,rfl,?_,aH.out.trans (HB.out.mono aH.out.size)⟩;have:=ct.out.lower hsw;rw[HF.out] at this;exact this
end
end Go.Proofs.YtdbjpbjocmcpkaaGreatDoor
