import Derived.Test.YtdbjpbjocmcpkaaGreatDoorMj41
import Derived.Test.YtdbjpbjocmcpkaaGreatDoorMj16
set_option maxHeartbeats 8000000
set_option maxRecDepth 100000
namespace Go.Proofs.YtdbjpbjocmcpkaaGreatDoor
section
open Go.Proofs.Tryz
open Go.RowKit Go.Sort Go.Maps
theorem fD {fn:Func} {P:Program} {p q:Tmp} (h:fn.results= #[.cell p 82,.tmp q]) (hP:P=prog) (tmps:Array Value) (w:World) (b:Nat) (x y z u:Value) (hp:tmps.getD p undef= .pointer (some ⟨b,0,none⟩)) (hq:tmps.getD q undef=u) (h0:w.cell? ⟨b,0,none⟩=some x) (h1:w.cell? ⟨b,1,none⟩=some y) (h2:w.cell? ⟨b,2,none⟩=some z):(results fn tmps).run P w= .ok (.tuple #[.agg #[x,y,z],u]) w:=by
 subst hP;have hp':tmps[p]?.getD undef= .pointer (some ⟨b,0,none⟩):=by simpa using hp
 have hq':tmps[q]?.getD undef=u:=by simpa using hq
 simp[results,h,go_sem,hp',hq',h0,h1,h2]
theorem j6 {S:Nat->Prop} {w V:World} (h:av S w V) {b:Nat} (hb:w.heap.size<=b) (i:Nat) (x:Value):av S w (V.setCell ⟨b,i,none⟩ x):=
 ⟨h.os,h.tape,h.output,by simpa using h.size,fun k hk hn=>(heap_setCell_other V ⟨b,i,none⟩ k x (by show k≠b;omega)).trans (h.block k hk hn)⟩
namespace Ku
def kS:Value:= .agg #[.int .i64 0,.slice none 0 0,.slice none 0 0]
def All (R:List (List Int)) (ps:List (Int×Int)):Prop:=R.length=ps.length/\∀p∈ps,∃i,idx R p=some i
def oD (B:Nat) (cs:List Value) (R:List (List Int)) (kd:Int) (bv:Value) (ps:List (Int×Int)) (w:World) (e:Ending) (w':World):Prop:=
 ((¬All R ps/\e= .returned (.tuple #[kS,.bool false]))\/(All R ps/\∃pv vs,e= .returned (.tuple #[.agg #[.int .i64 kd,bv,pv],.bool true])/\ay w' B pv vs (ps.map (pathOf R))/\(∀b,pv.ownBlock=some b->w.heap.size<=b)/\∀b,cS vs b->cS cs b))/\av (fun b=>cS cs b) w w'
end Ku
theorem Cw (B:Nat) (ca:Option Addr) (J cc mb nb:Nat) (cs:List Value) (R:List (List Int)) (kd:Int) (bo:Option Addr) (bn bc:Nat) (pa:Option Addr) (pn pc:Nat) (ps:List (Int×Int)) (w:World)
 (hJ:R.length=J) (hBw:B<=w.heap.size) (hR:ay w B (.slice ca J cc) cs R) (hS:Ku.Small R) (nw:Ku.OM w mb nb (Ku.opn R R.length)) (hmb:¬cS cs mb) (FC:ps.length=pn) (hpl:pn<=4194304) (hps:ah w pa ps) (hpa:∀x,pa=some x->¬cS cs x.block)
 (hin:∀p∈ps,dw (Ku.key p)) (hd:∀(t t':Nat) (p p':Int×Int),t≠t'->ps[t]? =some p->ps[t']? =some p'->Ku.key p≠Ku.key p'):
 Calls prog 213 #[.agg #[.slice ca J cc,.map (some mb)],.int .i64 kd,.slice bo bn bc,.slice pa pn pc] w (Ku.oD B cs R kd (.slice bo bn bc) ps w):=by
 obtain⟨W1,hW1⟩:∃W1,W1=w.alloc (.cells #[.slice ca J cc,.map (some mb)] 248):=⟨_,rfl⟩;obtain⟨W,hW⟩:∃W,W=W1.alloc (.cells #[.int .i64 0,.slice none 0 0,.slice none 0 0] 82):=⟨_,rfl⟩;have hs1:W1.heap.size=w.heap.size+1:=by rw[hW1];simp
 have hB1:Below w.heap.size w W1:=by rw[hW1];exact(aaG _ _).alloc (aaF _) _
 have hB2:Below W1.heap.size W1 W:=by rw[hW];exact(aaG _ _).alloc (aaF _) _
 have hBW:Below w.heap.size w W:=hB1.trans (hB2.mono hB1.size);have g1:W.heap[w.heap.size]? =some (.cells #[.slice ca J cc,.map (some mb)] 248 (0,0)):=by
  rw[hB2.block _ (by omega),hW1];exact heap_alloc_new w _
 have g2:W.heap[w.heap.size+1]? =some (.cells #[.int .i64 0,.slice none 0 0,.slice none 0 0] 82 (0,0)):=by rw[hW,<-hs1];exact heap_alloc_new W1 _
 have Ys:w.heap.size+1<W.heap.size:=lt_of_block g2;have HW:Hid (W=(w.alloc (.cells #[.slice ca J cc,.map (some mb)] 248)).alloc (.cells #[.int .i64 0,.slice none 0 0,.slice none 0 0] 82)):=by rw[hW,hW1];exact ζ rfl
 have hcl:∀b,((Value.slice ca J cc).ownBlock=some b\/cS cs b)->b<w.heap.size:=fun b hb=>(hR.within hb).2
 have jE:Hid (∀b,((Value.slice ca J cc).ownBlock=some b\/cS cs b)->b<w.heap.size):=hcl;have tN:Hid (∀b,((Value.slice ca J cc).ownBlock=some b\/cS cs b)->b<W.heap.size):=fun b hb=>Nat.lt_trans (hcl b hb) (by omega)
 have EP:Hid (∀U:World,av (fun b=>cS cs b\/W.heap.size<=b) W U->∀b,b<W.heap.size->¬cS cs b->U.heap[b]? =W.heap[b]?):=fun U hU b hb hn=>hU.block b hb (fun h=>by
  rcases h with h|h
  .exact hn h
  .omega)
 have HOM:Hid (∀U:World,av (fun b=>cS cs b\/W.heap.size<=b) W U->Ku.OM U mb nb (Ku.opn R R.length)):=fun U hU=>(nw.later hBW).kept (EP.out U hU mb (Nat.lt_trans nw.lt (by omega)) hmb)
 have HPS:Hid (∀U:World,av (fun b=>cS cs b\/W.heap.size<=b) W U->ah U pa ps):=fun U hU j p hj=>by
  obtain⟨b,o,e,h1,h2⟩:=(hps.later hBW) j p hj;have hn:=hpa _ e;have hbl:=block_lt_of_cell h1;have:=EP.out U hU b hbl hn;exact⟨b,o,e,(abF (a:=⟨b,o+j*2,none⟩) this).trans h1,(abF (a:=⟨b,o+j*2+1,none⟩) this).trans h2⟩
 have dB:Hid (∀U:World,av (fun b=>cS cs b\/W.heap.size<=b) W U->U.heap[w.heap.size]? =some (.cells #[.slice ca J cc,.map (some mb)] 248 (0,0))):=fun U hU=>(EP.out U hU _ (by omega) (fun h=>by have:=hcl _ (.inr h);omega)).trans g1
 have cA:Hid (∀U:World,av (fun b=>cS cs b\/W.heap.size<=b) W U->U.heap[w.heap.size+1]? =some (.cells #[.int .i64 0,.slice none 0 0,.slice none 0 0] 82 (0,0))):=fun U hU=>(EP.out U hU _ (by omega) (fun h=>by have:=hcl _ (.inr h);omega)).trans g2
 have Wj:Hid (∀U:World,av (fun b=>cS cs b\/W.heap.size<=b) W U->av (fun b=>cS cs b) w U):=fun U hU=>by
  have h1:av (fun b=>cS cs b) w W:=(av.refl _ w).later hBW;exact⟨hU.os.trans h1.os,hU.tape.trans h1.tape,hU.output.trans h1.output,aa1 h1.size hU.size,fun b hb hn=>(EP.out U hU b (by omega) hn).trans (h1.block b hb hn)⟩
 have Nq:Hid (Ku.EM B (.slice ca J cc) cs R ps W 0 (.slice none 0 0) [] W):=⟨⟨R,hR.later hBW,rfl,fun i l hl _=>hl⟩,ay.nil _ _,fun t x hx=>by simp at hx,fun b hb=>(by cases hb),av.refl _ _⟩;have HS:=ζ hS;have HJ:=ζ hJ;have Ng:=ζ FC;have HD:=ζ hd;have o7:=ζ hin;have Md:J<=4194304:=by rw[<-hJ];exact hS.1
 obtain⟨c0,c1,-⟩:=af g1;obtain⟨z0,z1,z2,zf⟩:=aQ g2;have hf0:=zf 0;have sH:=zf 1;have hf2:=zf 2;have hB:Below w.heap.size w W:=hBW;have cN:=ζ hBW;rw[HW.out] at c0 c1 z0 z1 z2 hf0 sH hf2;clear hW hW1 hs1 hB1 hB2 hBW hB g1 g2 hR hS nw hmb FC hps hpa hin hd hJ zf;by_cases hne:J=pn
 .have t1:((J:Int) != (pn:Int))=false:=by simp[hne]
  have PT:Hid (R.length=ps.length):=by rw[HJ.out,Ng.out];exact ζ hne
  clear hne;go_enter func213,ntmps213;go_wp2_with fail;rw[<-HW.out];clear c0 c1 z0 z1 z2 hf0 sH hf2;go_loopw [10,24] (fun pv cv wr=>∃(k:Nat) (vs:List Value),k<=pn/\cv= .int .i64 (k:Int)/\Ku.EM B (.slice ca J cc) cs R ps W k pv vs wr/\∀t p,t<k->ps[t]? =some p->∃i,Ku.idx R p=some i) (fun _ cv _=>pn-(intOf cv).toNat)
  case atStart=>exact⟨0,[],aaR _,rfl,Nq.out,fun t p ht=>by omega⟩
  case round=>
   obtain⟨k,vs,hk,rfl,hkm,hall⟩:=hrel;obtain⟨U,rfl⟩:∃U,U=wr:=⟨wr,rfl⟩;have TA:=ζ hkm;have jc:=ζ hall;have Fx:=hkm.wr;have OE:=Fx.size;have hwk:IntKind.i64.wrap ((k:Int)+1)=(k:Int)+1:=by rw[aaK];omega
   obtain⟨va,vc,cG⟩:=bG hkm.pz;have hlv:((ps.take k).map (Ku.pathOf R)).length=k:=by rw[aa3,abL,Ng.out];omega
   rw[hlv] at cG;subst cG;by_cases hlt:k<pn
   .have aP:(k:Int)<(pn:Int):=by omega
    have hk0:(0:Int)<=(k:Int):=by omega
    obtain⟨⟨p1,p2⟩,hp⟩:∃p,ps[k]? =some p:=⟨_,aaE (by rw[Ng.out];exact hlt)⟩;obtain⟨eb,eo,rfl,x0,x1⟩:=HPS.out U Fx k _ hp;dsimp only at x0 x1;have akq:eb<U.heap.size:=block_lt_of_cell x0;have akp:eb≠U.heap.size:=by omega
    have HP:=ζ hp;obtain⟨V,hV⟩:∃V,V=U.alloc (.cells #[.int .i64 p1,.int .i64 p2] 57):=⟨_,rfl⟩;have DT:Below U.heap.size U V:=by rw[hV];exact(aaG _ _).alloc (aaF _) _
    have gV:V.heap[U.heap.size]? =some (.cells #[.int .i64 p1,.int .i64 p2] 57 (0,0)):=by rw[hV];exact heap_alloc_new U _
    have Fy:=Fx.later DT;obtain⟨⟨y1,y2⟩,uM⟩:∃ky,Ku.key (p1,p2)=ky:=⟨_,rfl⟩;have ZB:dw (y1,y2):=by rw[<-uM];exact o7.out _ (aaJ hp)
    obtain⟨ci,OQ,uP⟩:=(HOM.out V Fy).look ZB;obtain⟨jn,hjn⟩:∃jn,(Ku.opn R R.length (y1,y2)).isSome=jn:=⟨_,rfl⟩;rw[hjn] at OQ;have hyy:(p2<p1/\y1=p2/\y2=p1)\/(¬p2<p1/\y1=p1/\y2=p2):=by
     unfold Ku.key at uM;dsimp only at uM
     split at uM
     .rename_i hh
      cases uM;exact .inl ⟨hh,rfl,rfl⟩
     .rename_i hh
      cases uM;exact .inr ⟨hh,rfl,rfl⟩
    have Yh:(Instr.lookup 246 (.map (some mb)) (.agg #[.int .i64 (min p1 p2),.int .i64 (max p1 p2)]) true).run prog V= .ok (.tuple #[.int .i64 ci,.bool jn]) V:=by
     rw[show min p1 p2=y1 by omega,show max p1 p2=y2 by omega];exact OQ
    obtain⟨c0,c1,-⟩:=af (dB.out V Fy);obtain⟨v0,v1,-⟩:=af gV;have HV:=ζ hV;have PC:=ζ Fy;have W8:=ζ gV;have JV:=ζ DT;have HCI:=ζ uP;have Y7:=ζ uM;rw[HV.out] at Yh c0 c1 v0 v1;have WW:=ζ hjn;clear hkm hall Fx hp hV DT gV Fy uP uM hlv hyy hjn ZB OQ;cases jn with
    |false=>
     have cB:Hid (¬Ku.All R ps):=fun h=>by
      obtain⟨i,hi⟩:=h.2 _ (aaJ HP.out);unfold Ku.idx at hi;rw[Y7.out] at hi;have:=WW.out;rw[hi] at this;cases this
     obtain⟨z0,z1,z2,zf⟩:=aQ (cA.out V PC.out);have hf0:=zf 0;have sH:=zf 1;have hf2:=zf 2;rw[HV.out] at z0 z1 z2 hf0 sH hf2;clear zf;have aka:w.heap.size+1≠U.heap.size:=by omega
     go_wp2;refine bodyPost_ret (fD rfl rfl _ _ (w.heap.size+1) _ _ _ _ rfl rfl (az z0 z1 z2 _ _ _).1 (az z0 z1 z2 _ _ _).2.1 (az z0 z1 z2 _ _ _).2.2) rfl ?_;rw[<-HV.out];exact⟨.inl ⟨cB.out,rfl⟩,j6 (j6 (j6 (Wj.out V PC.out) (by omega) _ _) (by omega) _ _) (by omega) _ _⟩
    |true=>
     obtain⟨i,hi⟩:∃i,Ku.idx R (p1,p2)=some i:=by
      unfold Ku.idx;rw[Y7.out];exact adr.1 WW.out
     obtain rfl:ci=(i:Int):=HCI.out i (by have:=hi;unfold Ku.idx at this;rw[Y7.out] at this;exact this);obtain⟨l,hl,-,-⟩:=Ku.I9 hi;obtain⟨x,hx,hxo,⟨gc,cg,hce,hcell⟩,vZ⟩:=TA.out.look HD.out HP.out hi hl;rw[HJ.out] at hce;cases hce;obtain⟨xa,xc,gR,-,-⟩:=hxo.form;obtain⟨q,hq⟩:∃q,l.length=q:=⟨_,rfl⟩;rw[hq] at gR;subst gR;obtain⟨xZ,Yb,-⟩:=HS.out.2 l (aaJ hl);rw[hq] at xZ Yb;have hiJ:(i:Int)<(J:Int):=by have:=Ku.X3 hi;have h2:=HJ.out;omega
     have nS:(0:Int)<=(i:Int):=by omega
     have HX:=ζ hx;have HXO:=ζ hxo;have HXV:=ζ vZ;have HI:=ζ hi;have HL:=ζ hl;have HQ:=ζ hq;have hxl:∀b,(Value.slice xa q xc).ownBlock=some b->b<W.heap.size:=fun b hb=>tN.out b (.inr ⟨i,_,hx,hb⟩)
     have Ji:gc<W.heap.size:=tN.out gc (.inl rfl);have iZ:Hid (∀t p,t<k+1->ps[t]? =some p->∃i,Ku.idx R p=some i):=fun t p ht hp=>by
      by_cases e:t=k
      .subst e
       rw[HP.out] at hp;cases hp;exact⟨i,HI.out⟩
      .exact jc.out t p (by omega) hp
     have EY:Hid (∀b,(Value.slice xa q xc).ownBlock=some b->b≠gc):=fun b hb e=>by
      obtain⟨C,hC,-,-⟩:=TA.out.cur;exact hC.far i _ b HX.out hb (by rw[e];rfl)
     have ZM:V.cell? ⟨gc,i,none⟩=some (.slice xa q xc):=(JV.out.cell (p:=⟨gc,i,none⟩) (block_lt_of_cell hcell)).trans hcell;have JI:Hid (∀Y:World,(∀b,b<V.heap.size->b<W.heap.size->¬(Value.slice xa q xc).ownBlock=some b->Y.heap[b]? =V.heap[b]?)->Y.heap[U.heap.size]? =V.heap[U.heap.size]? ->(Y.cell? ⟨U.heap.size,0,none⟩=some (.int .i64 p1)/\Y.cell? ⟨w.heap.size,0,none⟩=some (.slice (some ⟨gc,0,none⟩) J cc)/\Y.cell? ⟨gc,i,none⟩=some (.slice xa q xc))):=fun Y hY hY2=>by
      refine⟨(af (hY2.trans W8.out)).1,?_,?_⟩
      .have hb:w.heap.size<V.heap.size:=lt_of_block (dB.out V PC.out)
       refine(af ((hY _ hb (by omega) (fun e=> ?_)).trans (dB.out V PC.out))).1;obtain⟨C,hC,-,-⟩:=TA.out.cur;have:=jE.out _ (.inr ⟨i,_,HX.out,e⟩);omega
      .exact(abF (a:=⟨gc,i,none⟩) (hY gc (block_lt_of_cell ZM) Ji (fun e=>EY.out gc e rfl))).trans ZM
     clear hx hxo vZ hi hl hq;go_wp2_with fail;rw[<-HV.out];have hVU:=JV.out.size;have hUV:U.heap.size<V.heap.size:=lt_of_block W8.out;have Ag:=ζ (TA.out.later JV.out);have Zv:((ps.take k).map (Ku.pathOf R)).length<=4194304:=by rw[aa3,abL];omega
     have aae:Hid (∀b,(Value.slice va k vc).ownBlock=some b->W.heap.size<=b/\b<U.heap.size):=fun b hb=>⟨TA.out.own b hb,(TA.out.pz.within (.inl hb)).2⟩
     have Ws:=JI.out V (fun _ _ _ _=>rfl) rfl;have iA:=JI.out V.drew (fun _ _ _ _=>rfl) rfl;have ads:=ζ (NC B xa q xc p1 l V.drew HQ.out (ak.later HXO.out JV.out.drew) (by omega) Yb);have Q1:Hid (∀(u2 X w4:World) (j9:Value),V.drew.grownBy u2 (Value.slice xa q xc).ownBlock->ak u2 B (.slice xa q xc) (Ku.fG p1 l)->Below u2.heap.size u2 X->ay X B (.slice va k vc) vs ((ps.take k).map (Ku.pathOf R))/\ak X B (.slice xa q xc) (Ku.fG p1 l)/\(∀b,(Value.slice xa q xc).ownBlock=some b->¬((Value.slice va k vc).ownBlock=some b\/cS vs b))/\(ay w4 B j9 (vs++[.slice xa q xc]) ((ps.take k).map (Ku.pathOf R)++[Ku.fG p1 l])->X.grownBy w4 (Value.slice va k vc).ownBlock->(j9.ownBlock=(Value.slice va k vc).ownBlock\/j9.ownBlock=some X.heap.size)->Ku.EM B (.slice (some ⟨gc,0,none⟩) J cc) cs R ps W (k+1) j9 (vs++[.slice xa q xc]) w4)):=fun u2 X w4 j9 hg hO hX=>(Ag.out.later (aaG _ V).drew).step tN.out HD.out HP.out HI.out HL.out HX.out HXV.out hg hO hX
     go_region_held3 (fun Y=>Y.cell? ⟨U.heap.size,0,none⟩=some (.int .i64 p1)/\Y.cell? ⟨w.heap.size,0,none⟩=some (.slice (some ⟨gc,0,none⟩) J cc)/\Y.cell? ⟨gc,i,none⟩=some (.slice xa q xc))
      (first|exact Ws|exact iA|exact D8|exact hSX _|exact VE)
      (first
        |(go_at_call 263;refine ads.out.mono ?_;rintro e u2 ⟨rfl,ho2,hg2⟩;have hk2:∀b,b<V.heap.size->¬(Value.slice xa q xc).ownBlock=some b->u2.heap[b]? =V.heap[b]? :=(fun b hb hn=>hg2.block b hb (fun e=>hn e.symm));have hs2:V.heap.size<=u2.heap.size:=hg2.size;have D8:=JI.out u2 (fun b hb _ hn=>hk2 b hb hn) (hk2 _ hUV (fun e=>by have:=hxl _ e;omega));have hSX:=fun (ob:Obj)=>JI.out (u2.alloc ob).drew (fun b hb _ hn=>(heap_alloc_old u2 ob (by omega)).trans (hk2 b hb hn)) ((heap_alloc_old u2 ob (by omega)).trans (hk2 _ hUV (fun e=>by have:=hxl _ e;omega))))
        |(rw[if_pos (by rfl)];refine wV _ _ (by rfl) B (.slice va k vc) vs _ xa q xc _ (Q1.out u2 _ V (.slice none 0 0) hg2 ho2 (by first|exact(aaG _ _).alloc (aaF _) _|exact((aaG _ _).alloc (aaF _) _).drew)).1 (by simp;omega) (by rfl) u2.heap.size (by rfl) (by exact(cell_one_new _ _ _ 0 _ rfl)) (Q1.out u2 _ V (.slice none 0 0) hg2 ho2 (by first|exact(aaG _ _).alloc (aaF _) _|exact((aaG _ _).alloc (aaF _) _).drew)).2.1 (Q1.out u2 u2 V (.slice none 0 0) hg2 ho2 (aaG _ _)).2.2.1 Zv ?_;intro v4 w4 FN hg4 sK;have hK4:=(Q1.out u2 _ w4 v4 hg2 ho2 (by first|exact(aaG _ _).alloc (aaF _) _|exact((aaG _ _).alloc (aaF _) _).drew)).2.2.2 FN hg4 sK;have hk4:∀b,b<V.heap.size->¬(Value.slice xa q xc).ownBlock=some b->¬(Value.slice va k vc).ownBlock=some b->w4.heap[b]? =V.heap[b]? :=(fun b hb h1 h2=>(hg4.block b (by simp;omega) (fun e=>h2 e.symm)).trans ((heap_alloc_old u2 _ (by omega)).trans (hk2 b hb h1)));have VE:=JI.out w4 (fun b hb hbW hn=>hk4 b hb hn (fun e=>by have:=(aae.out b e).1;omega)) (hk4 _ hUV (fun e=>by have:=hxl _ e;omega) (fun e=>by have:=(aae.out _ e).2;omega))))
     have WV:=ζ hK4;clear hK4 hk4 VE FN hg4 sK D8 hSX hk2 hs2 ho2 hg2 Ws iA Zv;go_wp2;go_roundw
     case rel=>exact⟨k+1,_,by omega,by go_num,WV.out,iZ.out⟩
     case measure=>simp[intOf];omega
   .have hdn:¬((k:Int)<(pn:Int)):=by omega
    obtain rfl:k=pn:=by omega
    obtain⟨z0,z1,z2,zf⟩:=aQ (cA.out U Fx);have hf0:=zf 0;have sH:=zf 1;have hf2:=zf 2;have lI:Hid (Ku.All R ps/\ay U B (.slice va k vc) vs (ps.map (Ku.pathOf R))/\(∀b,(Value.slice va k vc).ownBlock=some b->W.heap.size<=b)/\∀b,cS vs b->cS cs b):=by
     refine ζ ⟨⟨PT.out,fun p hp=> ?_⟩,?_,hkm.own,fun b hb=> ?_⟩
     .obtain⟨t,ht⟩:=abg hp
      exact hall t p (by have:=(aaH.1 ht).1;rw[Ng.out] at this;exact this) ht
     .have:=hkm.pz
      rw[abn (by rw[Ng.out];exact aaF _)] at this;exact this
     .obtain⟨t,y,hy,hyb⟩:=hb
      obtain⟨_,i,_,_,_,hc⟩:=hkm.link t y hy;exact⟨i,y,hc,hyb⟩
    have HWU:=ζ Fx;have adg:Hid (∀b,cS cs b->b<w.heap.size):=fun b hb=>jE.out b (.inr hb)
    have HPZ:Hid (∀b,cS vs b->b<w.heap.size):=fun b hb=>adg.out b (lI.out.2.2.2 b hb)
    clear hkm hall Fx zf hlv;have JO:Hid (∀(x y z:Value),ay (((U.setCell ⟨w.heap.size+1,0,none⟩ x).setCell ⟨w.heap.size+1,1,none⟩ y).setCell ⟨w.heap.size+1,2,none⟩ z) B (.slice va k vc) vs (ps.map (Ku.pathOf R))):=fun x y z=>lI.out.2.1.kept fun b hb _=>by
     have hne:b≠w.heap.size+1:=by
      rcases hb with hb|hb
      .have:=lI.out.2.2.1 b hb
       omega
      .have:=HPZ.out b hb
       omega
     rw[heap_setCell_other _ ⟨w.heap.size+1,2,none⟩ b _ hne,heap_setCell_other _ ⟨w.heap.size+1,1,none⟩ b _ hne,heap_setCell_other _ ⟨w.heap.size+1,0,none⟩ b _ hne]
    go_wp2;refine bodyPost_ret (fD rfl rfl _ _ (w.heap.size+1) _ _ _ _ rfl rfl (az z0 z1 z2 _ _ _).1 (az z0 z1 z2 _ _ _).2.1 (az z0 z1 z2 _ _ _).2.2) rfl ?_;exact⟨.inr ⟨lI.out.1,_,vs,rfl,JO.out _ _ _,fun b hb=>by have:=lI.out.2.2.1 b hb;omega,lI.out.2.2.2⟩,j6 (j6 (j6 (Wj.out U HWU.out) (by omega) _ _) (by omega) _ _) (by omega) _ _⟩
 .have t1:((J:Int) != (pn:Int))=true:=by simp;omega
  have nU:Hid (¬Ku.All R ps):=fun h=>hne (by rw[<-HJ.out,<-Ng.out];exact h.1)
  clear hne;go_enter func213,ntmps213;go_wp2;refine bodyPost_ret (fD rfl rfl _ _ (w.heap.size+1) _ _ _ _ rfl rfl z0 z1 z2) rfl ?_;rw[<-HW.out];exact⟨.inl ⟨nU.out,rfl⟩,Wj.out W (av.refl _ _)⟩
end
section
open Go.Proofs.Tryz
open Go.RowKit Go.Sort Go.Maps
theorem Tryz.Lt:(prog.info? 57).map (fun i=>(i.zero,i.size,i.bytes))=some (some (.agg #[.int .i64 0,.int .i64 0]),2,16):=by kernel_rfl
def l6 (w:World) (B:Nat) (v:Value) (ps:List (Int×Int)):Prop:=w.ownsRow B 57 2 v ps.length (gB ps)
theorem l6.nil (w:World) (B:Nat):l6 w B (.slice none 0 0) []:=acG _ _ _ _
theorem l6.form {w:World} {B:Nat} {v:Value} {es:List (Int×Int)} (h:l6 w B v es):∃ao cap,v= .slice ao es.length cap/\ah w ao es/\(∀x,ao=some x->B<=x.block/\x.block<w.heap.size):=by
 have h':=h;unfold l6 at h';rcases h.2 with ⟨rfl,h0⟩|⟨g,cap,cur,rfl,hg,hh,hc,hm,_⟩
 .refine⟨none,0,by rw[h0],fun j p hj=> ?_,fun x h=>by cases h⟩
  rw[abY.1 h0] at hj;simp at hj
 .refine⟨_,cap,rfl,fun j p hj=>⟨g,0,rfl,?_⟩,fun x h=>by cases h;exact⟨hg,lt_of_block hh⟩⟩
  have hcl:=ab5 h' (g:=g) rfl;simp only[Pv] at hcl;obtain⟨h0,h1⟩:=mO es j p hj;rw[abK];exact⟨hcl _ _ h0,hcl _ _ h1⟩
theorem uV {ops:Array Oper} {rest:List Oper} {o:Oper} {a:Act} {Q:Exit->Act->World->Prop} (hgd:o.guard=none) (s x:Operand)
 (ho:o.op= .call { callee:= .builtin .append,args:= #[s,x],argTypes:= #[59,59] }) (W:World) (B:Nat) (v:Value) (l:List (Int×Int)) (y z:Int) (hown:l6 W B v l)
 (hB:B<=W.heap.size) (hl:l.length<=8796093022000) (hs:a.eval s=v) (hx:a.eval x= .slice (some ⟨W.heap.size,0,none⟩) 1 1)
 (h:∀v' w',l6 w' B v' (l++[(y,z)])->Below B W w'->wpList prog ops Q rest (a.put o.dst v') w'):
 wpList prog ops Q (o::rest) a (W.alloc (.cells #[.int .i64 y,.int .i64 z] 57)):=by
 obtain⟨i0,hi,hz0,hz1,hz2⟩:=info_parts Tryz.Lt;have hb0:Below B W (W.alloc (.cells #[.int .i64 y,.int .i64 z] 57)):=(aaG _ _).alloc hB _;refine wpList_append_own _ hgd s x 59 ho B 57 i0 (.agg #[.int .i64 0,.int .i64 0]) 2 16 Tryz.underlying59 hi hz0 hz1 hz2 rfl (by decide) _ _ _ hs (abv hown _) ⟨W.heap.size,0,none⟩ 1 1 [.int .i64 y,.int .i64 z] hx rfl (qx _ _ rfl _ _ _) (by simp[Value.oneCell']) (by unfold maxLen;omega) (by omega) (by simp;omega) ?_;intro v' w' hown' hg _;have ho':l6 w' B v' (l++[(y,z)]):=by
  unfold l6;rw[oz,aaZ];exact hown'
 exact h v' w' ho' (hb0.grown hg (by simp;omega) (fun b hb=>(aaO hown b hb).1))
namespace Ku
def uE (L:List Int) (i:Nat):Nat->List (Int×Int)
 |0=>[]
 |j+1=>uE L i j++[(gI L i,gI L (i+1+j))]
def dN (L:List Int):Nat->List (Int×Int)
 |0=>[]
 |i+1=>dN L i++uE L i (L.length-(i+1))
theorem AK (L:List Int) (i j:Nat):(uE L i j).length=j:=by
 induction j with
 |zero=>rfl
 |succ j ih=>simp[uE,ih]
theorem xy (L:List Int) (i:Nat):(dN L i).length<=i*L.length:=by
 induction i with
 |zero=>simp[dN]
 |succ i ih=>
  unfold dN;rw[aaZ,AK,adF];omega
theorem oD.shape {B:Nat} {cs:List Value} {R:List (List Int)} {kd:Int} {ba:Option Addr} {bn bc:Nat} {ps:List (Int×Int)} {w w':World} {e:Ending} (h:oD B cs R kd (.slice ba bn bc) ps w e w'):∃(v1:Int) (s1:Option Addr) (s2 s3:Nat) (u1:Option Addr) (u2 u3:Nat) (r:Bool),e= .returned (.tuple #[.agg #[.int .i64 v1,.slice s1 s2 s3,.slice u1 u2 u3],.bool r]):=by
 rcases h.1 with ⟨_,h⟩|⟨_,pv,vs,h,hr,_⟩
 .exact⟨_,_,_,_,_,_,_,_,h⟩
 .obtain⟨a,c,rfl⟩:=bG hr
  exact⟨_,_,_,_,_,_,_,_,h⟩
theorem oD.far {B:Nat} {cs:List Value} {R:List (List Int)} {kd:Int} {bv:Value} {ps:List (Int×Int)} {w w1 w' V:World} {e:Ending} (h:oD B cs R kd bv ps w1 e w') (hb:Below w.heap.size w w1) {c:Nat} (hc:w.heap.size<=c/\c<w1.heap.size) (hcs:∀b,cS cs b->b<w.heap.size) (hV:∀b,b≠c->V.heap[b]? =w'.heap[b]?) (hs:V.heap.size=w'.heap.size) (h1:V.os=w'.os) (h2:V.tape=w'.tape) (h3:V.output=w'.output):oD B cs R kd bv ps w e V:=by
 obtain⟨dh,hw⟩:=h;have hw2:=((av.refl (fun b=>cS cs b) w).later hb).trans hw;refine⟨?_,h1.trans hw2.os,h2.trans hw2.tape,h3.trans hw2.output,by rw[hs];exact hw2.size,fun k hk hn=>(hV k (by omega)).trans (hw2.block k hk hn)⟩;rcases dh with dh|⟨ha,pv,vs,he,hr,ho,hin⟩
 .exact .inl dh
 .refine .inr ⟨ha,pv,vs,he,hr.kept fun b hb' _=>hV b ?_,fun b hb'=>aa1 hb.size (ho b hb'),hin⟩
  rcases hb' with hb'|hb'
  .have:=ho b hb'
   omega
  .have:=hcs b (hin b hb')
   omega
end Ku
theorem ND (B:Nat) (ca:Option Addr) (J cc mb nb:Nat) (cs:List Value) (R:List (List Int)) (bo:Option Addr) (q bc:Nat) (L:List Int) (w:World)
 (hJ:R.length=J) (hBw:B<=w.heap.size) (hR:ay w B (.slice ca J cc) cs R) (hS:Ku.Small R) (nw:Ku.OM w mb nb (Ku.opn R R.length)) (hmb:¬cS cs mb) (hq:L.length=q) (xZ:0<q) (xY:q<=6) (hqc:q<=bc) (hbc:bc<=9223372036854775807) (hL:aV w bo L)
 (hin:∀p∈Ku.dN L q,dw (Ku.key p)) (hd:∀(t t':Nat) (p p':Int×Int),t≠t'->(Ku.dN L q)[t]? =some p->(Ku.dN L q)[t']? =some p'->Ku.key p≠Ku.key p'):
 Calls prog 148 #[.agg #[.slice ca J cc,.map (some mb)],.slice bo q bc] w (Ku.oD B cs R 1 (.slice bo q bc) (Ku.dN L q) w):=by
 obtain⟨W1,hW1⟩:∃W1,W1=w.alloc (.cells #[.slice ca J cc,.map (some mb)] 248):=⟨_,rfl⟩;obtain⟨W,hW⟩:∃W,W=W1.alloc (.cells #[.int .i64 0,.slice none 0 0,.slice none 0 0] 82):=⟨_,rfl⟩;have hs1:W1.heap.size=w.heap.size+1:=by rw[hW1];simp
 have hB1:Below w.heap.size w W1:=by rw[hW1];exact(aaG _ _).alloc (aaF _) _
 have hB2:Below W1.heap.size W1 W:=by rw[hW];exact(aaG _ _).alloc (aaF _) _
 have hBW:Below w.heap.size w W:=hB1.trans (hB2.mono hB1.size);have g1:W.heap[w.heap.size]? =some (.cells #[.slice ca J cc,.map (some mb)] 248 (0,0)):=by
  rw[hB2.block _ (by omega),hW1];exact heap_alloc_new w _
 have g2:W.heap[w.heap.size+1]? =some (.cells #[.int .i64 0,.slice none 0 0,.slice none 0 0] 82 (0,0)):=by rw[hW,<-hs1];exact heap_alloc_new W1 _
 have Ys:w.heap.size+1<W.heap.size:=lt_of_block g2;have HW:Hid (W=(w.alloc (.cells #[.slice ca J cc,.map (some mb)] 248)).alloc (.cells #[.int .i64 0,.slice none 0 0,.slice none 0 0] 82)):=by rw[hW,hW1];exact ζ rfl
 have jE:Hid (∀b,cS cs b->b<w.heap.size):=fun b hb=>(hR.within (.inr hb)).2
 have dB:=ζ g1;have cA:=ζ g2;have cN:=ζ hBW;have HL:=ζ hL;have HQ:=ζ hq;have HKU:Hid (∀(U:World) (pa:Option Addr) (pc:Nat),Below W.heap.size W U->ah U pa (Ku.dN L q)->(∀x,pa=some x->W.heap.size<=x.block)->Calls prog 213 #[.agg #[.slice ca J cc,.map (some mb)],.int .i64 1,.slice bo q bc,.slice pa (Ku.dN L q).length pc] U (Ku.oD B cs R 1 (.slice bo q bc) (Ku.dN L q) U)):=fun U pa pc hU hpa hpb=>by
  have hbl:Below w.heap.size w U:=hBW.trans (hU.mono hBW.size);refine Cw B ca J cc mb nb cs R 1 bo q bc pa _ pc (Ku.dN L q) U hJ (aa1 hBw hbl.size) (hR.later hbl) hS (nw.later hbl) hmb rfl ?_ hpa (fun x hx hi=> ?_) hin hd
  .have h1:=Ku.xy L q
   rw[hq] at h1;have h2:q*q<=6*6:=adu xY xY;omega
  .have h1:=hpb x hx
   have h2:=jE.out _ hi;omega
 clear hW hW1 hs1 hB1 hB2 hBW g1 g2 hR hS nw hmb hq hL hin hd hJ;go_enter func148,ntmps148;go_wp2_with fail;rw[<-HW.out];go_loopw [6,13] (fun pv cv wr=>∃(i:Nat),i<=q/\cv= .int .i64 (i:Int)/\l6 wr W.heap.size pv (Ku.dN L i)/\Below W.heap.size W wr) (fun _ cv _=>q-(intOf cv).toNat)
 case atStart=>exact⟨0,aaR _,rfl,l6.nil _ _,aaG _ _⟩
 case round=>
  obtain⟨i,hi,rfl,hown,hb⟩:=hrel;obtain⟨U,rfl⟩:∃U,U=wr:=⟨wr,rfl⟩;have HO:=ζ hown;have HB:=ζ hb;have hwi:IntKind.i64.wrap ((i:Int)+1)=(i:Int)+1:=by rw[aaK];omega
  obtain⟨pa,pc,hpe,hpat,hpb⟩:=hown.form;have Tw:=ζ hpat;have HPB:=ζ hpb;by_cases hlt:i<q
  .have aP:(i:Int)<(q:Int):=by omega
   have nS:(0:Int)<=(i:Int):=by omega
   obtain⟨x,hx⟩:∃x,L[i]? =some x:=⟨_,aaE (by rw[HQ.out];exact hlt)⟩;obtain⟨b,o,rfl,e0⟩:=(HL.out.later (cN.out.trans (hb.mono cN.out.size))) i x hx;obtain⟨i1,hi1⟩:∃i1,i1=i+1:=⟨_,rfl⟩;obtain⟨m,hm⟩:∃m,m=q-i1:=⟨_,rfl⟩;have hwa:IntKind.i64.wrap ((i:Int)+1)=(i1:Int):=by rw[aaK];omega
   have k1:(0:Int)<=(i1:Int):=by omega
   have k2:(i1:Int)<=(q:Int):=by omega
   have k3:(q:Int)<=(bc:Int):=by omega
   have k4:(i1:Int)<=(bc:Int):=by omega
   have JQ:=ζ (Ku.bR hx);have HX:=ζ hx;clear hown hpe hpat hpb hb hx hwi;by_cases hcap:bc=i1
   .go_wp2_with fail
    generalize hmm:q-(i+1)=mm;have q9:=ζ hmm;have hmb:mm<=6:=by omega
    go_loopw [6,23] (fun pv cv wr=>∃(j:Nat),j<=mm/\cv= .int .i64 (j:Int)/\l6 wr W.heap.size pv (Ku.dN L i++Ku.uE L i j)/\Below W.heap.size W wr) (fun _ cv _=>mm-(intOf cv).toNat)
    case atStart=>exact⟨0,aaR _,rfl,by rw[show Ku.uE L i 0=[] from rfl,abP];exact HO.out,HB.out⟩
    case round=>
     obtain⟨j,hj,rfl,hown,hb⟩:=hrel;obtain⟨V,rfl⟩:∃V,V=wr:=⟨wr,rfl⟩;have mD:=ζ hown;have aA:=ζ hb;have hs2:=hb.size;have X7:IntKind.i64.wrap ((j:Int)+1)=(j:Int)+1:=by rw[aaK];omega
     by_cases hjl:j<mm
     .exfalso
      omega
     .have hdj:¬((j:Int)<(mm:Int)):=by omega
      obtain rfl:j=mm:=by omega
      have HN:Hid (Ku.dN L (i+1)=Ku.dN L i++Ku.uE L i j):=by
       show _=_;rw[show Ku.dN L (i+1)=Ku.dN L i++Ku.uE L i (L.length-(i+1)) from rfl,HQ.out,q9.out]
      have hwi:IntKind.i64.wrap ((i:Int)+1)=(i:Int)+1:=by rw[aaK];omega
      clear hown hb hmm;go_wp2;go_roundw
      case rel=>exact⟨i+1,by omega,by go_num,by rw[HN.out];exact mD.out,aA.out⟩
      case measure=>simp[intOf];omega
   .go_wp2_with fail
    generalize hmm:q-(i+1)=mm;have q9:=ζ hmm;have hmb:mm<=6:=by omega
    go_loopw [6,23] (fun pv cv wr=>∃(j:Nat),j<=mm/\cv= .int .i64 (j:Int)/\l6 wr W.heap.size pv (Ku.dN L i++Ku.uE L i j)/\Below W.heap.size W wr) (fun _ cv _=>mm-(intOf cv).toNat)
    case atStart=>exact⟨0,aaR _,rfl,by rw[show Ku.uE L i 0=[] from rfl,abP];exact HO.out,HB.out⟩
    case round=>
     obtain⟨j,hj,rfl,hown,hb⟩:=hrel;obtain⟨V,rfl⟩:∃V,V=wr:=⟨wr,rfl⟩;have mD:=ζ hown;have aA:=ζ hb;have hs2:=hb.size;have X7:IntKind.i64.wrap ((j:Int)+1)=(j:Int)+1:=by rw[aaK];omega
     by_cases hjl:j<mm
     .have ae0:(j:Int)<(mm:Int):=by omega
      have hj0:(0:Int)<=(j:Int):=by omega
      obtain⟨y,hy⟩:∃y,L[i+1+j]? =some y:=⟨_,aaE (by rw[HQ.out];omega)⟩;obtain⟨b',o',ee,e1⟩:=(HL.out.later (cN.out.trans (hb.mono cN.out.size))) _ y hy;cases ee;have e2:V.cell? ⟨b,o+(i+1)+j,none⟩=some (.int .i64 y):=by rw[acU o (i+1) j];exact e1
      have iZ:Hid (Ku.dN L i++Ku.uE L i (j+1)=Ku.dN L i++Ku.uE L i j++[(x,y)]):=by
       show _=_;rw[abb]
       congr 1
       show Ku.uE L i j++[(Ku.gI L i,Ku.gI L (i+1+j))]=_;rw[JQ.out,Ku.bR hy]
      have eB:(Ku.dN L i++Ku.uE L i j).length<=8796093022000:=by
       rw[aaZ,Ku.AK];have h1:=Ku.xy L i;rw[HQ.out] at h1;have h2:i*q<=6*6:=adu (by omega) xY;omega
      clear hown hb hy e1;go_wp2_with (at_builtin;refine uV rfl _ _ rfl _ W.heap.size _ _ x y mD.out hs2 eB rfl rfl ?_;refine aaI ?_);refine ζ ?_;intro v' w3 hrow3 hb3;have jl:=ζ hrow3;have aK:=ζ (aA.out.trans hb3);clear hrow3 hb3;go_wp2;go_roundw
      case rel=>exact⟨j+1,by omega,by go_num,by rw[iZ.out];first|exact jl.out|(rw[abb];exact jl.out),aK.out⟩
      case measure=>simp[intOf];omega
     .have hdj:¬((j:Int)<(mm:Int)):=by omega
      obtain rfl:j=mm:=by omega
      have HN:Hid (Ku.dN L (i+1)=Ku.dN L i++Ku.uE L i j):=by
       show _=_;rw[show Ku.dN L (i+1)=Ku.dN L i++Ku.uE L i (L.length-(i+1)) from rfl,HQ.out,q9.out]
      have hwi:IntKind.i64.wrap ((i:Int)+1)=(i:Int)+1:=by rw[aaK];omega
      clear hown hb hmm;go_wp2;go_roundw
      case rel=>exact⟨i+1,by omega,by go_num,by rw[HN.out];exact mD.out,aA.out⟩
      case measure=>simp[intOf];omega
  .have hd:¬((i:Int)<(q:Int)):=by omega
   obtain rfl:i=q:=by omega
   have agL:=ζ (HKU.out U pa pc hb hpat (fun x hx=>(hpb x hx).1));obtain⟨c0,c1,-⟩:=af ((hb.block _ (by omega)).trans dB.out);subst hpe;clear hown hpat hpb hb;go_wp2_with (go_at_call 213;refine agL.out.mono ?_;refine aaI ?_);refine ζ ?_;intro e w3 hkp;have UL:W.heap.size<=w3.heap.size:=aa1 HB.out.size hkp.2.size;have b7:w3.heap[w.heap.size+1]? =some (.cells #[.int .i64 0,.slice none 0 0,.slice none 0 0] 82 (0,0)):=(hkp.2.block _ (by have:=HB.out.size;omega) (fun h=>by have:=jE.out _ h;omega)).trans ((HB.out.block _ (by omega)).trans cA.out);obtain⟨z0,z1,z2,zf⟩:=aQ b7;have hf0:=zf 0;have sH:=zf 1;have hf2:=zf 2;have hUs:=HB.out.size;have EY:Hid (∀x y z:Value,Ku.oD B cs R 1 (.slice bo i bc) (Ku.dN L i) w e (((w3.setCell ⟨w.heap.size+1,0,none⟩ x).setCell ⟨w.heap.size+1,1,none⟩ y).setCell ⟨w.heap.size+1,2,none⟩ z)):=fun x y z=>hkp.far (cN.out.trans (HB.out.mono cN.out.size)) (c:=w.heap.size+1) ⟨by omega,by omega⟩ jE.out (fun b hb=>by rw[heap_setCell_other _ ⟨w.heap.size+1,2,none⟩ b _ hb,heap_setCell_other _ ⟨w.heap.size+1,1,none⟩ b _ hb,heap_setCell_other _ ⟨w.heap.size+1,0,none⟩ b _ hb]) (by simp) rfl rfl rfl
   obtain⟨v1,s1,s2,s3,u1,u2,u3,r,rfl⟩:=hkp.shape;clear hkp b7 zf c0 c1;go_wp2;refine bodyPost_ret (fD rfl rfl _ _ (w.heap.size+1) _ _ _ _ rfl rfl (az z0 z1 z2 _ _ _).1 (az z0 z1 z2 _ _ _).2.1 (az z0 z1 z2 _ _ _).2.2) rfl ?_;exact EY.out _ _ _
end
end Go.Proofs.YtdbjpbjocmcpkaaGreatDoor
