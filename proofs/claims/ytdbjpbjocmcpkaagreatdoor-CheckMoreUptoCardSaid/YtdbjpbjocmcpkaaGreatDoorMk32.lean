import Derived.Test.YtdbjpbjocmcpkaaGreatDoorMk31
set_option maxHeartbeats 8000000
set_option maxRecDepth 100000
namespace Go.Proofs.YtdbjpbjocmcpkaaGreatDoor
section
open Go.Proofs.Tryz
open Go.RowKit Go.Sort Go.Maps
theorem dr {fn:Func} {P:Program} {p q:Tmp} (h:fn.results= #[.cell p 82,.tmp q]) (hP:P=prog) (tmps:Array Value) (w:World) (b:Nat) (x y z u:Value) (hp:tmps.getD p undef= .pointer (some ⟨b,0,none⟩)) (hq:tmps.getD q undef=u) (h0:w.cell? ⟨b,0,none⟩=some x) (h1:w.cell? ⟨b,1,none⟩=some y) (h2:w.cell? ⟨b,2,none⟩=some z):(results fn tmps).run P w= .ok (.tuple #[.agg #[x,y,z],u]) w:=by
 subst hP;have hp':tmps[p]?.getD undef= .pointer (some ⟨b,0,none⟩):=by simpa using hp
 have hq':tmps[q]?.getD undef=u:=by simpa using hq
 simp[results,h,go_sem,hp',hq',h0,h1,h2]
theorem fR {S:Nat->Prop} {w V:World} (h:aj S w V) {b:Nat} (hb:w.heap.size<=b) (i:Nat) (x:Value):aj S w (V.setCell ⟨b,i,none⟩ x):=
 ⟨h.os,h.tape,h.output,by simpa using h.size,fun k hk hn=>(heap_setCell_other V ⟨b,i,none⟩ k x (by show k≠b;omega)).trans (h.block k hk hn)⟩
namespace Ku
def jO:Value:= .agg #[.int .i64 0,.slice none 0 0,.slice none 0 0]
def All (R:List (List Int)) (ps:List (Int×Int)):Prop:=R.length=ps.length/\∀p∈ps,∃i,idx R p=some i
def jW (B:Nat) (cs:List Value) (R:List (List Int)) (kd:Int) (bv:Value) (ps:List (Int×Int)) (w:World) (e:Ending) (w':World):Prop:=
 ((¬All R ps/\e= .returned (.tuple #[jO,.bool false]))\/(All R ps/\∃pv vs,e= .returned (.tuple #[.agg #[.int .i64 kd,bv,pv],.bool true])/\ay w' B pv vs (ps.map (pathOf R))/\(∀b,pv.ownBlock=some b->w.heap.size<=b)/\∀b,bY vs b->bY cs b))/\aj (fun b=>bY cs b) w w'
end Ku
theorem vW (B:Nat) (ca:Option Addr) (J cc mb nb:Nat) (cs:List Value) (R:List (List Int)) (kd:Int) (bo:Option Addr) (bn bc:Nat) (pa:Option Addr) (pn pc:Nat) (ps:List (Int×Int)) (w:World)
 (hJ:R.length=J) (hBw:B<=w.heap.size) (hR:ay w B (.slice ca J cc) cs R) (hS:Ku.Small R) (jf:Ku.OM w mb nb (Ku.opn R R.length)) (hmb:¬bY cs mb) (zH:ps.length=pn) (hpl:pn<=4194304) (hps:ah w pa ps) (hpa:∀x,pa=some x->¬bY cs x.block)
 (hin:∀p∈ps,dI (Ku.key p)) (hd:∀(t t':Nat) (p p':Int×Int),t≠t'->ps[t]? =some p->ps[t']? =some p'->Ku.key p≠Ku.key p'):
 Calls prog 213 #[.agg #[.slice ca J cc,.map (some mb)],.int .i64 kd,.slice bo bn bc,.slice pa pn pc] w (Ku.jW B cs R kd (.slice bo bn bc) ps w):=by
 obtain⟨W1,hW1⟩:∃W1,W1=w.alloc (.cells #[.slice ca J cc,.map (some mb)] 248):=⟨_,rfl⟩;obtain⟨W,hW⟩:∃W,W=W1.alloc (.cells #[.int .i64 0,.slice none 0 0,.slice none 0 0] 82):=⟨_,rfl⟩;have hs1:W1.heap.size=w.heap.size+1:=by rw[hW1];simp
 have hB1:Below w.heap.size w W1:=by rw[hW1];exact(aaE _ _).alloc (aaD _) _
 have hB2:Below W1.heap.size W1 W:=by rw[hW];exact(aaE _ _).alloc (aaD _) _
 have hBW:Below w.heap.size w W:=hB1.trans (hB2.mono hB1.size);have g1:W.heap[w.heap.size]? =some (.cells #[.slice ca J cc,.map (some mb)] 248 (0,0)):=by
  rw[hB2.block _ (by omega),hW1];exact heap_alloc_new w _
 have g2:W.heap[w.heap.size+1]? =some (.cells #[.int .i64 0,.slice none 0 0,.slice none 0 0] 82 (0,0)):=by rw[hW,<-hs1];exact heap_alloc_new W1 _
 have Po:w.heap.size+1<W.heap.size:=lt_of_block g2;have HW:Hid (W=(w.alloc (.cells #[.slice ca J cc,.map (some mb)] 248)).alloc (.cells #[.int .i64 0,.slice none 0 0,.slice none 0 0] 82)):=by rw[hW,hW1];exact ζ rfl
 have hcl:∀b,((Value.slice ca J cc).ownBlock=some b\/bY cs b)->b<w.heap.size:=fun b hb=>(hR.within hb).2
 have dP:Hid (∀b,((Value.slice ca J cc).ownBlock=some b\/bY cs b)->b<w.heap.size):=hcl;have qA:Hid (∀b,((Value.slice ca J cc).ownBlock=some b\/bY cs b)->b<W.heap.size):=fun b hb=>Nat.lt_trans (hcl b hb) (by omega)
 have yR:Hid (∀U:World,aj (fun b=>bY cs b\/W.heap.size<=b) W U->∀b,b<W.heap.size->¬bY cs b->U.heap[b]? =W.heap[b]?):=fun U hU b hb hn=>hU.block b hb (fun h=>by
  rcases h with h|h
  .exact hn h
  .omega)
 have Tb:Hid (∀U:World,aj (fun b=>bY cs b\/W.heap.size<=b) W U->Ku.OM U mb nb (Ku.opn R R.length)):=fun U hU=>(jf.later hBW).kept (yR.out U hU mb (Nat.lt_trans jf.lt (by omega)) hmb)
 have Zf:Hid (∀U:World,aj (fun b=>bY cs b\/W.heap.size<=b) W U->ah U pa ps):=fun U hU j p hj=>by
  obtain⟨b,o,e,h1,h2⟩:=(hps.later hBW) j p hj;have hn:=hpa _ e;have hbl:=block_lt_of_cell h1;have:=yR.out U hU b hbl hn;exact⟨b,o,e,(abD (a:=⟨b,o+j*2,none⟩) this).trans h1,(abD (a:=⟨b,o+j*2+1,none⟩) this).trans h2⟩
 have gu:Hid (∀U:World,aj (fun b=>bY cs b\/W.heap.size<=b) W U->U.heap[w.heap.size]? =some (.cells #[.slice ca J cc,.map (some mb)] 248 (0,0))):=fun U hU=>(yR.out U hU _ (by omega) (fun h=>by have:=hcl _ (.inr h);omega)).trans g1
 have dF:Hid (∀U:World,aj (fun b=>bY cs b\/W.heap.size<=b) W U->U.heap[w.heap.size+1]? =some (.cells #[.int .i64 0,.slice none 0 0,.slice none 0 0] 82 (0,0))):=fun U hU=>(yR.out U hU _ (by omega) (fun h=>by have:=hcl _ (.inr h);omega)).trans g2
 have SY:Hid (∀U:World,aj (fun b=>bY cs b\/W.heap.size<=b) W U->aj (fun b=>bY cs b) w U):=fun U hU=>by
  have h1:aj (fun b=>bY cs b) w W:=(aj.refl _ w).later hBW;exact⟨hU.os.trans h1.os,hU.tape.trans h1.tape,hU.output.trans h1.output,aaM h1.size hU.size,fun b hb hn=>(yR.out U hU b (by omega) hn).trans (h1.block b hb hn)⟩
 have PY:Hid (Ku.yO B (.slice ca J cc) cs R ps W 0 (.slice none 0 0) [] W):=⟨⟨R,hR.later hBW,rfl,fun i l hl _=>hl⟩,ay.nil _ _,fun t x hx=>by simp at hx,fun b hb=>(by cases hb),aj.refl _ _⟩;have HS:=ζ hS;have HJ:=ζ hJ;have FD:=ζ zH;have HD:=ζ hd;have zW:=ζ hin;have YK:J<=4194304:=by rw[<-hJ];exact hS.1
 obtain⟨c0,c1,-⟩:=af g1;obtain⟨z0,z1,z2,zf⟩:=bw g2;have hf0:=zf 0;have nj:=zf 1;have hf2:=zf 2;have hB:Below w.heap.size w W:=hBW;have eM:=ζ hBW;rw[HW.out] at c0 c1 z0 z1 z2 hf0 nj hf2;clear hW hW1 hs1 hB1 hB2 hBW hB g1 g2 hR hS jf hmb zH hps hpa hin hd hJ zf;by_cases hne:J=pn
 .have t1:((J:Int) != (pn:Int))=false:=by simp[hne]
  have ZG:Hid (R.length=ps.length):=by rw[HJ.out,FD.out];exact ζ hne
  clear hne;go_enter func213,ntmps213;go_wp2_with fail;rw[<-HW.out];clear c0 c1 z0 z1 z2 hf0 nj hf2;go_loopw [10,24] (fun pv cv wr=>∃(k:Nat) (vs:List Value),k<=pn/\cv= .int .i64 (k:Int)/\Ku.yO B (.slice ca J cc) cs R ps W k pv vs wr/\∀t p,t<k->ps[t]? =some p->∃i,Ku.idx R p=some i) (fun _ cv _=>pn-(intOf cv).toNat)
  case atStart=>exact⟨0,[],aaL _,rfl,PY.out,fun t p ht=>by omega⟩
  case round=>
   obtain⟨k,vs,hk,rfl,hkm,hall⟩:=hrel;obtain⟨U,rfl⟩:∃U,U=wr:=⟨wr,rfl⟩;have Lm:=ζ hkm;have dQ:=ζ hall;have zB:=hkm.wr;have Mv:=zB.size;have hwk:IntKind.i64.wrap ((k:Int)+1)=(k:Int)+1:=by rw[aaK];omega
   obtain⟨va,vc,je⟩:=bJ hkm.pz;have hlv:((ps.take k).map (Ku.pathOf R)).length=k:=by rw[aaP,abq,FD.out];omega
   rw[hlv] at je;subst je;by_cases hlt:k<pn
   .have aX:(k:Int)<(pn:Int):=by omega
    have hk0:(0:Int)<=(k:Int):=by omega
    obtain⟨⟨p1,p2⟩,hp⟩:∃p,ps[k]? =some p:=⟨_,aaC (by rw[FD.out];exact hlt)⟩;obtain⟨eb,eo,rfl,x0,x1⟩:=Zf.out U zB k _ hp;dsimp only at x0 x1;have aat:eb<U.heap.size:=block_lt_of_cell x0;have aas:eb≠U.heap.size:=by omega
    have HP:=ζ hp;obtain⟨V,hV⟩:∃V,V=U.alloc (.cells #[.int .i64 p1,.int .i64 p2] 57):=⟨_,rfl⟩;have xX:Below U.heap.size U V:=by rw[hV];exact(aaE _ _).alloc (aaD _) _
    have gV:V.heap[U.heap.size]? =some (.cells #[.int .i64 p1,.int .i64 p2] 57 (0,0)):=by rw[hV];exact heap_alloc_new U _
    have Ea:=zB.later xX;obtain⟨⟨y1,y2⟩,Em⟩:∃ky,Ku.key (p1,p2)=ky:=⟨_,rfl⟩;have Qm:dI (y1,y2):=by rw[<-Em];exact zW.out _ (aaG hp)
    obtain⟨ci,GU,vk⟩:=(Tb.out V Ea).look Qm;obtain⟨jn,hjn⟩:∃jn,(Ku.opn R R.length (y1,y2)).isSome=jn:=⟨_,rfl⟩;rw[hjn] at GU;have XW:(p2<p1/\y1=p2/\y2=p1)\/(¬p2<p1/\y1=p1/\y2=p2):=by
     unfold Ku.key at Em;dsimp only at Em
     split at Em
     .rename_i hh
      cases Em;exact .inl ⟨hh,rfl,rfl⟩
     .rename_i hh
      cases Em;exact .inr ⟨hh,rfl,rfl⟩
    have Pc:(Instr.lookup 246 (.map (some mb)) (.agg #[.int .i64 (min p1 p2),.int .i64 (max p1 p2)]) true).run prog V= .ok (.tuple #[.int .i64 ci,.bool jn]) V:=by
     rw[show min p1 p2=y1 by omega,show max p1 p2=y2 by omega];exact GU
    obtain⟨c0,c1,-⟩:=af (gu.out V Ea);obtain⟨v0,v1,-⟩:=af gV;have HV:=ζ hV;have Ik:=ζ Ea;have Oa:=ζ gV;have CR:=ζ xX;have ZK:=ζ vk;have PX:=ζ Em;rw[HV.out] at Pc c0 c1 v0 v1;have N8:=ζ hjn;clear hkm hall zB hp hV xX gV Ea vk Em hlv XW hjn Qm GU;cases jn with
    |false=>
     have mA:Hid (¬Ku.All R ps):=fun h=>by
      obtain⟨i,hi⟩:=h.2 _ (aaG HP.out);unfold Ku.idx at hi;rw[PX.out] at hi;have:=N8.out;rw[hi] at this;cases this
     obtain⟨z0,z1,z2,zf⟩:=bw (dF.out V Ik.out);have hf0:=zf 0;have nj:=zf 1;have hf2:=zf 2;rw[HV.out] at z0 z1 z2 hf0 nj hf2;clear zf;have aaf:w.heap.size+1≠U.heap.size:=by omega
     go_wp2;refine bodyPost_ret (dr rfl rfl _ _ (w.heap.size+1) _ _ _ _ rfl rfl (aA z0 z1 z2 _ _ _).1 (aA z0 z1 z2 _ _ _).2.1 (aA z0 z1 z2 _ _ _).2.2) rfl ?_;rw[<-HV.out];exact⟨.inl ⟨mA.out,rfl⟩,fR (fR (fR (SY.out V Ik.out) (by omega) _ _) (by omega) _ _) (by omega) _ _⟩
    |true=>
     obtain⟨i,hi⟩:∃i,Ku.idx R (p1,p2)=some i:=by
      unfold Ku.idx;rw[PX.out];exact Option.isSome_iff_exists.1 N8.out
     obtain rfl:ci=(i:Int):=ZK.out i (by have:=hi;unfold Ku.idx at this;rw[PX.out] at this;exact this);obtain⟨l,hl,-,-⟩:=Ku.B4 hi;obtain⟨x,hx,Ry,⟨gc,cg,hce,hcell⟩,pX⟩:=Lm.out.look HD.out HP.out hi hl;rw[HJ.out] at hce;cases hce;obtain⟨xa,xc,mH,-,-⟩:=Ry.form;obtain⟨q,hq⟩:∃q,l.length=q:=⟨_,rfl⟩;rw[hq] at mH;subst mH;obtain⟨zG,Pb,-⟩:=HS.out.2 l (aaG hl);rw[hq] at zG Pb;have hiJ:(i:Int)<(J:Int):=by have:=Ku.O4 hi;have h2:=HJ.out;omega
     have xO:(0:Int)<=(i:Int):=by omega
     have HX:=ζ hx;have YX:=ζ Ry;have YW:=ζ pX;have HI:=ζ hi;have HL:=ζ hl;have HQ:=ζ hq;have hxl:∀b,(Value.slice xa q xc).ownBlock=some b->b<W.heap.size:=fun b hb=>qA.out b (.inr ⟨i,_,hx,hb⟩)
     have GX:gc<W.heap.size:=qA.out gc (.inl rfl);have lp:Hid (∀t p,t<k+1->ps[t]? =some p->∃i,Ku.idx R p=some i):=fun t p ht hp=>by
      by_cases e:t=k
      .subst e
       rw[HP.out] at hp;cases hp;exact⟨i,HI.out⟩
      .exact dQ.out t p (by omega) hp
     have zh:Hid (∀b,(Value.slice xa q xc).ownBlock=some b->b≠gc):=fun b hb e=>by
      obtain⟨C,hC,-,-⟩:=Lm.out.cur;exact hC.far i _ b HX.out hb (by rw[e];rfl)
     have Qu:V.cell? ⟨gc,i,none⟩=some (.slice xa q xc):=(CR.out.cell (p:=⟨gc,i,none⟩) (block_lt_of_cell hcell)).trans hcell;have CG:Hid (∀Y:World,(∀b,b<V.heap.size->b<W.heap.size->¬(Value.slice xa q xc).ownBlock=some b->Y.heap[b]? =V.heap[b]?)->Y.heap[U.heap.size]? =V.heap[U.heap.size]? ->(Y.cell? ⟨U.heap.size,0,none⟩=some (.int .i64 p1)/\Y.cell? ⟨w.heap.size,0,none⟩=some (.slice (some ⟨gc,0,none⟩) J cc)/\Y.cell? ⟨gc,i,none⟩=some (.slice xa q xc))):=fun Y hY YB=>by
      refine⟨(af (YB.trans Oa.out)).1,?_,?_⟩
      .have hb:w.heap.size<V.heap.size:=lt_of_block (gu.out V Ik.out)
       refine(af ((hY _ hb (by omega) (fun e=> ?_)).trans (gu.out V Ik.out))).1;obtain⟨C,hC,-,-⟩:=Lm.out.cur;have:=dP.out _ (.inr ⟨i,_,HX.out,e⟩);omega
      .exact(abD (a:=⟨gc,i,none⟩) (hY gc (block_lt_of_cell Qu) GX (fun e=>zh.out gc e rfl))).trans Qu
     clear hx Ry pX hi hl hq;go_wp2_with fail;rw[<-HV.out];have hVU:=CR.out.size;have Sr:U.heap.size<V.heap.size:=lt_of_block Oa.out;have Zw:=ζ (Lm.out.later CR.out);have Qf:((ps.take k).map (Ku.pathOf R)).length<=4194304:=by rw[aaP,abq];omega
     have QT:Hid (∀b,(Value.slice va k vc).ownBlock=some b->W.heap.size<=b/\b<U.heap.size):=fun b hb=>⟨Lm.out.own b hb,(Lm.out.pz.within (.inl hb)).2⟩
     have NP:=CG.out V (fun _ _ _ _=>rfl) rfl;have kg:=CG.out V.drew (fun _ _ _ _=>rfl) rfl;have Tw:=ζ (F0 B xa q xc p1 l V.drew HQ.out (av.later YX.out CR.out.drew) (by omega) Pb);have JB:Hid (∀(u2 X w4:World) (wL:Value),V.drew.grownBy u2 (Value.slice xa q xc).ownBlock->av u2 B (.slice xa q xc) (Ku.ep p1 l)->Below u2.heap.size u2 X->ay X B (.slice va k vc) vs ((ps.take k).map (Ku.pathOf R))/\av X B (.slice xa q xc) (Ku.ep p1 l)/\(∀b,(Value.slice xa q xc).ownBlock=some b->¬((Value.slice va k vc).ownBlock=some b\/bY vs b))/\(ay w4 B wL (vs++[.slice xa q xc]) ((ps.take k).map (Ku.pathOf R)++[Ku.ep p1 l])->X.grownBy w4 (Value.slice va k vc).ownBlock->(wL.ownBlock=(Value.slice va k vc).ownBlock\/wL.ownBlock=some X.heap.size)->Ku.yO B (.slice (some ⟨gc,0,none⟩) J cc) cs R ps W (k+1) wL (vs++[.slice xa q xc]) w4)):=fun u2 X w4 wL hg hO hX=>(Zw.out.later (aaE _ V).drew).step qA.out HD.out HP.out HI.out HL.out HX.out YW.out hg hO hX
     go_region_held3 (fun Y=>Y.cell? ⟨U.heap.size,0,none⟩=some (.int .i64 p1)/\Y.cell? ⟨w.heap.size,0,none⟩=some (.slice (some ⟨gc,0,none⟩) J cc)/\Y.cell? ⟨gc,i,none⟩=some (.slice xa q xc))
      (first|exact NP|exact kg|exact yg|exact VF _|exact Nd)
      (first
        |(go_at_call 263;refine Tw.out.mono ?_;rintro e u2 ⟨rfl,ho2,hg2⟩;have hk2:∀b,b<V.heap.size->¬(Value.slice xa q xc).ownBlock=some b->u2.heap[b]? =V.heap[b]? :=(fun b hb hn=>hg2.block b hb (fun e=>hn e.symm));have hs2:V.heap.size<=u2.heap.size:=hg2.size;have yg:=CG.out u2 (fun b hb _ hn=>hk2 b hb hn) (hk2 _ Sr (fun e=>by have:=hxl _ e;omega));have VF:=fun (ob:Obj)=>CG.out (u2.alloc ob).drew (fun b hb _ hn=>(heap_alloc_old u2 ob (by omega)).trans (hk2 b hb hn)) ((heap_alloc_old u2 ob (by omega)).trans (hk2 _ Sr (fun e=>by have:=hxl _ e;omega))))
        |(rw[if_pos (by rfl)];refine qC _ _ (by rfl) B (.slice va k vc) vs _ xa q xc _ (JB.out u2 _ V (.slice none 0 0) hg2 ho2 (by first|exact(aaE _ _).alloc (aaD _) _|exact((aaE _ _).alloc (aaD _) _).drew)).1 (by simp;omega) (by rfl) u2.heap.size (by rfl) (by exact(cell_one_new _ _ _ 0 _ rfl)) (JB.out u2 _ V (.slice none 0 0) hg2 ho2 (by first|exact(aaE _ _).alloc (aaD _) _|exact((aaE _ _).alloc (aaD _) _).drew)).2.1 (JB.out u2 u2 V (.slice none 0 0) hg2 ho2 (aaE _ _)).2.2.1 Qf ?_;intro v4 w4 G1 hg4 AR;have hK4:=(JB.out u2 _ w4 v4 hg2 ho2 (by first|exact(aaE _ _).alloc (aaD _) _|exact((aaE _ _).alloc (aaD _) _).drew)).2.2.2 G1 hg4 AR;have hk4:∀b,b<V.heap.size->¬(Value.slice xa q xc).ownBlock=some b->¬(Value.slice va k vc).ownBlock=some b->w4.heap[b]? =V.heap[b]? :=(fun b hb h1 h2=>(hg4.block b (by simp;omega) (fun e=>h2 e.symm)).trans ((heap_alloc_old u2 _ (by omega)).trans (hk2 b hb h1)));have Nd:=CG.out w4 (fun b hb hbW hn=>hk4 b hb hn (fun e=>by have:=(QT.out b e).1;omega)) (hk4 _ Sr (fun e=>by have:=hxl _ e;omega) (fun e=>by have:=(QT.out _ e).2;omega))))
     have Zy:=ζ hK4;clear hK4 hk4 Nd G1 hg4 AR yg VF hk2 hs2 ho2 hg2 NP kg Qf;go_wp2;go_roundw
     case rel=>exact⟨k+1,_,by omega,by go_num,Zy.out,lp.out⟩
     case measure=>simp[intOf];omega
   .have hdn:¬((k:Int)<(pn:Int)):=by omega
    obtain rfl:k=pn:=by omega
    obtain⟨z0,z1,z2,zf⟩:=bw (dF.out U zB);have hf0:=zf 0;have nj:=zf 1;have hf2:=zf 2;have jD:Hid (Ku.All R ps/\ay U B (.slice va k vc) vs (ps.map (Ku.pathOf R))/\(∀b,(Value.slice va k vc).ownBlock=some b->W.heap.size<=b)/\∀b,bY vs b->bY cs b):=by
     refine ζ ⟨⟨ZG.out,fun p hp=> ?_⟩,?_,hkm.own,fun b hb=> ?_⟩
     .obtain⟨t,ht⟩:=abf hp
      exact hall t p (by have:=(aaF.1 ht).1;rw[FD.out] at this;exact this) ht
     .have:=hkm.pz
      rw[aa3 (by rw[FD.out];exact aaD _)] at this;exact this
     .obtain⟨t,y,hy,hyb⟩:=hb
      obtain⟨_,i,_,_,_,hc⟩:=hkm.link t y hy;exact⟨i,y,hc,hyb⟩
    have YZ:=ζ zB;have Tf:Hid (∀b,bY cs b->b<w.heap.size):=fun b hb=>dP.out b (.inr hb)
    have Ze:Hid (∀b,bY vs b->b<w.heap.size):=fun b hb=>Tf.out b (jD.out.2.2.2 b hb)
    clear hkm hall zB zf hlv;have Tk:Hid (∀(x y z:Value),ay (((U.setCell ⟨w.heap.size+1,0,none⟩ x).setCell ⟨w.heap.size+1,1,none⟩ y).setCell ⟨w.heap.size+1,2,none⟩ z) B (.slice va k vc) vs (ps.map (Ku.pathOf R))):=fun x y z=>jD.out.2.1.kept fun b hb _=>by
     have hne:b≠w.heap.size+1:=by
      rcases hb with hb|hb
      .have:=jD.out.2.2.1 b hb
       omega
      .have:=Ze.out b hb
       omega
     rw[heap_setCell_other _ ⟨w.heap.size+1,2,none⟩ b _ hne,heap_setCell_other _ ⟨w.heap.size+1,1,none⟩ b _ hne,heap_setCell_other _ ⟨w.heap.size+1,0,none⟩ b _ hne]
    go_wp2;refine bodyPost_ret (dr rfl rfl _ _ (w.heap.size+1) _ _ _ _ rfl rfl (aA z0 z1 z2 _ _ _).1 (aA z0 z1 z2 _ _ _).2.1 (aA z0 z1 z2 _ _ _).2.2) rfl ?_;exact⟨.inr ⟨jD.out.1,_,vs,rfl,Tk.out _ _ _,fun b hb=>by have:=jD.out.2.2.1 b hb;omega,jD.out.2.2.2⟩,fR (fR (fR (SY.out U YZ.out) (by omega) _ _) (by omega) _ _) (by omega) _ _⟩
 .have t1:((J:Int) != (pn:Int))=true:=by simp;omega
  have rQ:Hid (¬Ku.All R ps):=fun h=>hne (by rw[<-HJ.out,<-FD.out];exact h.1)
  clear hne;go_enter func213,ntmps213;go_wp2;refine bodyPost_ret (dr rfl rfl _ _ (w.heap.size+1) _ _ _ _ rfl rfl z0 z1 z2) rfl ?_;rw[<-HW.out];exact⟨.inl ⟨rQ.out,rfl⟩,SY.out W (aj.refl _ _)⟩
end
section
open Go.Proofs.Tryz
open Go.RowKit Go.Sort Go.Maps
theorem Tryz.D7:(prog.info? 57).map (fun i=>(i.zero,i.size,i.bytes))=some (some (.agg #[.int .i64 0,.int .i64 0]),2,16):=by kernel_rfl
def iA (w:World) (B:Nat) (v:Value) (ps:List (Int×Int)):Prop:=w.ownsRow B 57 2 v ps.length (dD ps)
theorem iA.nil (w:World) (B:Nat):iA w B (.slice none 0 0) []:=abX _ _ _ _
theorem iA.form {w:World} {B:Nat} {v:Value} {es:List (Int×Int)} (h:iA w B v es):∃ao cap,v= .slice ao es.length cap/\ah w ao es/\(∀x,ao=some x->B<=x.block/\x.block<w.heap.size):=by
 have h':=h;unfold iA at h';rcases h.2 with ⟨rfl,h0⟩|⟨g,cap,cur,rfl,hg,hh,hc,hm,_⟩
 .refine⟨none,0,by rw[h0],fun j p hj=> ?_,fun x h=>by cases h⟩
  rw[abo.1 h0] at hj;simp at hj
 .refine⟨_,cap,rfl,fun j p hj=>⟨g,0,rfl,?_⟩,fun x h=>by cases h;exact⟨hg,lt_of_block hh⟩⟩
  have hcl:=abP h' (g:=g) rfl;simp only[Ib] at hcl;obtain⟨h0,h1⟩:=iM es j p hj;rw[aa7];exact⟨hcl _ _ h0,hcl _ _ h1⟩
theorem oY {ops:Array Oper} {rest:List Oper} {o:Oper} {a:Act} {Q:Exit->Act->World->Prop} (hgd:o.guard=none) (s x:Operand)
 (ho:o.op= .call { callee:= .builtin .append,args:= #[s,x],argTypes:= #[59,59] }) (W:World) (B:Nat) (v:Value) (l:List (Int×Int)) (y z:Int) (hown:iA W B v l)
 (hB:B<=W.heap.size) (hl:l.length<=8796093022000) (hs:a.eval s=v) (hx:a.eval x= .slice (some ⟨W.heap.size,0,none⟩) 1 1)
 (h:∀v' w',iA w' B v' (l++[(y,z)])->Below B W w'->wpList prog ops Q rest (a.put o.dst v') w'):
 wpList prog ops Q (o::rest) a (W.alloc (.cells #[.int .i64 y,.int .i64 z] 57)):=by
 obtain⟨i0,hi,hz0,hz1,hz2⟩:=info_parts Tryz.D7;have hb0:Below B W (W.alloc (.cells #[.int .i64 y,.int .i64 z] 57)):=(aaE _ _).alloc hB _;refine wpList_append_own _ hgd s x 59 ho B 57 i0 (.agg #[.int .i64 0,.int .i64 0]) 2 16 Tryz.underlying59 hi hz0 hz1 hz2 rfl (by decide) _ _ _ hs (abe hown _) ⟨W.heap.size,0,none⟩ 1 1 [.int .i64 y,.int .i64 z] hx rfl (fj _ _ rfl _ _ _) (by simp[Value.oneCell']) (by unfold maxLen;omega) (by omega) (by simp;omega) ?_;intro v' w' hown' hg _;have ho':iA w' B v' (l++[(y,z)]):=by
  unfold iA;rw[cK,aaN];exact hown'
 exact h v' w' ho' (hb0.grown hg (by simp;omega) (fun b hb=>(aaJ hown b hb).1))
namespace Ku
def oN (L:List Int) (i:Nat):Nat->List (Int×Int)
 |0=>[]
 |j+1=>oN L i j++[(gI L i,gI L (i+1+j))]
def bX (L:List Int):Nat->List (Int×Int)
 |0=>[]
 |i+1=>bX L i++oN L i (L.length-(i+1))
theorem tZ (L:List Int) (i j:Nat):(oN L i j).length=j:=by
 induction j with
 |zero=>rfl
 |succ j ih=>simp[oN,ih]
theorem qV (L:List Int) (i:Nat):(bX L i).length<=i*L.length:=by
 induction i with
 |zero=>simp[bX]
 |succ i ih=>
  unfold bX;rw[aaN,tZ,ac1];omega
theorem jW.shape {B:Nat} {cs:List Value} {R:List (List Int)} {kd:Int} {ba:Option Addr} {bn bc:Nat} {ps:List (Int×Int)} {w w':World} {e:Ending} (h:jW B cs R kd (.slice ba bn bc) ps w e w'):∃(v1:Int) (s1:Option Addr) (s2 s3:Nat) (u1:Option Addr) (u2 u3:Nat) (r:Bool),e= .returned (.tuple #[.agg #[.int .i64 v1,.slice s1 s2 s3,.slice u1 u2 u3],.bool r]):=by
 rcases h.1 with ⟨_,h⟩|⟨_,pv,vs,h,hr,_⟩
 .exact⟨_,_,_,_,_,_,_,_,h⟩
 .obtain⟨a,c,rfl⟩:=bJ hr
  exact⟨_,_,_,_,_,_,_,_,h⟩
theorem jW.far {B:Nat} {cs:List Value} {R:List (List Int)} {kd:Int} {bv:Value} {ps:List (Int×Int)} {w w1 w' V:World} {e:Ending} (h:jW B cs R kd bv ps w1 e w') (hb:Below w.heap.size w w1) {c:Nat} (hc:w.heap.size<=c/\c<w1.heap.size) (hcs:∀b,bY cs b->b<w.heap.size) (hV:∀b,b≠c->V.heap[b]? =w'.heap[b]?) (hs:V.heap.size=w'.heap.size) (h1:V.os=w'.os) (h2:V.tape=w'.tape) (h3:V.output=w'.output):jW B cs R kd bv ps w e V:=by
 obtain⟨fq,hw⟩:=h;have hw2:=((aj.refl (fun b=>bY cs b) w).later hb).trans hw;refine⟨?_,h1.trans hw2.os,h2.trans hw2.tape,h3.trans hw2.output,by rw[hs];exact hw2.size,fun k hk hn=>(hV k (by omega)).trans (hw2.block k hk hn)⟩;rcases fq with fq|⟨ha,pv,vs,he,hr,ho,hin⟩
 .exact .inl fq
 .refine .inr ⟨ha,pv,vs,he,hr.kept fun b hb' _=>hV b ?_,fun b hb'=>aaM hb.size (ho b hb'),hin⟩
  rcases hb' with hb'|hb'
  .have:=ho b hb'
   omega
  .have:=hcs b (hin b hb')
   omega
end Ku
theorem F5 (B:Nat) (ca:Option Addr) (J cc mb nb:Nat) (cs:List Value) (R:List (List Int)) (bo:Option Addr) (q bc:Nat) (L:List Int) (w:World)
 (hJ:R.length=J) (hBw:B<=w.heap.size) (hR:ay w B (.slice ca J cc) cs R) (hS:Ku.Small R) (jf:Ku.OM w mb nb (Ku.opn R R.length)) (hmb:¬bY cs mb) (hq:L.length=q) (zG:0<q) (zE:q<=6) (hqc:q<=bc) (hbc:bc<=9223372036854775807) (hL:aZ w bo L)
 (hin:∀p∈Ku.bX L q,dI (Ku.key p)) (hd:∀(t t':Nat) (p p':Int×Int),t≠t'->(Ku.bX L q)[t]? =some p->(Ku.bX L q)[t']? =some p'->Ku.key p≠Ku.key p'):
 Calls prog 148 #[.agg #[.slice ca J cc,.map (some mb)],.slice bo q bc] w (Ku.jW B cs R 1 (.slice bo q bc) (Ku.bX L q) w):=by
 obtain⟨W1,hW1⟩:∃W1,W1=w.alloc (.cells #[.slice ca J cc,.map (some mb)] 248):=⟨_,rfl⟩;obtain⟨W,hW⟩:∃W,W=W1.alloc (.cells #[.int .i64 0,.slice none 0 0,.slice none 0 0] 82):=⟨_,rfl⟩;have hs1:W1.heap.size=w.heap.size+1:=by rw[hW1];simp
 have hB1:Below w.heap.size w W1:=by rw[hW1];exact(aaE _ _).alloc (aaD _) _
 have hB2:Below W1.heap.size W1 W:=by rw[hW];exact(aaE _ _).alloc (aaD _) _
 have hBW:Below w.heap.size w W:=hB1.trans (hB2.mono hB1.size);have g1:W.heap[w.heap.size]? =some (.cells #[.slice ca J cc,.map (some mb)] 248 (0,0)):=by
  rw[hB2.block _ (by omega),hW1];exact heap_alloc_new w _
 have g2:W.heap[w.heap.size+1]? =some (.cells #[.int .i64 0,.slice none 0 0,.slice none 0 0] 82 (0,0)):=by rw[hW,<-hs1];exact heap_alloc_new W1 _
 have Po:w.heap.size+1<W.heap.size:=lt_of_block g2;have HW:Hid (W=(w.alloc (.cells #[.slice ca J cc,.map (some mb)] 248)).alloc (.cells #[.int .i64 0,.slice none 0 0,.slice none 0 0] 82)):=by rw[hW,hW1];exact ζ rfl
 have dP:Hid (∀b,bY cs b->b<w.heap.size):=fun b hb=>(hR.within (.inr hb)).2
 have gu:=ζ g1;have dF:=ζ g2;have eM:=ζ hBW;have HL:=ζ hL;have HQ:=ζ hq;have Tj:Hid (∀(U:World) (pa:Option Addr) (pc:Nat),Below W.heap.size W U->ah U pa (Ku.bX L q)->(∀x,pa=some x->W.heap.size<=x.block)->Calls prog 213 #[.agg #[.slice ca J cc,.map (some mb)],.int .i64 1,.slice bo q bc,.slice pa (Ku.bX L q).length pc] U (Ku.jW B cs R 1 (.slice bo q bc) (Ku.bX L q) U)):=fun U pa pc hU hpa ni=>by
  have hbl:Below w.heap.size w U:=hBW.trans (hU.mono hBW.size);refine vW B ca J cc mb nb cs R 1 bo q bc pa _ pc (Ku.bX L q) U hJ (aaM hBw hbl.size) (hR.later hbl) hS (jf.later hbl) hmb rfl ?_ hpa (fun x hx hi=> ?_) hin hd
  .have h1:=Ku.qV L q
   rw[hq] at h1;have h2:q*q<=6*6:=adb zE zE;omega
  .have h1:=ni x hx
   have h2:=dP.out _ hi;omega
 clear hW hW1 hs1 hB1 hB2 hBW g1 g2 hR hS jf hmb hq hL hin hd hJ;go_enter func148,ntmps148;go_wp2_with fail;rw[<-HW.out];go_loopw [6,13] (fun pv cv wr=>∃(i:Nat),i<=q/\cv= .int .i64 (i:Int)/\iA wr W.heap.size pv (Ku.bX L i)/\Below W.heap.size W wr) (fun _ cv _=>q-(intOf cv).toNat)
 case atStart=>exact⟨0,aaL _,rfl,iA.nil _ _,aaE _ _⟩
 case round=>
  obtain⟨i,hi,rfl,hown,hb⟩:=hrel;obtain⟨U,rfl⟩:∃U,U=wr:=⟨wr,rfl⟩;have HO:=ζ hown;have HB:=ζ hb;have hwi:IntKind.i64.wrap ((i:Int)+1)=(i:Int)+1:=by rw[aaK];omega
  obtain⟨pa,pc,kZ,hpat,ni⟩:=hown.form;have PS:=ζ hpat;have Wy:=ζ ni;by_cases hlt:i<q
  .have aX:(i:Int)<(q:Int):=by omega
   have xO:(0:Int)<=(i:Int):=by omega
   obtain⟨x,hx⟩:∃x,L[i]? =some x:=⟨_,aaC (by rw[HQ.out];exact hlt)⟩;obtain⟨b,o,rfl,e0⟩:=(HL.out.later (eM.out.trans (hb.mono eM.out.size))) i x hx;obtain⟨i1,hi1⟩:∃i1,i1=i+1:=⟨_,rfl⟩;obtain⟨m,hm⟩:∃m,m=q-i1:=⟨_,rfl⟩;have X6:IntKind.i64.wrap ((i:Int)+1)=(i1:Int):=by rw[aaK];omega
   have k1:(0:Int)<=(i1:Int):=by omega
   have k2:(i1:Int)<=(q:Int):=by omega
   have k3:(q:Int)<=(bc:Int):=by omega
   have k4:(i1:Int)<=(bc:Int):=by omega
   have Lr:=ζ (Ku.dL hx);have HX:=ζ hx;clear hown kZ hpat ni hb hx hwi;by_cases hcap:bc=i1
   .go_wp2_with fail
    generalize hmm:q-(i+1)=mm;have rR:=ζ hmm;have hmb:mm<=6:=by omega
    go_loopw [6,23] (fun pv cv wr=>∃(j:Nat),j<=mm/\cv= .int .i64 (j:Int)/\iA wr W.heap.size pv (Ku.bX L i++Ku.oN L i j)/\Below W.heap.size W wr) (fun _ cv _=>mm-(intOf cv).toNat)
    case atStart=>exact⟨0,aaL _,rfl,by rw[show Ku.oN L i 0=[] from rfl,abp];exact HO.out,HB.out⟩
    case round=>
     obtain⟨j,hj,rfl,hown,hb⟩:=hrel;obtain⟨V,rfl⟩:∃V,V=wr:=⟨wr,rfl⟩;have yU:=ζ hown;have aC:=ζ hb;have hs2:=hb.size;have Um:IntKind.i64.wrap ((j:Int)+1)=(j:Int)+1:=by rw[aaK];omega
     by_cases hjl:j<mm
     .exfalso
      omega
     .have Vq:¬((j:Int)<(mm:Int)):=by omega
      obtain rfl:j=mm:=by omega
      have HN:Hid (Ku.bX L (i+1)=Ku.bX L i++Ku.oN L i j):=by
       show _=_;rw[show Ku.bX L (i+1)=Ku.bX L i++Ku.oN L i (L.length-(i+1)) from rfl,HQ.out,rR.out]
      have hwi:IntKind.i64.wrap ((i:Int)+1)=(i:Int)+1:=by rw[aaK];omega
      clear hown hb hmm;go_wp2;go_roundw
      case rel=>exact⟨i+1,by omega,by go_num,by rw[HN.out];exact yU.out,aC.out⟩
      case measure=>simp[intOf];omega
   .go_wp2_with fail
    generalize hmm:q-(i+1)=mm;have rR:=ζ hmm;have hmb:mm<=6:=by omega
    go_loopw [6,23] (fun pv cv wr=>∃(j:Nat),j<=mm/\cv= .int .i64 (j:Int)/\iA wr W.heap.size pv (Ku.bX L i++Ku.oN L i j)/\Below W.heap.size W wr) (fun _ cv _=>mm-(intOf cv).toNat)
    case atStart=>exact⟨0,aaL _,rfl,by rw[show Ku.oN L i 0=[] from rfl,abp];exact HO.out,HB.out⟩
    case round=>
     obtain⟨j,hj,rfl,hown,hb⟩:=hrel;obtain⟨V,rfl⟩:∃V,V=wr:=⟨wr,rfl⟩;have yU:=ζ hown;have aC:=ζ hb;have hs2:=hb.size;have Um:IntKind.i64.wrap ((j:Int)+1)=(j:Int)+1:=by rw[aaK];omega
     by_cases hjl:j<mm
     .have U7:(j:Int)<(mm:Int):=by omega
      have hj0:(0:Int)<=(j:Int):=by omega
      obtain⟨y,hy⟩:∃y,L[i+1+j]? =some y:=⟨_,aaC (by rw[HQ.out];omega)⟩;obtain⟨b',o',ee,e1⟩:=(HL.out.later (eM.out.trans (hb.mono eM.out.size))) _ y hy;cases ee;have e2:V.cell? ⟨b,o+(i+1)+j,none⟩=some (.int .i64 y):=by rw[acq o (i+1) j];exact e1
      have lp:Hid (Ku.bX L i++Ku.oN L i (j+1)=Ku.bX L i++Ku.oN L i j++[(x,y)]):=by
       show _=_;rw[abr]
       congr 1
       show Ku.oN L i j++[(Ku.gI L i,Ku.gI L (i+1+j))]=_;rw[Lr.out,Ku.dL hy]
      have fY:(Ku.bX L i++Ku.oN L i j).length<=8796093022000:=by
       rw[aaN,Ku.tZ];have h1:=Ku.qV L i;rw[HQ.out] at h1;have h2:i*q<=6*6:=adb (by omega) zE;omega
      clear hown hb hy e1;go_wp2_with (at_builtin;refine oY rfl _ _ rfl _ W.heap.size _ _ x y yU.out hs2 fY rfl rfl ?_;refine aaH ?_);refine ζ ?_;intro v' w3 hrow3 hb3;have mz:=ζ hrow3;have aK:=ζ (aC.out.trans hb3);clear hrow3 hb3;go_wp2;go_roundw
      case rel=>exact⟨j+1,by omega,by go_num,by rw[lp.out];first|exact mz.out|(rw[abr];exact mz.out),aK.out⟩
      case measure=>simp[intOf];omega
     .have Vq:¬((j:Int)<(mm:Int)):=by omega
      obtain rfl:j=mm:=by omega
      have HN:Hid (Ku.bX L (i+1)=Ku.bX L i++Ku.oN L i j):=by
       show _=_;rw[show Ku.bX L (i+1)=Ku.bX L i++Ku.oN L i (L.length-(i+1)) from rfl,HQ.out,rR.out]
      have hwi:IntKind.i64.wrap ((i:Int)+1)=(i:Int)+1:=by rw[aaK];omega
      clear hown hb hmm;go_wp2;go_roundw
      case rel=>exact⟨i+1,by omega,by go_num,by rw[HN.out];exact yU.out,aC.out⟩
      case measure=>simp[intOf];omega
  .have hd:¬((i:Int)<(q:Int)):=by omega
   obtain rfl:i=q:=by omega
   have WW:=ζ (Tj.out U pa pc hb hpat (fun x hx=>(ni x hx).1));obtain⟨c0,c1,-⟩:=af ((hb.block _ (by omega)).trans gu.out);subst kZ;clear hown hpat ni hb;go_wp2_with (go_at_call 213;refine WW.out.mono ?_;refine aaH ?_);refine ζ ?_;intro e w3 hkp;have Z4:W.heap.size<=w3.heap.size:=aaM HB.out.size hkp.2.size;have cR:w3.heap[w.heap.size+1]? =some (.cells #[.int .i64 0,.slice none 0 0,.slice none 0 0] 82 (0,0)):=(hkp.2.block _ (by have:=HB.out.size;omega) (fun h=>by have:=dP.out _ h;omega)).trans ((HB.out.block _ (by omega)).trans dF.out);obtain⟨z0,z1,z2,zf⟩:=bw cR;have hf0:=zf 0;have nj:=zf 1;have hf2:=zf 2;have hUs:=HB.out.size;have zh:Hid (∀x y z:Value,Ku.jW B cs R 1 (.slice bo i bc) (Ku.bX L i) w e (((w3.setCell ⟨w.heap.size+1,0,none⟩ x).setCell ⟨w.heap.size+1,1,none⟩ y).setCell ⟨w.heap.size+1,2,none⟩ z)):=fun x y z=>hkp.far (eM.out.trans (HB.out.mono eM.out.size)) (c:=w.heap.size+1) ⟨by omega,by omega⟩ dP.out (fun b hb=>by rw[heap_setCell_other _ ⟨w.heap.size+1,2,none⟩ b _ hb,heap_setCell_other _ ⟨w.heap.size+1,1,none⟩ b _ hb,heap_setCell_other _ ⟨w.heap.size+1,0,none⟩ b _ hb]) (by simp) rfl rfl rfl
   obtain⟨v1,s1,s2,s3,u1,u2,u3,r,rfl⟩:=hkp.shape;clear hkp cR zf c0 c1;go_wp2;refine bodyPost_ret (dr rfl rfl _ _ (w.heap.size+1) _ _ _ _ rfl rfl (aA z0 z1 z2 _ _ _).1 (aA z0 z1 z2 _ _ _).2.1 (aA z0 z1 z2 _ _ _).2.2) rfl ?_;exact zh.out _ _ _
end
end Go.Proofs.YtdbjpbjocmcpkaaGreatDoor
