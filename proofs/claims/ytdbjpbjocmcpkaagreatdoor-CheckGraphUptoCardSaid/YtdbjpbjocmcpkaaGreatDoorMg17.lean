import Derived.Test.YtdbjpbjocmcpkaaGreatDoorMg16
set_option maxHeartbeats 8000000
set_option maxRecDepth 100000
namespace Go.Proofs.YtdbjpbjocmcpkaaGreatDoor
section
open Go.Proofs.Tryz
open Go.RowKit Go.Sort Go.Maps
namespace Ku
def Small (R:List (List Int)):Prop:=R.length<=4194304/\∀l∈R,2<=l.length/\l.length<=17592186044000/\∀x∈l,0<=x/\x<1048576
theorem OM.mono {w:World} {b n n':Nat} {f:Int×Int->Option Nat} (h:OM w b n f) (hn:n<=n'):OM w b n' f:=by
 obtain⟨D,h1,h2⟩:=h;exact⟨D,h1.mono hn,h2⟩
theorem Small.ends {R:List (List Int)} (h:Small R) {l:List Int} (hl:l∈R):fW (ends l):=by
 obtain⟨h1,_,h3⟩:=h.2 l hl;have key:∀i,i<l.length->0<=gI l i/\gI l i<1048576:=fun i hi=>by
  obtain⟨x,hx⟩:∃x,l[i]? =some x:=⟨_,aac hi⟩;rw[bK hx];exact h3 x (aai hx)
 have a:=key 0 (by omega);have b:=key (l.length-1) (by omega);unfold fW Ku.ends;dsimp only;omega
end Ku
theorem FB {fn:Func} {P:Program} {p:Tmp} (h:fn.results= #[.cell p 248]) (hP:P=prog) (tmps:Array Value) (w:World) (b:Nat) (x y:Value) (hp:tmps.getD p undef= .pointer (some ⟨b,0,none⟩)) (h0:w.cell? ⟨b,0,none⟩=some x) (h1:w.cell? ⟨b,1,none⟩=some y):(results fn tmps).run P w= .ok (.agg #[x,y]) w:=by
 subst hP;have hp':tmps[p]?.getD undef= .pointer (some ⟨b,0,none⟩):=by simpa using hp
 simp[results,h,go_sem,hp',h0,h1]
theorem AP {w:World} {b:Nat} {s t:Value} (hs:w.cell? ⟨b,0,none⟩=some s) (ht:w.cell? ⟨b,1,none⟩=some t) (x y:Value):((w.setCell ⟨b,0,none⟩ x).setCell ⟨b,1,none⟩ y).cell? ⟨b,0,none⟩=some x/\((w.setCell ⟨b,0,none⟩ x).setCell ⟨b,1,none⟩ y).cell? ⟨b,1,none⟩=some y:=by
 refine⟨?_,?_⟩<;>simp[go_sem,hs,ht]
theorem Aq (ca:Option Addr) (J cc:Nat) (R:List (List Int)) (w:World) (hJ:R.length=J) (hR:Ku.o9 w (.slice ca J cc) R) (hS:Ku.Small R):
 Calls prog 146 #[.slice ca J cc] w (Ku.YQ R (.slice ca J cc) w):=by
 obtain⟨W0,hW0⟩:∃W0,W0=w.alloc (.cells #[.slice none 0 0,.map none] 248):=⟨_,rfl⟩;obtain⟨W1,hW1⟩:∃W1,W1=W0.alloc (.map #[] 0):=⟨_,rfl⟩;obtain⟨W,hW⟩:∃W,W=W1.alloc (.cells #[.slice ca J cc,.map (some (w.heap.size+1))] 248):=⟨_,rfl⟩;have hs0:W0.heap.size=w.heap.size+1:=by rw[hW0];simp
 have hs1:W1.heap.size=w.heap.size+2:=by rw[hW1];simp[hs0]
 have hB0:Below w.heap.size w W0:=by rw[hW0];exact(aae _ _).alloc (aad _) _
 have hB1:Below W0.heap.size W0 W1:=by rw[hW1];exact(aae _ _).alloc (aad _) _
 have hB2:Below W1.heap.size W1 W:=by rw[hW];exact(aae _ _).alloc (aad _) _
 have hBW:Below w.heap.size w W:=(hB0.trans (hB1.mono hB0.size)).trans (hB2.mono (by omega));have g0:W.heap[w.heap.size]? =some (.cells #[.slice none 0 0,.map none] 248 (0,0)):=by
  rw[hB2.block _ (by omega),hB1.block _ (by omega),hW0];exact heap_alloc_new w _
 have g2:W.heap[w.heap.size+1+1]? =some (.cells #[.slice ca J cc,.map (some (w.heap.size+1))] 248 (0,0)):=by rw[hW,show w.heap.size+1+1=W1.heap.size by omega];exact heap_alloc_new W1 _
 have lM:Ku.OM W (w.heap.size+1) 0 (fun _=>none):=by
  have:Ku.OM W1 (w.heap.size+1) 0 (fun _=>none):=by rw[hW1,<-hs0];exact Ku.OM.new W0
  exact this.later hB2
 have UZ:w.heap.size+1+1<W.heap.size:=lt_of_block g2;have HW:Hid (W=((w.alloc (.cells #[.slice none 0 0,.map none] 248)).alloc (.map #[] 0)).alloc (.cells #[.slice ca J cc,.map (some (w.heap.size+1))] 248)):=by rw[hW,hW1,hW0];exact ζ rfl
 have CU:Hid (∀U:World,aq (fun k=>k=w.heap.size+1) W U->Ku.o9 U (.slice ca J cc) R):=fun U hU=>hR.later (hBW.trans (hU.below (by omega) (fun k hk=>by omega)))
 have HB:Hid (∀U:World,aq (fun k=>k=w.heap.size+1) W U->Below w.heap.size w U):=fun U hU=>hBW.trans (hU.below (by omega) (fun k hk=>by omega))
 have j4:Hid (∀U:World,aq (fun k=>k=w.heap.size+1) W U->U.heap[w.heap.size]? =some (.cells #[.slice none 0 0,.map none] 248 (0,0))):=fun U hU=>(hU.block _ (by omega) (by omega)).trans g0
 have cZ:Hid (∀U:World,aq (fun k=>k=w.heap.size+1) W U->U.heap[w.heap.size+1+1]? =some (.cells #[.slice ca J cc,.map (some (w.heap.size+1))] 248 (0,0))):=fun U hU=>(hU.block _ (by omega) (by omega)).trans g2
 have Zc:=ζ lM;have HJ:=ζ hJ;have JJ:J<=4194304:=by rw[<-hJ];exact hS.1
 have HS:=ζ hS;have hmm:= @run_makeMap prog;clear hW hW1 hW0 hs0 hs1 hB0 hB1 hB2 hBW g0 g2 lM hR hJ hS;go_enter func146,ntmps146;go_wp2_with fail;rw[<-HW.out];clear hmm;go_loopw [12] (fun cv wr=>∃k:Nat,k<=J/\cv= .int .i64 (k:Int)/\Ku.OM wr (w.heap.size+1) k (Ku.opn R k)/\aq (fun k=>k=w.heap.size+1) W wr) (fun cv _=>J-(intOf cv).toNat)
 case atStart=>exact⟨0,aax _,rfl,Zc.out,aq.refl _ _⟩
 case round=>
  obtain⟨k,hk,rfl,lM,hwr⟩:=hrel;obtain⟨U,rfl⟩:∃U,U=wr:=⟨wr,rfl⟩;have HO:=ζ lM;have j8:=ζ hwr;have hwk:IntKind.i64.wrap ((k:Int)+1)=(k:Int)+1:=by rw[aam];omega
  by_cases hlt:k<J
  .have aQ:(k:Int)<(J:Int):=by omega
   have hk0:(0:Int)<=(k:Int):=by omega
   obtain⟨l,hl⟩:∃l,R[k]? =some l:=⟨_,aac (by rw[HJ.out];exact hlt)⟩;obtain⟨ca',cc',hce,hrd⟩:=CU.out U hwr;rw[HJ.out] at hce;cases hce;obtain⟨gb,go',x,rfl,cx,xa,xc,rfl,hat⟩:=hrd k l hl;obtain⟨q,hq⟩:∃q,l.length=q:=⟨_,rfl⟩;rw[hq] at cx;obtain⟨qF,UH,-⟩:=HS.out.2 l (aai hl);rw[hq] at qF UH;obtain⟨q1,hq1⟩:∃q1,q1=q-1:=⟨_,rfl⟩;obtain⟨x0,hx0⟩:∃x,l[0]? =some x:=⟨_,aac (by omega)⟩;obtain⟨xn,oH⟩:∃x,l[q1]? =some x:=⟨_,aac (by omega)⟩;obtain⟨b,o,rfl,e0⟩:=hat 0 x0 hx0;obtain⟨_,_,e,e1⟩:=hat q1 xn oH;cases e;rw[abN] at e0;have hw1:IntKind.i64.wrap ((q:Int)-1)=(q1:Int):=by rw[aam];omega
   have i0:(0:Int)<(q:Int):=by omega
   have i2:(0:Int)<=(q1:Int):=by omega
   have i3:(q1:Int)<(q:Int):=by omega
   have BS:Ku.ends l=(x0,xn):=by
    unfold Ku.ends;rw[Ku.bK hx0,hq,<-hq1,Ku.bK oH]
   have hin:fW (x0,xn):=by rw[<-BS];exact HS.out.ends (aai hl)
   have Zp:=ζ (keyOf_pair hin);unfold nG at Zp;dsimp only at Zp;obtain⟨c0,c1,-⟩:=af (cZ.out U hwr);have S7:Hid (x0≠xn->Ku.opn R (k+1)=Ku.Hp (Ku.opn R k) (x0,xn) k):=fun h=>by
    have:=Ku.A8 hl (by rw[BS];exact h);rw[BS] at this;exact this
   have cG:Hid (x0=xn->Ku.opn R (k+1)=Ku.opn R k):=fun h=>Ku.FW hl (by rw[BS];exact h)
   have yg:=ζ hin;clear lM hwr hl hrd hat hx0 oH hq hq1 BS hin;have hbU:b<U.heap.size:=block_lt_of_cell e0;have Yk:b≠U.heap.size:=by omega
   go_wp2_with fail;go_big_region;obtain⟨V,hV⟩:∃V,V=(U.alloc (.cells #[.int .i64 x0,.int .i64 xn] 57)).drew:=⟨_,rfl⟩;rw[<-hV];have BX:Below U.heap.size U V:=by rw[hV];exact((aae _ _).alloc (aad _) _).drew
   have gV:V.heap[U.heap.size]? =some (.cells #[.int .i64 x0,.int .i64 xn] 57 (0,0)):=by rw[hV];exact heap_alloc_new U _
   have Dw:=j8.out.later BX;have MV:=ζ Dw;have D8:=ζ (HO.out.later BX);clear c0 c1;obtain⟨c0,c1,-⟩:=af (cZ.out V Dw);obtain⟨v0,v1,-⟩:=af gV;clear hV BX gV Dw e0 e1 cx hbU Yk;by_cases hx:x0=xn
   .have t1:(x0 != xn)=false:=by simp[hx]
    have HN:=ζ (cG.out hx);clear hx;go_wp2;go_roundw
    case rel=>exact⟨k+1,by omega,by go_num,by rw[HN.out];exact D8.out.mono (by omega),MV.out⟩
    case measure=>simp[intOf];omega
   .have t1:(x0 != xn)=true:=by simp[hx]
    have HN:=ζ (S7.out hx);obtain⟨D,hD,hf⟩:=D8.out;have HD:=ζ hD;have HF:=ζ hf;clear hx hD hf;go_wp2_with (at_mapUpdate;refine wpList_mapUpdate_in _ rfl _ _ _ 246 rfl 57 3 Bu Tryz.underlying246 (plainElem prog 3) (w.heap.size+1) k D rfl HD.out (by unfold maxLen;omega) _ _ _ rfl rfl Zp.out (.lit (.int .i64 (k:Int))) [] (plainElem_int Tryz.underlying3 (Qs (by omega))) ?_;refine aaj ?_);refine ζ ?_;intro w3 RF ND;have acQ:Hid (Ku.OM w3 (w.heap.size+1) (k+1) (Ku.opn R (k+1))):=by
     rw[HN.out];exact Ku.OM.put HF.out HD.out.isMap yg.out k RF
    have hg3:=ND.grown;have uR:Hid (aq (fun k=>k=w.heap.size+1) W w3):=MV.out.trans ⟨hg3.os,hg3.tape,hg3.output,hg3.size,fun j hj hne=>hg3.block j hj (fun e=>hne (aaG e))⟩;clear RF ND hg3;go_wp2;go_roundw
    case rel=>exact⟨k+1,by omega,by go_num,acQ.out,uR.out⟩
    case measure=>simp[intOf];omega
  .have hd:¬((k:Int)<(J:Int)):=by omega
   obtain rfl:k=J:=by omega
   obtain⟨c0,c1,-⟩:=af (cZ.out U hwr);obtain⟨v0,v1,vf⟩:=af (j4.out U hwr);have hv0:=vf 0;have BC:=vf 1;have hne:w.heap.size≠w.heap.size+1+1:=by omega
   clear lM hwr vf;have HF0:Hid (Ku.OM ((U.setCell ⟨w.heap.size,0,none⟩ (.slice ca k cc)).setCell ⟨w.heap.size,1,none⟩ (.map (some (w.heap.size+1)))) (w.heap.size+1) k (Ku.opn R k)):=HO.out.kept (by rw[heap_setCell_other _ ⟨w.heap.size,1,none⟩ _ _ (by simp),heap_setCell_other _ ⟨w.heap.size,0,none⟩ _ _ (by simp)]);have M7:Hid (Below w.heap.size w ((U.setCell ⟨w.heap.size,0,none⟩ (.slice ca k cc)).setCell ⟨w.heap.size,1,none⟩ (.map (some (w.heap.size+1))))):=((HB.out U j8.out).setCell (p:=⟨w.heap.size,0,none⟩) (aad _) _).setCell (p:=⟨w.heap.size,1,none⟩) (aad _) _;go_wp2;refine bodyPost_ret (FB rfl rfl _ _ w.heap.size _ _ rfl (AP v0 v1 _ _).1 (AP v0 v1 _ _).2) rfl ?_;refine⟨w.heap.size+1,rfl,by omega,?_,M7.out⟩;rw[HJ.out];exact HF0.out
end
section
open Go.Proofs.Tryz
open Go.RowKit Go.Sort Go.Maps
namespace Ku
def eT (x:Int) (l:List Int):List Int:=if gI l 0=x then l else l.reverse
def key (p:Int×Int):Int×Int:=if p.2<p.1 then (p.2,p.1) else p
def idx (R:List (List Int)) (p:Int×Int):Option Nat:=opn R R.length (key p)
def pathOf (R:List (List Int)) (p:Int×Int):List Int:=eT p.1 (R.getD ((idx R p).getD 0) [])
theorem Uy {R:List (List Int)} {p:Int×Int} {i:Nat} (h:idx R p=some i):i<R.length:=(ju (aad _) h).1
theorem Gg {R:List (List Int)} {p:Int×Int} {i:Nat} (h:idx R p=some i):∃l,R[i]? =some l/\ends l=key p/\(key p).1≠(key p).2:=(ju (aad _) h).2
theorem LA {R:List (List Int)} {p:Int×Int} {i:Nat} {l:List Int} (h:idx R p=some i) (hl:R[i]? =some l):pathOf R p=eT p.1 l:=by
 unfold pathOf;rw[h,aao];show eT p.1 (R[i]?.getD [])=_;rw[hl];rfl
theorem NC {R:List (List Int)} {p q:Int×Int} {i:Nat} (hp:idx R p=some i) (hq:idx R q=some i):key p=key q:=by
 obtain⟨l,h1,h2,_⟩:=Gg hp;obtain⟨l',h3,h4,_⟩:=Gg hq;rw[h1] at h3;cases h3;rw[<-h2,h4]
end Ku
theorem K3 (B:Nat) (ao:Option Addr) (q c:Nat) (x:Int) (l:List Int) (w:World) (hq:l.length=q) (h:aj w B (.slice ao q c) l) (h2:1<=q) (hl:q<=17592186044000):
 Calls prog 263 #[.int .i64 x,.slice ao q c] w fun e w'=>e= .returned (.slice ao q c)/\aj w' B (.slice ao q c) (Ku.eT x l)/\w.grownBy w' (Value.slice ao q c).ownBlock:=by
 obtain⟨SU,c',e,hat,-⟩:=h.form;rw[hq] at e;cases e;obtain⟨x0,hx0⟩:∃x,l[0]? =some x:=⟨_,aac (by omega)⟩;obtain⟨b,o,rfl,e0⟩:=hat 0 x0 hx0;rw[abN] at e0;have i0:(0:Int)<(q:Int):=by omega
 have EP:l≠[]:=fun e=>by rw[e] at hq;simp at hq;omega
 have Vs:=ζ (s9 B _ l w h EP (by omega));have ct:=ζ h;have HG:=Ku.bK hx0;by_cases hc:x0=x
 .have t1:(x0 != x)=false:=by simp[hc]
  have HF:Hid (Ku.eT x l=l):=by
   refine ζ ?_;unfold Ku.eT;rw[HG,if_pos hc]
  clear h hat hx0 EP HG hc;go_enter func263,ntmps263;go_wp2;go_ret;exact⟨rfl,by rw[HF.out];exact ct.out,rfl,rfl,rfl,aad _,fun _ _ _=>rfl⟩
 .have t1:(x0 != x)=true:=by simp[hc]
  have HF:Hid (Ku.eT x l=l.reverse):=by
   refine ζ ?_;unfold Ku.eT;rw[HG,if_neg hc]
  clear h hat hx0 EP HG hc;go_enter func263,ntmps263;go_wp2_with (go_at_call 93;refine Vs.out.mono ?_;rintro e w3 ⟨rfl,ho,hgr⟩;refine aaj ?_);refine ζ ?_;have HO:=ζ ho;have TI:=ζ hgr;clear ho hgr;go_wp2;go_ret;exact⟨rfl,by rw[HF.out];exact HO.out,TI.out⟩
namespace Ku
structure CP (B:Nat) (cv:Value) (cs:List Value) (R:List (List Int)) (ps:List (Int×Int)) (W:World) (k:Nat) (pv:Value) (vs:List Value) (U:World):Prop where
 cur:∃C,ay U B cv cs C/\C.length=R.length/\∀i l,R[i]? =some l->(∀t p,t<k->ps[t]? =some p->idx R p≠some i)->C[i]? =some l
 pz:ay U B pv vs ((ps.take k).map (pathOf R))
 link:∀t x,vs[t]? =some x->∃p i,ps[t]? =some p/\t<k/\idx R p=some i/\cs[i]? =some x
 own:∀b,pv.ownBlock=some b->W.heap.size<=b
 wr:aq (fun b=>cC cs b\/W.heap.size<=b) W U
section
variable {B:Nat} {cv:Value} {cs:List Value} {R:List (List Int)} {ps:List (Int×Int)} {W:World} {k:Nat} {pv:Value} {vs:List Value} {U:World}
theorem CP.later {V:World} (h:CP B cv cs R ps W k pv vs U) (hb:Below U.heap.size U V):CP B cv cs R ps W k pv vs V:=by
 obtain⟨C,hC,hl,hc⟩:=h.cur;exact⟨⟨C,hC.later hb,hl,hc⟩,h.pz.later hb,h.link,h.own,h.wr.later hb⟩
theorem CP.look (h:CP B cv cs R ps W k pv vs U) (hd:∀(t t':Nat) (p p':Int×Int),t≠t'->ps[t]? =some p->ps[t']? =some p'->key p≠key p') {p:Int×Int} {i:Nat} {l:List Int} (hp:ps[k]? =some p) (hi:idx R p=some i) (hl:R[i]? =some l):
 ∃x,cs[i]? =some x/\aj U B x l/\(∃g c,cv= .slice (some ⟨g,0,none⟩) R.length c/\U.cell? ⟨g,i,none⟩=some x)/\(∀b,x.ownBlock=some b->¬cC vs b):=by
 obtain⟨C,hC,SG,hc⟩:=h.cur;have hno:∀t q,t<k->ps[t]? =some q->idx R q≠some i:=fun t q ht hq e=>hd t k q p (by omega) hq hp (NC e hi)
 have U8:=hc i l hl hno;obtain⟨x,hx⟩:=hC.at' U8;refine⟨x,hx,hC.row i x l hx U8,?_,fun b hb hin=> ?_⟩
 .obtain⟨g,c,e,hcell⟩:=qC hC hx
  rw[SG] at e;exact⟨g,c,e,hcell⟩
 .obtain⟨t,y,hy,hyb⟩:=hin
  obtain⟨q,j,hq,ht,hj,UW⟩:=h.link t y hy;have hij:i≠j:=fun e=>by
   subst e;exact hno t q ht hq hj
  exact hC.apart i j x y b hij hx UW hb hyb
theorem CP.step {U2 X w4:World} {p:Int×Int} {i:Nat} {l:List Int} {x jl:Value} (h:CP B cv cs R ps W k pv vs U) (hW:∀b,(cv.ownBlock=some b\/cC cs b)->b<W.heap.size) (hd:∀(t t':Nat) (p p':Int×Int),t≠t'->ps[t]? =some p->ps[t']? =some p'->key p≠key p') (hp:ps[k]? =some p) (hi:idx R p=some i) (hl:R[i]? =some l) (hx:cs[i]? =some x) (uj:∀b,x.ownBlock=some b->¬cC vs b)
 (hg:U.grownBy U2 x.ownBlock) (hO:aj U2 B x (eT p.1 l)) (hX:Below U2.heap.size U2 X):
 ay X B pv vs ((ps.take k).map (pathOf R))/\aj X B x (eT p.1 l)/\(∀b,x.ownBlock=some b->¬(pv.ownBlock=some b\/cC vs b))/\
 (ay w4 B jl (vs++[x]) ((ps.take k).map (pathOf R)++[eT p.1 l])->X.grownBy w4 pv.ownBlock->(jl.ownBlock=pv.ownBlock\/jl.ownBlock=some X.heap.size)->CP B cv cs R ps W (k+1) jl (vs++[x]) w4):=by
 obtain⟨C,hC,SG,hc⟩:=h.cur;have hxl:∀b,x.ownBlock=some b->b<W.heap.size:=fun b hb=>hW b (.inr ⟨i,x,hx,hb⟩)
 have Xq:∀b,x.ownBlock=some b->pv.ownBlock≠some b:=fun b hb e=>by
  have:=h.own b e;have:=hxl b hb;omega
 have hpz:ay X B pv vs ((ps.take k).map (pathOf R)):=(h.pz.kept fun b hb hlt=>hg.block b hlt (fun e=>by
  rcases hb with hb|hb
  .exact Xq b e.symm hb
  .exact uj b e.symm hb)).later hX
 refine⟨hpz,hO.later hX,fun b hb xJ=> ?_,fun DR hg4 hat=> ?_⟩
 .rcases xJ with xJ|xJ
  .exact Xq b hb xJ
  .exact uj b hb xJ
 .have LU:=hg.size
  have hsX:=hX.size;have Jj:=hg4.size;have hWU:=h.wr.size;have keep:∀b,b<U.heap.size->x.ownBlock≠some b->pv.ownBlock≠some b->w4.heap[b]? =U.heap[b]? :=fun b hb h1 h2=>by
   rw[hg4.block b (by omega) (fun e=>h2 e.symm),hX.block b (by omega),hg.block b hb (fun e=>h1 e.symm)]
  have hOw:aj w4 B x (eT p.1 l):=(hO.later hX).same fun b hb hlt=>hg4.block b hlt (fun e=>Xq b hb e.symm)
  have U8:C[i]? =some l:=hc i l hl fun t q ht hq e=>hd t k q p (by omega) hq hp (NC e hi)
  have abV:=(aah.1 U8).1;refine⟨⟨C.set i (eT p.1 l),?_,by rw[acJ];exact SG,?_⟩,?_,?_,?_,?_⟩
  .refine⟨by rw[acJ];exact hC.len,?_,?_,hC.apart,hC.far⟩
   .rw[acJ]
    exact bV hC.outer fun b hb _ hlt=>keep b hlt (fun e=>hC.far i x b hx e hb) (fun e=>by
     have a1:=h.own b e;have a2:=hW b (.inl hb);omega)
   .intro u y m hy hm
    by_cases Xv:u=i
    .subst Xv
     rw[hx] at hy;cases hy;rw[List.getElem?_set_self abV] at hm;cases hm;exact hOw
    .rw[adv (acs Xv)] at hm
     refine(hC.row u y m hy hm).same fun b hb hlt=>keep b hlt (fun e=>hC.apart u i y x b Xv hy hx hb e) (fun e=> ?_)
     have a1:=h.own b e;have a2:=hW b (.inr ⟨u,y,hy,hb⟩);omega
  .intro j m hm hno
   have hij:j≠i:=fun e=>hno k p (by omega) hp (by rw[e];exact hi)
   rw[adv (acs hij)];exact hc j m hm fun t q ht hq=>hno t q (by omega) hq
  .have e:(ps.take (k+1)).map (pathOf R)=(ps.take k).map (pathOf R)++[eT p.1 l]:=by
    rw[ab5,hp,abj];show _++[pathOf R p]=_;rw[LA hi hl]
   rw[e];exact DR
  .intro t y hy
   have hvl:=h.pz.len;rw[aaE,abu] at hvl;have hkp:=(aah.1 hp).1;by_cases ht:t<vs.length
   .rw[aaH ht] at hy
    obtain⟨q,j,h1,h2,h3,h4⟩:=h.link t y hy;exact⟨q,j,h1,by omega,h3,h4⟩
   .have Rq:=(aah.1 hy).1
    simp at Rq;have:t=k:=by omega
    subst this;rw[abb (by omega)] at hy;rw[show t-vs.length=0 by omega] at hy;cases hy;exact⟨p,i,hp,by omega,hi,hx⟩
  .intro b hb
   rcases hat with e|e
   .exact h.own b (e▸hb)
   .rw[e] at hb
    cases hb;omega
  .refine h.wr.trans ⟨?_,?_,?_,by omega,fun b hb hne=>keep b hb (fun e=>hne (.inl ⟨i,x,hx,e⟩)) (fun e=>hne (.inr (h.own b e)))⟩
   .rw[hg4.os,hX.os,hg.os]
   .rw[hg4.tape,hX.tape,hg.tape]
   .rw[hg4.output,hX.output,hg.output]
end
end Ku
end
section
open Go.Proofs.Tryz
open Go.RowKit Go.Sort Go.Maps
theorem eO {fn:Func} {P:Program} {p q:Tmp} (h:fn.results= #[.cell p 82,.tmp q]) (hP:P=prog) (tmps:Array Value) (w:World) (b:Nat) (x y z u:Value) (hp:tmps.getD p undef= .pointer (some ⟨b,0,none⟩)) (hq:tmps.getD q undef=u) (h0:w.cell? ⟨b,0,none⟩=some x) (h1:w.cell? ⟨b,1,none⟩=some y) (h2:w.cell? ⟨b,2,none⟩=some z):(results fn tmps).run P w= .ok (.tuple #[.agg #[x,y,z],u]) w:=by
 subst hP;have hp':tmps[p]?.getD undef= .pointer (some ⟨b,0,none⟩):=by simpa using hp
 have hq':tmps[q]?.getD undef=u:=by simpa using hq
 simp[results,h,go_sem,hp',hq',h0,h1,h2]
theorem jg {S:Nat->Prop} {w V:World} (h:aq S w V) {b:Nat} (hb:w.heap.size<=b) (i:Nat) (x:Value):aq S w (V.setCell ⟨b,i,none⟩ x):=
 ⟨h.os,h.tape,h.output,by simpa using h.size,fun k hk hn=>(heap_setCell_other V ⟨b,i,none⟩ k x (by show k≠b;omega)).trans (h.block k hk hn)⟩
namespace Ku
def jK:Value:= .agg #[.int .i64 0,.slice none 0 0,.slice none 0 0]
def All (R:List (List Int)) (ps:List (Int×Int)):Prop:=R.length=ps.length/\∀p∈ps,∃i,idx R p=some i
def mM (B:Nat) (cs:List Value) (R:List (List Int)) (kd:Int) (bv:Value) (ps:List (Int×Int)) (w:World) (e:Ending) (w':World):Prop:=
 ((¬All R ps/\e= .returned (.tuple #[jK,.bool false]))\/(All R ps/\∃pv vs,e= .returned (.tuple #[.agg #[.int .i64 kd,bv,pv],.bool true])/\ay w' B pv vs (ps.map (pathOf R))/\(∀b,pv.ownBlock=some b->w.heap.size<=b)/\∀b,cC vs b->cC cs b))/\aq (fun b=>cC cs b) w w'
end Ku
theorem Av (B:Nat) (ca:Option Addr) (J cc mb nb:Nat) (cs:List Value) (R:List (List Int)) (kd:Int) (bo:Option Addr) (bn bc:Nat) (pa:Option Addr) (pn pc:Nat) (ps:List (Int×Int)) (w:World)
 (hJ:R.length=J) (hBw:B<=w.heap.size) (hR:ay w B (.slice ca J cc) cs R) (hS:Ku.Small R) (lM:Ku.OM w mb nb (Ku.opn R R.length)) (hmb:¬cC cs mb) (DF:ps.length=pn) (hpl:pn<=4194304) (hps:ah w pa ps) (hpa:∀x,pa=some x->¬cC cs x.block)
 (hin:∀p∈ps,fW (Ku.key p)) (hd:∀(t t':Nat) (p p':Int×Int),t≠t'->ps[t]? =some p->ps[t']? =some p'->Ku.key p≠Ku.key p'):
 Calls prog 213 #[.agg #[.slice ca J cc,.map (some mb)],.int .i64 kd,.slice bo bn bc,.slice pa pn pc] w (Ku.mM B cs R kd (.slice bo bn bc) ps w):=by
 obtain⟨W1,hW1⟩:∃W1,W1=w.alloc (.cells #[.slice ca J cc,.map (some mb)] 248):=⟨_,rfl⟩;obtain⟨W,hW⟩:∃W,W=W1.alloc (.cells #[.int .i64 0,.slice none 0 0,.slice none 0 0] 82):=⟨_,rfl⟩;have hs1:W1.heap.size=w.heap.size+1:=by rw[hW1];simp
 have hB1:Below w.heap.size w W1:=by rw[hW1];exact(aae _ _).alloc (aad _) _
 have hB2:Below W1.heap.size W1 W:=by rw[hW];exact(aae _ _).alloc (aad _) _
 have hBW:Below w.heap.size w W:=hB1.trans (hB2.mono hB1.size);have g1:W.heap[w.heap.size]? =some (.cells #[.slice ca J cc,.map (some mb)] 248 (0,0)):=by
  rw[hB2.block _ (by omega),hW1];exact heap_alloc_new w _
 have g2:W.heap[w.heap.size+1]? =some (.cells #[.int .i64 0,.slice none 0 0,.slice none 0 0] 82 (0,0)):=by rw[hW,<-hs1];exact heap_alloc_new W1 _
 have UZ:w.heap.size+1<W.heap.size:=lt_of_block g2;have HW:Hid (W=(w.alloc (.cells #[.slice ca J cc,.map (some mb)] 248)).alloc (.cells #[.int .i64 0,.slice none 0 0,.slice none 0 0] 82)):=by rw[hW,hW1];exact ζ rfl
 have hcl:∀b,((Value.slice ca J cc).ownBlock=some b\/cC cs b)->b<w.heap.size:=fun b hb=>(hR.within hb).2
 have iE:Hid (∀b,((Value.slice ca J cc).ownBlock=some b\/cC cs b)->b<w.heap.size):=hcl;have rB:Hid (∀b,((Value.slice ca J cc).ownBlock=some b\/cC cs b)->b<W.heap.size):=fun b hb=>Nat.lt_trans (hcl b hb) (by omega)
 have CT:Hid (∀U:World,aq (fun b=>cC cs b\/W.heap.size<=b) W U->∀b,b<W.heap.size->¬cC cs b->U.heap[b]? =W.heap[b]?):=fun U hU b hb hn=>hU.block b hb (fun h=>by
  rcases h with h|h
  .exact hn h
  .omega)
 have Zc:Hid (∀U:World,aq (fun b=>cC cs b\/W.heap.size<=b) W U->Ku.OM U mb nb (Ku.opn R R.length)):=fun U hU=>(lM.later hBW).kept (CT.out U hU mb (Nat.lt_trans lM.lt (by omega)) hmb)
 have HPS:Hid (∀U:World,aq (fun b=>cC cs b\/W.heap.size<=b) W U->ah U pa ps):=fun U hU j p hj=>by
  obtain⟨b,o,e,h1,h2⟩:=(hps.later hBW) j p hj;have hn:=hpa _ e;have hbl:=block_lt_of_cell h1;have:=CT.out U hU b hbl hn;exact⟨b,o,e,(abJ (a:=⟨b,o+j*2,none⟩) this).trans h1,(abJ (a:=⟨b,o+j*2+1,none⟩) this).trans h2⟩
 have gL:Hid (∀U:World,aq (fun b=>cC cs b\/W.heap.size<=b) W U->U.heap[w.heap.size]? =some (.cells #[.slice ca J cc,.map (some mb)] 248 (0,0))):=fun U hU=>(CT.out U hU _ (by omega) (fun h=>by have:=hcl _ (.inr h);omega)).trans g1
 have cZ:Hid (∀U:World,aq (fun b=>cC cs b\/W.heap.size<=b) W U->U.heap[w.heap.size+1]? =some (.cells #[.int .i64 0,.slice none 0 0,.slice none 0 0] 82 (0,0))):=fun U hU=>(CT.out U hU _ (by omega) (fun h=>by have:=hcl _ (.inr h);omega)).trans g2
 have Ta:Hid (∀U:World,aq (fun b=>cC cs b\/W.heap.size<=b) W U->aq (fun b=>cC cs b) w U):=fun U hU=>by
  have h1:aq (fun b=>cC cs b) w W:=(aq.refl _ w).later hBW;exact⟨hU.os.trans h1.os,hU.tape.trans h1.tape,hU.output.trans h1.output,aaD h1.size hU.size,fun b hb hn=>(CT.out U hU b (by omega) hn).trans (h1.block b hb hn)⟩
 have KQ:Hid (Ku.CP B (.slice ca J cc) cs R ps W 0 (.slice none 0 0) [] W):=⟨⟨R,hR.later hBW,rfl,fun i l hl _=>hl⟩,ay.nil _ _,fun t x hx=>by simp at hx,fun b hb=>(by cases hb),aq.refl _ _⟩;have HS:=ζ hS;have HJ:=ζ hJ;have KI:=ζ DF;have HD:=ζ hd;have yg:=ζ hin;have JJ:J<=4194304:=by rw[<-hJ];exact hS.1
 obtain⟨c0,c1,-⟩:=af g1;obtain⟨z0,z1,z2,zf⟩:=aO g2;have hf0:=zf 0;have qH:=zf 1;have hf2:=zf 2;have hB:Below w.heap.size w W:=hBW;have cH:=ζ hBW;rw[HW.out] at c0 c1 z0 z1 z2 hf0 qH hf2;clear hW hW1 hs1 hB1 hB2 hBW hB g1 g2 hR hS lM hmb DF hps hpa hin hd hJ zf;by_cases hne:J=pn
 .have t1:((J:Int) != (pn:Int))=false:=by simp[hne]
  have M8:Hid (R.length=ps.length):=by rw[HJ.out,KI.out];exact ζ hne
  clear hne;go_enter func213,ntmps213;go_wp2_with fail;rw[<-HW.out];clear c0 c1 z0 z1 z2 hf0 qH hf2;go_loopw [10,24] (fun pv cv wr=>∃(k:Nat) (vs:List Value),k<=pn/\cv= .int .i64 (k:Int)/\Ku.CP B (.slice ca J cc) cs R ps W k pv vs wr/\∀t p,t<k->ps[t]? =some p->∃i,Ku.idx R p=some i) (fun _ cv _=>pn-(intOf cv).toNat)
  case atStart=>exact⟨0,[],aax _,rfl,KQ.out,fun t p ht=>by omega⟩
  case round=>
   obtain⟨k,vs,hk,rfl,hkm,hall⟩:=hrel;obtain⟨U,rfl⟩:∃U,U=wr:=⟨wr,rfl⟩;have Qn:=ζ hkm;have iG:=ζ hall;have Dv:=hkm.wr;have LU:=Dv.size;have hwk:IntKind.i64.wrap ((k:Int)+1)=(k:Int)+1:=by rw[aam];omega
   obtain⟨va,vc,bZ⟩:=bG hkm.pz;have hlv:((ps.take k).map (Ku.pathOf R)).length=k:=by rw[aaE,abu,KI.out];omega
   rw[hlv] at bZ;subst bZ;by_cases hlt:k<pn
   .have aQ:(k:Int)<(pn:Int):=by omega
    have hk0:(0:Int)<=(k:Int):=by omega
    obtain⟨⟨p1,p2⟩,hp⟩:∃p,ps[k]? =some p:=⟨_,aac (by rw[KI.out];exact hlt)⟩;obtain⟨eb,eo,rfl,x0,x1⟩:=HPS.out U Dv k _ hp;dsimp only at x0 x1;have ag0:eb<U.heap.size:=block_lt_of_cell x0;have agZ:eb≠U.heap.size:=by omega
    have HP:=ζ hp;obtain⟨V,hV⟩:∃V,V=U.alloc (.cells #[.int .i64 p1,.int .i64 p2] 57):=⟨_,rfl⟩;have BX:Below U.heap.size U V:=by rw[hV];exact(aae _ _).alloc (aad _) _
    have gV:V.heap[U.heap.size]? =some (.cells #[.int .i64 p1,.int .i64 p2] 57 (0,0)):=by rw[hV];exact heap_alloc_new U _
    have Dw:=Dv.later BX;obtain⟨⟨y1,y2⟩,Ju⟩:∃ky,Ku.key (p1,p2)=ky:=⟨_,rfl⟩;have VV:fW (y1,y2):=by rw[<-Ju];exact yg.out _ (aai hp)
    obtain⟨ci,Mb,sK⟩:=(Zc.out V Dw).look VV;obtain⟨jn,hjn⟩:∃jn,(Ku.opn R R.length (y1,y2)).isSome=jn:=⟨_,rfl⟩;rw[hjn] at Mb;have hyy:(p2<p1/\y1=p2/\y2=p1)\/(¬p2<p1/\y1=p1/\y2=p2):=by
     unfold Ku.key at Ju;dsimp only at Ju
     split at Ju
     .rename_i hh
      cases Ju;exact .inl ⟨hh,rfl,rfl⟩
     .rename_i hh
      cases Ju;exact .inr ⟨hh,rfl,rfl⟩
    have UL:(Instr.lookup 246 (.map (some mb)) (.agg #[.int .i64 (min p1 p2),.int .i64 (max p1 p2)]) true).run prog V= .ok (.tuple #[.int .i64 ci,.bool jn]) V:=by
     rw[show min p1 p2=y1 by omega,show max p1 p2=y2 by omega];exact Mb
    obtain⟨c0,c1,-⟩:=af (gL.out V Dw);obtain⟨v0,v1,-⟩:=af gV;have HV:=ζ hV;have MV:=ζ Dw;have TH:=ζ gV;have He:=ζ BX;have HCI:=ζ sK;have Vx:=ζ Ju;rw[HV.out] at UL c0 c1 v0 v1;have TC:=ζ hjn;clear hkm hall Dv hp hV BX gV Dw sK Ju hlv hyy hjn VV Mb;cases jn with
    |false=>
     have cG:Hid (¬Ku.All R ps):=fun h=>by
      obtain⟨i,hi⟩:=h.2 _ (aai HP.out);unfold Ku.idx at hi;rw[Vx.out] at hi;have:=TC.out;rw[hi] at this;cases this
     obtain⟨z0,z1,z2,zf⟩:=aO (cZ.out V MV.out);have hf0:=zf 0;have qH:=zf 1;have hf2:=zf 2;rw[HV.out] at z0 z1 z2 hf0 qH hf2;clear zf;have agK:w.heap.size+1≠U.heap.size:=by omega
     go_wp2;refine bodyPost_ret (eO rfl rfl _ _ (w.heap.size+1) _ _ _ _ rfl rfl (au z0 z1 z2 _ _ _).1 (au z0 z1 z2 _ _ _).2.1 (au z0 z1 z2 _ _ _).2.2) rfl ?_;rw[<-HV.out];exact⟨.inl ⟨cG.out,rfl⟩,jg (jg (jg (Ta.out V MV.out) (by omega) _ _) (by omega) _ _) (by omega) _ _⟩
    |true=>
     obtain⟨i,hi⟩:∃i,Ku.idx R (p1,p2)=some i:=by
      unfold Ku.idx;rw[Vx.out];exact ad1.1 TC.out
     obtain rfl:ci=(i:Int):=HCI.out i (by have:=hi;unfold Ku.idx at this;rw[Vx.out] at this;exact this);obtain⟨l,hl,-,-⟩:=Ku.Gg hi;obtain⟨x,hx,Xr,⟨gc,cg,hce,hcell⟩,uj⟩:=Qn.out.look HD.out HP.out hi hl;rw[HJ.out] at hce;cases hce;obtain⟨xa,xc,jB,-,-⟩:=Xr.form;obtain⟨q,hq⟩:∃q,l.length=q:=⟨_,rfl⟩;rw[hq] at jB;subst jB;obtain⟨qF,UH,-⟩:=HS.out.2 l (aai hl);rw[hq] at qF UH;have hiJ:(i:Int)<(J:Int):=by have:=Ku.Uy hi;have h2:=HJ.out;omega
     have mj:(0:Int)<=(i:Int):=by omega
     have HX:=ζ hx;have HXO:=ζ Xr;have HXV:=ζ uj;have HI:=ζ hi;have HL:=ζ hl;have HQ:=ζ hq;have hxl:∀b,(Value.slice xa q xc).ownBlock=some b->b<W.heap.size:=fun b hb=>rB.out b (.inr ⟨i,_,hx,hb⟩)
     have Mg:gc<W.heap.size:=rB.out gc (.inl rfl);have gS:Hid (∀t p,t<k+1->ps[t]? =some p->∃i,Ku.idx R p=some i):=fun t p ht hp=>by
      by_cases e:t=k
      .subst e
       rw[HP.out] at hp;cases hp;exact⟨i,HI.out⟩
      .exact iG.out t p (by omega) hp
     have C2:Hid (∀b,(Value.slice xa q xc).ownBlock=some b->b≠gc):=fun b hb e=>by
      obtain⟨C,hC,-,-⟩:=Qn.out.cur;exact hC.far i _ b HX.out hb (by rw[e];rfl)
     have V4:V.cell? ⟨gc,i,none⟩=some (.slice xa q xc):=(He.out.cell (p:=⟨gc,i,none⟩) (block_lt_of_cell hcell)).trans hcell;have GV:Hid (∀Y:World,(∀b,b<V.heap.size->b<W.heap.size->¬(Value.slice xa q xc).ownBlock=some b->Y.heap[b]? =V.heap[b]?)->Y.heap[U.heap.size]? =V.heap[U.heap.size]? ->(Y.cell? ⟨U.heap.size,0,none⟩=some (.int .i64 p1)/\Y.cell? ⟨w.heap.size,0,none⟩=some (.slice (some ⟨gc,0,none⟩) J cc)/\Y.cell? ⟨gc,i,none⟩=some (.slice xa q xc))):=fun Y hY hY2=>by
      refine⟨(af (hY2.trans TH.out)).1,?_,?_⟩
      .have hb:w.heap.size<V.heap.size:=lt_of_block (gL.out V MV.out)
       refine(af ((hY _ hb (by omega) (fun e=> ?_)).trans (gL.out V MV.out))).1;obtain⟨C,hC,-,-⟩:=Qn.out.cur;have:=iE.out _ (.inr ⟨i,_,HX.out,e⟩);omega
      .exact(abJ (a:=⟨gc,i,none⟩) (hY gc (block_lt_of_cell V4) Mg (fun e=>C2.out gc e rfl))).trans V4
     clear hx Xr uj hi hl hq;go_wp2_with fail;rw[<-HV.out];have hVU:=He.out.size;have Yn:U.heap.size<V.heap.size:=lt_of_block TH.out;have x9:=ζ (Qn.out.later He.out);have VO:((ps.take k).map (Ku.pathOf R)).length<=4194304:=by rw[aaE,abu];omega
     have WB:Hid (∀b,(Value.slice va k vc).ownBlock=some b->W.heap.size<=b/\b<U.heap.size):=fun b hb=>⟨Qn.out.own b hb,(Qn.out.pz.within (.inl hb)).2⟩
     have Th:=GV.out V (fun _ _ _ _=>rfl) rfl;have gJ:=GV.out V.drew (fun _ _ _ _=>rfl) rfl;have Zx:=ζ (K3 B xa q xc p1 l V.drew HQ.out (aj.later HXO.out He.out.drew) (by omega) UH);have Od:Hid (∀(u2 X w4:World) (jl:Value),V.drew.grownBy u2 (Value.slice xa q xc).ownBlock->aj u2 B (.slice xa q xc) (Ku.eT p1 l)->Below u2.heap.size u2 X->ay X B (.slice va k vc) vs ((ps.take k).map (Ku.pathOf R))/\aj X B (.slice xa q xc) (Ku.eT p1 l)/\(∀b,(Value.slice xa q xc).ownBlock=some b->¬((Value.slice va k vc).ownBlock=some b\/cC vs b))/\(ay w4 B jl (vs++[.slice xa q xc]) ((ps.take k).map (Ku.pathOf R)++[Ku.eT p1 l])->X.grownBy w4 (Value.slice va k vc).ownBlock->(jl.ownBlock=(Value.slice va k vc).ownBlock\/jl.ownBlock=some X.heap.size)->Ku.CP B (.slice (some ⟨gc,0,none⟩) J cc) cs R ps W (k+1) jl (vs++[.slice xa q xc]) w4)):=fun u2 X w4 jl hg hO hX=>(x9.out.later (aae _ V).drew).step rB.out HD.out HP.out HI.out HL.out HX.out HXV.out hg hO hX
     go_region_held3 (fun Y=>Y.cell? ⟨U.heap.size,0,none⟩=some (.int .i64 p1)/\Y.cell? ⟨w.heap.size,0,none⟩=some (.slice (some ⟨gc,0,none⟩) J cc)/\Y.cell? ⟨gc,i,none⟩=some (.slice xa q xc))
      (first|exact Th|exact gJ|exact B9|exact hSX _|exact Sx)
      (first
        |(go_at_call 263;refine Zx.out.mono ?_;rintro e u2 ⟨rfl,ho2,hg2⟩;have hk2:∀b,b<V.heap.size->¬(Value.slice xa q xc).ownBlock=some b->u2.heap[b]? =V.heap[b]? :=(fun b hb hn=>hg2.block b hb (fun e=>hn e.symm));have hs2:V.heap.size<=u2.heap.size:=hg2.size;have B9:=GV.out u2 (fun b hb _ hn=>hk2 b hb hn) (hk2 _ Yn (fun e=>by have:=hxl _ e;omega));have hSX:=fun (ob:Obj)=>GV.out (u2.alloc ob).drew (fun b hb _ hn=>(heap_alloc_old u2 ob (by omega)).trans (hk2 b hb hn)) ((heap_alloc_old u2 ob (by omega)).trans (hk2 _ Yn (fun e=>by have:=hxl _ e;omega))))
        |(rw[if_pos (by rfl)];refine vk _ _ (by rfl) B (.slice va k vc) vs _ xa q xc _ (Od.out u2 _ V (.slice none 0 0) hg2 ho2 (by first|exact(aae _ _).alloc (aad _) _|exact((aae _ _).alloc (aad _) _).drew)).1 (by simp;omega) (by rfl) u2.heap.size (by rfl) (by exact(cell_one_new _ _ _ 0 _ rfl)) (Od.out u2 _ V (.slice none 0 0) hg2 ho2 (by first|exact(aae _ _).alloc (aad _) _|exact((aae _ _).alloc (aad _) _).drew)).2.1 (Od.out u2 u2 V (.slice none 0 0) hg2 ho2 (aae _ _)).2.2.1 VO ?_;intro v4 w4 DR hg4 lQ;have hK4:=(Od.out u2 _ w4 v4 hg2 ho2 (by first|exact(aae _ _).alloc (aad _) _|exact((aae _ _).alloc (aad _) _).drew)).2.2.2 DR hg4 lQ;have hk4:∀b,b<V.heap.size->¬(Value.slice xa q xc).ownBlock=some b->¬(Value.slice va k vc).ownBlock=some b->w4.heap[b]? =V.heap[b]? :=(fun b hb h1 h2=>(hg4.block b (by simp;omega) (fun e=>h2 e.symm)).trans ((heap_alloc_old u2 _ (by omega)).trans (hk2 b hb h1)));have Sx:=GV.out w4 (fun b hb hbW hn=>hk4 b hb hn (fun e=>by have:=(WB.out b e).1;omega)) (hk4 _ Yn (fun e=>by have:=hxl _ e;omega) (fun e=>by have:=(WB.out _ e).2;omega))))
     have TB:=ζ hK4;clear hK4 hk4 Sx DR hg4 lQ B9 hSX hk2 hs2 ho2 hg2 Th gJ VO;go_wp2;go_roundw
     case rel=>exact⟨k+1,_,by omega,by go_num,TB.out,gS.out⟩
     case measure=>simp[intOf];omega
   .have hdn:¬((k:Int)<(pn:Int)):=by omega
    obtain rfl:k=pn:=by omega
    obtain⟨z0,z1,z2,zf⟩:=aO (cZ.out U Dv);have hf0:=zf 0;have qH:=zf 1;have hf2:=zf 2;have l8:Hid (Ku.All R ps/\ay U B (.slice va k vc) vs (ps.map (Ku.pathOf R))/\(∀b,(Value.slice va k vc).ownBlock=some b->W.heap.size<=b)/\∀b,cC vs b->cC cs b):=by
     refine ζ ⟨⟨M8.out,fun p hp=> ?_⟩,?_,hkm.own,fun b hb=> ?_⟩
     .obtain⟨t,ht⟩:=aaS hp
      exact hall t p (by have:=(aah.1 ht).1;rw[KI.out] at this;exact this) ht
     .have:=hkm.pz
      rw[aaX (by rw[KI.out];exact aad _)] at this;exact this
     .obtain⟨t,y,hy,hyb⟩:=hb
      obtain⟨_,i,_,_,_,hc⟩:=hkm.link t y hy;exact⟨i,y,hc,hyb⟩
    have HWU:=ζ Dv;have Zm:Hid (∀b,cC cs b->b<w.heap.size):=fun b hb=>iE.out b (.inr hb)
    have HPZ:Hid (∀b,cC vs b->b<w.heap.size):=fun b hb=>Zm.out b (l8.out.2.2.2 b hb)
    clear hkm hall Dv zf hlv;have G4:Hid (∀(x y z:Value),ay (((U.setCell ⟨w.heap.size+1,0,none⟩ x).setCell ⟨w.heap.size+1,1,none⟩ y).setCell ⟨w.heap.size+1,2,none⟩ z) B (.slice va k vc) vs (ps.map (Ku.pathOf R))):=fun x y z=>l8.out.2.1.kept fun b hb _=>by
     have hne:b≠w.heap.size+1:=by
      rcases hb with hb|hb
      .have:=l8.out.2.2.1 b hb
       omega
      .have:=HPZ.out b hb
       omega
     rw[heap_setCell_other _ ⟨w.heap.size+1,2,none⟩ b _ hne,heap_setCell_other _ ⟨w.heap.size+1,1,none⟩ b _ hne,heap_setCell_other _ ⟨w.heap.size+1,0,none⟩ b _ hne]
    go_wp2;refine bodyPost_ret (eO rfl rfl _ _ (w.heap.size+1) _ _ _ _ rfl rfl (au z0 z1 z2 _ _ _).1 (au z0 z1 z2 _ _ _).2.1 (au z0 z1 z2 _ _ _).2.2) rfl ?_;exact⟨.inr ⟨l8.out.1,_,vs,rfl,G4.out _ _ _,fun b hb=>by have:=l8.out.2.2.1 b hb;omega,l8.out.2.2.2⟩,jg (jg (jg (Ta.out U HWU.out) (by omega) _ _) (by omega) _ _) (by omega) _ _⟩
 .have t1:((J:Int) != (pn:Int))=true:=by simp;omega
  have sL:Hid (¬Ku.All R ps):=fun h=>hne (by rw[<-HJ.out,<-KI.out];exact h.1)
  clear hne;go_enter func213,ntmps213;go_wp2;refine bodyPost_ret (eO rfl rfl _ _ (w.heap.size+1) _ _ _ _ rfl rfl z0 z1 z2) rfl ?_;rw[<-HW.out];exact⟨.inl ⟨sL.out,rfl⟩,Ta.out W (aq.refl _ _)⟩
end
end Go.Proofs.YtdbjpbjocmcpkaaGreatDoor
