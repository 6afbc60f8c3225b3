import Derived.Test.YtbhdibflpjhpaaaGreatMg08
set_option maxHeartbeats 8000000
set_option maxRecDepth 100000
namespace Go.Proofs.YtbhdibflpjhpaaaGreat
section
open Go.Proofs.Tryz
open Go.RowKit Go.Sort Go.Maps
namespace Ku
def iK (x:Int) (l:List Int):List Int:=if gI l 0=x then l else l.reverse
def key (p:Int×Int):Int×Int:=if p.2<p.1 then (p.2,p.1) else p
def idx (R:List (List Int)) (p:Int×Int):Option Nat:=opn R R.length (key p)
def pathOf (R:List (List Int)) (p:Int×Int):List Int:=iK p.1 (R.getD ((idx R p).getD 0) [])
theorem Qk {R:List (List Int)} {p:Int×Int} {i:Nat} (h:idx R p=some i):i<R.length:=(qz (aad _) h).1
theorem Ch {R:List (List Int)} {p:Int×Int} {i:Nat} (h:idx R p=some i):∃l,R[i]? =some l/\ends l=key p/\(key p).1≠(key p).2:=(qz (aad _) h).2
theorem De {R:List (List Int)} {p:Int×Int} {i:Nat} {l:List Int} (h:idx R p=some i) (hl:R[i]? =some l):pathOf R p=iK p.1 l:=by
 unfold pathOf;rw[h,aag];show iK p.1 (R[i]?.getD [])=_;rw[hl];rfl
theorem Cg {R:List (List Int)} {p q:Int×Int} {i:Nat} (hp:idx R p=some i) (hq:idx R q=some i):key p=key q:=by
 obtain⟨l,h1,h2,_⟩:=Ch hp;obtain⟨l',h3,h4,_⟩:=Ch hq;rw[h1] at h3;cases h3;rw[<-h2,h4]
end Ku
theorem MI (B:Nat) (ao:Option Addr) (q c:Nat) (x:Int) (l:List Int) (w:World) (hq:l.length=q) (h:aH w B (.slice ao q c) l) (h2:1<=q) (hl:q<=17592186044000):
 Calls prog 45 #[.int .i64 x,.slice ao q c] w fun e w'=>e= .returned (.slice ao q c)/\aH w' B (.slice ao q c) (Ku.iK x l)/\w.grownBy w' (Value.slice ao q c).ownBlock:=by
 obtain⟨su,c',e,hat,-⟩:=h.form;rw[hq] at e;cases e;obtain⟨x0,hx0⟩:∃x,l[0]? =some x:=⟨_,aac (by omega)⟩;obtain⟨b,o,rfl,e0⟩:=hat 0 x0 hx0;rw[ado] at e0;have i0:(0:Int)<(q:Int):=by omega
 have Gm:l≠[]:=fun e=>by rw[e] at hq;simp at hq;omega
 have Pc:=ζ (wh B _ l w h Gm (by omega));have jm:=ζ h;have HG:=Ku.eY hx0;by_cases hc:x0=x
 .have t1:(x0 != x)=false:=by simp[hc]
  have HF:Hid (Ku.iK x l=l):=by
   refine ζ ?_;unfold Ku.iK;rw[HG,if_pos hc]
  clear h hat hx0 Gm HG hc;go_enter func45,ntmps45;go_wp2;go_ret;exact⟨rfl,by rw[HF.out];exact jm.out,rfl,rfl,rfl,aad _,fun _ _ _=>rfl⟩
 .have t1:(x0 != x)=true:=by simp[hc]
  have HF:Hid (Ku.iK x l=l.reverse):=by
   refine ζ ?_;unfold Ku.iK;rw[HG,if_neg hc]
  clear h hat hx0 Gm HG hc;go_enter func45,ntmps45;go_wp2_with (go_at_call 41;refine Pc.out.mono ?_;rintro e w3 ⟨rfl,ho,hgr⟩;refine abQ ?_);refine ζ ?_;have HO:=ζ ho;have HGR:=ζ hgr;clear ho hgr;go_wp2;go_ret;exact⟨rfl,by rw[HF.out];exact HO.out,HGR.out⟩
namespace Ku
structure EN (B:Nat) (cv:Value) (cs:List Value) (R:List (List Int)) (ps:List (Int×Int)) (W:World) (k:Nat) (pv:Value) (vs:List Value) (U:World):Prop where
 cur:∃C,aU U B cv cs C/\C.length=R.length/\∀i l,R[i]? =some l->(∀t p,t<k->ps[t]? =some p->idx R p≠some i)->C[i]? =some l
 pz:aU U B pv vs ((ps.take k).map (pathOf R))
 link:∀t x,vs[t]? =some x->∃p i,ps[t]? =some p/\t<k/\idx R p=some i/\cs[i]? =some x
 own:∀b,pv.ownBlock=some b->W.heap.size<=b
 wr:az (fun b=>eX cs b\/W.heap.size<=b) W U
section
variable {B:Nat} {cv:Value} {cs:List Value} {R:List (List Int)} {ps:List (Int×Int)} {W:World} {k:Nat} {pv:Value} {vs:List Value} {U:World}
theorem EN.later {V:World} (h:EN B cv cs R ps W k pv vs U) (hb:Below U.heap.size U V):EN B cv cs R ps W k pv vs V:=by
 obtain⟨C,hC,hl,hc⟩:=h.cur;exact⟨⟨C,hC.later hb,hl,hc⟩,h.pz.later hb,h.link,h.own,h.wr.later hb⟩
theorem EN.look (h:EN B cv cs R ps W k pv vs U) (hd:∀(t t':Nat) (p p':Int×Int),t≠t'->ps[t]? =some p->ps[t']? =some p'->key p≠key p') {p:Int×Int} {i:Nat} {l:List Int} (hp:ps[k]? =some p) (hi:idx R p=some i) (hl:R[i]? =some l):
 ∃x,cs[i]? =some x/\aH U B x l/\(∃g c,cv= .slice (some ⟨g,0,none⟩) R.length c/\U.cell? ⟨g,i,none⟩=some x)/\(∀b,x.ownBlock=some b->¬eX vs b):=by
 obtain⟨C,hC,hCl,hc⟩:=h.cur;have hno:∀t q,t<k->ps[t]? =some q->idx R q≠some i:=fun t q ht hq e=>hd t k q p (by omega) hq hp (Cg e hi)
 have Zu:=hc i l hl hno;obtain⟨x,hx⟩:=hC.WZ Zu;refine⟨x,hx,hC.row i x l hx Zu,?_,fun b hb hin=> ?_⟩
 .obtain⟨g,c,e,hcell⟩:=KG hC hx
  rw[hCl] at e;exact⟨g,c,e,hcell⟩
 .obtain⟨t,y,hy,hyb⟩:=hin
  obtain⟨q,j,hq,ht,hj,Zh⟩:=h.link t y hy;have hij:i≠j:=fun e=>by
   subst e;exact hno t q ht hq hj
  exact hC.apart i j x y b hij hx Zh hb hyb
theorem EN.step {U2 X w4:World} {p:Int×Int} {i:Nat} {l:List Int} {x C9:Value} (h:EN B cv cs R ps W k pv vs U) (hW:∀b,(cv.ownBlock=some b\/eX cs b)->b<W.heap.size) (hd:∀(t t':Nat) (p p':Int×Int),t≠t'->ps[t]? =some p->ps[t']? =some p'->key p≠key p') (hp:ps[k]? =some p) (hi:idx R p=some i) (hl:R[i]? =some l) (hx:cs[i]? =some x) (UM:∀b,x.ownBlock=some b->¬eX vs b)
 (hg:U.grownBy U2 x.ownBlock) (hO:aH U2 B x (iK p.1 l)) (hX:Below U2.heap.size U2 X):
 aU X B pv vs ((ps.take k).map (pathOf R))/\aH X B x (iK p.1 l)/\(∀b,x.ownBlock=some b->¬(pv.ownBlock=some b\/eX vs b))/\
 (aU w4 B C9 (vs++[x]) ((ps.take k).map (pathOf R)++[iK p.1 l])->X.grownBy w4 pv.ownBlock->(C9.ownBlock=pv.ownBlock\/C9.ownBlock=some X.heap.size)->EN B cv cs R ps W (k+1) C9 (vs++[x]) w4):=by
 obtain⟨C,hC,hCl,hc⟩:=h.cur;have hxl:∀b,x.ownBlock=some b->b<W.heap.size:=fun b hb=>hW b (.inr ⟨i,x,hx,hb⟩)
 have Sn:∀b,x.ownBlock=some b->pv.ownBlock≠some b:=fun b hb e=>by
  have:=h.own b e;have:=hxl b hb;omega
 have hpz:aU X B pv vs ((ps.take k).map (pathOf R)):=(h.pz.kept fun b hb hlt=>hg.block b hlt (fun e=>by
  rcases hb with hb|hb
  .exact Sn b e.symm hb
  .exact UM b e.symm hb)).later hX
 refine⟨hpz,hO.later hX,fun b hb Vg=> ?_,fun Oy hg4 hat=> ?_⟩
 .rcases Vg with Vg|Vg
  .exact Sn b hb Vg
  .exact UM b hb Vg
 .have U4:=hg.size
  have hsX:=hX.size;have Y0:=hg4.size;have hWU:=h.wr.size;have keep:∀b,b<U.heap.size->x.ownBlock≠some b->pv.ownBlock≠some b->w4.heap[b]? =U.heap[b]? :=fun b hb h1 h2=>by
   rw[hg4.block b (by omega) (fun e=>h2 e.symm),hX.block b (by omega),hg.block b hb (fun e=>h1 e.symm)]
  have hOw:aH w4 B x (iK p.1 l):=(hO.later hX).same fun b hb hlt=>hg4.block b hlt (fun e=>Sn b hb e.symm)
  have Zu:C[i]? =some l:=hc i l hl fun t q ht hq e=>hd t k q p (by omega) hq hp (Cg e hi)
  have ahY:=(aaf.1 Zu).1;refine⟨⟨C.set i (iK p.1 l),?_,by rw[acJ];exact hCl,?_⟩,?_,?_,?_,?_⟩
  .refine⟨by rw[acJ];exact hC.len,?_,?_,hC.apart,hC.far⟩
   .rw[acJ]
    exact lQ hC.outer fun b hb _ hlt=>keep b hlt (fun e=>hC.far i x b hx e hb) (fun e=>by
     have a1:=h.own b e;have a2:=hW b (.inl hb);omega)
   .intro u y m hy hm
    by_cases hui:u=i
    .subst hui
     rw[hx] at hy;cases hy;rw[List.getElem?_set_self ahY] at hm;cases hm;exact hOw
    .rw[List.getElem?_set_ne (aao hui)] at hm
     refine(hC.row u y m hy hm).same fun b hb hlt=>keep b hlt (fun e=>hC.apart u i y x b hui hy hx hb e) (fun e=> ?_)
     have a1:=h.own b e;have a2:=hW b (.inr ⟨u,y,hy,hb⟩);omega
  .intro j m hm hno
   have hij:j≠i:=fun e=>hno k p (by omega) hp (by rw[e];exact hi)
   rw[List.getElem?_set_ne (aao hij)];exact hc j m hm fun t q ht hq=>hno t q (by omega) hq
  .have e:(ps.take (k+1)).map (pathOf R)=(ps.take k).map (pathOf R)++[iK p.1 l]:=by
    rw[ade,hp,acS];show _++[pathOf R p]=_;rw[De hi hl]
   rw[e];exact Oy
  .intro t y hy
   have hvl:=h.pz.len;rw[aco,adJ] at hvl;have hkp:=(aaf.1 hp).1;by_cases ht:t<vs.length
   .rw[acF ht] at hy
    obtain⟨q,j,h1,h2,h3,h4⟩:=h.link t y hy;exact⟨q,j,h1,by omega,h3,h4⟩
   .have ht2:=(aaf.1 hy).1
    simp at ht2;have:t=k:=by omega
    subst this;rw[acM (by omega)] at hy;rw[show t-vs.length=0 by omega] at hy;cases hy;exact⟨p,i,hp,by omega,hi,hx⟩
  .intro b hb
   rcases hat with e|e
   .exact h.own b (e▸hb)
   .rw[e] at hb
    cases hb;omega
  .refine h.wr.trans ⟨?_,?_,?_,by omega,fun b hb hne=>keep b hb (fun e=>hne (.inl ⟨i,x,hx,e⟩)) (fun e=>hne (.inr (h.own b e)))⟩
   .rw[hg4.os,hX.os,hg.os]
   .rw[hg4.tape,hX.tape,hg.tape]
   .rw[hg4.output,hX.output,hg.output]
end
end Ku
end
section
open Go.RowKit Go.Sort
namespace Ku
def Iz (kd:Nat) (i:Nat):Nat->List (Nat×Nat)
 |0=>[]
 |j+1=>if i<j/\¬(kd=2/\(3<=i\/j<3)) then Iz kd i j++[(i,j)] else Iz kd i j
def out (kd L:Nat):Nat->List (Nat×Nat)
 |0=>[]
 |i+1=>out kd L i++Iz kd i L
def way (R:List (List Int)) (br:List Int) (p:Nat×Nat):List Int×Nat:=WW R (gI br p.1) (gI br p.2) R.length
end Ku
namespace Ku
section
end
end Ku
theorem gu {fn:Func} {P:Program} {p q r:Tmp} (h:fn.results= #[.cell p 30,.tmp q,.tmp r]) (hP:P=Tryz.prog) (tmps:Array Value) (w:World) (b:Nat) (x y z u v:Value) (hp:tmps.getD p undef= .pointer (some ⟨b,0,none⟩)) (hq:tmps.getD q undef=u) (hr:tmps.getD r undef=v) (h0:w.cell? ⟨b,0,none⟩=some x) (h1:w.cell? ⟨b,1,none⟩=some y) (h2:w.cell? ⟨b,2,none⟩=some z):(results fn tmps).run P w= .ok (.tuple #[.agg #[x,y,z],u,v]) w:=by
 subst hP;have hp':tmps[p]?.getD undef= .pointer (some ⟨b,0,none⟩):=by simpa using hp
 have hq':tmps[q]?.getD undef=u:=by simpa using hq
 have hr':tmps[r]?.getD undef=v:=by simpa using hr
 simp[results,h,go_sem,hp',hq',hr',h0,h1,h2]
theorem aI {w:World} {b:Nat} {s t u:Value} (hs:w.cell? ⟨b,0,none⟩=some s) (ht:w.cell? ⟨b,1,none⟩=some t) (hu:w.cell? ⟨b,2,none⟩=some u) (x y z:Value):(((w.setCell ⟨b,0,none⟩ x).setCell ⟨b,1,none⟩ y).setCell ⟨b,2,none⟩ z).cell? ⟨b,0,none⟩=some x/\(((w.setCell ⟨b,0,none⟩ x).setCell ⟨b,1,none⟩ y).setCell ⟨b,2,none⟩ z).cell? ⟨b,1,none⟩=some y/\(((w.setCell ⟨b,0,none⟩ x).setCell ⟨b,1,none⟩ y).setCell ⟨b,2,none⟩ z).cell? ⟨b,2,none⟩=some z:=by
 refine⟨?_,?_,?_⟩<;>simp[go_sem,hs,ht,hu]
theorem fN {B:Nat} {w W:World} {b:Nat} (h:Below B w W) (hb:B<=b) (x y z:Value):Below B w (((W.setCell ⟨b,0,none⟩ x).setCell ⟨b,1,none⟩ y).setCell ⟨b,2,none⟩ z):=
 ((h.setCell (p:=⟨b,0,none⟩) hb _).setCell (p:=⟨b,1,none⟩) hb _).setCell (p:=⟨b,2,none⟩) hb _
end
section
open Go.Proofs.Tryz
open Go.RowKit Go.Sort Go.Maps
theorem gw {fn:Func} {P:Program} {p q:Tmp} (h:fn.results= #[.cell p 30,.tmp q]) (hP:P=prog) (tmps:Array Value) (w:World) (b:Nat) (x y z u:Value) (hp:tmps.getD p undef= .pointer (some ⟨b,0,none⟩)) (hq:tmps.getD q undef=u) (h0:w.cell? ⟨b,0,none⟩=some x) (h1:w.cell? ⟨b,1,none⟩=some y) (h2:w.cell? ⟨b,2,none⟩=some z):(results fn tmps).run P w= .ok (.tuple #[.agg #[x,y,z],u]) w:=by
 subst hP;have hp':tmps[p]?.getD undef= .pointer (some ⟨b,0,none⟩):=by simpa using hp
 have hq':tmps[q]?.getD undef=u:=by simpa using hq
 simp[results,h,go_sem,hp',hq',h0,h1,h2]
theorem lM {S:Nat->Prop} {w V:World} (h:az S w V) {b:Nat} (hb:w.heap.size<=b) (i:Nat) (x:Value):az S w (V.setCell ⟨b,i,none⟩ x):=
 ⟨h.os,h.tape,h.output,by simpa using h.size,fun k hk hn=>(heap_setCell_other V ⟨b,i,none⟩ k x (by show k≠b;omega)).trans (h.block k hk hn)⟩
namespace Ku
def pK:Value:= .agg #[.int .i64 0,.slice none 0 0,.slice none 0 0]
def All (R:List (List Int)) (ps:List (Int×Int)):Prop:=R.length=ps.length/\∀p∈ps,∃i,idx R p=some i
def pR (B:Nat) (cs:List Value) (R:List (List Int)) (kd:Int) (bv:Value) (ps:List (Int×Int)) (w:World) (e:Ending) (w':World):Prop:=
 ((¬All R ps/\e= .returned (.tuple #[pK,.bool false]))\/(All R ps/\∃pv vs,e= .returned (.tuple #[.agg #[.int .i64 kd,bv,pv],.bool true])/\aU w' B pv vs (ps.map (pathOf R))/\(∀b,pv.ownBlock=some b->w.heap.size<=b)/\∀b,eX vs b->eX cs b))/\az (fun b=>eX cs b) w w'
end Ku
theorem CC (B:Nat) (ca:Option Addr) (J cc mb nb:Nat) (cs:List Value) (R:List (List Int)) (kd:Int) (bo:Option Addr) (bn bc:Nat) (pa:Option Addr) (pn pc:Nat) (ps:List (Int×Int)) (w:World)
 (hJ:R.length=J) (hBw:B<=w.heap.size) (hR:aU w B (.slice ca J cc) cs R) (hS:Ku.Small R) (oy:Ku.OM w mb nb (Ku.opn R R.length)) (hmb:¬eX cs mb) (DX:ps.length=pn) (hpl:pn<=4194304) (hps:aN w pa ps) (hpa:∀x,pa=some x->¬eX cs x.block)
 (hin:∀p∈ps,jl (Ku.key p)) (hd:∀(t t':Nat) (p p':Int×Int),t≠t'->ps[t]? =some p->ps[t']? =some p'->Ku.key p≠Ku.key p'):
 Calls prog 30 #[.agg #[.slice ca J cc,.map (some mb)],.int .i64 kd,.slice bo bn bc,.slice pa pn pc] w (Ku.pR B cs R kd (.slice bo bn bc) ps w):=by
 obtain⟨W1,hW1⟩:∃W1,W1=w.alloc (.cells #[.slice ca J cc,.map (some mb)] 54):=⟨_,rfl⟩;obtain⟨W,hW⟩:∃W,W=W1.alloc (.cells #[.int .i64 0,.slice none 0 0,.slice none 0 0] 30):=⟨_,rfl⟩;have hs1:W1.heap.size=w.heap.size+1:=by rw[hW1];simp
 have hB1:Below w.heap.size w W1:=by rw[hW1];exact(aae _ _).alloc (aad _) _
 have hB2:Below W1.heap.size W1 W:=by rw[hW];exact(aae _ _).alloc (aad _) _
 have jE:Below w.heap.size w W:=hB1.trans (hB2.mono hB1.size);have g1:W.heap[w.heap.size]? =some (.cells #[.slice ca J cc,.map (some mb)] 54 (0,0)):=by
  rw[hB2.block _ (by omega),hW1];exact heap_alloc_new w _
 have g2:W.heap[w.heap.size+1]? =some (.cells #[.int .i64 0,.slice none 0 0,.slice none 0 0] 30 (0,0)):=by rw[hW,<-hs1];exact heap_alloc_new W1 _
 have Zm:w.heap.size+1<W.heap.size:=lt_of_block g2;have HW:Hid (W=(w.alloc (.cells #[.slice ca J cc,.map (some mb)] 54)).alloc (.cells #[.int .i64 0,.slice none 0 0,.slice none 0 0] 30)):=by rw[hW,hW1];exact ζ rfl
 have hcl:∀b,((Value.slice ca J cc).ownBlock=some b\/eX cs b)->b<w.heap.size:=fun b hb=>(hR.within hb).2
 have sQ:Hid (∀b,((Value.slice ca J cc).ownBlock=some b\/eX cs b)->b<w.heap.size):=hcl;have q8:Hid (∀b,((Value.slice ca J cc).ownBlock=some b\/eX cs b)->b<W.heap.size):=fun b hb=>Nat.lt_trans (hcl b hb) (by omega)
 have ES:Hid (∀U:World,az (fun b=>eX cs b\/W.heap.size<=b) W U->∀b,b<W.heap.size->¬eX cs b->U.heap[b]? =W.heap[b]?):=fun U hU b hb hn=>hU.block b hb (fun h=>by
  rcases h with h|h
  .exact hn h
  .omega)
 have HOM:Hid (∀U:World,az (fun b=>eX cs b\/W.heap.size<=b) W U->Ku.OM U mb nb (Ku.opn R R.length)):=fun U hU=>(oy.later jE).kept (ES.out U hU mb (Nat.lt_trans oy.lt (by omega)) hmb)
 have HPS:Hid (∀U:World,az (fun b=>eX cs b\/W.heap.size<=b) W U->aN U pa ps):=fun U hU j p hj=>by
  obtain⟨b,o,e,h1,h2⟩:=(hps.later jE) j p hj;have hn:=hpa _ e;have hbl:=block_lt_of_cell h1;have:=ES.out U hU b hbl hn;exact⟨b,o,e,(aea (a:=⟨b,o+j*2,none⟩) this).trans h1,(aea (a:=⟨b,o+j*2+1,none⟩) this).trans h2⟩
 have mY:Hid (∀U:World,az (fun b=>eX cs b\/W.heap.size<=b) W U->U.heap[w.heap.size]? =some (.cells #[.slice ca J cc,.map (some mb)] 54 (0,0))):=fun U hU=>(ES.out U hU _ (by omega) (fun h=>by have:=hcl _ (.inr h);omega)).trans g1
 have jG:Hid (∀U:World,az (fun b=>eX cs b\/W.heap.size<=b) W U->U.heap[w.heap.size+1]? =some (.cells #[.int .i64 0,.slice none 0 0,.slice none 0 0] 30 (0,0))):=fun U hU=>(ES.out U hU _ (by omega) (fun h=>by have:=hcl _ (.inr h);omega)).trans g2
 have qg:Hid (∀U:World,az (fun b=>eX cs b\/W.heap.size<=b) W U->az (fun b=>eX cs b) w U):=fun U hU=>by
  have h1:az (fun b=>eX cs b) w W:=(az.refl _ w).later jE;exact⟨hU.os.trans h1.os,hU.tape.trans h1.tape,hU.output.trans h1.output,acA h1.size hU.size,fun b hb hn=>(ES.out U hU b (by omega) hn).trans (h1.block b hb hn)⟩
 have HK0:Hid (Ku.EN B (.slice ca J cc) cs R ps W 0 (.slice none 0 0) [] W):=⟨⟨R,hR.later jE,rfl,fun i l hl _=>hl⟩,aU.nil _ _,fun t x hx=>by simp at hx,fun b hb=>(by cases hb),az.refl _ _⟩;have HS:=ζ hS;have HJ:=ζ hJ;have Mj:=ζ DX;have HD:=ζ hd;have qY:=ζ hin;have hJl:J<=4194304:=by rw[<-hJ];exact hS.1
 obtain⟨c0,c1,-⟩:=aj g1;obtain⟨z0,z1,z2,zf⟩:=cu g2;have hf0:=zf 0;have vW:=zf 1;have hf2:=zf 2;have hB:Below w.heap.size w W:=jE;have fP:=ζ jE;rw[HW.out] at c0 c1 z0 z1 z2 hf0 vW hf2;clear hW hW1 hs1 hB1 hB2 jE hB g1 g2 hR hS oy hmb DX hps hpa hin hd hJ zf;by_cases hne:J=pn
 .have t1:((J:Int) != (pn:Int))=false:=by simp[hne]
  have HEQ:Hid (R.length=ps.length):=by rw[HJ.out,Mj.out];exact ζ hne
  clear hne;go_enter func30,ntmps30;go_wp2_with fail;rw[<-HW.out];clear c0 c1 z0 z1 z2 hf0 vW hf2;go_loopw [10,24] (fun pv cv wr=>∃(k:Nat) (vs:List Value),k<=pn/\cv= .int .i64 (k:Int)/\Ku.EN B (.slice ca J cc) cs R ps W k pv vs wr/\∀t p,t<k->ps[t]? =some p->∃i,Ku.idx R p=some i) (fun _ cv _=>pn-(intOf cv).toNat)
  case atStart=>exact⟨0,[],ab6 _,rfl,HK0.out,fun t p ht=>by omega⟩
  case round=>
   obtain⟨k,vs,hk,rfl,hkm,hall⟩:=hrel;obtain⟨U,rfl⟩:∃U,U=wr:=⟨wr,rfl⟩;have Tm:=ζ hkm;have q9:=ζ hall;have Ff:=hkm.wr;have U4:=Ff.size;have hwk:IntKind.i64.wrap ((k:Int)+1)=(k:Int)+1:=by rw[acf];omega
   obtain⟨va,vc,qH⟩:=gU hkm.pz;have hlv:((ps.take k).map (Ku.pathOf R)).length=k:=by rw[aco,adJ,Mj.out];omega
   rw[hlv] at qH;subst qH;by_cases hlt:k<pn
   .have kR:(k:Int)<(pn:Int):=by omega
    have hk0:(0:Int)<=(k:Int):=by omega
    obtain⟨⟨p1,p2⟩,hp⟩:∃p,ps[k]? =some p:=⟨_,aac (by rw[Mj.out];exact hlt)⟩;obtain⟨eb,eo,rfl,x0,x1⟩:=HPS.out U Ff k _ hp;dsimp only at x0 x1;have anH:eb<U.heap.size:=block_lt_of_cell x0;have anG:eb≠U.heap.size:=by omega
    have HP:=ζ hp;obtain⟨V,hV⟩:∃V,V=U.alloc (.cells #[.int .i64 p1,.int .i64 p2] 69):=⟨_,rfl⟩;have xj:Below U.heap.size U V:=by rw[hV];exact(aae _ _).alloc (aad _) _
    have gV:V.heap[U.heap.size]? =some (.cells #[.int .i64 p1,.int .i64 p2] 69 (0,0)):=by rw[hV];exact heap_alloc_new U _
    have KQ:=Ff.later xj;obtain⟨⟨y1,y2⟩,BF⟩:∃ky,Ku.key (p1,p2)=ky:=⟨_,rfl⟩;have aa1:jl (y1,y2):=by rw[<-BF];exact qY.out _ (aah hp)
    obtain⟨ci,Od,Oq⟩:=(HOM.out V KQ).look aa1;obtain⟨jn,hjn⟩:∃jn,(Ku.opn R R.length (y1,y2)).isSome=jn:=⟨_,rfl⟩;rw[hjn] at Od;have YV:(p2<p1/\y1=p2/\y2=p1)\/(¬p2<p1/\y1=p1/\y2=p2):=by
     unfold Ku.key at BF;dsimp only at BF
     split at BF
     .rename_i hh
      cases BF;exact .inl ⟨hh,rfl,rfl⟩
     .rename_i hh
      cases BF;exact .inr ⟨hh,rfl,rfl⟩
    have Y5:(Instr.lookup 52 (.map (some mb)) (.agg #[.int .i64 (min p1 p2),.int .i64 (max p1 p2)]) true).run prog V= .ok (.tuple #[.int .i64 ci,.bool jn]) V:=by
     rw[show min p1 p2=y1 by omega,show max p1 p2=y2 by omega];exact Od
    obtain⟨c0,c1,-⟩:=aj (mY.out V KQ);obtain⟨v0,v1,-⟩:=aj gV;have HV:=ζ hV;have Jp:=ζ KQ;have XY:=ζ gV;have Jw:=ζ xj;have HCI:=ζ Oq;have HKE:=ζ BF;rw[HV.out] at Y5 c0 c1 v0 v1;have XU:=ζ hjn;clear hkm hall Ff hp hV xj gV KQ Oq BF hlv YV hjn aa1 Od;cases jn with
    |false=>
     have lg:Hid (¬Ku.All R ps):=fun h=>by
      obtain⟨i,hi⟩:=h.2 _ (aah HP.out);unfold Ku.idx at hi;rw[HKE.out] at hi;have:=XU.out;rw[hi] at this;cases this
     obtain⟨z0,z1,z2,zf⟩:=cu (jG.out V Jp.out);have hf0:=zf 0;have vW:=zf 1;have hf2:=zf 2;rw[HV.out] at z0 z1 z2 hf0 vW hf2;clear zf;have anr:w.heap.size+1≠U.heap.size:=by omega
     go_wp2;refine bodyPost_ret (gw rfl rfl _ _ (w.heap.size+1) _ _ _ _ rfl rfl (aI z0 z1 z2 _ _ _).1 (aI z0 z1 z2 _ _ _).2.1 (aI z0 z1 z2 _ _ _).2.2) rfl ?_;rw[<-HV.out];exact⟨.inl ⟨lg.out,rfl⟩,lM (lM (lM (qg.out V Jp.out) (by omega) _ _) (by omega) _ _) (by omega) _ _⟩
    |true=>
     obtain⟨i,hi⟩:∃i,Ku.idx R (p1,p2)=some i:=by
      unfold Ku.idx;rw[HKE.out];exact Option.isSome_iff_exists.1 XU.out
     obtain rfl:ci=(i:Int):=HCI.out i (by have:=hi;unfold Ku.idx at this;rw[HKE.out] at this;exact this);obtain⟨l,hl,-,-⟩:=Ku.Ch hi;obtain⟨x,hx,hxo,⟨gc,cg,hce,hcell⟩,UM⟩:=Tm.out.look HD.out HP.out hi hl;rw[HJ.out] at hce;cases hce;obtain⟨xa,xc,o8,-,-⟩:=hxo.form;obtain⟨q,hq⟩:∃q,l.length=q:=⟨_,rfl⟩;rw[hq] at o8;subst o8;obtain⟨BC,KU,-⟩:=HS.out.2 l (aah hl);rw[hq] at BC KU;have hiJ:(i:Int)<(J:Int):=by have:=Ku.Qk hi;have h2:=HJ.out;omega
     have D6:(0:Int)<=(i:Int):=by omega
     have HX:=ζ hx;have HXO:=ζ hxo;have HXV:=ζ UM;have HI:=ζ hi;have HL:=ζ hl;have HQ:=ζ hq;have hxl:∀b,(Value.slice xa q xc).ownBlock=some b->b<W.heap.size:=fun b hb=>q8.out b (.inr ⟨i,_,hx,hb⟩)
     have BJ:gc<W.heap.size:=q8.out gc (.inl rfl);have kD:Hid (∀t p,t<k+1->ps[t]? =some p->∃i,Ku.idx R p=some i):=fun t p ht hp=>by
      by_cases e:t=k
      .subst e
       rw[HP.out] at hp;cases hp;exact⟨i,HI.out⟩
      .exact q9.out t p (by omega) hp
     have Mu:Hid (∀b,(Value.slice xa q xc).ownBlock=some b->b≠gc):=fun b hb e=>by
      obtain⟨C,hC,-,-⟩:=Tm.out.cur;exact hC.far i _ b HX.out hb (by rw[e];rfl)
     have aa8:V.cell? ⟨gc,i,none⟩=some (.slice xa q xc):=(Jw.out.cell (p:=⟨gc,i,none⟩) (block_lt_of_cell hcell)).trans hcell;have xK:Hid (∀Y:World,(∀b,b<V.heap.size->b<W.heap.size->¬(Value.slice xa q xc).ownBlock=some b->Y.heap[b]? =V.heap[b]?)->Y.heap[U.heap.size]? =V.heap[U.heap.size]? ->(Y.cell? ⟨U.heap.size,0,none⟩=some (.int .i64 p1)/\Y.cell? ⟨w.heap.size,0,none⟩=some (.slice (some ⟨gc,0,none⟩) J cc)/\Y.cell? ⟨gc,i,none⟩=some (.slice xa q xc))):=fun Y hY hY2=>by
      refine⟨(aj (hY2.trans XY.out)).1,?_,?_⟩
      .have hb:w.heap.size<V.heap.size:=lt_of_block (mY.out V Jp.out)
       refine(aj ((hY _ hb (by omega) (fun e=> ?_)).trans (mY.out V Jp.out))).1;obtain⟨C,hC,-,-⟩:=Tm.out.cur;have:=sQ.out _ (.inr ⟨i,_,HX.out,e⟩);omega
      .exact(aea (a:=⟨gc,i,none⟩) (hY gc (block_lt_of_cell aa8) BJ (fun e=>Mu.out gc e rfl))).trans aa8
     clear hx hxo UM hi hl hq;go_wp2_with fail;rw[<-HV.out];have hVU:=Jw.out.size;have hUV:U.heap.size<V.heap.size:=lt_of_block XY.out;have HKV:=ζ (Tm.out.later Jw.out);have aaM:((ps.take k).map (Ku.pathOf R)).length<=4194304:=by rw[aco,adJ];omega
     have abt:Hid (∀b,(Value.slice va k vc).ownBlock=some b->W.heap.size<=b/\b<U.heap.size):=fun b hb=>⟨Tm.out.own b hb,(Tm.out.pz.within (.inl hb)).2⟩
     have XE:=xK.out V (fun _ _ _ _=>rfl) rfl;have Pa:=xK.out V.drew (fun _ _ _ _=>rfl) rfl;have ae6:=ζ (MI B xa q xc p1 l V.drew HQ.out (aH.later HXO.out Jw.out.drew) (by omega) KU);have GU:Hid (∀(u2 X w4:World) (C9:Value),V.drew.grownBy u2 (Value.slice xa q xc).ownBlock->aH u2 B (.slice xa q xc) (Ku.iK p1 l)->Below u2.heap.size u2 X->aU X B (.slice va k vc) vs ((ps.take k).map (Ku.pathOf R))/\aH X B (.slice xa q xc) (Ku.iK p1 l)/\(∀b,(Value.slice xa q xc).ownBlock=some b->¬((Value.slice va k vc).ownBlock=some b\/eX vs b))/\(aU w4 B C9 (vs++[.slice xa q xc]) ((ps.take k).map (Ku.pathOf R)++[Ku.iK p1 l])->X.grownBy w4 (Value.slice va k vc).ownBlock->(C9.ownBlock=(Value.slice va k vc).ownBlock\/C9.ownBlock=some X.heap.size)->Ku.EN B (.slice (some ⟨gc,0,none⟩) J cc) cs R ps W (k+1) C9 (vs++[.slice xa q xc]) w4)):=fun u2 X w4 C9 hg hO hX=>(HKV.out.later (aae _ V).drew).step q8.out HD.out HP.out HI.out HL.out HX.out HXV.out hg hO hX
     go_region_held3 (fun Y=>Y.cell? ⟨U.heap.size,0,none⟩=some (.int .i64 p1)/\Y.cell? ⟨w.heap.size,0,none⟩=some (.slice (some ⟨gc,0,none⟩) J cc)/\Y.cell? ⟨gc,i,none⟩=some (.slice xa q xc))
      (first|exact XE|exact Pa|exact Wb|exact hSX _|exact hS4)
      (first
        |(go_at_call 45;refine ae6.out.mono ?_;rintro e u2 ⟨rfl,ho2,hg2⟩;have hk2:∀b,b<V.heap.size->¬(Value.slice xa q xc).ownBlock=some b->u2.heap[b]? =V.heap[b]? :=(fun b hb hn=>hg2.block b hb (fun e=>hn e.symm));have hs2:V.heap.size<=u2.heap.size:=hg2.size;have Wb:=xK.out u2 (fun b hb _ hn=>hk2 b hb hn) (hk2 _ hUV (fun e=>by have:=hxl _ e;omega));have hSX:=fun (ob:Obj)=>xK.out (u2.alloc ob).drew (fun b hb _ hn=>(heap_alloc_old u2 ob (by omega)).trans (hk2 b hb hn)) ((heap_alloc_old u2 ob (by omega)).trans (hk2 _ hUV (fun e=>by have:=hxl _ e;omega))))
        |(rw[if_pos (by rfl)];refine xM _ _ (by rfl) B (.slice va k vc) vs _ xa q xc _ (GU.out u2 _ V (.slice none 0 0) hg2 ho2 (by first|exact(aae _ _).alloc (aad _) _|exact((aae _ _).alloc (aad _) _).drew)).1 (by simp;omega) (by rfl) u2.heap.size (by rfl) (by exact(cell_one_new _ _ _ 0 _ rfl)) (GU.out u2 _ V (.slice none 0 0) hg2 ho2 (by first|exact(aae _ _).alloc (aad _) _|exact((aae _ _).alloc (aad _) _).drew)).2.1 (GU.out u2 u2 V (.slice none 0 0) hg2 ho2 (aae _ _)).2.2.1 aaM ?_;intro v4 w4 Oy hg4 Lh;have hK4:=(GU.out u2 _ w4 v4 hg2 ho2 (by first|exact(aae _ _).alloc (aad _) _|exact((aae _ _).alloc (aad _) _).drew)).2.2.2 Oy hg4 Lh;have hk4:∀b,b<V.heap.size->¬(Value.slice xa q xc).ownBlock=some b->¬(Value.slice va k vc).ownBlock=some b->w4.heap[b]? =V.heap[b]? :=(fun b hb h1 h2=>(hg4.block b (by simp;omega) (fun e=>h2 e.symm)).trans ((heap_alloc_old u2 _ (by omega)).trans (hk2 b hb h1)));have hS4:=xK.out w4 (fun b hb dJ hn=>hk4 b hb hn (fun e=>by have:=(abt.out b e).1;omega)) (hk4 _ hUV (fun e=>by have:=hxl _ e;omega) (fun e=>by have:=(abt.out _ e).2;omega))))
     have HK4:=ζ hK4;clear hK4 hk4 hS4 Oy hg4 Lh Wb hSX hk2 hs2 ho2 hg2 XE Pa aaM;go_wp2;go_roundw
     case rel=>exact⟨k+1,_,by omega,by go_num,HK4.out,kD.out⟩
     case measure=>simp[intOf];omega
   .have hdn:¬((k:Int)<(pn:Int)):=by omega
    obtain rfl:k=pn:=by omega
    obtain⟨z0,z1,z2,zf⟩:=cu (jG.out U Ff);have hf0:=zf 0;have vW:=zf 1;have hf2:=zf 2;have q7:Hid (Ku.All R ps/\aU U B (.slice va k vc) vs (ps.map (Ku.pathOf R))/\(∀b,(Value.slice va k vc).ownBlock=some b->W.heap.size<=b)/\∀b,eX vs b->eX cs b):=by
     refine ζ ⟨⟨HEQ.out,fun p hp=> ?_⟩,?_,hkm.own,fun b hb=> ?_⟩
     .obtain⟨t,ht⟩:=ac5 hp
      exact hall t p (by have:=(aaf.1 ht).1;rw[Mj.out] at this;exact this) ht
     .have:=hkm.pz
      rw[acL (by rw[Mj.out];exact aad _)] at this;exact this
     .obtain⟨t,y,hy,hyb⟩:=hb
      obtain⟨_,i,_,_,_,hc⟩:=hkm.link t y hy;exact⟨i,y,hc,hyb⟩
    have HWU:=ζ Ff;have aeM:Hid (∀b,eX cs b->b<w.heap.size):=fun b hb=>sQ.out b (.inr hb)
    have HPZ:Hid (∀b,eX vs b->b<w.heap.size):=fun b hb=>aeM.out b (q7.out.2.2.2 b hb)
    clear hkm hall Ff zf hlv;have aeS:Hid (∀(x y z:Value),aU (((U.setCell ⟨w.heap.size+1,0,none⟩ x).setCell ⟨w.heap.size+1,1,none⟩ y).setCell ⟨w.heap.size+1,2,none⟩ z) B (.slice va k vc) vs (ps.map (Ku.pathOf R))):=fun x y z=>q7.out.2.1.kept fun b hb _=>by
     have hne:b≠w.heap.size+1:=by
      rcases hb with hb|hb
      .have:=q7.out.2.2.1 b hb
       omega
      .have:=HPZ.out b hb
       omega
     rw[heap_setCell_other _ ⟨w.heap.size+1,2,none⟩ b _ hne,heap_setCell_other _ ⟨w.heap.size+1,1,none⟩ b _ hne,heap_setCell_other _ ⟨w.heap.size+1,0,none⟩ b _ hne]
    go_wp2;refine bodyPost_ret (gw rfl rfl _ _ (w.heap.size+1) _ _ _ _ rfl rfl (aI z0 z1 z2 _ _ _).1 (aI z0 z1 z2 _ _ _).2.1 (aI z0 z1 z2 _ _ _).2.2) rfl ?_;exact⟨.inr ⟨q7.out.1,_,vs,rfl,aeS.out _ _ _,fun b hb=>by have:=q7.out.2.2.1 b hb;omega,q7.out.2.2.2⟩,lM (lM (lM (qg.out U HWU.out) (by omega) _ _) (by omega) _ _) (by omega) _ _⟩
 .have t1:((J:Int) != (pn:Int))=true:=by simp;omega
  have zg:Hid (¬Ku.All R ps):=fun h=>hne (by rw[<-HJ.out,<-Mj.out];exact h.1)
  clear hne;go_enter func30,ntmps30;go_wp2;refine bodyPost_ret (gw rfl rfl _ _ (w.heap.size+1) _ _ _ _ rfl rfl z0 z1 z2) rfl ?_;rw[<-HW.out];exact⟨.inl ⟨zg.out,rfl⟩,qg.out W (az.refl _ _)⟩
end
end Go.Proofs.YtbhdibflpjhpaaaGreat
