import Derived.Test.YtdjmnpmdmjclhabGreatMg08
import Derived.Test.YtdjmnpmdmjclhabGreatMg01
namespace Go.Proofs.YtdjmnpmdmjclhabGreat
section
open Go.RowKit Lt
def dU {α:Type} (T:TypeId) (k:Nat) (fl:α→List Value) (w:World) (B:Nat) (v:Value) (l:List α):Prop:=w.ownsRow B T k v l.length (l.flatMap fl)
section
variable {α:Type} {T:TypeId} {k:Nat} {fl:α→List Value} {w w':World} {B:Nat} {v:Value} {l:List α}
theorem dU.lt (h:dU T k fl w B v l) {b:Nat} (hb:v.ownBlock=some b):B≤b∧b<w.heap.size:=aa9 h b hb
theorem dU.same (h:dU T k fl w B v l) (hb:∀g,v.ownBlock=some g→g<w.heap.size→w'.heap[g]? =w.heap[g]?):dU T k fl w' B v l:=by
 refine⟨h.1,?_⟩
 rcases h.2 with h|⟨g,cap,cur,e1,hgB,hh,hr⟩
 ·exact .inl h
 ·exact .inr ⟨g,cap,cur,e1,hgB,(hb g (by rw[e1];rfl) (lt_of_block hh)).trans hh,hr⟩
theorem dU.nil (w:World) (B:Nat):dU T k fl w B (.slice none 0 0) ([]:List α):=acO _ _ _ _
theorem dU.form (h:dU T k fl w B v l):∃ao cap,v= .slice ao l.length cap∧l.length≤cap:=by
 rcases h.2 with ⟨e,h0⟩|⟨g,cap,cur,e,_,_,hc,_⟩
 ·exact⟨none,0,by rw[e,h0],by omega⟩
 ·exact⟨_,cap,e,hc⟩
theorem xB (hk:∀x,(fl x).length=k):∀l:List α,(l.flatMap fl).length=l.length*k
 |[]=>by simp
 |x::l=>by
  rw[adz,aaA,hk,xB hk l,aar,Nat.add_mul]
  omega
theorem dU.snoc (hk:∀x,(fl x).length=k) {x:α} (h:dU T k fl w B v (l++[x])):∃g c,v= .slice (some ⟨g,0,none⟩) (l.length+1) c∧(∀j u,(fl x)[j]? =some u→w.cell? ⟨g,l.length*k+j,none⟩=some u)∧l.length+1≤c∧(∀i,w.frozen? ⟨g,i,none⟩=false)∧dU T k fl w B (.slice (some ⟨g,0,none⟩) l.length c) l:=by
 unfold dU at h
 rw[aaA,abn,acS] at h
 obtain⟨g,c,rfl⟩:=iB h
 have hfl:=xB hk l
 refine⟨g,c,rfl,fun j u hu=> ?_,?_,fun i=>World.ownsRow.frozenAt h i,?_⟩
 ·have hc:=abj h (g:=g) rfl (l.length*k+j) u (by
   rw[ab2 (by omega),hfl,Nat.add_sub_cancel_left]
   simpa using hu)
  have ea:((⟨g,0,none⟩:Addr).add (l.length*k+j))=⟨g,l.length*k+j,none⟩:=by
   obtain⟨z,hz⟩:∃z,l.length*k+j=z:=⟨_,rfl⟩
   rw[hz]
   by_cases h0:z=0<;>simp[Addr.add,h0]
  rw[ea] at hc
  exact hc
 ·rcases h.2 with ⟨h',_⟩|⟨g',cap,cur,e,_,_,hcc,_⟩
  ·cases h'
  ·cases e;exact hcc
 ·rcases h.2 with ⟨h',_⟩|⟨g',cap,cur,e,hB,hh,hc,hm,hs,ht⟩
  ·cases h'
  ·cases e
   refine⟨hfl,.inr ⟨g,c,cur,rfl,hB,hh,by omega,hm,hs,?_⟩⟩
   have e1:cur.toList.take (l.length*k)=(cur.toList.take ((l.length+1)*k)).take (l.length*k):=by
    rw[adJ]
    congr 1
    have:l.length*k≤(l.length+1)*k:=Nat.mul_le_mul_right _ (by omega)
    omega
   rw[e1,ht,adn (by omega),abk (by omega)]
end
def Dj (p:Pr):List Value:=[.int .i64 p.1.1,.int .i64 p.1.2,.int .i64 p.2.1,.int .i64 p.2.2]
def tW (v:jC):List Value:=[.int .i64 v.1,.int .i64 v.2.1,.int .i64 v.2.2.1.1,.int .i64 v.2.2.1.2,.int .i64 v.2.2.2.1,.int .i64 v.2.2.2.2]
theorem I6 (p:Pr):(Dj p).length=4:=rfl
theorem oI (v:jC):(tW v).length=6:=rfl
structure aR (c:Wp) (p t:Nat) (W0:World) (O:Nat→Prop) (st:TS) (L U Z:Nat) (vp vw:Value) (W:World):Prop where
 wk:bV c p W0
 aI:Below W0.heap.size W0 W
 blk:W.heap[t]? =some (.cells #[.pointer (some ⟨p,0,none⟩),.slice (some ⟨L,0,none⟩) c.es.length c.es.length,.slice (some ⟨U,0,none⟩) c.es.length c.es.length,vp,vw,.slice (some ⟨Z,0,none⟩) c.es.length c.es.length] 113 (0,0))
 like:aq W L st.like
 turn:aq W U st.turn
 lowest:aq W Z st.lowest
 ll:st.like.length=c.es.length
 lu:st.turn.length=c.es.length
 lz:st.lowest.length=c.es.length
 qJ:dU 143 4 Dj W W0.heap.size vp st.stk.reverse
 way:dU 145 6 tW W W0.heap.size vw st.way.reverse
 oT:O t
 oL:O L
 oU:O U
 oZ:O Z
 oP:∀b,vp.ownBlock=some b→O b
 oW:∀b,vw.ownBlock=some b→O b
 oB:∀b,O b→W0.heap.size≤b
 oX:∀b,O b→b<W.heap.size
 n1:t≠L∧t≠U∧t≠Z∧L≠U∧L≠Z∧U≠Z
 n2:∀b,vp.ownBlock=some b→b≠t∧b≠L∧b≠U∧b≠Z
 n3:∀b,vw.ownBlock=some b→b≠t∧b≠L∧b≠U∧b≠Z
 n4:∀b,vp.ownBlock=some b→vw.ownBlock≠some b
def Ts (c:Wp) (p t:Nat) (W0:World) (O:Nat→Prop) (st:TS) (W:World):Prop:=∃L U Z vp vw,aR c p t W0 O st L U Z vp vw W
section
variable {c:Wp} {p t:Nat} {W0 W V:World} {O O':Nat→Prop} {st:TS} {L U Z:Nat} {vp vw:Value}
theorem aR.lt (h:aR c p t W0 O st L U Z vp vw W):t<W.heap.size:=lt_of_block h.blk
theorem aR.now (h:aR c p t W0 O st L U Z vp vw W):bV c p W:=h.wk.later h.aI
theorem aR.same (h:aR c p t W0 O st L U Z vp vw W) (hb:Below W0.heap.size W0 V) (hs:W.heap.size≤V.heap.size) (hO:∀b,O b→b<W.heap.size→V.heap[b]? =W.heap[b]?):aR c p t W0 O st L U Z vp vw V:=
 ⟨h.wk,hb,(hO t h.oT h.lt).trans h.blk,(hO L h.oL h.like.lt).trans h.like,(hO U h.oU h.turn.lt).trans h.turn,(hO Z h.oZ h.lowest.lt).trans h.lowest,h.ll,h.lu,h.lz,h.qJ.same fun g hg hl=>hO g (h.oP g hg) hl,h.way.same fun g hg hl=>hO g (h.oW g hg) hl,h.oT,h.oL,h.oU,h.oZ,h.oP,h.oW,h.oB,fun b hb'=>aa7 (h.oX b hb') hs,h.n1,h.n2,h.n3,h.n4⟩
theorem aR.later (h:aR c p t W0 O st L U Z vp vw W) (hb:Below W.heap.size W V):aR c p t W0 O st L U Z vp vw V:=h.same (h.aI.trans (hb.mono h.aI.size)) hb.size fun b _ hl=>hb.block b hl
theorem aR.more (h:aR c p t W0 O st L U Z vp vw W) (hO:∀b,O b→O' b) (hB:∀b,O' b→W0.heap.size≤b) (hX:∀b,O' b→b<W.heap.size):aR c p t W0 O' st L U Z vp vw W:=
 ⟨h.wk,h.aI,h.blk,h.like,h.turn,h.lowest,h.ll,h.lu,h.lz,h.qJ,h.way,hO _ h.oT,hO _ h.oL,hO _ h.oU,hO _ h.oZ,fun b hb=>hO b (h.oP b hb),fun b hb=>hO b (h.oW b hb),hB,hX,h.n1,h.n2,h.n3,h.n4⟩
theorem aR.cells (h:aR c p t W0 O st L U Z vp vw W):W.cell? ⟨t,0,none⟩=some (.pointer (some ⟨p,0,none⟩))∧W.cell? ⟨t,1,none⟩=some (.slice (some ⟨L,0,none⟩) c.es.length c.es.length)∧W.cell? ⟨t,2,none⟩=some (.slice (some ⟨U,0,none⟩) c.es.length c.es.length)∧W.cell? ⟨t,3,none⟩=some vp∧W.cell? ⟨t,4,none⟩=some vw∧W.cell? ⟨t,5,none⟩=some (.slice (some ⟨Z,0,none⟩) c.es.length c.es.length)∧∀i,W.frozen? ⟨t,i,none⟩=false:=by
 refine⟨by simp[World.cell?,h.blk],by simp[World.cell?,h.blk],by simp[World.cell?,h.blk],by simp[World.cell?,h.blk],by simp[World.cell?,h.blk],by simp[World.cell?,h.blk],fun i=>by simp[World.frozen?,h.blk]⟩
theorem nY {W:World} {b:Nat} {l:List Int} {x:Nat} (h:aq W b l) (hx:x<l.length):W.cell? ⟨b,x,none⟩=some (.int .i64 (l[x]?.getD 0)):=h.cell (by simp[hx])
theorem aR.Aj (h:aR c p t W0 O st L U Z vp vw W) (x:Nat) (z:Int):aR c p t W0 O { st with like:=st.like.set x z } L U Z vp vw (W.setCell ⟨L,x,none⟩ (.int .i64 z)):=by
 have hk:∀b,b≠L→(W.setCell ⟨L,x,none⟩ (.int .i64 z)).heap[b]? =W.heap[b]? :=fun b hb=>heap_setCell_other W ⟨L,x,none⟩ b _ hb
 obtain⟨a1,a2,a3,a4,a5,a6⟩:=h.n1
 exact⟨h.wk,h.aI.setCell (p:=⟨L,x,none⟩) (h.oB L h.oL) _,(hk _ a1).trans h.blk,h.like.set x z,(hk _ (aaR a4)).trans h.turn,(hk _ (aaR a5)).trans h.lowest,by simpa using h.ll,h.lu,h.lz,h.qJ.same fun g hg _=>hk g (h.n2 g hg).2.1,h.way.same fun g hg _=>hk g (h.n3 g hg).2.1,h.oT,h.oL,h.oU,h.oZ,h.oP,h.oW,h.oB,fun b hb=>by simpa using h.oX b hb,h.n1,h.n2,h.n3,h.n4⟩
theorem aR.GL (h:aR c p t W0 O st L U Z vp vw W) (x:Nat) (z:Int):aR c p t W0 O { st with turn:=st.turn.set x z } L U Z vp vw (W.setCell ⟨U,x,none⟩ (.int .i64 z)):=by
 have hk:∀b,b≠U→(W.setCell ⟨U,x,none⟩ (.int .i64 z)).heap[b]? =W.heap[b]? :=fun b hb=>heap_setCell_other W ⟨U,x,none⟩ b _ hb
 obtain⟨a1,a2,a3,a4,a5,a6⟩:=h.n1
 exact⟨h.wk,h.aI.setCell (p:=⟨U,x,none⟩) (h.oB U h.oU) _,(hk _ a2).trans h.blk,(hk _ a4).trans h.like,h.turn.set x z,(hk _ (aaR a6)).trans h.lowest,h.ll,by simpa using h.lu,h.lz,h.qJ.same fun g hg _=>hk g (h.n2 g hg).2.2.1,h.way.same fun g hg _=>hk g (h.n3 g hg).2.2.1,h.oT,h.oL,h.oU,h.oZ,h.oP,h.oW,h.oB,fun b hb=>by simpa using h.oX b hb,h.n1,h.n2,h.n3,h.n4⟩
theorem aR.tG (h:aR c p t W0 O st L U Z vp vw W) (x:Nat) (z:Int):aR c p t W0 O { st with lowest:=st.lowest.set x z } L U Z vp vw (W.setCell ⟨Z,x,none⟩ (.int .i64 z)):=by
 have hk:∀b,b≠Z→(W.setCell ⟨Z,x,none⟩ (.int .i64 z)).heap[b]? =W.heap[b]? :=fun b hb=>heap_setCell_other W ⟨Z,x,none⟩ b _ hb
 obtain⟨a1,a2,a3,a4,a5,a6⟩:=h.n1
 exact⟨h.wk,h.aI.setCell (p:=⟨Z,x,none⟩) (h.oB Z h.oZ) _,(hk _ a3).trans h.blk,(hk _ a5).trans h.like,(hk _ a6).trans h.turn,h.lowest.set x z,h.ll,h.lu,by simpa using h.lz,h.qJ.same fun g hg _=>hk g (h.n2 g hg).2.2.2,h.way.same fun g hg _=>hk g (h.n3 g hg).2.2.2,h.oT,h.oL,h.oU,h.oZ,h.oP,h.oW,h.oB,fun b hb=>by simpa using h.oX b hb,h.n1,h.n2,h.n3,h.n4⟩
theorem aR.Mk (h:aR c p t W0 O st L U Z vp vw W) {W1:World} {v':Value} {ps:List Pr} (hb:Below W0.heap.size W0 W1) (hk:∀b,b<W.heap.size→vp.ownBlock≠some b→W1.heap[b]? =W.heap[b]?) (hsz:W.heap.size≤W1.heap.size) (hv:dU 143 4 Dj W1 W0.heap.size v' ps.reverse) (hat:v'.ownBlock=vp.ownBlock∨∃b,v'.ownBlock=some b∧W.heap.size≤b):
 W1.cell? ⟨t,3,none⟩=some vp∧W1.frozen? ⟨t,3,none⟩=false∧W1.cell? ⟨t,0,none⟩=some (.pointer (some ⟨p,0,none⟩))∧aR c p t W0 (fun b=>(O b∨W.heap.size≤b)∧b<(W1.setCell ⟨t,3,none⟩ v').heap.size) { st with stk:=ps } L U Z v' vw (W1.setCell ⟨t,3,none⟩ v'):=by
 have hT:∀b,(b=t∨b=L∨b=U∨b=Z∨vw.ownBlock=some b)→vp.ownBlock≠some b:=fun b hb e=>by
  have:=h.n2 b e
  rcases hb with k|k|k|k|k
  ·exact this.1 k
  ·exact this.2.1 k
  ·exact this.2.2.1 k
  ·exact this.2.2.2 k
  ·exact h.n4 b e k
 have adY:∀b,vw.ownBlock=some b→b<W.heap.size:=fun b hb=>(h.way.lt hb).2
 have rq:W1.heap[t]? =some (.cells #[.pointer (some ⟨p,0,none⟩),.slice (some ⟨L,0,none⟩) c.es.length c.es.length,.slice (some ⟨U,0,none⟩) c.es.length c.es.length,vp,vw,.slice (some ⟨Z,0,none⟩) c.es.length c.es.length] 113 (0,0)):=(hk t h.lt (hT t (.inl rfl))).trans h.blk
 have hv2:∀b,v'.ownBlock=some b→b≠t∧b≠L∧b≠U∧b≠Z:=fun b hb=>by
  rcases hat with e|⟨b',e,hb'⟩
  ·rw[e] at hb;exact h.n2 b hb
  ·rw[e] at hb
   cases hb
   have:=h.lt
   have:=h.like.lt
   have:=h.turn.lt
   have:=h.lowest.lt
   exact⟨by omega,by omega,by omega,by omega⟩
 obtain⟨a1,a2,a3,a4,a5,a6⟩:=h.n1
 have hX:∀{b:Nat},O b→b<(W1.setCell ⟨t,3,none⟩ v').heap.size:=fun {b} hb=>by have:=h.oX b hb;simp;omega
 have hs:∀b,b≠t→(W1.setCell ⟨t,3,none⟩ v').heap[b]? =W1.heap[b]? :=fun b hb=>heap_setCell_other W1 ⟨t,3,none⟩ b _ hb
 refine⟨by simp[World.cell?,rq],by simp[World.frozen?,rq],by simp[World.cell?,rq],h.wk,hb.setCell (p:=⟨t,3,none⟩) (h.oB t h.oT) _,?_,?_,?_,?_,h.ll,h.lu,h.lz,?_,?_,⟨.inl h.oT,hX h.oT⟩,⟨.inl h.oL,hX h.oL⟩,⟨.inl h.oU,hX h.oU⟩,⟨.inl h.oZ,hX h.oZ⟩,fun b hb=>⟨?_,by simpa using(hv.lt hb).2⟩,fun b hb=>⟨.inl (h.oW b hb),hX (h.oW b hb)⟩,fun b hb=> ?_,fun b hb=>hb.2,h.n1,hv2,h.n3,fun b hb hw=> ?_⟩
 ·have:=heap_setCell_same W1 t 3 _ _ v' rq
  simpa using this
 ·exact(hs L (aaR a1)).trans ((hk L h.like.lt (hT L (by simp))).trans h.like)
 ·exact(hs U (aaR a2)).trans ((hk U h.turn.lt (hT U (by simp))).trans h.turn)
 ·exact(hs Z (aaR a3)).trans ((hk Z h.lowest.lt (hT Z (by simp))).trans h.lowest)
 ·exact hv.same fun g hg _=>hs g (hv2 g hg).1
 ·exact h.way.same fun g hg hl=>(hs g (h.n3 g hg).1).trans (hk g hl (hT g (by simp[hg])))
 ·rcases hat with e|⟨b',e,hb'⟩
  ·rw[e] at hb;exact .inl (h.oP b hb)
  ·rw[e] at hb;cases hb;exact .inr hb'
 ·rcases hb.1 with hb|hb
  ·exact h.oB b hb
  ·have:=h.aI.size;omega
 ·rcases hat with e|⟨b',e,hb'⟩
  ·rw[e] at hb;exact h.n4 b hb hw
  ·rw[e] at hb
   cases hb
   have:=adY b hw
   omega
theorem aR.Xg (h:aR c p t W0 O st L U Z vp vw W) {W1:World} {v':Value} {vs:List jC} (hb:Below W0.heap.size W0 W1) (hk:∀b,b<W.heap.size→vw.ownBlock≠some b→W1.heap[b]? =W.heap[b]?) (hsz:W.heap.size≤W1.heap.size) (hv:dU 145 6 tW W1 W0.heap.size v' vs.reverse) (hat:v'.ownBlock=vw.ownBlock∨∃b,v'.ownBlock=some b∧W.heap.size≤b):
 W1.cell? ⟨t,4,none⟩=some vw∧W1.frozen? ⟨t,4,none⟩=false∧aR c p t W0 (fun b=>(O b∨W.heap.size≤b)∧b<(W1.setCell ⟨t,4,none⟩ v').heap.size) { st with way:=vs } L U Z vp v' (W1.setCell ⟨t,4,none⟩ v'):=by
 have hT:∀b,(b=t∨b=L∨b=U∨b=Z∨vp.ownBlock=some b)→vw.ownBlock≠some b:=fun b hb e=>by
  have:=h.n3 b e
  rcases hb with k|k|k|k|k
  ·exact this.1 k
  ·exact this.2.1 k
  ·exact this.2.2.1 k
  ·exact this.2.2.2 k
  ·exact h.n4 b k e
 have ael:∀b,vp.ownBlock=some b→b<W.heap.size:=fun b hb=>(h.qJ.lt hb).2
 have rq:W1.heap[t]? =some (.cells #[.pointer (some ⟨p,0,none⟩),.slice (some ⟨L,0,none⟩) c.es.length c.es.length,.slice (some ⟨U,0,none⟩) c.es.length c.es.length,vp,vw,.slice (some ⟨Z,0,none⟩) c.es.length c.es.length] 113 (0,0)):=(hk t h.lt (hT t (.inl rfl))).trans h.blk
 have hv2:∀b,v'.ownBlock=some b→b≠t∧b≠L∧b≠U∧b≠Z:=fun b hb=>by
  rcases hat with e|⟨b',e,hb'⟩
  ·rw[e] at hb;exact h.n3 b hb
  ·rw[e] at hb
   cases hb
   have:=h.lt
   have:=h.like.lt
   have:=h.turn.lt
   have:=h.lowest.lt
   exact⟨by omega,by omega,by omega,by omega⟩
 obtain⟨a1,a2,a3,a4,a5,a6⟩:=h.n1
 have hX:∀{b:Nat},O b→b<(W1.setCell ⟨t,4,none⟩ v').heap.size:=fun {b} hb=>by have:=h.oX b hb;simp;omega
 have hs:∀b,b≠t→(W1.setCell ⟨t,4,none⟩ v').heap[b]? =W1.heap[b]? :=fun b hb=>heap_setCell_other W1 ⟨t,4,none⟩ b _ hb
 refine⟨by simp[World.cell?,rq],by simp[World.frozen?,rq],h.wk,hb.setCell (p:=⟨t,4,none⟩) (h.oB t h.oT) _,?_,?_,?_,?_,h.ll,h.lu,h.lz,?_,?_,⟨.inl h.oT,hX h.oT⟩,⟨.inl h.oL,hX h.oL⟩,⟨.inl h.oU,hX h.oU⟩,⟨.inl h.oZ,hX h.oZ⟩,fun b hb=>⟨.inl (h.oP b hb),hX (h.oP b hb)⟩,fun b hb=>⟨?_,by simpa using(hv.lt hb).2⟩,fun b hb=> ?_,fun b hb=>hb.2,h.n1,h.n2,hv2,fun b hb hw=> ?_⟩
 ·have:=heap_setCell_same W1 t 4 _ _ v' rq
  simpa using this
 ·exact(hs L (aaR a1)).trans ((hk L h.like.lt (hT L (by simp))).trans h.like)
 ·exact(hs U (aaR a2)).trans ((hk U h.turn.lt (hT U (by simp))).trans h.turn)
 ·exact(hs Z (aaR a3)).trans ((hk Z h.lowest.lt (hT Z (by simp))).trans h.lowest)
 ·exact h.qJ.same fun g hg hl=>(hs g (h.n2 g hg).1).trans (hk g hl (hT g (by simp[hg])))
 ·exact hv.same fun g hg _=>hs g (hv2 g hg).1
 ·rcases hat with e|⟨b',e,hb'⟩
  ·rw[e] at hb;exact .inl (h.oW b hb)
  ·rw[e] at hb;cases hb;exact .inr hb'
 ·rcases hb.1 with hb|hb
  ·exact h.oB b hb
  ·have:=h.aI.size;omega
 ·rcases hat with e|⟨b',e,hb'⟩
  ·rw[e] at hw;exact h.n4 b hb hw
  ·rw[e] at hw
   cases hw
   have:=ael b hb
   omega
end
end
section
open Go.RowKit Lt
section
variable {c:Wp} {p t:Nat} {W0 W:World} {O:Nat→Prop} {st:TS} {L U Z:Nat} {vp vw:Value}
theorem SY {w:World} {g o:Nat} {q:Pr} (h:∀j u,(Dj q)[j]? =some u→w.cell? ⟨g,o+j,none⟩=some u):w.cell? ⟨g,o,none⟩=some (.int .i64 q.1.1)∧w.cell? ⟨g,o+1,none⟩=some (.int .i64 q.1.2)∧w.cell? ⟨g,o+2,none⟩=some (.int .i64 q.2.1)∧w.cell? ⟨g,o+3,none⟩=some (.int .i64 q.2.2):=
 ⟨h 0 _ rfl,h 1 _ rfl,h 2 _ rfl,h 3 _ rfl⟩
set_option maxRecDepth 100000 in
set_option maxHeartbeats 8000000 in
theorem iz (h:aR c p t W0 O st L U Z vp vw W) (hlen:st.stk.length≤8388608):Calls Tryz.prog 83 #[.pointer (some ⟨t,0,none⟩)] W fun e w'=>e= .returned (fK (top st.stk))∧Below W.heap.size W w':=by
 obtain⟨W1,hW1⟩:∃W1,W1=W.alloc (.cells #[.int .i64 0,.int .i64 0,.int .i64 0,.int .i64 0] 143):=⟨_,rfl⟩
 have hbl:W1.heap[W.heap.size]? =some (.cells #[.int .i64 0,.int .i64 0,.int .i64 0,.int .i64 0] 143 (0,0)):=by rw[hW1];exact heap_alloc_new W _
 have hb:Below W.heap.size W W1:=by rw[hW1];exact(aae _ _).alloc (aad _) _
 have h1:=h.later hb
 obtain⟨-,-,-,x3,-,-,-⟩:=h1.cells
 obtain⟨q0,q1,q2,q3,qf⟩:=au hbl
 have hlt:=lt_of_block hbl
 have mq:=Nu.hid hbl
 have HB:=Nu.hid hb
 have HW:=Nu.hid hW1
 have s7:=h1.qJ
 cases hs:st.stk with
 |nil=>
  rw[hs] at s7
  obtain⟨ao,cap,rfl,-⟩:=s7.form
  rw[List.reverse_nil,aaS] at x3
  have hacc:=aae W1.heap.size W1
  rw[hW1] at x3 hacc
  rw[HW.out] at mq HB hlt
  clear h h1 s7 hbl hb hW1 hs hlen q0 q1 q2 q3 qf HW
  go_enter Tryz.func83,Tryz.ntmps83
  go_wp2_with (go_at_call 108;refine(oC _).mono ?_;rintro e w1 ⟨rfl,hb1⟩;have hacc:=hacc.trans (hb1.mono hacc.size);obtain⟨q0,q1,q2,q3,qf⟩:=au ((hacc.block _ hlt).trans mq.out);clear hb1)
  obtain⟨r0,r1,r2,r3,-⟩:=au (iI ((hacc.block _ hlt).trans mq.out) (.int .i64 (-1)) (.int .i64 (-1)) (.int .i64 (-1)) (.int .i64 (-1)))
  refine bodyPost_ret (v:=fK dG) (by simp[results,Tryz.results83,go_sem,r0,r1,r2,r3]) rfl ?_
  exact⟨rfl,eA (HB.out.trans (hacc.mono HB.out.size)) (aad _) _ _ _ _⟩
 |cons q ps=>
  rw[hs,abm] at s7
  obtain⟨g,cap,rfl,hc,-,-,-⟩:=s7.snoc I6
  rw[abg] at hc x3
  obtain⟨d0,d1,d2,d3⟩:=SY hc
  obtain⟨k,hk⟩:∃k,ps.length=k:=⟨_,rfl⟩
  rw[hk] at d0 d1 d2 d3 x3
  rw[hs,aar,hk] at hlen
  have e1:((k:Int)+1)-1=(k:Int):=by omega
  have e2:(0:Int)≤(k:Int):=by omega
  have e3:(k:Int)<(k:Int)+1:=by omega
  have e4:((k:Int)+1==0)=false:=by simp only[beq_eq_false_iff_ne,ne_eq];omega
  obtain⟨⟨a,b⟩,a',b'⟩:=q
  dsimp only at d0 d1 d2 d3
  have alj:g≠W.heap.size:=fun e=>by
   have:=(h.qJ.lt (b:=g) rfl).2
   omega
  rw[hW1] at x3 d0 d1 d2 d3 q0 q1 q2 q3 qf
  rw[HW.out] at mq HB hlt
  clear h h1 s7 hbl hb hW1 hs hc hk HW
  go_enter Tryz.func83,Tryz.ntmps83
  go_wp2_with fail
  go_big_region
  go_wp2
  obtain⟨r0,r1,r2,r3,-⟩:=au (w:=(W.alloc (.cells #[.int .i64 a,.int .i64 b,.int .i64 a',.int .i64 b'] 143)).drew) (heap_alloc_new W _)
  refine bodyPost_ret (v:=fK ((a,b),a',b')) (by simp[results,Tryz.results83,go_sem,r0,r1,r2,r3]) rfl ?_
  exact⟨rfl,((aae _ _).alloc (aad _) _).drew⟩
def aT (c:Wp) (p t:Nat) (W0:World) (O:Nat→Prop) (W:World) (st':TS) (w':World):Prop:=
 aC O W w'∧Ts c p t W0 (fun b=>(O b∨W.heap.size≤b)∧b<w'.heap.size) st' w'
theorem aT.next {W1 w':World} {fC st':TS} (h:aT c p t W0 O W fC W1) (h':aT c p t W0 (fun b=>(O b∨W.heap.size≤b)∧b<W1.heap.size) W1 st' w'):aT c p t W0 O W st' w':=by
 refine⟨⟨h'.1.os.trans h.1.os,h'.1.tape.trans h.1.tape,h'.1.output.trans h.1.output,abb h.1.size h'.1.size,fun k hk hn=> ?_⟩,?_⟩
 ·have:=h.1.size
  exact(h'.1.block k (by omega) (fun q=>q.1.elim hn fun q=>by omega)).trans (h.1.block k hk hn)
 ·obtain⟨L,U,Z,vp,vw,h2⟩:=h'.2
  have hs:=h.1.size
  refine⟨L,U,Z,vp,vw,h2.more (fun b hb=>⟨?_,hb.2⟩) (fun b hb=> ?_) (fun b hb=>hb.2)⟩
  ·rcases hb.1 with q|q
   ·exact q.1
   ·exact .inr (by omega)
  ·obtain⟨L',U',Z',o9,qA,h3⟩:=h.2
   by_cases hlt:b<W1.heap.size
   ·exact h3.oB b ⟨hb.1,hlt⟩
   ·have:=h3.aI.size
    omega
theorem aT.pre {W1 w':World} {st':TS} (hB:W0.heap.size≤W.heap.size) (hb:Below W.heap.size W W1) (h':aT c p t W0 O W1 st' w'):aT c p t W0 O W st' w':=by
 refine⟨⟨h'.1.os.trans hb.os,h'.1.tape.trans hb.tape,h'.1.output.trans hb.output,abb hb.size h'.1.size,fun k hk hn=> ?_⟩,?_⟩
 ·have:=hb.size
  exact(h'.1.block k (by omega) hn).trans (hb.block k hk)
 ·obtain⟨L,U,Z,vp,vw,h2⟩:=h'.2
  refine⟨L,U,Z,vp,vw,h2.more (fun b hb'=>⟨?_,hb'.2⟩) (fun b hb'=> ?_) (fun b hb'=>hb'.2)⟩
  ·have:=hb.size
   rcases hb'.1 with q|q
   ·exact .inl q
   ·exact .inr (by omega)
  ·rcases hb'.1 with q|q
   ·exact h2.oB b ⟨.inl q,hb'.2⟩
   ·omega
theorem aR.post {V:World} (hB:W0.heap.size≤W.heap.size) (hw:aC O W V) (h':aR c p t W0 O st L U Z vp vw V):aT c p t W0 O W st V:=
 ⟨hw,L,U,Z,vp,vw,h'.more (fun b hb=>⟨.inl hb,h'.oX b hb⟩) (fun b hb=>hb.1.elim (h'.oB b) fun q=>by omega) (fun b hb=>hb.2)⟩
set_option maxRecDepth 100000 in
set_option maxHeartbeats 8000000 in
theorem ou (h:aR c p t W0 O st L U Z vp vw W) {q:Pr} {ps:List Pr} (hs:st.stk=q::ps) (hlen:st.stk.length≤8388608):Calls Tryz.prog 136 #[.pointer (some ⟨t,0,none⟩)] W fun e w'=>e= .returned (.tuple #[])∧aT c p t W0 O W { st with stk:=ps } w':=by
 obtain⟨-,-,-,x3,-,-,xf⟩:=h.cells
 have s7:=h.qJ
 rw[hs,abm] at s7
 obtain⟨g,cap,rfl,-,hcap,-,hown⟩:=s7.snoc I6
 rw[abg] at x3 hcap hown
 have bI:Hid (∀k,aT c p t W0 O W { st with stk:=ps } ((W.drewN k).setCell ⟨t,3,none⟩ (.slice (some ⟨g,0,none⟩) ps.length cap))):=by
  intro k
  refine⟨((aC.refl O W).drewN k).setCell h.oT _,L,U,Z,_,vw,(h.Mk (W1:=W.drewN k) (below_drewN h.aI k) (fun b _ _=>rfl) (aad _) hown (.inl rfl)).2.2.2⟩
 obtain⟨k,hk⟩:∃k,ps.length=k:=⟨_,rfl⟩
 rw[hk] at x3 hcap bI
 rw[hs,aar,hk] at hlen
 have e1:((k:Int)+1)-1=(k:Int):=by omega
 have e2:(0:Int)≤(k:Int):=by omega
 have e3:(k:Int)≤(cap:Int):=by omega
 clear h s7 hs hk hown
 go_enter Tryz.func136,Tryz.ntmps136
 go_wp2_with fail
 go_big_region
 go_wp2
 go_end0
 exact⟨rfl,bI.out _⟩
end
end
section
open Go.RowKit Lt
noncomputable abbrev Wp.lw (c:Wp):List Int:=upTo (Lo.low c.es c.s) c.es.length
theorem oJ {l:List Int} {i a:Int} (h:bz l i=some a):∃k:Nat,i=(k:Int)∧k<l.length∧l[k]? =some a:=by
 unfold bz at h
 split at h
 ·rename_i h0
  exact⟨i.toNat,by omega,(aas.1 h).1,h⟩
 ·cases h
theorem ju {l l':List Int} {i z:Int} (h:eT l i z=some l'):∃k:Nat,i=(k:Int)∧k<l.length∧l'=l.set k z:=by
 unfold eT at h
 split at h
 ·rename_i h0
  cases h
  exact⟨i.toNat,by omega,by omega,rfl⟩
 ·cases h
theorem gX {c:Wp} {i a:Int} (h:bz c.lw i=some a):∃k:Nat,i=(k:Int)∧k<c.es.length∧Lo.low c.es c.s k=a:=by
 obtain⟨k,h1,h2,h3⟩:=oJ h
 rw[fE] at h2
 rw[gT h2] at h3
 exact⟨k,h1,h2,aak h3⟩
section
variable {c:Wp} {p t:Nat} {W0 W:World} {O:Nat→Prop} {st:TS} {L U Z:Nat} {vp vw:Value}
theorem aR.low (h:aR c p t W0 O st L U Z vp vw W) {x:Nat} (hx:x<c.es.length):∃gl cl,∀V,Below W.heap.size W V→V.cell? ⟨t,0,none⟩=some (.pointer (some ⟨p,0,none⟩))∧V.cell? ⟨p,6,none⟩=some (.slice (some ⟨gl,0,none⟩) c.es.length cl)∧∀y,y<c.es.length→V.cell? ⟨gl,y,none⟩=some (.int .i64 (Lo.low c.es c.s y)):=by
 obtain⟨gl,cl,e,hc⟩:=h.now.DX hx
 refine⟨gl,cl,fun V hV=>⟨(h.later hV).cells.1,?_,fun y hy=>hc V hV y hy⟩⟩
 rw[←e]
 exact(h.now.later hV).c6
set_option maxRecDepth 100000 in
set_option maxHeartbeats 8000000 in
theorem EO (h:aR c p t W0 O st L U Z vp vw W) {i:Iv} {e:Nat} {b:Bool} (hh:fT c.lw i (e:Int)=some b):Calls Tryz.prog 167 #[.pointer (some ⟨t,0,none⟩),dF i,.int .i64 (e:Int)] W fun r w'=>r= .returned (.bool b)∧Below W.heap.size W w':=by
 obtain⟨a,d⟩:=i
 have cj:=h.wk.val.few
 obtain⟨W1,hW1⟩:∃W1,W1=W.alloc (.cells #[.int .i64 a,.int .i64 d] 141):=⟨_,rfl⟩
 have hbl:W1.heap[W.heap.size]? =some (.cells #[.int .i64 a,.int .i64 d] 141 (0,0)):=by rw[hW1];exact heap_alloc_new W _
 have hb:Below W.heap.size W W1:=by rw[hW1];exact(aae _ _).alloc (aad _) _
 have hlt:=lt_of_block hbl
 have h1:=h.later hb
 have y0:∀D:LW W1,D.val.cell? ⟨W.heap.size,0,none⟩=some (.int .i64 a):=fun D=>(ay ((D.h.block _ hlt).trans hbl)).1
 have y1:∀D:LW W1,D.val.cell? ⟨W.heap.size,1,none⟩=some (.int .i64 d):=fun D=>(ay ((D.h.block _ hlt).trans hbl)).2.1
 have fY:Hid (∀D:LW W1,Calls Tryz.prog 137 #[.agg #[.int .i64 a,.int .i64 d]] D.val fun e w'=>e= .returned (.bool (decide ((a,d)=aO)))∧Below D.val.heap.size D.val w'):=fun D=>fV (a,d) D.val
 have bI:Hid (∀D:LW W1,Below W.heap.size W D.val):=fun D=>hb.trans (D.h.mono hb.size)
 have HW:=Nu.hid hW1
 have hne:=LW.any W1
 unfold fT at hh
 by_cases hn:(a,d)=aO
 ·rw[if_pos hn] at hh
  cases hh
  have e1:decide ((a,d)=aO)=true:=decide_eq_true hn
  rw[e1] at fY
  clear h hW1 hbl hb hlt h1 hn e1
  go_enter Tryz.func167,Tryz.ntmps167
  go_wp2_with fail
  rw[←HW.out]
  refine aB (by kernel_rfl) (by kernel_rfl) ?_
  repeat (go_big_quiet_step ((first|(go_at_call 137;exact Calls.lw (fY.out _)))))
  refine wpQuiet_nil ?_
  rintro _ ⟨D,rfl⟩
  clear y0 y1
  go_wp2
  go_ret
  exact⟨rfl,bI.out D⟩
 ·rw[if_neg hn] at hh
  cases ha:bz c.lw a with
  |none=>rw[ha] at hh;cases hh
  |some x=>
   cases he:bz c.lw (e:Int) with
   |none=>rw[ha,he] at hh;cases hh
   |some y=>
    rw[ha,he] at hh
    cases hh
    obtain⟨k,rfl,hk,qw⟩:=gX ha
    obtain⟨k',hk',xq,Vv⟩:=gX he
    obtain rfl:e=k':=by omega
    obtain⟨gl,cl,hc⟩:=h1.low hk
    have e1:decide (((k:Int),d)=aO)=false:=decide_eq_false hn
    rw[e1] at fY
    have z0:∀D:LW W1,D.val.cell? ⟨t,0,none⟩=some (.pointer (some ⟨p,0,none⟩)):=fun D=>(hc D.val D.h).1
    have z1:∀D:LW W1,D.val.cell? ⟨p,6,none⟩=some (.slice (some ⟨gl,0,none⟩) c.es.length cl):=fun D=>(hc D.val D.h).2.1
    have z2:∀D:LW W1,D.val.cell? ⟨gl,k,none⟩=some (.int .i64 x):=fun D=>by rw[←qw];exact(hc D.val D.h).2.2 k hk
    have z3:∀D:LW W1,D.val.cell? ⟨gl,e,none⟩=some (.int .i64 y):=fun D=>by rw[←Vv];exact(hc D.val D.h).2.2 e xq
    have v0:(0:Int)≤(k:Int):=by omega
    have v1:(k:Int)<(c.es.length:Int):=by omega
    have v2:(0:Int)≤(e:Int):=by omega
    have v3:(e:Int)<(c.es.length:Int):=by omega
    clear h hW1 hbl hb hlt h1 hn e1 ha he qw Vv hc hk' hk xq
    go_enter Tryz.func167,Tryz.ntmps167
    go_wp2_with fail
    rw[←HW.out]
    refine aB (by kernel_rfl) (by kernel_rfl) ?_
    repeat (go_big_quiet_step ((first|(go_at_call 137;exact Calls.lw (fY.out _)))))
    refine wpQuiet_nil ?_
    rintro _ ⟨D,rfl⟩
    clear y0 y1 z0 z1 z2 z3
    go_wp2
    go_ret
    exact⟨rfl,bI.out D⟩
set_option maxRecDepth 100000 in
set_option maxHeartbeats 8000000 in
theorem Gw (h:aR c p t W0 O st L U Z vp vw W) {q:Pr} {z:Int} (hh:least c.lw q=some z):Calls Tryz.prog 135 #[.pointer (some ⟨t,0,none⟩),fK q] W fun r w'=>r= .returned (.int .i64 z)∧Below W.heap.size W w':=by
 obtain⟨⟨a,d⟩,a',d'⟩:=q
 have cj:=h.wk.val.few
 obtain⟨W1,hW1⟩:∃W1,W1=W.alloc (.cells #[.int .i64 a,.int .i64 d,.int .i64 a',.int .i64 d'] 143):=⟨_,rfl⟩
 have hbl:W1.heap[W.heap.size]? =some (.cells #[.int .i64 a,.int .i64 d,.int .i64 a',.int .i64 d'] 143 (0,0)):=by rw[hW1];exact heap_alloc_new W _
 have hb:Below W.heap.size W W1:=by rw[hW1];exact(aae _ _).alloc (aad _) _
 have hlt:=lt_of_block hbl
 have h1:=h.later hb
 have fY:Hid (∀(i:Iv) (w:World),Calls Tryz.prog 137 #[dF i] w fun e w'=>e= .returned (.bool (decide (i=aO)))∧Below w.heap.size w w'):=fV
 have HB:=Nu.hid hb
 have mq:=Nu.hid hbl
 obtain⟨q0,q1,q2,q3,-⟩:=au hbl
 have hacc:=aae W1.heap.size W1
 unfold least at hh
 dsimp only at hh
 by_cases hn:(a,d)=aO
 ·rw[if_pos hn] at hh
  obtain⟨k,hkk,hk,qw⟩:=gX hh
  obtain⟨gl,cl,hc⟩:=h1.low hk
  have HC:=Nu.hid hc
  have e1:decide ((a,d)=aO)=true:=decide_eq_true hn
  have oV:Hid (∀w,Calls Tryz.prog 137 #[.agg #[.int .i64 a,.int .i64 d]] w fun e w'=>e= .returned (.bool true)∧Below w.heap.size w w'):=fun w=>by rw[←e1];exact fY.out (a,d) w
  have v0:(0:Int)≤(k:Int):=by omega
  have v1:(k:Int)<(c.es.length:Int):=by omega
  subst hkk
  rw[hW1] at q0 q1 q2 q3 hacc
  rw[hW1] at HB mq HC hlt
  clear h hW1 hbl hb h1 hn e1 hc hh fY
  go_enter Tryz.func135,Tryz.ntmps135
  go_wp2_with (go_at_call 137;refine(oV.out _).mono ?_;rintro e w1 ⟨rfl,hb1⟩;have hacc:=hacc.trans (hb1.mono hacc.size);clear hb1;obtain⟨q0,q1,q2,q3,-⟩:=au ((hacc.block _ hlt).trans mq.out);obtain⟨z0,z1,z2⟩:=HC.out _ hacc;have z3:=z2 k hk;rw[qw] at z3;clear z2)
  go_quiet (fail)
  go_wp2
  go_ret
  exact⟨rfl,below_drewN (HB.out.trans (hacc.mono HB.out.size)) _⟩
 ·rw[if_neg hn] at hh
  have e1:decide ((a,d)=aO)=false:=decide_eq_false hn
  by_cases hn2:(a',d')=aO
  ·rw[if_pos hn2] at hh
   obtain⟨k,hkk,hk,qw⟩:=gX hh
   subst hkk
   obtain⟨gl,cl,hc⟩:=h1.low hk
   have HC:=Nu.hid hc
   have e2:decide ((a',d')=aO)=true:=decide_eq_true hn2
   have oV:Hid (∀w,Calls Tryz.prog 137 #[.agg #[.int .i64 a,.int .i64 (k:Int)]] w fun e w'=>e= .returned (.bool false)∧Below w.heap.size w w'):=fun w=>by rw[←e1];exact fY.out (a,(k:Int)) w
   have xR:Hid (∀w,Calls Tryz.prog 137 #[.agg #[.int .i64 a',.int .i64 d']] w fun e w'=>e= .returned (.bool true)∧Below w.heap.size w w'):=fun w=>by rw[←e2];exact fY.out (a',d') w
   have hne:d'≠(k:Int):=fun e=>by
    have:=congrArg Prod.snd hn2
    dsimp only at this
    omega
   have v0:(0:Int)≤(k:Int):=by omega
   have v1:(k:Int)<(c.es.length:Int):=by omega
   rw[hW1] at q0 q1 q2 q3 hacc
   rw[hW1] at HB mq HC hlt
   have HN:=Nu.hid hne
   clear h hW1 hbl hb h1 hn e1 e2 hn2 hc hh fY hne
   go_enter Tryz.func135,Tryz.ntmps135
   go_wp2_with (go_at_call 137;first|(with_reducible refine(oV.out _).mono ?_;rintro e w1 ⟨rfl,hb1⟩;have hacc:=hacc.trans (hb1.mono hacc.size);clear hb1;obtain⟨q0,q1,q2,q3,-⟩:=au ((hacc.block _ hlt).trans mq.out);obtain⟨z0,z1,z2⟩:=HC.out _ hacc;have z3:=z2 k hk;rw[qw] at z3;clear z2)|(with_reducible refine(xR.out _).mono ?_;rintro e w1 ⟨rfl,hb1⟩;have hacc:=hacc.trans (hb1.mono hacc.size);clear hb1;obtain⟨q0,q1,q2,q3,-⟩:=au ((hacc.block _ hlt).trans mq.out);obtain⟨z0,z1,z2⟩:=HC.out _ hacc;have z3:=z2 k hk;rw[qw] at z3;clear z2))
   go_quiet (fail)
   go_wp2
   go_ret
   exact⟨rfl,below_drewN (HB.out.trans (hacc.mono HB.out.size)) _⟩
  ·rw[if_neg hn2] at hh
   cases ha:bz c.lw d with
   |none=>rw[ha] at hh;cases hh
   |some x=>
    cases hb':bz c.lw d' with
    |none=>rw[ha,hb'] at hh;cases hh
    |some y=>
     rw[ha,hb'] at hh
     cases hh
     obtain⟨k,hkk,hk,qw⟩:=gX ha
     obtain⟨k',hkk',hk',Ye⟩:=gX hb'
     subst hkk
     subst hkk'
     obtain⟨gl,cl,hc⟩:=h1.low hk
     have HC:=Nu.hid hc
     have e2:decide ((a',(k':Int))=aO)=false:=decide_eq_false hn2
     have oV:Hid (∀w,Calls Tryz.prog 137 #[.agg #[.int .i64 a,.int .i64 (k:Int)]] w fun e w'=>e= .returned (.bool false)∧Below w.heap.size w w'):=fun w=>by rw[←e1];exact fY.out (a,(k:Int)) w
     have xR:Hid (∀w,Calls Tryz.prog 137 #[.agg #[.int .i64 a',.int .i64 (k':Int)]] w fun e w'=>e= .returned (.bool false)∧Below w.heap.size w w'):=fun w=>by rw[←e2];exact fY.out (a',(k':Int)) w
     have v0:(0:Int)≤(k:Int):=by omega
     have v1:(k:Int)<(c.es.length:Int):=by omega
     have v2:(0:Int)≤(k':Int):=by omega
     have v3:(k':Int)<(c.es.length:Int):=by omega
     rw[hW1] at q0 q1 q2 q3 hacc
     rw[hW1] at HB mq HC hlt
     clear h hW1 hbl hb h1 hn e1 e2 hn2 hc ha hb' fY
     go_enter Tryz.func135,Tryz.ntmps135
     go_wp2_with (go_at_call 137;first|(with_reducible refine(oV.out _).mono ?_;rintro e w1 ⟨rfl,hb1⟩;have hacc:=hacc.trans (hb1.mono hacc.size);clear hb1;obtain⟨q0,q1,q2,q3,-⟩:=au ((hacc.block _ hlt).trans mq.out);obtain⟨z0,z1,z2⟩:=HC.out _ hacc;have z3:=z2 k hk;have z4:=z2 k' hk';rw[qw] at z3;rw[Ye] at z4;clear z2)|(with_reducible refine(xR.out _).mono ?_;rintro e w1 ⟨rfl,hb1⟩;have hacc:=hacc.trans (hb1.mono hacc.size);clear hb1;obtain⟨q0,q1,q2,q3,-⟩:=au ((hacc.block _ hlt).trans mq.out);obtain⟨z0,z1,z2⟩:=HC.out _ hacc;have z3:=z2 k hk;have z4:=z2 k' hk';rw[qw] at z3;rw[Ye] at z4;clear z2))
     go_quiet (fail)
     go_wp2
     ·go_ret
      exact⟨by rw[show min x y=y by omega];rfl,below_drewN (HB.out.trans (hacc.mono HB.out.size)) _⟩
     ·go_ret
      exact⟨by rw[show min x y=x by omega];rfl,below_drewN (HB.out.trans (hacc.mono HB.out.size)) _⟩
end
end
section
open Go.RowKit Lt
section
variable {c:Wp} {p t:Nat} {W0 W:World} {O:Nat→Prop} {st:TS} {L U Z:Nat} {vp vw:Value}
theorem fP {S:Nat→Prop} {w V:World} {b i:Nat} (h:aC S w V) (hb:w.heap.size≤b) (x:Value):aC S w (V.setCell ⟨b,i,none⟩ x):=
 ⟨h.os,h.tape,h.output,by simpa using h.size,fun k hk hn=>(heap_setCell_other V ⟨b,i,none⟩ k x (fun e=>by have e':k=b:=e;omega)).trans (h.block k hk hn)⟩
theorem aR.far (h:aR c p t W0 O st L U Z vp vw W) {b i:Nat} (hb:¬O b) (hB:W0.heap.size≤b) (x:Value):aR c p t W0 O st L U Z vp vw (W.setCell ⟨b,i,none⟩ x):=
 h.same (h.aI.setCell (p:=⟨b,i,none⟩) hB x) (by simp) fun k hk _=>heap_setCell_other W ⟨b,i,none⟩ k _ (fun e=>hb (by rw[←show k=b from e];exact hk))
theorem aR.drew (h:aR c p t W0 O st L U Z vp vw W):aR c p t W0 O st L U Z vp vw W.drew:=h.later ((aae _ _).drew)
theorem aT.drew {V:World} {st':TS} (h:aT c p t W0 O W st' V):aT c p t W0 O W st' V.drew:=by
 obtain⟨h1,L',U',Z',o9,qA,h2⟩:=h
 exact⟨h1.drew,L',U',Z',o9,qA,h2.drew⟩
set_option maxRecDepth 100000 in
set_option maxHeartbeats 8000000 in
theorem kn (h:aR c p t W0 O st L U Z vp vw W) {u l i:Iv} {aH:List Int} (hj:join st.like u l=some (aH,i)):Calls Tryz.prog 166 #[.pointer (some ⟨t,1,none⟩),dF u,dF l] W fun r w'=>r= .returned (dF i)∧aT c p t W0 O W { st with like:=aH } w':=by
 obtain⟨a,b⟩:=u
 obtain⟨a',b'⟩:=l
 have cj:=h.wk.val.few
 have hB0:=h.aI.size
 obtain⟨W1,hW1⟩:∃W1,W1=((W.alloc (.cells #[.int .i64 a,.int .i64 b] 141)).alloc (.cells #[.int .i64 a',.int .i64 b'] 141)).alloc (.cells #[.int .i64 0,.int .i64 0] 141):=⟨_,rfl⟩
 have hb:Below W.heap.size W W1:=by rw[hW1];exact(((aae _ _).alloc (aad _) _).alloc (by simp) _).alloc (by simp;omega) _
 have hsz:W1.heap.size=W.heap.size+3:=by rw[hW1];simp
 have hu:W1.heap[W.heap.size]? =some (.cells #[.int .i64 a,.int .i64 b] 141 (0,0)):=by
  rw[hW1,aap _ _ _ (by simp;omega),aap _ _ _ (by simp)]
  exact heap_alloc_new W _
 have hl:W1.heap[W.heap.size+1]? =some (.cells #[.int .i64 a',.int .i64 b'] 141 (0,0)):=by
  rw[hW1,aap _ _ _ (by simp)]
  have:=heap_alloc_new (W.alloc (.cells #[.int .i64 a,.int .i64 b] 141)) (.cells #[.int .i64 a',.int .i64 b'] 141)
  simpa using this
 have hr:W1.heap[W.heap.size+1+1]? =some (.cells #[.int .i64 0,.int .i64 0] 141 (0,0)):=by
  rw[hW1]
  have:=heap_alloc_new ((W.alloc (.cells #[.int .i64 a,.int .i64 b] 141)).alloc (.cells #[.int .i64 a',.int .i64 b'] 141)) (.cells #[.int .i64 0,.int .i64 0] 141)
  simpa using this
 have h1:=h.later hb
 have fY:Hid (∀(i:Iv) (w:World),Calls Tryz.prog 137 #[dF i] w fun e w'=>e= .returned (.bool (decide (i=aO)))∧Below w.heap.size w w'):=fV
 have hacc:=aae W1.heap.size W1
 have HS:Hid (∀V,Below W1.heap.size W1 V→V.cell? ⟨W.heap.size,0,none⟩=some (.int .i64 a)∧V.cell? ⟨W.heap.size,1,none⟩=some (.int .i64 b)∧V.cell? ⟨W.heap.size+1,0,none⟩=some (.int .i64 a')∧V.cell? ⟨W.heap.size+1,1,none⟩=some (.int .i64 b')∧V.heap[W.heap.size+1+1]? =some (.cells #[.int .i64 0,.int .i64 0] 141 (0,0))∧aR c p t W0 O st L U Z vp vw V):=fun V hV=>by
  obtain⟨x0,x1,-⟩:=ay ((hV.block _ (by omega)).trans hu)
  obtain⟨x2,x3,-⟩:=ay ((hV.block _ (by omega)).trans hl)
  exact⟨x0,x1,x2,x3,(hV.block _ (by omega)).trans hr,h1.later hV⟩
 have hwr:∀V,Below W1.heap.size W1 V→aC O W V:=fun V hV=>((aC.refl O W).later hb).later hV
 have HO:Hid (∀b,O b→b<W.heap.size):=h.oX
 have bI:Hid (∀V x y,aC O W V→aR c p t W0 O { st with like:=aH } L U Z vp vw V→V.heap[W.heap.size+1+1]? =some (.cells #[.int .i64 0,.int .i64 0] 141 (0,0))→aT c p t W0 O W { st with like:=aH } ((V.setCell ⟨W.heap.size+1+1,0,none⟩ x).setCell ⟨W.heap.size+1+1,1,none⟩ y)∧((V.setCell ⟨W.heap.size+1+1,0,none⟩ x).setCell ⟨W.heap.size+1+1,1,none⟩ y).cell? ⟨W.heap.size+1+1,0,none⟩=some x∧((V.setCell ⟨W.heap.size+1+1,0,none⟩ x).setCell ⟨W.heap.size+1+1,1,none⟩ y).cell? ⟨W.heap.size+1+1,1,none⟩=some y):=fun V x y hw hT hc=>by
  have Re:¬O (W.heap.size+1+1):=fun q=>by have:=HO.out _ q;omega
  obtain⟨r0,r1,-⟩:=ay (gD hc x y)
  exact⟨aR.post hB0 (fP (fP hw (by omega) x) (by omega) y) ((hT.far Re (by omega) x).far Re (by omega) y),r0,r1⟩
 obtain⟨x0,x1,x2,x3,xr,xT⟩:=HS.out _ hacc
 obtain⟨wA,wz,wq⟩:=ay xr
 have m8:=Nu.hid hwr
 unfold join at hj
 by_cases hn:(a,b)=aO
 ·rw[if_pos hn] at hj
  cases hj
  have e1:decide ((a,b)=aO)=true:=decide_eq_true hn
  have oV:Hid (∀w,Calls Tryz.prog 137 #[.agg #[.int .i64 a,.int .i64 b]] w fun e w'=>e= .returned (.bool true)∧Below w.heap.size w w'):=fun w=>by rw[←e1];exact fY.out (a,b) w
  rw[hW1] at x0 x1 x2 x3 wA wz wq hacc
  rw[hW1] at HS m8
  clear h hW1 hb hu hl hr h1 hn e1 fY xr xT hsz hwr hB0
  go_enter Tryz.func166,Tryz.ntmps166
  go_wp2_with (go_at_call 137;refine(oV.out _).mono ?_;rintro e w1 ⟨rfl,hb1⟩;have hacc:=hacc.trans (hb1.mono hacc.size);clear hb1;obtain⟨x0,x1,x2,x3,xr,xT⟩:=HS.out _ hacc;obtain⟨wA,wz,wq⟩:=ay xr;have zF:=Nu.hid xr;have nr:=Nu.hid xT;clear xr xT)
  obtain⟨k1,r0,r1⟩:=bI.out w1 (.int .i64 a') (.int .i64 b') (m8.out _ hacc) nr.out zF.out
  refine bodyPost_ret (v:=dF (a',b')) (by simp[results,Tryz.results166,go_sem,r0,r1]) rfl ?_
  exact⟨rfl,k1⟩
 ·rw[if_neg hn] at hj
  have e1:decide ((a,b)=aO)=false:=decide_eq_false hn
  have oV:Hid (∀w,Calls Tryz.prog 137 #[.agg #[.int .i64 a,.int .i64 b]] w fun e w'=>e= .returned (.bool false)∧Below w.heap.size w w'):=fun w=>by rw[←e1];exact fY.out (a,b) w
  by_cases hn2:(a',b')=aO
  ·rw[if_pos hn2] at hj
   cases hj
   have e2:decide ((a',b')=aO)=true:=decide_eq_true hn2
   have xR:Hid (∀w,Calls Tryz.prog 137 #[.agg #[.int .i64 a',.int .i64 b']] w fun e w'=>e= .returned (.bool true)∧Below w.heap.size w w'):=fun w=>by rw[←e2];exact fY.out (a',b') w
   rw[hW1] at x0 x1 x2 x3 wA wz wq hacc
   rw[hW1] at HS m8
   clear h hW1 hb hu hl hr h1 hn hn2 e1 e2 fY xr xT hsz hwr hB0
   go_enter Tryz.func166,Tryz.ntmps166
   go_wp2_with (go_at_call 137;first|(with_reducible refine(oV.out _).mono ?_;rintro e w1 ⟨rfl,hb1⟩;have hacc:=hacc.trans (hb1.mono hacc.size);clear hb1;obtain⟨x0,x1,x2,x3,xr,xT⟩:=HS.out _ hacc;obtain⟨wA,wz,wq⟩:=ay xr;have zF:=Nu.hid xr;have nr:=Nu.hid xT;clear xr xT)|(with_reducible refine(xR.out _).mono ?_;rintro e w1 ⟨rfl,hb1⟩;have hacc:=hacc.trans (hb1.mono hacc.size);clear hb1;obtain⟨x0,x1,x2,x3,xr,xT⟩:=HS.out _ hacc;obtain⟨wA,wz,wq⟩:=ay xr;have zF:=Nu.hid xr;have nr:=Nu.hid xT;clear xr xT))
   obtain⟨k1,r0,r1⟩:=bI.out w1 (.int .i64 a) (.int .i64 b) (m8.out _ hacc) nr.out zF.out
   refine bodyPost_ret (v:=dF (a,b)) (by simp[results,Tryz.results166,go_sem,r0,r1]) rfl ?_
   exact⟨rfl,k1⟩
  ·rw[if_neg hn2] at hj
   cases hp:eT st.like (a,b).2 (a',b').1 with
   |none=>rw[hp] at hj;cases hj
   |some lk=>
    rw[hp] at hj
    cases hj
    obtain⟨k,hk,cU,rfl⟩:=ju hp
    dsimp only at hk
    subst hk
    have hkm:k<c.es.length:=by rw[←h.ll];exact cU
    have e2:decide ((a',b')=aO)=false:=decide_eq_false hn2
    have xR:Hid (∀w,Calls Tryz.prog 137 #[.agg #[.int .i64 a',.int .i64 b']] w fun e w'=>e= .returned (.bool false)∧Below w.heap.size w w'):=fun w=>by rw[←e2];exact fY.out (a',b') w
    have HL:Hid (∀V,aR c p t W0 O st L U Z vp vw V→V.cell? ⟨t,1,none⟩=some (.slice (some ⟨L,0,none⟩) c.es.length c.es.length)∧(∃z,V.cell? ⟨L,k,none⟩=some (.int .i64 z))∧V.frozen? ⟨L,k,none⟩=false):=fun V hV=>⟨hV.cells.2.1,⟨_,nY hV.like cU⟩,hV.like.free k⟩
    have v0:(0:Int)≤(k:Int):=by omega
    have v1:(k:Int)<(c.es.length:Int):=by omega
    have Jy:Hid (O L∧L≠W.heap.size∧L≠W.heap.size+1∧L≠W.heap.size+1+1):=⟨h.oL,by have:=h.oX L h.oL;omega,by have:=h.oX L h.oL;omega,by have:=h.oX L h.oL;omega⟩
    have n1:=Jy.out.2.1
    have n2:=Jy.out.2.2.1
    have n3:=Jy.out.2.2.2
    rw[hW1] at x0 x1 x2 x3 wA wz wq hacc
    rw[hW1] at HS m8
    clear h hW1 hb hu hl hr h1 hn hn2 e1 e2 fY xr xT hsz hwr hB0 hp cU hkm
    go_enter Tryz.func166,Tryz.ntmps166
    go_wp2_with (go_at_call 137;first|(with_reducible refine(oV.out _).mono ?_;rintro e w1 ⟨rfl,hb1⟩;have hacc:=hacc.trans (hb1.mono hacc.size);clear hb1;obtain⟨x0,x1,x2,x3,xr,xT⟩:=HS.out _ hacc;obtain⟨wA,wz,wq⟩:=ay xr;have zF:=Nu.hid xr;have nr:=Nu.hid xT;obtain⟨l0,⟨lz,l1⟩,l2⟩:=HL.out _ xT;clear xr xT)|(with_reducible refine(xR.out _).mono ?_;rintro e w1 ⟨rfl,hb1⟩;have hacc:=hacc.trans (hb1.mono hacc.size);clear hb1;obtain⟨x0,x1,x2,x3,xr,xT⟩:=HS.out _ hacc;obtain⟨wA,wz,wq⟩:=ay xr;have zF:=Nu.hid xr;have nr:=Nu.hid xT;obtain⟨l0,⟨lz,l1⟩,l2⟩:=HL.out _ xT;clear xr xT))
    go_big_region
    go_wp2
    obtain⟨k1,r0,r1⟩:=bI.out (w1.setCell ⟨L,k,none⟩ (.int .i64 a')) (.int .i64 a) (.int .i64 b') ((m8.out _ hacc).setCell Jy.out.1 _) (nr.out.Aj k a') ((heap_setCell_other w1 ⟨L,k,none⟩ _ _ (fun e=>n3 e.symm)).trans zF.out)
    generalize ((w1.setCell ⟨L,k,none⟩ (.int .i64 a')).setCell ⟨W.heap.size+1+1,0,none⟩ (.int .i64 a)).setCell ⟨W.heap.size+1+1,1,none⟩ (.int .i64 b')=V at*
    have k2:=k1.drew
    have r2:V.drew.cell? ⟨W.heap.size+1+1,0,none⟩=some (.int .i64 a):=r0
    have r3:V.drew.cell? ⟨W.heap.size+1+1,1,none⟩=some (.int .i64 b'):=r1
    refine bodyPost_ret (v:=dF (a,b')) (by simp[results,Tryz.results166,go_sem,r2,r3]) rfl ?_
    exact⟨rfl,k2⟩
end
end
end Go.Proofs.YtdjmnpmdmjclhabGreat
