import Derived.Test.YtdjmnpmdmjclhabGreatMg30
import Derived.Test.YtdjmnpmdmjclhabGreatMg28
import Derived.Test.YtdjmnpmdmjclhabGreatMg08
import Derived.Test.YtdjmnpmdmjclhabGreatMg19
namespace Go.Proofs.YtdjmnpmdmjclhabGreat
section
open Go.RowKit
theorem setCell_at {w:World} {g i:Nat} {cs:Array Value} {t:TypeId} (h:w.heap[g]? =some (.cells cs t (0,0))) (v:Value):(w.setCell ⟨g,i,none⟩ v).heap[g]? =some (.cells (cs.setIfInBounds i v) t (0,0)):=by
 obtain⟨hlt,he⟩:=aam.1 h
 simp[World.setCell,hlt]
 rw[Array.getElem_modify_self,he]
def xL (n:Int) (es:List (Int×Int)) (s:Df.St) (w:World) (r:Ending) (w':World):Prop:=
 ∃v1 v2 v3 vo vs A1 A2 A3 ls z B,r= .returned (.tuple #[.agg #[v1,v2,v3,vo],.int .i64 z])∧Tg n es s A1 A2 A3 ls z∧aP w' w.heap.size v1 A1∧aP w' w.heap.size v2 A2∧aP w' w.heap.size v3 A3∧bW w' B vo vs ls∧w.heap.size≤B∧
  (∀b,v1.ownBlock=some b→b<B∧v2.ownBlock≠some b∧v3.ownBlock≠some b)∧(∀b,v2.ownBlock=some b→b<B∧v3.ownBlock≠some b)∧(∀b,v3.ownBlock=some b→b<B)∧Below w.heap.size w w'
theorem xL.low {n:Int} {es:List (Int×Int)} {s:Df.St} {w w':World} {r:Ending} (h:xL n es s w r w'):Pa n es s w r w':=by
 obtain⟨v1,v2,v3,vo,vs,A1,A2,A3,ls,z,B,h1,h2,h3,h4,h5,h6,h7,-,-,-,h8⟩:=h
 exact⟨v1,v2,v3,vo,vs,A1,A2,A3,ls,z,h1,h2,h3,h4,h5,h6.lower h7,h8⟩
set_option maxRecDepth 100000 in
set_option maxHeartbeats 16000000 in
theorem P6 (n:Int) (ao:Option Addr) (cap:Nat) (es:List (Int×Int)) (f:For) (s:Df.St) (w:World) (he:aQ w ao es) (hl:es.length≤4611686018427387904) (hF:dI w f s):
 Calls Tryz.prog 36 #[.agg #[.int .i64 n,.slice ao es.length cap],f.val s] w (xL n es s w):=by
 obtain⟨W,hW⟩:∃W,W=((w.alloc (.cells #[.int .i64 n,.slice ao es.length cap] 24)).alloc (.cells #[.slice f.a1 s.par.length f.c1,.slice f.a2 s.az.length f.c2,.slice f.a3 s.ord.length f.c3,.slice f.a4 s.aJ.length f.c4] 36)).alloc (.cells #[.slice none 0 0,.slice none 0 0,.slice none 0 0,.slice none 0 0] 86):=⟨_,rfl⟩
 have hB0:Below w.heap.size w W:=by rw[hW];exact(((aae _ _).alloc (aad _) _).alloc (by simp) _).alloc (by simp;omega) _
 have hsz:W.heap.size=w.heap.size+3:=by rw[hW];simp
 have g1:W.heap[w.heap.size]? =some (.cells #[.int .i64 n,.slice ao es.length cap] 24 (0,0)):=by
  rw[hW,aap _ _ _ (by simp;omega),aap _ _ _ (by simp)]
  exact heap_alloc_new w _
 have g2:W.heap[w.heap.size+1]? =some (.cells #[.slice f.a1 s.par.length f.c1,.slice f.a2 s.az.length f.c2,.slice f.a3 s.ord.length f.c3,.slice f.a4 s.aJ.length f.c4] 36 (0,0)):=by
  rw[hW,aap _ _ _ (by simp)]
  exact alloc_at (by simp)
 have g3:W.heap[w.heap.size+2]? =some (.cells #[.slice none 0 0,.slice none 0 0,.slice none 0 0,.slice none 0 0] 86 (0,0)):=by
  rw[hW]
  exact alloc_at (by simp)
 have uB:Hid (Calls Tryz.prog 61 #[.agg #[.int .i64 n,.slice ao es.length cap],.agg #[.slice f.a1 s.par.length f.c1,.slice f.a2 s.az.length f.c2,.slice f.a3 s.ord.length f.c3,.slice f.a4 s.aJ.length f.c4]] W fun e w'=>∃q z,e= .returned (.tuple #[.pointer q,.int .i64 z])∧((Si.valid n es=false∧z=1)∨(Si.valid n es=true∧¬oN n es s∧z=80)∨∃(p m:Nat) (av:Value),n=(m:Int)∧q=some ⟨p,0,none⟩∧z=0∧Wd w' p av m es f s)∧Below W.heap.size W w'):=(Kb n ao cap es f s W (he.later hB0) hl (hF.later hB0)).mono fun e w' ⟨h,hb⟩=>by
  rcases h with ⟨h1,h2⟩|⟨h1,h2,h3⟩|⟨p,m,av,h1,h2,h3⟩
  ·exact⟨_,_,h2,.inl ⟨h1,rfl⟩,hb⟩
  ·exact⟨_,_,h3,.inr (.inl ⟨h1,h2,rfl⟩),hb⟩
  ·exact⟨_,_,h2,.inr (.inr ⟨p,m,av,h1,rfl,rfl,h3⟩),hb⟩
 obtain⟨x0,x1,-⟩:=ay g1
 obtain⟨k0,k1,k2,k3,-⟩:=au g2
 have Py:=Nu.hid g3
 have cZ:=Nu.hid hB0
 have lg:=Nu.hid hW
 rw[hW] at x0 x1 k0 k1 k2 k3
 unfold For.val
 clear hB0 g1 g2 g3 he hW hF
 go_enter Tryz.func36,Tryz.ntmps36
 go_wp2_with (go_at_call 61;rw[←lg.out];refine uB.out.mono ?_;rintro e w1 ⟨q,z,rfl,hq,hb1⟩;refine aaB ?_)
 refine Nu.hid ?_
 clear x0 x1 k0 k1 k2 k3
 have hB1:Below w.heap.size w w1:=cZ.out.trans (hb1.mono cZ.out.size)
 have hs1:=hb1.size
 have r1:=(hb1.block _ (lt_of_block Py.out)).trans Py.out
 rcases hq with RX|RX|⟨p,m,av,hnm,rfl,rfl,hwd⟩
 ·obtain⟨hno,rfl⟩:=RX
  obtain⟨u0,u1,u2,u3,u4⟩:=au r1
  have aY:=Nu.hid hB1
  have uC:=Nu.hid r1
  have jt:=Nu.hid hno
  clear hB1 r1 hno
  go_wp2
  obtain⟨Y,hY⟩:∃Y,Y=dY w1 (w.heap.size+1+1) (.slice none 0 0) (.slice none 0 0) (.slice none 0 0) (.slice none 0 0):=⟨_,rfl⟩
  have Dc:=gW (B:=w.heap.size+1+1) uC.out (.slice none 0 0) (.slice none 0 0) (.slice none 0 0) (.slice none 0 0)
  rw[←hY] at Dc
  have K8:Below w.heap.size w Y:=by rw[hY];exact eA aY.out (by omega) _ _ _ _
  obtain⟨v0,v1,v2,v3,-⟩:=au Dc
  unfold dY at hY
  rw[←hY]
  refine bodyPost_ret (v:= .tuple #[.agg #[.slice none 0 0,.slice none 0 0,.slice none 0 0,.slice none 0 0],.int .i64 1]) (by simp[results,Tryz.results36,go_sem,v0,v1,v2,v3]) rfl ?_
  exact⟨_,_,_,_,[],_,_,_,_,_,w.heap.size,rfl,.inl ⟨jt.out,rfl,rfl,rfl,rfl,rfl⟩,.nil _ _,.nil _ _,.nil _ _,.nil _ _,aad _,(fun b hb=>by cases hb),(fun b hb=>by cases hb),(fun b hb=>by cases hb),K8⟩
 ·obtain⟨XZ,hno,rfl⟩:=RX
  obtain⟨u0,u1,u2,u3,u4⟩:=au r1
  have aY:=Nu.hid hB1
  have uC:=Nu.hid r1
  have jt:=Nu.hid hno
  have Nl:=Nu.hid XZ
  clear hB1 r1 hno XZ
  go_wp2
  obtain⟨Y,hY⟩:∃Y,Y=dY w1 (w.heap.size+1+1) (.slice none 0 0) (.slice none 0 0) (.slice none 0 0) (.slice none 0 0):=⟨_,rfl⟩
  have Dc:=gW (B:=w.heap.size+1+1) uC.out (.slice none 0 0) (.slice none 0 0) (.slice none 0 0) (.slice none 0 0)
  rw[←hY] at Dc
  have K8:Below w.heap.size w Y:=by rw[hY];exact eA aY.out (by omega) _ _ _ _
  obtain⟨v0,v1,v2,v3,-⟩:=au Dc
  unfold dY at hY
  rw[←hY]
  refine bodyPost_ret (v:= .tuple #[.agg #[.slice none 0 0,.slice none 0 0,.slice none 0 0,.slice none 0 0],.int .i64 80]) (by simp[results,Tryz.results36,go_sem,v0,v1,v2,v3]) rfl ?_
  exact⟨_,_,_,_,[],_,_,_,_,_,w.heap.size,rfl,.inr (.inl ⟨Nl.out,jt.out,rfl,rfl,rfl,rfl,rfl⟩),.nil _ _,.nil _ _,.nil _ _,.nil _ _,aad _,(fun b hb=>by cases hb),(fun b hb=>by cases hb),(fun b hb=>by cases hb),K8⟩
 ·have Dv:=Nu.hid (N8 w1 hwd)
  have uC:=Nu.hid r1
  have Dq:=Nu.hid hwd
  have aY:=Nu.hid hB1
  have cj:=hwd.val.few
  have hnn:=hwd.val.hi
  subst hnm
  clear hwd hB1 r1 hb1
  go_wp2_with (go_at_call 62;refine Dv.out.mono ?_;rintro e w2 ⟨g1,g2,rfl,i1,i2,l1,l2,hne,hb2⟩;refine aaB ?_)
  refine Nu.hid ?_
  have hs2:=hb2.size
  have gl1:=i1.lt
  have gl2:=i2.lt
  obtain⟨w3,hw3⟩:∃w3,w3=w2.alloc (.cells #[.slice (some ⟨g1,0,none⟩) es.length es.length,.slice (some ⟨g2,0,none⟩) es.length es.length,.slice none 0 0,.slice none 0 0] 86):=⟨_,rfl⟩
  have hb3:Below w2.heap.size w2 w3:=by rw[hw3];exact(aae _ _).alloc (aad _) _
  have hs3:w3.heap.size=w2.heap.size+1:=by rw[hw3];simp
  have lb3:w3.heap[w2.heap.size]? =some (.cells #[.slice (some ⟨g1,0,none⟩) es.length es.length,.slice (some ⟨g2,0,none⟩) es.length es.length,.slice none 0 0,.slice none 0 0] 86 (0,0)):=by rw[hw3];exact heap_alloc_new w2 _
  have SS:Below w1.heap.size w1 w3:=hb2.trans (hb3.mono hb2.size)
  have HNS:=Nu.hid (Kk g1 g2 w3 (Dq.out.later SS) (i1.later hb3).ins (i2.later hb3).ins)
  have nu:=Nu.hid hw3
  have yY:=Nu.hid SS
  have ng:=Nu.hid (i1.later hb3)
  have fX:=Nu.hid (i2.later hb3)
  have Za:=Nu.hid lb3
  clear hw3 hb3 hb2 i1 i2 SS lb3
  go_wp2_with (go_at_call 63;rw[←nu.out];refine HNS.out.mono ?_;rintro e w4 ⟨g3,rfl,i3,l3,hb4⟩;refine aaB ?_)
  refine Nu.hid ?_
  have hs4:=hb4.size
  have gl3:=i3.lt
  have Z7:=(hb4.block _ (lt_of_block Za.out)).trans Za.out
  obtain⟨y0,y1,y2,y3,yf⟩:=au Z7
  obtain⟨w5,qq⟩:∃w5,w5=w4.setCell ⟨w2.heap.size,2,none⟩ (.slice (some ⟨g3,0,none⟩) es.length es.length):=⟨_,rfl⟩
  have R9:∀b,b≠w2.heap.size→w5.heap[b]? =w4.heap[b]? :=fun b hb=>by rw[qq];exact heap_setCell_other w4 ⟨w2.heap.size,2,none⟩ b _ hb
  have hs5:w5.heap.size=w4.heap.size:=by rw[qq];simp
  have Z6:w5.heap[w2.heap.size]? =some (.cells #[.slice (some ⟨g1,0,none⟩) es.length es.length,.slice (some ⟨g2,0,none⟩) es.length es.length,.slice (some ⟨g3,0,none⟩) es.length es.length,.slice none 0 0] 86 (0,0)):=by
   rw[qq]
   have:=setCell_at (i:=2) Z7 (.slice (some ⟨g3,0,none⟩) es.length es.length)
   exact this
  have SR:Below w1.heap.size w1 w5:=by rw[qq];exact(yY.out.trans (hb4.mono yY.out.size)).setCell (p:=⟨w2.heap.size,2,none⟩) (by show w1.heap.size≤w2.heap.size;omega) _
  have i35:aq w5 g3 (upTo (Lo.nest es s) es.length):=(R9 g3 (by omega)).trans i3
  have ag3:Hid (aq w5 g1 (upTo (Lo.low es s) es.length)):=(R9 g1 (by omega)).trans (ng.out.later hb4)
  have ag1:Hid (aq w5 g2 (upTo (Lo.cz es s) es.length)):=(R9 g2 (by omega)).trans (fX.out.later hb4)
  have HOS:=Nu.hid (NW g3 w5 (Dq.out.later SR) i35.ins)
  have vQ:=Nu.hid qq
  have Cz:=Nu.hid SR
  have agZ:=Nu.hid i35
  have Y9:=Nu.hid Z6
  have z2:w5.cell? ⟨w2.heap.size,2,none⟩=some (.slice (some ⟨g3,0,none⟩) es.length es.length):=(au Z6).2.2.1
  rw[qq] at z2
  clear qq hb4 i3 SR i35 Z6 Z7 y0 y1 y3
  go_wp2_with (go_at_call 64;rw[←vQ.out];refine HOS.out.mono ?_;rintro e w6 ⟨vo,vs,rfl,hro,cq⟩;refine aaB ?_)
  refine Nu.hid ?_
  clear z2 y2 yf
  have hs6:=cq.size
  have Z5:=(cq.block _ (lt_of_block Y9.out)).trans Y9.out
  obtain⟨y0,y1,y2,y3,yf⟩:=au Z5
  obtain⟨go,gc,hvo⟩:=Ao hro
  subst hvo
  rw[Lo.dw]
  obtain⟨w7,Oi⟩:∃w7,w7=w6.setCell ⟨w2.heap.size,3,none⟩ (.slice go m gc):=⟨_,rfl⟩
  have R7:∀b,b≠w2.heap.size→w7.heap[b]? =w6.heap[b]? :=fun b hb=>by rw[Oi];exact heap_setCell_other w6 ⟨w2.heap.size,3,none⟩ b _ hb
  have lb7:w7.heap[w2.heap.size]? =some (.cells #[.slice (some ⟨g1,0,none⟩) es.length es.length,.slice (some ⟨g2,0,none⟩) es.length es.length,.slice (some ⟨g3,0,none⟩) es.length es.length,.slice go m gc] 86 (0,0)):=by
   rw[Oi]
   exact setCell_at (i:=3) Z5 (.slice go m gc)
  have SQ:Below w1.heap.size w1 w7:=by rw[Oi];exact(Cz.out.trans (cq.mono Cz.out.size)).setCell (p:=⟨w2.heap.size,3,none⟩) (by show w1.heap.size≤w2.heap.size;omega) _
  have r7:=(SQ.block _ (lt_of_block uC.out)).trans uC.out
  obtain⟨q0,q1,q2,q3,-⟩:=au lb7
  obtain⟨t0,t1,t2,t3,tf⟩:=au r7
  have MM:∀b,b<w5.heap.size→b≠w2.heap.size→w7.heap[b]? =w5.heap[b]? :=fun b hb hne=>(R7 b hne).trans (cq.block b hb)
  have ag2:Hid (aq w7 g1 (upTo (Lo.low es s) es.length)):=(MM g1 (by omega) (by omega)).trans ag3.out
  have ag0:Hid (aq w7 g2 (upTo (Lo.cz es s) es.length)):=(MM g2 (by omega) (by omega)).trans ag1.out
  have agY:Hid (aq w7 g3 (upTo (Lo.nest es s) es.length)):=(MM g3 (by omega) (by omega)).trans agZ.out
  have agu:Hid (bW w7 w5.heap.size (.slice go m gc) vs (Lo.bS m es s es.length)):=by
   rw[Lo.dw] at hro
   exact hro.same fun g hg _=>R7 g (by omega)
  have EG:=Nu.hid (aY.out.trans (SQ.mono aY.out.size))
  have HR7:=Nu.hid r7
  have Tp:=Nu.hid Oi
  rw[Oi] at q0 q1 q2 q3 t0 t1 t2 t3 tf
  clear hro cq R7 MM SQ r7 lb7 Z5 Oi y0 y1 y2
  go_wp2
  rw[←Tp.out]
  obtain⟨Y,hY⟩:∃Y,Y=dY w7 (w.heap.size+1+1) (.slice (some ⟨g1,0,none⟩) es.length es.length) (.slice (some ⟨g2,0,none⟩) es.length es.length) (.slice (some ⟨g3,0,none⟩) es.length es.length) (.slice go m gc):=⟨_,rfl⟩
  have Dc:=gW (B:=w.heap.size+1+1) HR7.out (.slice (some ⟨g1,0,none⟩) es.length es.length) (.slice (some ⟨g2,0,none⟩) es.length es.length) (.slice (some ⟨g3,0,none⟩) es.length es.length) (.slice go m gc)
  rw[←hY] at Dc
  have K8:Below w.heap.size w Y:=by rw[hY];exact eA EG.out (by omega) _ _ _ _
  have IV:∀b,b≠w.heap.size+1+1→Y.heap[b]? =w7.heap[b]? :=fun b hb=>by rw[hY];exact kR hb _ _ _ _
  obtain⟨v0,v1,v2,v3,-⟩:=au Dc
  unfold dY at hY
  rw[←hY]
  refine bodyPost_ret (v:= .tuple #[.agg #[.slice (some ⟨g1,0,none⟩) es.length es.length,.slice (some ⟨g2,0,none⟩) es.length es.length,.slice (some ⟨g3,0,none⟩) es.length es.length,.slice go m gc],.int .i64 0]) (by simp[results,Tryz.results36,go_sem,v0,v1,v2,v3]) rfl ?_
  have o1:aq Y g1 (upTo (Lo.low es s) es.length):=(IV g1 (by omega)).trans ag2.out
  have o2:aq Y g2 (upTo (Lo.cz es s) es.length):=(IV g2 (by omega)).trans ag0.out
  have o3:aq Y g3 (upTo (Lo.nest es s) es.length):=(IV g3 (by omega)).trans agY.out
  refine⟨_,_,_,_,vs,_,_,_,_,_,w5.heap.size,rfl,.inr (.inr ⟨m,rfl,Dq.out.val,Dq.out.vf,rfl,rfl,rfl,rfl,rfl⟩),o1.own (by omega) (fE _ _) (by omega),o2.own (by omega) (fE _ _) (by omega),o3.own (by omega) (fE _ _) (by omega),agu.out.same fun g hg _=>IV g (by omega),by omega,fun b hb=> ?_,fun b hb=> ?_,fun b hb=> ?_,K8⟩
  ·have hb:g1=b:=aak hb
   exact⟨by omega,(fun e=>by have e:g2=b:=aak e;omega),(fun e=>by have e:g3=b:=aak e;omega)⟩
  ·have hb:g2=b:=aak hb
   exact⟨by omega,(fun e=>by have e:g3=b:=aak e;omega)⟩
  ·have hb:g3=b:=aak hb
   omega
end
section
open Go.RowKit
theorem pE {w:World} {B:Nat} {T:TypeId} {k n:Nat} {v:Value} {xs:List Value} (h:w.ownsRow B T k v n xs):∃ao m c,v= .slice ao m c:=by
 rcases h.2 with ⟨e,_⟩|⟨g,cap,cur,e,_⟩
 ·exact⟨none,0,0,e⟩
 ·exact⟨_,_,_,e⟩
def Wj (n:Int) (ao:Option Addr) (cap:Nat) (es:List (Int×Int)) (f:For) (s:Df.St) (w:World) (r:Ending) (w':World):Prop:=
 (Si.valid n es=false∧r= .returned (.tuple #[.pointer none,.int .i64 1])∧Below w.heap.size w w')∨
 (Si.valid n es=true∧¬oN n es s∧r= .returned (.tuple #[.pointer none,.int .i64 80])∧Below w.heap.size w w')∨
 ∃(c:Wp) (p:Nat),n=(c.n:Int)∧c.es=es∧c.s=s∧c.ao=ao∧c.ca=cap∧c.f=f∧r= .returned (.tuple #[.pointer (some ⟨p,0,none⟩),.int .i64 0])∧w.heap.size≤p∧bV c p w'∧Below w.heap.size w w'
set_option maxRecDepth 100000 in
set_option maxHeartbeats 16000000 in
theorem AQ (n:Int) (ao:Option Addr) (cap:Nat) (es:List (Int×Int)) (f:For) (s:Df.St) (w:World) (he:aQ w ao es) (hl:es.length≤4611686018427387904) (hF:dI w f s):
 Calls Tryz.prog 22 #[.agg #[.int .i64 n,.slice ao es.length cap],f.val s] w (Wj n ao cap es f s w):=by
 obtain⟨W,hW⟩:∃W,W=(w.alloc (.cells #[.int .i64 n,.slice ao es.length cap] 24)).alloc (.cells #[.slice f.a1 s.par.length f.c1,.slice f.a2 s.az.length f.c2,.slice f.a3 s.ord.length f.c3,.slice f.a4 s.aJ.length f.c4] 36):=⟨_,rfl⟩
 have hB0:Below w.heap.size w W:=by rw[hW];exact((aae _ _).alloc (aad _) _).alloc (by simp) _
 have hsz:W.heap.size=w.heap.size+2:=by rw[hW];simp
 have g1:W.heap[w.heap.size]? =some (.cells #[.int .i64 n,.slice ao es.length cap] 24 (0,0)):=by
  rw[hW,aap _ _ _ (by simp)]
  exact heap_alloc_new w _
 have g2:W.heap[w.heap.size+1]? =some (.cells #[.slice f.a1 s.par.length f.c1,.slice f.a2 s.az.length f.c2,.slice f.a3 s.ord.length f.c3,.slice f.a4 s.aJ.length f.c4] 36 (0,0)):=by
  rw[hW]
  have:=heap_alloc_new (w.alloc (.cells #[.int .i64 n,.slice ao es.length cap] 24)) (.cells #[.slice f.a1 s.par.length f.c1,.slice f.a2 s.az.length f.c2,.slice f.a3 s.ord.length f.c3,.slice f.a4 s.aJ.length f.c4] 36)
  simpa using this
 have HOF:=Nu.hid (P6 n ao cap es f s W (he.later hB0) hl (hF.later hB0))
 unfold For.val at HOF
 obtain⟨x0,x1,-⟩:=ay g1
 obtain⟨y0,y1,y2,y3,-⟩:=au g2
 rw[hW] at x0 x1 y0 y1 y2 y3 HOF
 have HW:=Nu.hid hW
 have cZ:=Nu.hid hB0
 have nh:=Nu.hid g1
 have iN:=Nu.hid g2
 have HE:=Nu.hid he
 have HF:=Nu.hid hF
 unfold For.val
 clear hW hB0 g1 g2 he hF
 go_enter Tryz.func22,Tryz.ntmps22
 go_wp2_with fail
 go_at_call 36
 refine HOF.out.mono ?_
 intro e w1 hp
 rw[←HW.out] at hp
 obtain⟨v1,v2,v3,vo,vs,A1,A2,A3,ls,z,rfl,his,o1,o2,o3,oo,hb1⟩:=hp.low
 obtain⟨a1,n1,c1,rfl⟩:=pE o1
 obtain⟨a2,n2,c2,rfl⟩:=pE o2
 obtain⟨a3,n3,c3,rfl⟩:=pE o3
 obtain⟨a4,n4,c4,rfl⟩:=pE oo.outer
 have WL:=Nu.hid o1
 have HOO:=Nu.hid oo
 have aY:=Nu.hid hb1
 have f1:=(hb1.block _ (by omega)).trans nh.out
 have f2:=(hb1.block _ (by omega)).trans iN.out
 have rO:=Nu.hid f1
 have HF2:=Nu.hid f2
 have hs1:=hb1.size
 obtain⟨W3,hW3⟩:∃W3,W3=w1.alloc (.cells #[.slice a1 n1 c1,.slice a2 n2 c2,.slice a3 n3 c3,.slice a4 n4 c4] 86):=⟨_,rfl⟩
 have hb3:Below w1.heap.size w1 W3:=by rw[hW3];exact(aae _ _).alloc (aad _) _
 have dm:Hid (Below w.heap.size w W3):=by
  have q1:=cZ.out.trans (hb1.mono cZ.out.size)
  exact q1.trans (hb3.mono q1.size)
 have yY:=Nu.hid hb3
 have nu:=Nu.hid hW3
 have k1:=(hb3.block _ (lt_of_block f1)).trans f1
 have k2:=(hb3.block _ (lt_of_block f2)).trans f2
 have k3:W3.heap[w1.heap.size]? =some (.cells #[.slice a1 n1 c1,.slice a2 n2 c2,.slice a3 n3 c3,.slice a4 n4 c4] 86 (0,0)):=by rw[hW3];exact heap_alloc_new w1 _
 obtain⟨x0,x1,-⟩:=ay k1
 obtain⟨y0,y1,y2,y3,-⟩:=au k2
 obtain⟨z0,z1,z2,z3,-⟩:=au k3
 rw[hW3] at x0 x1 y0 y1 y2 y3 z0 z1 z2 z3
 clear hp o1 o2 o3 oo hb1 f1 f2 hb3 k1 k2 k3 hW3
 rcases his with ⟨q1,-,-,-,-,rfl⟩|⟨q1,q2,-,-,-,-,rfl⟩|⟨m,q1,q2,q3,q4,-,-,q5,rfl⟩
 ·clear x0 x1 y0 y1 y2 y3 z0 z1 z2 z3
  go_wp2_with fail
  go_ret2
  refine .inl ⟨q1,rfl,?_⟩
  rw[←nu.out]
  exact dm.out
 ·clear x0 x1 y0 y1 y2 y3 z0 z1 z2 z3
  go_wp2_with fail
  go_ret2
  refine .inr (.inl ⟨q1,q2,rfl,?_⟩)
  rw[←nu.out]
  exact dm.out
 ·go_wp2_with fail
  go_ret2
  refine .inr (.inr ⟨⟨m,es,s,ao,cap,f,.slice a1 n1 c1,.slice a2 n2 c2,.slice a3 n3 c3,.slice a4 n4 c4,vs⟩,w1.heap.size+1,q1,rfl,rfl,rfl,rfl,rfl,rfl,?_,?_,?_⟩)
  all_goals (try rw[←nu.out])
  ·have:=aY.out.size
   have:=cZ.out.size
   omega
  ·have XG:W3.heap.size=w1.heap.size+1:=by rw[nu.out];simp
   have hb4:∀o,Below W3.heap.size W3 (W3.alloc o):=fun o=>(aae _ _).alloc (aad _) _
   have hb5:∀o,Below w1.heap.size w1 (W3.alloc o):=fun o=>yY.out.trans ((hb4 o).mono yY.out.size)
   have cq:∀o,Below w.heap.size w (W3.alloc o):=fun o=>dm.out.trans ((hb4 o).mono dm.out.size)
   obtain⟨l1,l2,l3,l4⟩:=q3.lens
   have o1:=WL.out
   have oo:=HOO.out
   rw[q4] at o1
   rw[q5] at oo
   refine⟨?_,HE.out.later (cq _),HF.out.later (cq _),q2,q3,(o1.lower (aax _)).later (hb5 _),(oo.lower (aax _)).later (hb5 _)⟩
   rw[←XG,l1,l2,l3,l4]
   exact heap_alloc_new W3 _
  ·exact dm.out.trans (((aae _ _).alloc (aad _) _).mono dm.out.size)
end
end Go.Proofs.YtdjmnpmdmjclhabGreat
