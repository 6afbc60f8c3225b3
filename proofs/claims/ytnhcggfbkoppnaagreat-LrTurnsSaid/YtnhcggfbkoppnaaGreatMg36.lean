import Derived.Test.YtnhcggfbkoppnaaGreatMg35
import Derived.Test.YtnhcggfbkoppnaaGreatMg16
import Derived.Test.YtnhcggfbkoppnaaGreatMg25
namespace Go.Proofs.YtnhcggfbkoppnaaGreat
section
open Go.RowKit
theorem setCell_at {w:World} {g i:Nat} {cs:Array Value} {t:TypeId} (h:w.heap[g]? =some (.cells cs t (0,0))) (v:Value):(w.setCell ⟨g,i,none⟩ v).heap[g]? =some (.cells (cs.setIfInBounds i v) t (0,0)):=by
 obtain⟨hlt,he⟩:=Array.getElem?_eq_some_iff.1 h
 simp[World.setCell,hlt]
 rw[Array.getElem_modify_self,he]
def xj (n:Int) (es:List (Int×Int)) (s:Df.St) (w:World) (r:Ending) (w':World):Prop:=
 ∃v1 v2 v3 vo vs A1 A2 A3 ls z B,r= .returned (.tuple #[.agg #[v1,v2,v3,vo],.int .i64 z])∧Sl n es s A1 A2 A3 ls z∧aS w' w.heap.size v1 A1∧aS w' w.heap.size v2 A2∧aS w' w.heap.size v3 A3∧bW w' B vo vs ls∧w.heap.size≤B∧
  (∀b,v1.ownBlock=some b→b<B∧v2.ownBlock≠some b∧v3.ownBlock≠some b)∧(∀b,v2.ownBlock=some b→b<B∧v3.ownBlock≠some b)∧(∀b,v3.ownBlock=some b→b<B)∧Below w.heap.size w w'
theorem xj.low {n:Int} {es:List (Int×Int)} {s:Df.St} {w w':World} {r:Ending} (h:xj n es s w r w'):Ot n es s w r w':=by
 obtain⟨v1,v2,v3,vo,vs,A1,A2,A3,ls,z,B,h1,h2,h3,h4,h5,h6,h7,-,-,-,h8⟩:=h
 exact⟨v1,v2,v3,vo,vs,A1,A2,A3,ls,z,h1,h2,h3,h4,h5,h6.lower h7,h8⟩
set_option maxRecDepth 100000 in
set_option maxHeartbeats 16000000 in
theorem Pb (n:Int) (ao:Option Addr) (cap:Nat) (es:List (Int×Int)) (f:For) (s:Df.St) (w:World) (he:aL w ao es) (hl:es.length≤4611686018427387904) (hF:dF w f s):
 Calls Tryz.prog 65 #[.agg #[.int .i64 n,.slice ao es.length cap],f.val s] w (xj n es s w):=by
 obtain⟨W,hW⟩:∃W,W=((w.alloc (.cells #[.int .i64 n,.slice ao es.length cap] 24)).alloc (.cells #[.slice f.a1 s.par.length f.c1,.slice f.a2 s.ay.length f.c2,.slice f.a3 s.ord.length f.c3,.slice f.a4 s.aJ.length f.c4] 36)).alloc (.cells #[.slice none 0 0,.slice none 0 0,.slice none 0 0,.slice none 0 0] 116):=⟨_,rfl⟩
 have hB0:Below w.heap.size w W:=by rw[hW];exact(((Below.refl _ _).alloc (Nat.le_refl _) _).alloc (by simp) _).alloc (by simp;omega) _
 have hsz:W.heap.size=w.heap.size+3:=by rw[hW];simp
 have g1:W.heap[w.heap.size]? =some (.cells #[.int .i64 n,.slice ao es.length cap] 24 (0,0)):=by
  rw[hW,Below.heap_alloc _ _ _ (by simp;omega),Below.heap_alloc _ _ _ (by simp)]
  exact heap_alloc_new w _
 have g2:W.heap[w.heap.size+1]? =some (.cells #[.slice f.a1 s.par.length f.c1,.slice f.a2 s.ay.length f.c2,.slice f.a3 s.ord.length f.c3,.slice f.a4 s.aJ.length f.c4] 36 (0,0)):=by
  rw[hW,Below.heap_alloc _ _ _ (by simp)]
  exact alloc_at (by simp)
 have g3:W.heap[w.heap.size+2]? =some (.cells #[.slice none 0 0,.slice none 0 0,.slice none 0 0,.slice none 0 0] 116 (0,0)):=by
  rw[hW]
  exact alloc_at (by simp)
 have ug:Hid (Calls Tryz.prog 96 #[.agg #[.int .i64 n,.slice ao es.length cap],.agg #[.slice f.a1 s.par.length f.c1,.slice f.a2 s.ay.length f.c2,.slice f.a3 s.ord.length f.c3,.slice f.a4 s.aJ.length f.c4]] W fun e w'=>∃q z,e= .returned (.tuple #[.pointer q,.int .i64 z])∧((Si.valid n es=false∧z=1)∨(Si.valid n es=true∧¬oK n es s∧z=80)∨∃(p m:Nat) (av:Value),n=(m:Int)∧q=some ⟨p,0,none⟩∧z=0∧Wd w' p av m es f s)∧Below W.heap.size W w'):=(JF n ao cap es f s W (he.later hB0) hl (hF.later hB0)).mono fun e w' ⟨h,hb⟩=>by
  rcases h with ⟨h1,h2⟩|⟨h1,h2,h3⟩|⟨p,m,av,h1,h2,h3⟩
  ·exact⟨_,_,h2,.inl ⟨h1,rfl⟩,hb⟩
  ·exact⟨_,_,h3,.inr (.inl ⟨h1,h2,rfl⟩),hb⟩
  ·exact⟨_,_,h2,.inr (.inr ⟨p,m,av,h1,rfl,rfl,h3⟩),hb⟩
 obtain⟨x0,x1,-⟩:=az g1
 obtain⟨k0,k1,k2,k3,-⟩:=au g2
 have OM:=Nu.hid g3
 have dm:=Nu.hid hB0
 have lZ:=Nu.hid hW
 rw[hW] at x0 x1 k0 k1 k2 k3
 unfold For.val
 clear hB0 g1 g2 g3 he hW hF
 go_enter Tryz.func65,Tryz.ntmps65
 go_wp2_with (go_at_call 96;rw[←lZ.out];refine ug.out.mono ?_;rintro e w1 ⟨q,z,rfl,hq,hb1⟩;refine Hid.out ?_)
 refine Nu.hid ?_
 clear x0 x1 k0 k1 k2 k3
 have hB1:Below w.heap.size w w1:=dm.out.trans (hb1.mono dm.out.size)
 have hs1:=hb1.size
 have r1:=(hb1.block _ (lt_of_block OM.out)).trans OM.out
 rcases hq with Q8|Q8|⟨p,m,av,hnm,rfl,rfl,hwd⟩
 ·obtain⟨hno,rfl⟩:=Q8
  obtain⟨u0,u1,u2,u3,u4⟩:=au r1
  have aV:=Nu.hid hB1
  have uh:=Nu.hid r1
  have jk:=Nu.hid hno
  clear hB1 r1 hno
  go_wp2
  obtain⟨Y,hY⟩:∃Y,Y=dY w1 (w.heap.size+1+1) (.slice none 0 0) (.slice none 0 0) (.slice none 0 0) (.slice none 0 0):=⟨_,rfl⟩
  have CL:=gV (B:=w.heap.size+1+1) uh.out (.slice none 0 0) (.slice none 0 0) (.slice none 0 0) (.slice none 0 0)
  rw[←hY] at CL
  have Kz:Below w.heap.size w Y:=by rw[hY];exact eA aV.out (by omega) _ _ _ _
  obtain⟨v0,v1,v2,v3,-⟩:=au CL
  unfold dY at hY
  rw[←hY]
  refine bodyPost_ret (v:= .tuple #[.agg #[.slice none 0 0,.slice none 0 0,.slice none 0 0,.slice none 0 0],.int .i64 1]) (by simp[results,Tryz.results65,go_sem,v0,v1,v2,v3]) rfl ?_
  exact⟨_,_,_,_,[],_,_,_,_,_,w.heap.size,rfl,.inl ⟨jk.out,rfl,rfl,rfl,rfl,rfl⟩,.nil _ _,.nil _ _,.nil _ _,.nil _ _,Nat.le_refl _,(fun b hb=>by cases hb),(fun b hb=>by cases hb),(fun b hb=>by cases hb),Kz⟩
 ·obtain⟨WS,hno,rfl⟩:=Q8
  obtain⟨u0,u1,u2,u3,u4⟩:=au r1
  have aV:=Nu.hid hB1
  have uh:=Nu.hid r1
  have jk:=Nu.hid hno
  have MK:=Nu.hid WS
  clear hB1 r1 hno WS
  go_wp2
  obtain⟨Y,hY⟩:∃Y,Y=dY w1 (w.heap.size+1+1) (.slice none 0 0) (.slice none 0 0) (.slice none 0 0) (.slice none 0 0):=⟨_,rfl⟩
  have CL:=gV (B:=w.heap.size+1+1) uh.out (.slice none 0 0) (.slice none 0 0) (.slice none 0 0) (.slice none 0 0)
  rw[←hY] at CL
  have Kz:Below w.heap.size w Y:=by rw[hY];exact eA aV.out (by omega) _ _ _ _
  obtain⟨v0,v1,v2,v3,-⟩:=au CL
  unfold dY at hY
  rw[←hY]
  refine bodyPost_ret (v:= .tuple #[.agg #[.slice none 0 0,.slice none 0 0,.slice none 0 0,.slice none 0 0],.int .i64 80]) (by simp[results,Tryz.results65,go_sem,v0,v1,v2,v3]) rfl ?_
  exact⟨_,_,_,_,[],_,_,_,_,_,w.heap.size,rfl,.inr (.inl ⟨MK.out,jk.out,rfl,rfl,rfl,rfl,rfl⟩),.nil _ _,.nil _ _,.nil _ _,.nil _ _,Nat.le_refl _,(fun b hb=>by cases hb),(fun b hb=>by cases hb),(fun b hb=>by cases hb),Kz⟩
 ·have C6:=Nu.hid (Ns w1 hwd)
  have uh:=Nu.hid r1
  have CW:=Nu.hid hwd
  have aV:=Nu.hid hB1
  have cq:=hwd.val.few
  have hnn:=hwd.val.hi
  subst hnm
  clear hwd hB1 r1 hb1
  go_wp2_with (go_at_call 97;refine C6.out.mono ?_;rintro e w2 ⟨g1,g2,rfl,i1,i2,l1,l2,hne,hb2⟩;refine Hid.out ?_)
  refine Nu.hid ?_
  have hs2:=hb2.size
  have gl1:=i1.lt
  have gl2:=i2.lt
  obtain⟨w3,hw3⟩:∃w3,w3=w2.alloc (.cells #[.slice (some ⟨g1,0,none⟩) es.length es.length,.slice (some ⟨g2,0,none⟩) es.length es.length,.slice none 0 0,.slice none 0 0] 116):=⟨_,rfl⟩
  have hb3:Below w2.heap.size w2 w3:=by rw[hw3];exact(Below.refl _ _).alloc (Nat.le_refl _) _
  have hs3:w3.heap.size=w2.heap.size+1:=by rw[hw3];simp
  have lb3:w3.heap[w2.heap.size]? =some (.cells #[.slice (some ⟨g1,0,none⟩) es.length es.length,.slice (some ⟨g2,0,none⟩) es.length es.length,.slice none 0 0,.slice none 0 0] 116 (0,0)):=by rw[hw3];exact heap_alloc_new w2 _
  have RN:Below w1.heap.size w1 w3:=hb2.trans (hb3.mono hb2.size)
  have HNS:=Nu.hid (JN g1 g2 w3 (CW.out.later RN) (i1.later hb3).ins (i2.later hb3).ins)
  have m8:=Nu.hid hw3
  have yy:=Nu.hid RN
  have mX:=Nu.hid (i1.later hb3)
  have fY:=Nu.hid (i2.later hb3)
  have Ye:=Nu.hid lb3
  clear hw3 hb3 hb2 i1 i2 RN lb3
  go_wp2_with (go_at_call 98;rw[←m8.out];refine HNS.out.mono ?_;rintro e w4 ⟨g3,rfl,i3,l3,hb4⟩;refine Hid.out ?_)
  refine Nu.hid ?_
  have hs4:=hb4.size
  have gl3:=i3.lt
  have Y0:=(hb4.block _ (lt_of_block Ye.out)).trans Ye.out
  obtain⟨y0,y1,y2,y3,yf⟩:=au Y0
  obtain⟨w5,qj⟩:∃w5,w5=w4.setCell ⟨w2.heap.size,2,none⟩ (.slice (some ⟨g3,0,none⟩) es.length es.length):=⟨_,rfl⟩
  have Rc:∀b,b≠w2.heap.size→w5.heap[b]? =w4.heap[b]? :=fun b hb=>by rw[qj];exact heap_setCell_other w4 ⟨w2.heap.size,2,none⟩ b _ hb
  have hs5:w5.heap.size=w4.heap.size:=by rw[qj];simp
  have YZ:w5.heap[w2.heap.size]? =some (.cells #[.slice (some ⟨g1,0,none⟩) es.length es.length,.slice (some ⟨g2,0,none⟩) es.length es.length,.slice (some ⟨g3,0,none⟩) es.length es.length,.slice none 0 0] 116 (0,0)):=by
   rw[qj]
   have:=setCell_at (i:=2) Y0 (.slice (some ⟨g3,0,none⟩) es.length es.length)
   exact this
  have RM:Below w1.heap.size w1 w5:=by rw[qj];exact(yy.out.trans (hb4.mono yy.out.size)).setCell (p:=⟨w2.heap.size,2,none⟩) (by show w1.heap.size≤w2.heap.size;omega) _
  have i35:aq w5 g3 (upTo (Lo.nest es s) es.length):=(Rc g3 (by omega)).trans i3
  have afP:Hid (aq w5 g1 (upTo (Lo.low es s) es.length)):=(Rc g1 (by omega)).trans (mX.out.later hb4)
  have afN:Hid (aq w5 g2 (upTo (Lo.cj es s) es.length)):=(Rc g2 (by omega)).trans (fY.out.later hb4)
  have HOS:=Nu.hid (Nf g3 w5 (CW.out.later RM) i35.ins)
  have yM:=Nu.hid qj
  have Yn:=Nu.hid RM
  have afL:=Nu.hid i35
  have Yd:=Nu.hid YZ
  have z2:w5.cell? ⟨w2.heap.size,2,none⟩=some (.slice (some ⟨g3,0,none⟩) es.length es.length):=(au YZ).2.2.1
  rw[qj] at z2
  clear qj hb4 i3 RM i35 YZ Y0 y0 y1 y3
  go_wp2_with (go_at_call 99;rw[←yM.out];refine HOS.out.mono ?_;rintro e w6 ⟨vo,vs,rfl,hro,cg⟩;refine Hid.out ?_)
  refine Nu.hid ?_
  clear z2 y2 yf
  have hs6:=cg.size
  have YY:=(cg.block _ (lt_of_block Yd.out)).trans Yd.out
  obtain⟨y0,y1,y2,y3,yf⟩:=au YY
  obtain⟨go,gc,hvo⟩:=zU hro
  subst hvo
  rw[Lo.dw]
  obtain⟨w7,NC⟩:∃w7,w7=w6.setCell ⟨w2.heap.size,3,none⟩ (.slice go m gc):=⟨_,rfl⟩
  have Rb:∀b,b≠w2.heap.size→w7.heap[b]? =w6.heap[b]? :=fun b hb=>by rw[NC];exact heap_setCell_other w6 ⟨w2.heap.size,3,none⟩ b _ hb
  have lb7:w7.heap[w2.heap.size]? =some (.cells #[.slice (some ⟨g1,0,none⟩) es.length es.length,.slice (some ⟨g2,0,none⟩) es.length es.length,.slice (some ⟨g3,0,none⟩) es.length es.length,.slice go m gc] 116 (0,0)):=by
   rw[NC]
   exact setCell_at (i:=3) YY (.slice go m gc)
  have RL:Below w1.heap.size w1 w7:=by rw[NC];exact(Yn.out.trans (cg.mono Yn.out.size)).setCell (p:=⟨w2.heap.size,3,none⟩) (by show w1.heap.size≤w2.heap.size;omega) _
  have r7:=(RL.block _ (lt_of_block uh.out)).trans uh.out
  obtain⟨q0,q1,q2,q3,-⟩:=au lb7
  obtain⟨t0,t1,t2,t3,tf⟩:=au r7
  have Mj:∀b,b<w5.heap.size→b≠w2.heap.size→w7.heap[b]? =w5.heap[b]? :=fun b hb hne=>(Rb b hne).trans (cg.block b hb)
  have afO:Hid (aq w7 g1 (upTo (Lo.low es s) es.length)):=(Mj g1 (by omega) (by omega)).trans afP.out
  have afM:Hid (aq w7 g2 (upTo (Lo.cj es s) es.length)):=(Mj g2 (by omega) (by omega)).trans afN.out
  have afK:Hid (aq w7 g3 (upTo (Lo.nest es s) es.length)):=(Mj g3 (by omega) (by omega)).trans afL.out
  have afi:Hid (bW w7 w5.heap.size (.slice go m gc) vs (Lo.bR m es s es.length)):=by
   rw[Lo.dw] at hro
   exact hro.same fun g hg _=>Rb g (by omega)
  have agc:=Nu.hid (aV.out.trans (RL.mono aV.out.size))
  have HR7:=Nu.hid r7
  have HW7:=Nu.hid NC
  rw[NC] at q0 q1 q2 q3 t0 t1 t2 t3 tf
  clear hro cg Rb Mj RL r7 lb7 YY NC y0 y1 y2
  go_wp2
  rw[←HW7.out]
  obtain⟨Y,hY⟩:∃Y,Y=dY w7 (w.heap.size+1+1) (.slice (some ⟨g1,0,none⟩) es.length es.length) (.slice (some ⟨g2,0,none⟩) es.length es.length) (.slice (some ⟨g3,0,none⟩) es.length es.length) (.slice go m gc):=⟨_,rfl⟩
  have CL:=gV (B:=w.heap.size+1+1) HR7.out (.slice (some ⟨g1,0,none⟩) es.length es.length) (.slice (some ⟨g2,0,none⟩) es.length es.length) (.slice (some ⟨g3,0,none⟩) es.length es.length) (.slice go m gc)
  rw[←hY] at CL
  have Kz:Below w.heap.size w Y:=by rw[hY];exact eA agc.out (by omega) _ _ _ _
  have Ib:∀b,b≠w.heap.size+1+1→Y.heap[b]? =w7.heap[b]? :=fun b hb=>by rw[hY];exact kH hb _ _ _ _
  obtain⟨v0,v1,v2,v3,-⟩:=au CL
  unfold dY at hY
  rw[←hY]
  refine bodyPost_ret (v:= .tuple #[.agg #[.slice (some ⟨g1,0,none⟩) es.length es.length,.slice (some ⟨g2,0,none⟩) es.length es.length,.slice (some ⟨g3,0,none⟩) es.length es.length,.slice go m gc],.int .i64 0]) (by simp[results,Tryz.results65,go_sem,v0,v1,v2,v3]) rfl ?_
  have o1:aq Y g1 (upTo (Lo.low es s) es.length):=(Ib g1 (by omega)).trans afO.out
  have o2:aq Y g2 (upTo (Lo.cj es s) es.length):=(Ib g2 (by omega)).trans afM.out
  have o3:aq Y g3 (upTo (Lo.nest es s) es.length):=(Ib g3 (by omega)).trans afK.out
  refine⟨_,_,_,_,vs,_,_,_,_,_,w5.heap.size,rfl,.inr (.inr ⟨m,rfl,CW.out.val,CW.out.vf,rfl,rfl,rfl,rfl,rfl⟩),o1.own (by omega) (fG _ _) (by omega),o2.own (by omega) (fG _ _) (by omega),o3.own (by omega) (fG _ _) (by omega),afi.out.same fun g hg _=>Ib g (by omega),by omega,fun b hb=> ?_,fun b hb=> ?_,fun b hb=> ?_,Kz⟩
  ·have hb:g1=b:=Option.some.inj hb
   exact⟨by omega,(fun e=>by have e:g2=b:=Option.some.inj e;omega),(fun e=>by have e:g3=b:=Option.some.inj e;omega)⟩
  ·have hb:g2=b:=Option.some.inj hb
   exact⟨by omega,(fun e=>by have e:g3=b:=Option.some.inj e;omega)⟩
  ·have hb:g3=b:=Option.some.inj hb
   omega
end
section
open Go.RowKit
theorem o9 {w:World} {B:Nat} {T:TypeId} {k n:Nat} {v:Value} {xs:List Value} (h:w.ownsRow B T k v n xs):∃ao m c,v= .slice ao m c:=by
 rcases h.2 with ⟨e,_⟩|⟨g,cap,cur,e,_⟩
 ·exact⟨none,0,0,e⟩
 ·exact⟨_,_,_,e⟩
def Vk (n:Int) (ao:Option Addr) (cap:Nat) (es:List (Int×Int)) (f:For) (s:Df.St) (w:World) (r:Ending) (w':World):Prop:=
 (Si.valid n es=false∧r= .returned (.tuple #[.pointer none,.int .i64 1])∧Below w.heap.size w w')∨
 (Si.valid n es=true∧¬oK n es s∧r= .returned (.tuple #[.pointer none,.int .i64 80])∧Below w.heap.size w w')∨
 ∃(c:Wp) (p:Nat),n=(c.n:Int)∧c.es=es∧c.s=s∧c.ao=ao∧c.ca=cap∧c.f=f∧r= .returned (.tuple #[.pointer (some ⟨p,0,none⟩),.int .i64 0])∧w.heap.size≤p∧bV c p w'∧Below w.heap.size w w'
set_option maxRecDepth 100000 in
set_option maxHeartbeats 16000000 in
theorem Ak (n:Int) (ao:Option Addr) (cap:Nat) (es:List (Int×Int)) (f:For) (s:Df.St) (w:World) (he:aL w ao es) (hl:es.length≤4611686018427387904) (hF:dF w f s):
 Calls Tryz.prog 38 #[.agg #[.int .i64 n,.slice ao es.length cap],f.val s] w (Vk n ao cap es f s w):=by
 obtain⟨W,hW⟩:∃W,W=(w.alloc (.cells #[.int .i64 n,.slice ao es.length cap] 24)).alloc (.cells #[.slice f.a1 s.par.length f.c1,.slice f.a2 s.ay.length f.c2,.slice f.a3 s.ord.length f.c3,.slice f.a4 s.aJ.length f.c4] 36):=⟨_,rfl⟩
 have hB0:Below w.heap.size w W:=by rw[hW];exact((Below.refl _ _).alloc (Nat.le_refl _) _).alloc (by simp) _
 have hsz:W.heap.size=w.heap.size+2:=by rw[hW];simp
 have g1:W.heap[w.heap.size]? =some (.cells #[.int .i64 n,.slice ao es.length cap] 24 (0,0)):=by
  rw[hW,Below.heap_alloc _ _ _ (by simp)]
  exact heap_alloc_new w _
 have g2:W.heap[w.heap.size+1]? =some (.cells #[.slice f.a1 s.par.length f.c1,.slice f.a2 s.ay.length f.c2,.slice f.a3 s.ord.length f.c3,.slice f.a4 s.aJ.length f.c4] 36 (0,0)):=by
  rw[hW]
  have:=heap_alloc_new (w.alloc (.cells #[.int .i64 n,.slice ao es.length cap] 24)) (.cells #[.slice f.a1 s.par.length f.c1,.slice f.a2 s.ay.length f.c2,.slice f.a3 s.ord.length f.c3,.slice f.a4 s.aJ.length f.c4] 36)
  simpa using this
 have HOF:=Nu.hid (Pb n ao cap es f s W (he.later hB0) hl (hF.later hB0))
 unfold For.val at HOF
 obtain⟨x0,x1,-⟩:=az g1
 obtain⟨y0,y1,y2,y3,-⟩:=au g2
 rw[hW] at x0 x1 y0 y1 y2 y3 HOF
 have HW:=Nu.hid hW
 have dm:=Nu.hid hB0
 have nW:=Nu.hid g1
 have kT:=Nu.hid g2
 have HE:=Nu.hid he
 have HF:=Nu.hid hF
 unfold For.val
 clear hW hB0 g1 g2 he hF
 go_enter Tryz.func38,Tryz.ntmps38
 go_wp2_with fail
 go_at_call 65
 refine HOF.out.mono ?_
 intro e w1 hp
 rw[←HW.out] at hp
 obtain⟨v1,v2,v3,vo,vs,A1,A2,A3,ls,z,rfl,his,o1,o2,o3,oo,hb1⟩:=hp.low
 obtain⟨a1,n1,c1,rfl⟩:=o9 o1
 obtain⟨a2,n2,c2,rfl⟩:=o9 o2
 obtain⟨a3,n3,c3,rfl⟩:=o9 o3
 obtain⟨a4,n4,c4,rfl⟩:=o9 oo.outer
 have Vz:=Nu.hid o1
 have HOO:=Nu.hid oo
 have aV:=Nu.hid hb1
 have f1:=(hb1.block _ (by omega)).trans nW.out
 have f2:=(hb1.block _ (by omega)).trans kT.out
 have rE:=Nu.hid f1
 have HF2:=Nu.hid f2
 have hs1:=hb1.size
 obtain⟨W3,hW3⟩:∃W3,W3=w1.alloc (.cells #[.slice a1 n1 c1,.slice a2 n2 c2,.slice a3 n3 c3,.slice a4 n4 c4] 116):=⟨_,rfl⟩
 have hb3:Below w1.heap.size w1 W3:=by rw[hW3];exact(Below.refl _ _).alloc (Nat.le_refl _) _
 have dM:Hid (Below w.heap.size w W3):=by
  have q1:=dm.out.trans (hb1.mono dm.out.size)
  exact q1.trans (hb3.mono q1.size)
 have yy:=Nu.hid hb3
 have m8:=Nu.hid hW3
 have k1:=(hb3.block _ (lt_of_block f1)).trans f1
 have k2:=(hb3.block _ (lt_of_block f2)).trans f2
 have k3:W3.heap[w1.heap.size]? =some (.cells #[.slice a1 n1 c1,.slice a2 n2 c2,.slice a3 n3 c3,.slice a4 n4 c4] 116 (0,0)):=by rw[hW3];exact heap_alloc_new w1 _
 obtain⟨x0,x1,-⟩:=az k1
 obtain⟨y0,y1,y2,y3,-⟩:=au k2
 obtain⟨z0,z1,z2,z3,-⟩:=au k3
 rw[hW3] at x0 x1 y0 y1 y2 y3 z0 z1 z2 z3
 clear hp o1 o2 o3 oo hb1 f1 f2 hb3 k1 k2 k3 hW3
 rcases his with ⟨q1,-,-,-,-,rfl⟩|⟨q1,q2,-,-,-,-,rfl⟩|⟨m,q1,q2,q3,q4,-,-,q5,rfl⟩
 ·clear x0 x1 y0 y1 y2 y3 z0 z1 z2 z3
  go_wp2_with fail
  go_ret2
  refine .inl ⟨q1,rfl,?_⟩
  rw[←m8.out]
  exact dM.out
 ·clear x0 x1 y0 y1 y2 y3 z0 z1 z2 z3
  go_wp2_with fail
  go_ret2
  refine .inr (.inl ⟨q1,q2,rfl,?_⟩)
  rw[←m8.out]
  exact dM.out
 ·go_wp2_with fail
  go_ret2
  refine .inr (.inr ⟨⟨m,es,s,ao,cap,f,.slice a1 n1 c1,.slice a2 n2 c2,.slice a3 n3 c3,.slice a4 n4 c4,vs⟩,w1.heap.size+1,q1,rfl,rfl,rfl,rfl,rfl,rfl,?_,?_,?_⟩)
  all_goals (try rw[←m8.out])
  ·have:=aV.out.size
   have:=dm.out.size
   omega
  ·have WA:W3.heap.size=w1.heap.size+1:=by rw[m8.out];simp
   have hb4:∀o,Below W3.heap.size W3 (W3.alloc o):=fun o=>(Below.refl _ _).alloc (Nat.le_refl _) _
   have hb5:∀o,Below w1.heap.size w1 (W3.alloc o):=fun o=>yy.out.trans ((hb4 o).mono yy.out.size)
   have cg:∀o,Below w.heap.size w (W3.alloc o):=fun o=>dM.out.trans ((hb4 o).mono dM.out.size)
   obtain⟨l1,l2,l3,l4⟩:=q3.lens
   have o1:=Vz.out
   have oo:=HOO.out
   rw[q4] at o1
   rw[q5] at oo
   refine⟨?_,HE.out.later (cg _),HF.out.later (cg _),q2,q3,(o1.lower (Nat.zero_le _)).later (hb5 _),(oo.lower (Nat.zero_le _)).later (hb5 _)⟩
   rw[←WA,l1,l2,l3,l4]
   exact heap_alloc_new W3 _
  ·exact dM.out.trans (((Below.refl _ _).alloc (Nat.le_refl _) _).mono dM.out.size)
end
end Go.Proofs.YtnhcggfbkoppnaaGreat
