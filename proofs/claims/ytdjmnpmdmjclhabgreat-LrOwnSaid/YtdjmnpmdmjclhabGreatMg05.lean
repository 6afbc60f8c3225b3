import Derived.Test.YtdjmnpmdmjclhabGreatMg04
import Derived.Test.YtdjmnpmdmjclhabGreatMg00
import Derived.Test.YtdjmnpmdmjclhabGreatMg01
import Derived.Deep.QuietTactic
import Derived.BigQuiet
import Derived.Test.YtdjmnpmdmjclhabGreatMg02
namespace Go.Proofs.YtdjmnpmdmjclhabGreat
section
open Go.RowKit aj
def pL:nJ:=⟨[],fun v _ lo hi w=>v= .slice (some ⟨lo,0,none⟩) 0 0∧lo<hi∧w.heap[lo]? =some (.cells #[] 3 (0,0))⟩
def iu (i j B:Nat) (l:List Int):nJ:=⟨[i,j],fun v vs lo hi w=>∃g c b y,v= .slice (some ⟨g,0,none⟩) l.length c∧vs=[.slice (some ⟨b,0,none⟩) 0 0,y]∧(g=b∨(lo≤g∧g<hi))∧aP w B v l⟩
def fc (b B:Nat) (f:For) (s:Df.St):Nat→nJ
 |0=>pL
 |1=>FH b 0
 |2=>qM 1 (.slice f.a1 s.par.length f.c1)
 |3=>iu 0 2 B s.par
 |4=>pL
 |5=>FH b 1
 |6=>qM 5 (.slice f.a2 s.az.length f.c2)
 |7=>iu 4 6 B s.az
 |8=>pL
 |9=>FH b 2
 |10=>qM 9 (.slice f.a3 s.ord.length f.c3)
 |11=>iu 8 10 B s.ord
 |12=>pL
 |13=>FH b 3
 |14=>qM 13 (.slice f.a4 s.aJ.length f.c4)
 |15=>iu 12 14 B s.aJ
 |_=>⟨[3,7,11,15],fun v vs _ _ _=>∃x1 x2 x3 x4,vs=[x1,x2,x3,x4]∧v= .agg #[x1,x2,x3,x4]⟩
theorem pL.PO {v:Value} {vs:List Value} {lo hi:Nat} {w w':World} (hh:hi≤w.heap.size) (hb:Below w.heap.size w w') (h:pL.post v vs lo hi w):pL.post v vs lo hi w':=
 ⟨h.1,h.2.1,(hb.block lo (aa7 h.2.1 hh)).trans h.2.2⟩
theorem iu.PO {i j B:Nat} {l:List Int} {v:Value} {vs:List Value} {lo hi:Nat} {w w':World} (hb:Below w.heap.size w w') (h:(iu i j B l).post v vs lo hi w):(iu i j B l).post v vs lo hi w':=by
 obtain⟨g,c,b,y,h1,h2,h3,h4⟩:=h
 exact⟨g,c,b,y,h1,h2,h3,h4.later hb⟩
theorem nG {i j B lo n ca:Nat} {l:List Int} {t a b:Tmp} {ps:String} {af:Array Edge} {ev:Operand→Value} {U:World} {x y:Value} {ao:Option Addr} (ha:ev (.tmp a)=x) (hb:ev (.tmp b)=y) (hx:x= .slice (some ⟨lo,0,none⟩) 0 0) (hblk:U.heap[lo]? =some (.cells #[] 3 (0,0))) (hB:B≤lo) (hy:y= .slice ao n ca) (hl:gI U ao n ca l) (hn:n≤17592186043904):
 cF Tryz.prog { dst:=some t,op:= .call { callee:= .builtin .append,args:= #[.tmp a,.tmp b],argTypes:= #[27,27] },type:=27,pos:=ps,after:=af,guard:=none } ev U fun v w'=>Below U.heap.size U w'∧(iu i j B l).post v [x,y] U.heap.size w'.heap.size w':=by
 obtain⟨g,c,w',hrun,h1,h2,h3,h4⟩:=J7 27 U lo ao n ca l hblk hl hn
 have hlen:=hl.len
 subst hlen
 refine ah (v:= .slice (some ⟨g,0,none⟩) l.length c) (w':=w') ?_ ⟨h4,g,c,lo,y,rfl,by rw[hx],?_,h2 B hB⟩
 ·simp[execOp,resolve,invoke,builtin,ha,hb,hx,hy,hrun,Result.andThen]
 ·rcases h1 with h1|h1
  ·exact .inl h1
  ·exact .inr ⟨h1,h3⟩
theorem Di {t1 t2:Tmp} {ty:TypeId} {ps:String} {af:Array Edge} {ev:Operand→Value} {V:World} {R x1 x2 x3 x4 l1 l2 l3 l4 d1 d2 d3 d4:Nat} {y1 y2 y3 y4:Value} (h1:ev (.tmp t1)= .pointer (some ⟨R,0,none⟩)) (h2:ev (.tmp t2)= .agg #[.slice (some ⟨x1,0,none⟩) l1 d1,.slice (some ⟨x2,0,none⟩) l2 d2,.slice (some ⟨x3,0,none⟩) l3 d3,.slice (some ⟨x4,0,none⟩) l4 d4])
 (hb:V.heap[R]? =some (.cells #[y1,y2,y3,y4] 36 (0,0))):
 cF Tryz.prog { dst:=none,op:= .store 36 (.tmp t1) (.tmp t2),type:=ty,pos:=ps,after:=af,guard:=none } ev V fun _ w'=>w'=dY V R (.slice (some ⟨x1,0,none⟩) l1 d1) (.slice (some ⟨x2,0,none⟩) l2 d2) (.slice (some ⟨x3,0,none⟩) l3 d3) (.slice (some ⟨x4,0,none⟩) l4 d4):=by
 obtain⟨k0,k1,k2,k3,kf⟩:=au hb
 refine bF ?_ rfl
 unfold dY
 simp[execOp,go_sem,h1,h2,k0,k1,k2,k3,kf]
end
section
open Go.RowKit aj
theorem OT {tm:Array Value} {V:World} {R:Nat} {y1 y2 y3 y4:Value} (h2:tm.getD 2 undef= .pointer (some ⟨R,0,none⟩)) (hb:V.heap[R]? =some (.cells #[y1,y2,y3,y4] 36 (0,0))):(results Tryz.f10 tm).run Tryz.prog V= .ok (.agg #[y1,y2,y3,y4]) V:=by
 obtain⟨k0,k1,k2,k3,-⟩:=au hb
 have h3:tm[2]?.getD undef= .pointer (some ⟨R,0,none⟩):=by simpa using h2
 simp[results,Tryz.results10,go_sem,h3,k0,k1,k2,k3]
def Mf (s:Df.St) (w:World) (e:Ending) (w':World):Prop:=
 ∃v1 v2 v3 v4,e= .returned (.agg #[v1,v2,v3,v4])∧lX w' w.heap.size v1 v2 v3 v4 s∧Below w.heap.size w w'
set_option maxRecDepth 100000 in
set_option maxHeartbeats 8000000 in
theorem Lp (f:For) (s:Df.St) (w:World) (h:dI w f s):
 Calls Tryz.prog 10 #[f.val s] w (Mf s w):=by
 obtain⟨W,hW⟩:∃W,W=(w.alloc (.cells #[.slice f.a1 s.par.length f.c1,.slice f.a2 s.az.length f.c2,.slice f.a3 s.ord.length f.c3,.slice f.a4 s.aJ.length f.c4] 36)).alloc (.cells #[.slice none 0 0,.slice none 0 0,.slice none 0 0,.slice none 0 0] 36):=⟨_,rfl⟩
 have hB0:Below w.heap.size w W:=by rw[hW];exact((aae _ _).alloc (aad _) _).alloc (by simp) _
 have hsz:W.heap.size=w.heap.size+2:=by rw[hW];simp
 have g1:W.heap[w.heap.size]? =some (.cells #[.slice f.a1 s.par.length f.c1,.slice f.a2 s.az.length f.c2,.slice f.a3 s.ord.length f.c3,.slice f.a4 s.aJ.length f.c4] 36 (0,0)):=by
  rw[hW,aap _ _ _ (by simp)]
  exact heap_alloc_new w _
 have g2:W.heap[w.heap.size+1]? =some (.cells #[.slice none 0 0,.slice none 0 0,.slice none 0 0,.slice none 0 0] 36 (0,0)):=by
  rw[hW]
  exact alloc_at (by simp)
 have hF:=h.later hB0
 have lg:=Nu.hid hW
 clear h hW
 go_enter Tryz.func10,Tryz.ntmps10
 go_wp2_with fail
 rename_i K1 hK1
 rw[←lg.out]
 refine wp_region_any (by kernel_rfl) ?_
 have dS:Below W.heap.size W { W with drawn:=W.drawn+1 }:=(aae _ _).drew
 refine aj.any (fc w.heap.size W.heap.size f s) 17 20 (by decide) rfl (by kernel_rfl) ?_ ?_ ?_
 ·intro i hi v vs lo hi' U U' h1 h2 h3
  have hc:i=0∨i=1∨i=2∨i=3∨i=4∨i=5∨i=6∨i=7∨i=8∨i=9∨i=10∨i=11∨i=12∨i=13∨i=14∨i=15∨i=16:=by omega
  rcases hc with rfl|rfl|rfl|rfl|rfl|rfl|rfl|rfl|rfl|rfl|rfl|rfl|rfl|rfl|rfl|rfl|rfl<;>first|exact pL.PO h1 h2 h3|exact iu.PO h2 h3|exact h3
 ·intro i o ρ U ev hi ho hb hd aA aS _
  have hb2:Below W.heap.size W U:=dS.trans hb
  have IZ:=hF.later hb2
  have k1:=(hb2.block w.heap.size (by omega)).trans g1
  obtain⟨c0,c1,c2,c3,-⟩:=au k1
  have hnew:∀(t:Tmp) (ps:String) (af:Array Edge) (ev:Operand→Value),cF Tryz.prog { dst:=some t,op:= .buildSlice 27 0 #[],type:=27,pos:=ps,after:=af,guard:=none } ev U fun v w'=>Below U.heap.size U w'∧pL.post v [] U.heap.size w'.heap.size w':=fun t ps af ev=>by
   refine ah (v:= .slice (some ⟨U.heap.size,0,none⟩) 0 0) (w':=U.alloc (.cells #[] 3)) ?_ ⟨(aae _ _).alloc (aad _) _,rfl,by simp,heap_alloc_new _ _⟩
   simp[execOp,go_sem]
  have hc:i=0∨i=1∨i=2∨i=3∨i=4∨i=5∨i=6∨i=7∨i=8∨i=9∨i=10∨i=11∨i=12∨i=13∨i=14∨i=15∨i=16:=by omega
  rcases hc with rfl|rfl|rfl|rfl|rfl|rfl|rfl|rfl|rfl|rfl|rfl|rfl|rfl|rfl|rfl|rfl|rfl<;>obtain rfl:=aak ho
  ·exact hnew _ _ _ _
  ·have e1:=aS 1 (by kernel_rfl)
   exact ah (v:= .pointer (some ⟨w.heap.size,0,none⟩)) (w':=U) (by simp[execOp,go_sem,e1]) ⟨aae _ _,rfl⟩
  ·obtain⟨_,_,_,_,_,r4⟩:=hd 1 (by simp[fc,qM])
   have r5:ρ 1= .pointer (some ⟨w.heap.size,0,none⟩):=r4
   exact ah (v:= .slice f.a1 s.par.length f.c1) (w':=U) (by simp[execOp,go_sem,aA 1 4 (by omega) rfl (by decide),r5,c0]) ⟨aae _ _,rfl⟩
  ·obtain⟨lo,hi',q1,q2,q3,r1,r2,r3⟩:=hd 0 (by simp[fc,iu])
   obtain⟨_,_,_,_,_,r4⟩:=hd 2 (by simp[fc,iu])
   exact nG (aA 0 3 (by omega) rfl (by decide)) (aA 2 5 (by omega) rfl (by decide)) r1 r3 q1 r4 IZ.l1 IZ.n1
  ·exact hnew _ _ _ _
  ·have e1:=aS 1 (by kernel_rfl)
   exact ah (v:= .pointer (some ⟨w.heap.size,1,none⟩)) (w':=U) (by simp[execOp,go_sem,e1]) ⟨aae _ _,rfl⟩
  ·obtain⟨_,_,_,_,_,r4⟩:=hd 5 (by simp[fc,qM])
   have r5:ρ 5= .pointer (some ⟨w.heap.size,1,none⟩):=r4
   exact ah (v:= .slice f.a2 s.az.length f.c2) (w':=U) (by simp[execOp,go_sem,aA 5 8 (by omega) rfl (by decide),r5,c1]) ⟨aae _ _,rfl⟩
  ·obtain⟨lo,hi',q1,q2,q3,r1,r2,r3⟩:=hd 4 (by simp[fc,iu])
   obtain⟨_,_,_,_,_,r4⟩:=hd 6 (by simp[fc,iu])
   exact nG (aA 4 7 (by omega) rfl (by decide)) (aA 6 9 (by omega) rfl (by decide)) r1 r3 q1 r4 IZ.l2 IZ.n2
  ·exact hnew _ _ _ _
  ·have e1:=aS 1 (by kernel_rfl)
   exact ah (v:= .pointer (some ⟨w.heap.size,2,none⟩)) (w':=U) (by simp[execOp,go_sem,e1]) ⟨aae _ _,rfl⟩
  ·obtain⟨_,_,_,_,_,r4⟩:=hd 9 (by simp[fc,qM])
   have r5:ρ 9= .pointer (some ⟨w.heap.size,2,none⟩):=r4
   exact ah (v:= .slice f.a3 s.ord.length f.c3) (w':=U) (by simp[execOp,go_sem,aA 9 12 (by omega) rfl (by decide),r5,c2]) ⟨aae _ _,rfl⟩
  ·obtain⟨lo,hi',q1,q2,q3,r1,r2,r3⟩:=hd 8 (by simp[fc,iu])
   obtain⟨_,_,_,_,_,r4⟩:=hd 10 (by simp[fc,iu])
   exact nG (aA 8 11 (by omega) rfl (by decide)) (aA 10 13 (by omega) rfl (by decide)) r1 r3 q1 r4 IZ.l3 IZ.n3
  ·exact hnew _ _ _ _
  ·have e1:=aS 1 (by kernel_rfl)
   exact ah (v:= .pointer (some ⟨w.heap.size,3,none⟩)) (w':=U) (by simp[execOp,go_sem,e1]) ⟨aae _ _,rfl⟩
  ·obtain⟨_,_,_,_,_,r4⟩:=hd 13 (by simp[fc,qM])
   have r5:ρ 13= .pointer (some ⟨w.heap.size,3,none⟩):=r4
   exact ah (v:= .slice f.a4 s.aJ.length f.c4) (w':=U) (by simp[execOp,go_sem,aA 13 16 (by omega) rfl (by decide),r5,c3]) ⟨aae _ _,rfl⟩
  ·obtain⟨lo,hi',q1,q2,q3,r1,r2,r3⟩:=hd 12 (by simp[fc,iu])
   obtain⟨_,_,_,_,_,r4⟩:=hd 14 (by simp[fc,iu])
   exact nG (aA 12 15 (by omega) rfl (by decide)) (aA 14 17 (by omega) rfl (by decide)) r1 r3 q1 r4 IZ.l4 IZ.n4
  ·obtain⟨_,_,_,_,_,g1,d1,_,_,r1,_⟩:=hd 3 (by simp[fc])
   obtain⟨_,_,_,_,_,g2,d2,_,_,r2,_⟩:=hd 7 (by simp[fc])
   obtain⟨_,_,_,_,_,g3,d3,_,_,r3,_⟩:=hd 11 (by simp[fc])
   obtain⟨_,_,_,_,_,g4,d4,_,_,r4,_⟩:=hd 15 (by simp[fc])
   exact ah (v:= .agg #[ρ 3,ρ 7,ρ 11,ρ 15]) (w':=U) (by simp[execOp,go_sem,aA 3 6 (by omega) rfl (by decide),aA 7 10 (by omega) rfl (by decide),aA 11 14 (by omega) rfl (by decide),aA 15 18 (by omega) rfl (by decide),r1,r2,r3,r4]) ⟨aae _ _,_,_,_,_,rfl,rfl⟩
 ·intro ρ lo hi V a _ BC aA aS hb hd Ed
  have p2:a.eval (.tmp 2)= .pointer (some ⟨w.heap.size+1,0,none⟩):=aS 2 (by kernel_rfl)
  have p19:=aA 16 19 (by omega) rfl (by decide)
  have hb2:Below W.heap.size W V:=dS.trans hb
  have hk2:=(hb2.block (w.heap.size+1) (by omega)).trans g2
  obtain⟨a1,_,_,m1,n1,_⟩:=hd 0 (by omega)
  obtain⟨a2,_,_,m2,n2,_⟩:=hd 4 (by omega)
  obtain⟨a3,_,_,m3,n3,_⟩:=hd 8 (by omega)
  obtain⟨a4,_,_,m4,n4,_⟩:=hd 12 (by omega)
  obtain⟨b1,_,_,x1,d1,y1,_,r1,s1,t1,u1⟩:=hd 3 (by omega)
  obtain⟨b2,_,_,x2,d2,y2,_,r2,s2,t2,u2⟩:=hd 7 (by omega)
  obtain⟨b3,_,_,x3,d3,y3,_,r3,s3,t3,u3⟩:=hd 11 (by omega)
  obtain⟨b4,_,_,x4,d4,y4,_,r4,s4,t4,u4⟩:=hd 15 (by omega)
  obtain⟨_,_,_,q1,q2,q3,q4,hq,hv⟩:=hd 16 (by omega)
  have hv2:ρ 16= .agg #[ρ 3,ρ 7,ρ 11,ρ 15]:=by
   have e:[ρ 3,ρ 7,ρ 11,ρ 15]=[q1,q2,q3,q4]:=hq
   simp at e
   obtain⟨rfl,rfl,rfl,rfl⟩:=e
   exact hv
  have z1:lo 0=y1:=by
   have e:[ρ 0,ρ 2]=_:=s1
   rw[m1] at e
   injection e with e1
   injection e1 with e2
   injection e2 with e3
   injection e3
  have z2:lo 4=y2:=by
   have e:[ρ 4,ρ 6]=_:=s2
   rw[m2] at e
   injection e with e1
   injection e1 with e2
   injection e2 with e3
   injection e3
  have z3:lo 8=y3:=by
   have e:[ρ 8,ρ 10]=_:=s3
   rw[m3] at e
   injection e with e1
   injection e1 with e2
   injection e2 with e3
   injection e3
  have z4:lo 12=y4:=by
   have e:[ρ 12,ρ 14]=_:=s4
   rw[m4] at e
   injection e with e1
   injection e1 with e2
   injection e2 with e3
   injection e3
  have D:=fun i j (h1:i<17) (h2:j<17) (h3:i≠j)=>Ed i j h1 h2 h3
  have Xq:x1≠x2:=by
   have:=D 0 4 (by omega) (by omega) (by omega)
   have:=D 0 7 (by omega) (by omega) (by omega)
   have:=D 3 4 (by omega) (by omega) (by omega)
   have:=D 3 7 (by omega) (by omega) (by omega)
   omega
  have Xp:x1≠x3:=by
   have:=D 0 8 (by omega) (by omega) (by omega)
   have:=D 0 11 (by omega) (by omega) (by omega)
   have:=D 3 8 (by omega) (by omega) (by omega)
   have:=D 3 11 (by omega) (by omega) (by omega)
   omega
  have Xo:x1≠x4:=by
   have:=D 0 12 (by omega) (by omega) (by omega)
   have:=D 0 15 (by omega) (by omega) (by omega)
   have:=D 3 12 (by omega) (by omega) (by omega)
   have:=D 3 15 (by omega) (by omega) (by omega)
   omega
  have Xn:x2≠x3:=by
   have:=D 4 8 (by omega) (by omega) (by omega)
   have:=D 4 11 (by omega) (by omega) (by omega)
   have:=D 7 8 (by omega) (by omega) (by omega)
   have:=D 7 11 (by omega) (by omega) (by omega)
   omega
  have Xm:x2≠x4:=by
   have:=D 4 12 (by omega) (by omega) (by omega)
   have:=D 4 15 (by omega) (by omega) (by omega)
   have:=D 7 12 (by omega) (by omega) (by omega)
   have:=D 7 15 (by omega) (by omega) (by omega)
   omega
  have Xl:x3≠x4:=by
   have:=D 8 12 (by omega) (by omega) (by omega)
   have:=D 8 15 (by omega) (by omega) (by omega)
   have:=D 11 12 (by omega) (by omega) (by omega)
   have:=D 11 15 (by omega) (by omega) (by omega)
   omega
  rw[r1] at u1
  rw[r2] at u2
  rw[r3] at u3
  rw[r4] at u4
  rw[r1,r2,r3,r4] at hv2
  have hown:lX V W.heap.size (.slice (some ⟨x1,0,none⟩) s.par.length d1) (.slice (some ⟨x2,0,none⟩) s.az.length d2) (.slice (some ⟨x3,0,none⟩) s.ord.length d3) (.slice (some ⟨x4,0,none⟩) s.aJ.length d4) s:=by
   have ap:∀{x y n1 n2 c1 c2:Nat},x≠y→∀b,(Value.slice (some ⟨x,0,none⟩) n1 c1).ownBlock=some b→(Value.slice (some ⟨y,0,none⟩) n2 c2).ownBlock≠some b:=fun h b h1 h2=>h ((aak h1).trans (aak h2).symm)
   exact⟨u1,u2,u3,u4,ap Xq,ap Xp,ap Xo,ap Xn,ap Xm,ap Xl⟩
  obtain⟨z0,hz0⟩:∃z,ρ 16=z:=⟨_,rfl⟩
  have Ra:=hown.same (w':=dY V (w.heap.size+1) (.slice (some ⟨x1,0,none⟩) s.par.length d1) (.slice (some ⟨x2,0,none⟩) s.az.length d2) (.slice (some ⟨x3,0,none⟩) s.ord.length d3) (.slice (some ⟨x4,0,none⟩) s.aJ.length d4)) fun g hg _=>kR (by omega) _ _ _ _
  have RY:=eA (hB0.trans (hb2.mono hB0.size)) (R:=w.heap.size+1) (by omega) (.slice (some ⟨x1,0,none⟩) s.par.length d1) (.slice (some ⟨x2,0,none⟩) s.az.length d2) (.slice (some ⟨x3,0,none⟩) s.ord.length d3) (.slice (some ⟨x4,0,none⟩) s.aJ.length d4)
  have xP:=Nu.hid hk2
  have HR:=Nu.hid (gW hk2 (.slice (some ⟨x1,0,none⟩) s.par.length d1) (.slice (some ⟨x2,0,none⟩) s.az.length d2) (.slice (some ⟨x3,0,none⟩) s.ord.length d3) (.slice (some ⟨x4,0,none⟩) s.aJ.length d4))
  have Pn:=Nu.hid (Ra.lower hB0.size)
  have oY:=Nu.hid RY
  clear hd Ed D hown Ra RY Xq Xp Xo Xn Xm Xl u1 u2 u3 u4 z1 z2 z3 z4 hk2 hb hb2 hF g1 g2 hz0 n1 n2 n3 n4
  rw[hv2] at p19
  have p2':a.tmps.getD 2 undef= .pointer (some ⟨w.heap.size+1,0,none⟩):=p2
  clear aA aS
  refine wpAny_ready (rs:=[17]) (by kernel_rfl) (by simp) ?_
  refine AllReady.cons rfl (fun K hK=> ?_) AllReady.nil
  rw[if_pos (by rfl)]
  refine cF.wp (R:=fun _ w'=>w'=dY V (w.heap.size+1) (.slice (some ⟨x1,0,none⟩) s.par.length d1) (.slice (some ⟨x2,0,none⟩) s.az.length d2) (.slice (some ⟨x3,0,none⟩) s.ord.length d3) (.slice (some ⟨x4,0,none⟩) s.aJ.length d4)) ?_ ?_
  ·exact Di p2 p19 xP.out
  ·rintro v w' rfl
   refine hK _ _ ?_
   clear hK K
   refine wpAny_done (by kernel_rfl) ?_ _
   refine hK1 _ _ (wp_ret ?_)
   exact bodyPost_ret (OT p2' HR.out) BC ⟨_,_,_,_,rfl,Pn.out,oY.out⟩
end
section
open Go.RowKit Go.Sort
theorem OU (f:For) (s:Df.St) (w:World) (h:dI w f s):
 Calls Tryz.prog 10 #[.agg #[.slice f.a1 s.par.length f.c1,.slice f.a2 s.az.length f.c2,.slice f.a3 s.ord.length f.c3,.slice f.a4 s.aJ.length f.c4]] w fun e w'=>∃a1 a2 a3 a4 c1 c2 c3 c4,e= .returned (.agg #[.slice a1 s.par.length c1,.slice a2 s.az.length c2,.slice a3 s.ord.length c3,.slice a4 s.aJ.length c4])∧dI w' ⟨a1,a2,a3,a4,c1,c2,c3,c4⟩ s∧Below w.heap.size w w':=by
 refine(Lp f s w h).mono ?_
 rintro e w' ⟨v1,v2,v3,v4,rfl,hown,hb⟩
 obtain⟨g,rfl,rfl,rfl,rfl,hl⟩:=hown.cG ⟨h.n1,h.n2,h.n3,h.n4⟩
 exact⟨g.a1,g.a2,g.a3,g.a4,g.c1,g.c2,g.c3,g.c4,rfl,hl,hb⟩
end
section
open Go.RowKit
set_option maxRecDepth 100000 in
set_option maxHeartbeats 4000000 in
theorem kM (ao bo:Option Addr) (ca cb n m:Nat) (l l':List Int) (w:World) (hn:l.length=n) (hm:l'.length=m) (ha:cK w ao l) (hb:cK w bo l') (hl:n≤4611686018427387904):
 Calls Tryz.prog 17 #[.slice ao n ca,.slice bo m cb] w fun e w'=>e= .returned (.bool (decide (l=l')))∧Below w.heap.size w w':=by
 have HA:=Nu.hid ha
 have HB:=Nu.hid hb
 have HN:=Nu.hid hn
 have HM:=Nu.hid hm
 clear ha hb
 by_cases eK:n=m
 ·have j1:((n:Int) != (m:Int))=false:=by simp[eK]
  have zH:=Nu.hid eK
  have hnm:(n:Int)=(m:Int):=by omega
  clear eK hn hm
  go_enter Tryz.func17,Tryz.ntmps17
  have WM:=Nu.hid hnm
  clear hnm
  go_wp2
  go_loopw [5] (fun c wr=>∃k:Nat,k≤n∧c= .int .i64 k∧(∀j,j<k→l[j]? =l'[j]?)∧Below w.heap.size w wr) (fun c _=>n-(intOf c).toNat)
  case atStart=>exact⟨0,aax _,rfl,fun j h=>by omega,aae _ _⟩
  case round=>
   obtain⟨k,hk,rfl,hsame,ij⟩:=hrel
   have TD:=Nu.hid hsame
   have jY:=Nu.hid ij
   clear hsame
   by_cases hlt:k<n
   ·have lV:(k:Int)<(n:Int):=by omega
    have hk0:(0:Int)≤(k:Int):=by omega
    have xk:(k:Int)<(m:Int):=by have:=WM.out;omega
    obtain⟨x,hx⟩:∃x,l[k]? =some x:=⟨_,aac (by have:=HN.out;omega)⟩
    obtain⟨y,hy⟩:∃y,l'[k]? =some y:=⟨_,aac (by have:=HM.out;omega)⟩
    obtain⟨b,o,rfl,c0⟩:=(HA.out.later ij) k x hx
    obtain⟨b',o',rfl,d0⟩:=(HB.out.later ij) k y hy
    have hbl:b<wr.heap.size:=block_lt_of_cell c0
    have alq:b'<wr.heap.size:=block_lt_of_cell d0
    have HX:=Nu.hid hx
    have HY:=Nu.hid hy
    clear hx hy ij
    by_cases e1:x=y
    ·have t1:(x != y)=false:=by simp[e1]
     have HXY:=Nu.hid e1
     clear e1
     go_wp2_with fail
     go_quiet (fail)
     go_wp2
     go_roundw
     case rel=>
      refine⟨k+1,by omega,by go_num,fun j hj=> ?_,below_drewN jY.out _⟩
      by_cases hjk:j=k
      ·subst hjk;rw[HX.out,HY.out,HXY.out]
      ·exact TD.out j (by omega)
     case measure=>simp[intOf];omega
    ·have t1:(x != y)=true:=by simp[e1]
     have hv:decide (l=l')=false:=by
      simp only[decide_eq_false_iff_not]
      intro h
      rw[h,HY.out] at HX
      cases HX.out
      exact e1 rfl
     have HV:=Nu.hid hv
     clear hv
     go_wp2_with fail
     go_quiet (fail)
     go_wp2
     go_ret
     exact⟨by rw[HV.out];rfl,below_drewN jY.out _⟩
   ·have hd:¬((k:Int)<(n:Int)):=by omega
    have hv:decide (l=l')=true:=by
     simp only[decide_eq_true_eq]
     refine aa6 fun j=> ?_
     by_cases hj:j<k
     ·exact TD.out j hj
     ·rw[aat (by have:=HN.out;omega),aat (by have:=HM.out;have:=zH.out;omega)]
    have HV:=Nu.hid hv
    clear hv ij
    go_wp2
    go_ret
    exact⟨by rw[HV.out];rfl,jY.out⟩
 ·have j1:((n:Int) != (m:Int))=true:=by simp;omega
  have hv:decide (l=l')=false:=by
   simp only[decide_eq_false_iff_not]
   intro h
   rw[h] at hn
   omega
  rw[hv]
  clear eK hn hm hv
  go_enter Tryz.func17,Tryz.ntmps17
  go_wp2
  go_ret
  exact⟨rfl,aae _ _⟩
end
section
open Go.RowKit
theorem pz {w:World} {ao bo:Option Addr} {n ca cb:Nat} {l:List Int} (h:gI w ao n ca l) (h':gI w bo n cb l) (hn:n≤17592186043904):
 Calls Tryz.prog 17 #[.slice ao n ca,.slice bo n cb] w fun e w'=>e= .returned (.bool true)∧Below w.heap.size w w':=
 (kM ao bo ca cb n n l l w h.len h'.len h.ints h'.ints (by omega)).mono (by
   rintro e w' ⟨h1,h2⟩
   rw[decide_eq_true rfl] at h1
   exact⟨h1,h2⟩)
end
section
open Go.RowKit
set_option maxRecDepth 100000 in
set_option maxHeartbeats 4000000 in
theorem J2 (f f':For) (s:Df.St) (w:World) (h:dI w f s) (h':dI w f' s):
 Calls Tryz.prog 16 #[f.val s,f'.val s] w fun e w'=>e= .returned (.bool true)∧Below w.heap.size w w':=by
 obtain⟨W,hW⟩:∃W,W=(w.alloc (.cells #[.slice f.a1 s.par.length f.c1,.slice f.a2 s.az.length f.c2,.slice f.a3 s.ord.length f.c3,.slice f.a4 s.aJ.length f.c4] 36)).alloc (.cells #[.slice f'.a1 s.par.length f'.c1,.slice f'.a2 s.az.length f'.c2,.slice f'.a3 s.ord.length f'.c3,.slice f'.a4 s.aJ.length f'.c4] 36):=⟨_,rfl⟩
 have hB0:Below w.heap.size w W:=by rw[hW];exact((aae _ _).alloc (aad _) _).alloc (by simp) _
 have hsz:W.heap.size=w.heap.size+2:=by rw[hW];simp
 have g1:W.heap[w.heap.size]? =some (.cells #[.slice f.a1 s.par.length f.c1,.slice f.a2 s.az.length f.c2,.slice f.a3 s.ord.length f.c3,.slice f.a4 s.aJ.length f.c4] 36 (0,0)):=by
  rw[hW,aap _ _ _ (by simp)]
  exact heap_alloc_new w _
 have g2:W.heap[w.heap.size+1]? =some (.cells #[.slice f'.a1 s.par.length f'.c1,.slice f'.a2 s.az.length f'.c2,.slice f'.a3 s.ord.length f'.c3,.slice f'.a4 s.aJ.length f'.c4] 36 (0,0)):=by
  rw[hW]
  exact alloc_at (by simp)
 have hF:=h.later hB0
 have hF':=h'.later hB0
 obtain⟨x0,x1,x2,x3,-⟩:=au g1
 obtain⟨y0,y1,y2,y3,-⟩:=au g2
 have X:=Nu.hid (And.intro x0 (And.intro x1 (And.intro x2 x3)))
 have Y:=Nu.hid (And.intro y0 (And.intro y1 (And.intro y2 y3)))
 have HC:Hid (∀V,Below W.heap.size W V→(V.cell? ⟨w.heap.size,0,none⟩=some (.slice f.a1 s.par.length f.c1)∧V.cell? ⟨w.heap.size,1,none⟩=some (.slice f.a2 s.az.length f.c2)∧V.cell? ⟨w.heap.size,2,none⟩=some (.slice f.a3 s.ord.length f.c3)∧V.cell? ⟨w.heap.size,3,none⟩=some (.slice f.a4 s.aJ.length f.c4))∧(V.cell? ⟨w.heap.size+1,0,none⟩=some (.slice f'.a1 s.par.length f'.c1)∧V.cell? ⟨w.heap.size+1,1,none⟩=some (.slice f'.a2 s.az.length f'.c2)∧V.cell? ⟨w.heap.size+1,2,none⟩=some (.slice f'.a3 s.ord.length f'.c3)∧V.cell? ⟨w.heap.size+1,3,none⟩=some (.slice f'.a4 s.aJ.length f'.c4))):=fun V hV=>by
  have k1:=(hV.block w.heap.size (by omega)).trans g1
  have k2:=(hV.block (w.heap.size+1) (by omega)).trans g2
  obtain⟨x0,x1,x2,x3,-⟩:=au k1
  obtain⟨y0,y1,y2,y3,-⟩:=au k2
  exact⟨⟨x0,x1,x2,x3⟩,y0,y1,y2,y3⟩
 have H1:=Nu.hid fun V (hV:Below W.heap.size W V)=>pz (hF.l1.later hV) (hF'.l1.later hV) h.n1
 have H2:=Nu.hid fun V (hV:Below W.heap.size W V)=>pz (hF.l2.later hV) (hF'.l2.later hV) h.n2
 have H3:=Nu.hid fun V (hV:Below W.heap.size W V)=>pz (hF.l3.later hV) (hF'.l3.later hV) h.n3
 have H4:=Nu.hid fun V (hV:Below W.heap.size W V)=>pz (hF.l4.later hV) (hF'.l4.later hV) h.n4
 have lg:=Nu.hid hW
 have cZ:=Nu.hid hB0
 rw[hW] at x0 x1 x2 x3 y0 y1 y2 y3
 clear h h' hF hF' g1 g2 hW hB0
 go_enter Tryz.func16,Tryz.ntmps16
 go_wp2_with (go_at_call 17;rw[←lg.out];refine(H1.out W (aae _ _)).mono ?_;rintro e w1 ⟨rfl,hb1⟩;refine aaB ?_)
 refine Nu.hid ?_
 obtain⟨⟨u0,u1,u2,u3⟩,v0,v1,v2,v3⟩:=HC.out w1 hb1
 clear x0 x1 x2 x3 y0 y1 y2 y3
 have G2:=Nu.hid (H2.out w1 hb1)
 have aY:=Nu.hid hb1
 clear hb1
 go_wp2_with (go_at_call 17;refine G2.out.mono ?_;rintro e w2 ⟨rfl,hb2⟩;refine aaB ?_)
 refine Nu.hid ?_
 have hb3:=aY.out.trans (hb2.mono aY.out.size)
 obtain⟨⟨u0,u1,u2,u3⟩,v0,v1,v2,v3⟩:=HC.out w2 hb3
 have G3:=Nu.hid (H3.out w2 hb3)
 have ct:=Nu.hid hb3
 clear hb2 hb3 G2
 go_wp2_with (go_at_call 17;refine G3.out.mono ?_;rintro e w3 ⟨rfl,hb3⟩;refine aaB ?_)
 refine Nu.hid ?_
 have hb4:=ct.out.trans (hb3.mono ct.out.size)
 obtain⟨⟨u0,u1,u2,u3⟩,v0,v1,v2,v3⟩:=HC.out w3 hb4
 have G4:=Nu.hid (H4.out w3 hb4)
 have dm:=Nu.hid hb4
 clear hb3 hb4 G3
 go_wp2_with (go_at_call 17;refine G4.out.mono ?_;rintro e w4 ⟨rfl,hb5⟩)
 go_ret
 exact⟨rfl,cZ.out.trans ((dm.out.trans (hb5.mono dm.out.size)).mono cZ.out.size)⟩
end
section
open Go.RowKit
theorem M0 (a b c d:Int) (w:World):(Op.equalIn 10000 33 (.agg #[.int .i64 a,.int .i64 b]) (.agg #[.int .i64 c,.int .i64 d])).run Tryz.prog w= .ok (a==c&&b==d) w:=by
 have u3:=Tryz.underlying3
 have a3:=Tryz.isAgg3
 have z3:=Tryz.sizeOf3
 have hS:Tryz.prog.underlying 33=some (.struct (Tryz.prog.fieldsOf 33)):=by kernel_rfl
 rw[show(10000:Nat)=9999+1 from rfl,run_equalIn_agg w 9999 33 _ _ hS (by kernel_rfl)]
 simp only[Program.fieldsOf,Tryz.underlying33]
 go_simp
 by_cases h1:a=c<;>by_cases h2:b=d<;>simp[h1,h2]
end
section
open Go.RowKit
set_option maxRecDepth 100000 in
set_option maxHeartbeats 4000000 in
theorem GS (n:Int) (ao bo:Option Addr) (ca cb:Nat) (es:List (Int×Int)) (w:World) (he:aQ w ao es) (hf:aQ w bo es) (hl:es.length≤4611686018427387904):
 Calls Tryz.prog 15 #[bX n ao es.length ca,bX n bo es.length cb] w fun e w'=>e= .returned (.bool true)∧Below w.heap.size w w':=by
 have HE:=Nu.hid he
 have HF:=Nu.hid hf
 have j0:(n != n)=false:=by simp
 have j1:((es.length:Int) != (es.length:Int))=false:=by simp
 clear he hf
 unfold bX
 go_enter Tryz.func15,Tryz.ntmps15
 go_wp2
 go_loopw [5] (fun c wr=>∃k:Nat,k≤es.length∧c= .int .i64 k∧wr.heap[w.heap.size]? =some (.cells #[.int .i64 n,.slice ao es.length ca] 24 (0,0))∧wr.heap[w.heap.size+1]? =some (.cells #[.int .i64 n,.slice bo es.length cb] 24 (0,0))∧Below w.heap.size w wr) (fun c _=>es.length-(intOf c).toNat)
 case atStart=>
  refine⟨0,aax _,rfl,?_,?_,((aae _ _).alloc (aad _) _).alloc (by simp) _⟩
  ·rw[aap _ _ _ (by simp)]
   exact heap_alloc_new w _
  ·have:=heap_alloc_new (w.alloc (.cells #[.int .i64 n,.slice ao es.length ca] 24)) (.cells #[.int .i64 n,.slice bo es.length cb] 24)
   simpa using this
 case round=>
  obtain⟨k,hk,rfl,g1,g2,hb⟩:=hrel
  obtain⟨-,a1,-⟩:=ay g1
  obtain⟨-,b1,-⟩:=ay g2
  have nh:=Nu.hid g1
  have iN:=Nu.hid g2
  have HB:=Nu.hid hb
  clear g1 g2
  by_cases hlt:k<es.length
  ·have lV:(k:Int)<(es.length:Int):=by omega
   have hk0:(0:Int)≤(k:Int):=by omega
   obtain⟨p,hp⟩:∃p,es[k]? =some p:=⟨_,aac hlt⟩
   obtain⟨b,o,rfl,c0,c1⟩:=(HE.out.later hb) k p hp
   obtain⟨b',o',rfl,d0,d1⟩:=(HF.out.later hb) k p hp
   have VV:=M0
   have t1:(p.1==p.1&&p.2==p.2)=true:=by simp
   clear hp hb
   go_wp2_with fail
   go_quiet (fail)
   clear VV
   go_wp2
   go_roundw
   case rel=>exact⟨k+1,by omega,by go_num,nh.out,iN.out,below_drewN HB.out _⟩
   case measure=>simp[intOf];omega
  ·have hd:¬((k:Int)<(es.length:Int)):=by omega
   clear hb
   go_wp2
   go_ret
   exact⟨rfl,HB.out⟩
end
section
open Go.RowKit
namespace aj
def bR (L:Nat→Bool) (i:Nat):Nat→Bool:=fun j=>if j=i then true else L j
theorem oy {ops:Array Oper} {a0:Act} {ρ:Nat→Value} {L:Nat→Bool}:∀{k:Nat},(∀i,i<k→L i=true)→part ops a0 ρ L k=canon ops a0 ρ k
 |0,_=>rfl
 |k+1,h=>by
  unfold part canon
  rw[if_pos (h k (by omega)),oy fun i hi=>h i (by omega)]
theorem oK {P:Program} {ops:Array Oper} {Q:Exit→Act→World→Prop} {a0:Act} {w0:World} (val:Nat→Value) (C:(Nat→Bool)→World→Prop) (N:Nat) (hN:a0.tmps.size=N) (hsh:shape ops ops.size (fun _=>[])=true)
 (tV:C (fun _=>false) w0)
 (hstep:∀i o (L:Nat→Bool) w (ev:Operand→Value),ops[i]? =some o→L i=false→C L w→(∀e∈o.after,Region.binds .any e=true→L e.on=true)→(∀j o',ops[j]? =some o'→L j=true→∀e∈o'.after,Region.binds .any e=true→L e.on=true)→
   (∀j t,j<i→dst ops j=some t→t<N→ev (.tmp t)=val j)→(∀t,((List.range i).all fun j=>dst ops j != some t)=true→ev (.tmp t)=a0.eval (.tmp t))→(∀v,ev (.const v)=v)→(∀f,ev (.func f)= .func (.func f) #[] #[])→
   cF P o ev w fun v w'=>v=val i∧C (bR L i) w')
 (hend:∀L w,(∀i,i<ops.size→L i=true)→C L w→Q .normal (canon ops a0 val ops.size) w):
 wpAny P .any ops Q ops.size (Array.replicate ops.size false) a0 w0:=by
 have hs:=fun i (hi:i<ops.size)=>aaJ.1 hsh i (aaO.2 hi)
 have hlt:∀{j t},dst ops j=some t→j<ops.size:=fun {j t} h=>by
  rcases ab1 j ops.size with h1|h1
  ·exact h1
  ·unfold dst at h;rw[acM h1] at h;cases h
 have hone:∀i j t,i≠j→dst ops j=some t→dst ops i≠some t:=fun i j t hij hj hi=>by
  have h1:=hs j (hlt hj)
  dsimp only at h1
  cases ho:ops[j]? with
  |none=>rw[ho] at h1;cases h1
  |some o=>
   have hd:o.dst=some t:=by unfold dst at hj;rw[ho] at hj;exact hj
   rw[ho] at h1
   simp only[aaP] at h1
   have h2:=h1.1
   rw[hd] at h2
   have h3:=aaJ.1 h2 i (aaO.2 (hlt hi))
   simp only[ab7,beq_iff_eq,bne_iff_ne] at h3
   rcases h3 with h3|h3
   ·exact hij h3
   ·exact h3 hi
 have hop:∀i,i<ops.size→∃o,ops[i]? =some o∧o.guard=none∧(∀cs b,o.op≠.select cs b)∧
  (∀t,Operand.tmp t∈o.op.operands→∀j,j<ops.size→dst ops j=some t→j<i∧∃e∈o.after,Region.binds .any e=true∧e.on=j)∧(∀e∈o.after,Region.binds .any e=true→e.on<i):=fun i hi=>by
  have h1:=hs i hi
  dsimp only at h1
  cases ho:ops[i]? with
  |none=>rw[ho] at h1;cases h1
  |some o=>
   rw[ho] at h1
   simp only[aaP,if_pos hi] at h1
   obtain⟨_,⟨⟨⟨g1,g2⟩,g4⟩,_⟩,g6⟩:=h1
   refine⟨o,rfl,by simpa using g1,(fun cs b hsel=>by rw[hsel] at g2;cases g2),fun t ht j hj hd=> ?_,fun e he hb=> ?_⟩
   ·have h2:=aaJ.1 g4 (.tmp t) (by simpa using ht)
    dsimp only at h2
    have h3:=aaJ.1 h2 j (aaO.2 hj)
    simp only[ab7,bne_iff_ne,aaP,decide_eq_true_eq,abU,beq_iff_eq] at h3
    rcases h3 with h3|⟨h3,e,he,h4⟩
    ·exact absurd hd h3
    ·exact⟨h3,e,by simpa using he,h4⟩
   ·have h2:=abO.1 g6 e he
    rw[hb] at h2
    simpa using h2
 have fin:∀(listed:Array Bool),listed.size=ops.size→Region.ready .any ops listed=[]→∀i,i<ops.size→listed.getD i false=true:=by
  intro listed hl hr i
  induction i using Nat.strongRecOn with
  |_ i ih=>
   intro hi
   by_cases hb:listed.getD i false=true
   ·exact hb
   ·exfalso
    have hi':i<listed.size:=by omega
    have h0:listed.getD i true=false:=by
     simp[hi'] at hb ⊢
     exact hb
    obtain⟨o,ho,_,_,_,dH⟩:=hop i hi
    have hm:i∈Region.ready .any ops listed:=by
     rw[mem_ready]
     refine⟨h0,o,ho,fun e he hbd=> ?_⟩
     have:=dH e he hbd
     exact ih e.on this (by omega)
    rw[hr] at hm
    cases hm
 have key:∀(fuel:Nat) (listed:Array Bool) (w:World),listed.size=ops.size→listed.toList.count false=fuel→C (fun j=>listed.getD j false) w→(∀j o',ops[j]? =some o'→listed.getD j false=true→∀e∈o'.after,Region.binds .any e=true→listed.getD e.on false=true)→
  wpAny P .any ops Q fuel listed (part ops a0 val (fun j=>listed.getD j false) ops.size) w:=by
  intro fuel
  induction fuel with
  |zero=>
   intro listed w hl hc hC hdc
   have hall:∀i,i<ops.size→listed.getD i false=true:=fun i hi=>by
    have hm:¬false∈listed.toList:=fun h=>by
     have:=abM.2 h
     omega
    have hi':i<listed.size:=by omega
    by_cases nV:listed[i]=true
    ·simp[hi',nV]
    ·exfalso
     have e:listed[i]=false:=by simpa using nV
     exact hm (by rw[←e];simp)
   refine⟨?_,by rw[oy hall];exact hend _ _ hall hC⟩
   refine adl.2 fun i hi=> ?_
   rw[mem_ready] at hi
   obtain⟨h0,o,ho,_⟩:=hi
   have h1:=hall i (aam.1 ho).1
   have hi':i<listed.size:=by have:=(aam.1 ho).1;omega
   simp[hi'] at h0 h1
   rw[h0] at h1
   cases h1
  |succ fuel ih=>
   intro listed w hl hc hC hdc
   refine⟨fun hr=>by rw[oy (fin listed hl hr)];exact hend _ _ (fin listed hl hr) hC,fun i hi=> ?_⟩
   rw[mem_ready] at hi
   obtain⟨h0,o,ho,bU⟩:=hi
   have hin:=(aam.1 ho).1
   have hi':i<listed.size:=by omega
   obtain⟨o',ho',hgd,hsel,hread,_⟩:=hop i hin
   rw[ho] at ho'
   cases ho'
   have bP:listed.getD i false=false:=by
    simp[hi'] at h0 ⊢
    exact h0
   have hev:execOp (part ops a0 val (fun j=>listed.getD j false) ops.size).eval o=execOp (canon ops a0 val i).eval o:=by
    refine execOp_congr o hsel fun x hx=> ?_
    cases x with
    |tmp t=>
     refine nC (fun i j hij=>hone i j t hij) (by omega) fun j hj hd=> ?_
     obtain⟨h1,e,he,hbd,rfl⟩:=hread t hx j (by omega) hd
     exact⟨h1,bU e he hbd⟩
    |_=>rfl
   have qQ:=hstep i o (fun j=>listed.getD j false) w (canon ops a0 val i).eval ho bP hC bU hdc (fun j t hj hd ht=>by
    rw[dc,kT hd (fun i hi=>hone i j t hi hd) rfl i hj,if_pos (by rw[hN];exact ht)]) (fun t ht=>by
    rw[dc,fO i fun j hj _=>by
     have:=aaJ.1 ht j (aaO.2 hj)
     simpa using this]) (fun v=>rfl) (fun f=>rfl)
   unfold wpOp
   rw[ho]
   dsimp only
   have hw:Region.wanted o (yielded ops (part ops a0 val (fun j=>listed.getD j false) ops.size).tmps)=true:=by
    unfold Region.wanted
    rw[hgd]
   rw[if_pos hw]
   refine .inl ?_
   have tP:cF P o (part ops a0 val (fun j=>listed.getD j false) ops.size).eval w fun v w'=>v=val i∧C (bR (fun j=>listed.getD j false) i) w':=by
    unfold cF at qQ ⊢
    rw[hev]
    exact qQ
   refine tP.wp fun v w' hv=> ?_
   obtain⟨rfl,hC'⟩:=hv
   have BA:o.dst=dst ops i:=by unfold dst;rw[ho];rfl
   have fu:∀j,(listed.setIfInBounds i true).getD j false=if j=i then true else listed.getD j false:=fun j=>by
    by_cases e:j=i
    ·subst e
     rw[if_pos rfl]
     simp[hi']
    ·rw[if_neg e]
     exact getD_set_ne false (fun h=>e h.symm)
   rw[BA,rW hone bP hin,ny (L':=fun j=>(listed.setIfInBounds i true).getD j false) (ρ':=val) (fun j=>(fu j).symm) (fun j _=>by unfold upd;split;rename_i e;rw[e];rfl)]
   refine ih (listed.setIfInBounds i true) w' (by simpa using hl) ?_ ?_ ?_
   ·rw[aco]
    have hi2:i<listed.toList.length:=by simpa using hi'
    have e:listed.toList[i]=false:=by
     simp[hi'] at h0
     simpa using h0
    have hpos:0<listed.toList.count false:=abM.2 (by rw[←e];exact aaX hi2)
    rw[ac2 hi2,e,if_pos (by decide),if_neg (by decide)]
    omega
   ·have e:(fun j=>(listed.setIfInBounds i true).getD j false)=bR (fun j=>listed.getD j false) i:=funext fun j=>by rw[fu];rfl
    rw[e]
    exact hC'
   ·intro j o' hj hjl e he ru
    rw[fu] at hjl ⊢
    by_cases e1:e.on=i
    ·rw[if_pos e1]
    ·rw[if_neg e1]
     by_cases e2:j=i
     ·subst e2
      rw[ho] at hj
      cases hj
      exact bU e he ru
     ·rw[if_neg e2] at hjl
      exact hdc j o' hj hjl e he ru
 have hnone:∀j,(Array.replicate ops.size false).getD j false=false:=fun j=>by by_cases hk:j<ops.size<;>simp[hk]
 have h0:part ops a0 val (fun j=>(Array.replicate ops.size false).getD j false) ops.size=a0:=by
  have:∀k,part ops a0 val (fun j=>(Array.replicate ops.size false).getD j false) k=a0:=by
   intro k
   induction k with
   |zero=>rfl
   |succ k ih=>
    unfold part
    rw[ih,hnone k,if_neg (by decide)]
  exact this _
 have hk:=key ops.size (Array.replicate ops.size false) w0 (by simp) (by simp) (by rw[show(fun j=>(Array.replicate ops.size false).getD j false)=fun _=>false from funext hnone];exact tV) (fun j o' _ h=>by rw[hnone j] at h;cases h)
 rw[h0] at hk
 exact hk
end aj
end
section
open Go.RowKit
namespace AnyM
def bG (A:World):List (Nat×World)→(Nat→Bool)→World→Prop
 |[],_,V=>V=A
 |(k,w)::r,L,V=>if L k=true then V=w else bG A r L V
theorem other {A:World} {i:Nat}:∀{r:List (Nat×World)} {L:Nat→Bool} {V:World},(r.all fun q=>q.1 != i)=true→bG A r L V→bG A r (aj.bR L i) V
 |[],_,_,_,h=>h
 |(k,w)::r,L,V,hk,h=>by
  rw[List.all_cons,aaP] at hk
  have e1:aj.bR L i k=L k:=if_neg (fun e=>by simp[e] at hk)
  unfold bG at h ⊢
  rw[e1]
  split
  ·rename_i hl
   rw[if_pos hl] at h
   exact h
  ·rename_i hl
   rw[if_neg hl] at h
   exact other hk.2 h
theorem jO {P:Program} {o:Oper} {ev:Operand→Value} {R:Value→World→Prop} {f:FuncId} {args:Array Value} {v:Value} {V V':World} (h:(execOp ev o).run P V= .ok (.enter f args) V) (hc:Calls P f args V fun e w'=>e= .returned v∧w'=V') (hR:R v V'):aj.cF P o ev V R:=by
 unfold aj.cF
 rw[h]
 exact hc.mono fun e w' ⟨h1,h2⟩=>⟨v,h1,by rw[h2];exact hR⟩
def cI (A:World→Prop):List (Nat×(World→Prop))→(Nat→Bool)→World→Prop
 |[],_,V=>A V
 |(k,Q)::r,L,V=>if L k=true then Q V else cI A r L V
theorem aV {A:World→Prop} {i:Nat}:∀{r:List (Nat×(World→Prop))} {L:Nat→Bool} {V:World},(r.all fun q=>q.1 != i)=true→cI A r L V→cI A r (aj.bR L i) V
 |[],_,_,_,h=>h
 |(k,w)::r,L,V,hk,h=>by
  rw[List.all_cons,aaP] at hk
  have e1:aj.bR L i k=L k:=if_neg (fun e=>by simp[e] at hk)
  unfold cI at h ⊢
  rw[e1]
  split
  ·rename_i hl
   rw[if_pos hl] at h
   exact h
  ·rename_i hl
   rw[if_neg hl] at h
   exact aV hk.2 h
theorem iq {P:Program} {o:Oper} {ev:Operand→Value} {R:Value→World→Prop} {f:FuncId} {args:Array Value} {v:Value} {V:World} {S:World→Prop} (h:(execOp ev o).run P V= .ok (.enter f args) V) (hc:Calls P f args V fun e w'=>e= .returned v∧S w') (hR:∀w',S w'→R v w'):aj.cF P o ev V R:=by
 unfold aj.cF
 rw[h]
 exact hc.mono fun e w' ⟨h1,h2⟩=>⟨v,h1,hR w' h2⟩
end AnyM
end
end Go.Proofs.YtdjmnpmdmjclhabGreat
