import Derived.Test.YtnhcggfbkoppnaaGreatMg25
import Derived.Test.YtnhcggfbkoppnaaGreatMg18
import Derived.Maps.AppendAt
import Derived.Deep.AppendLies
import Derived.Laws.AppendOwnNone
namespace Go.Proofs.YtnhcggfbkoppnaaGreat
section
open Go.RowKit Lt
theorem Tryz.Ue:(Tryz.prog.info? 168).map (fun i=>(i.zero,i.size,i.bytes))=some (some (.agg #[.int .i64 0,.int .i64 0,.int .i64 0,.int .i64 0]),4,32):=by kernel_rfl
theorem Tryz.PI:(Tryz.prog.info? 170).map (fun i=>(i.zero,i.size,i.bytes))=some (some (.agg #[.int .i64 0,.int .i64 0,.int .i64 0,.int .i64 0,.int .i64 0,.int .i64 0]),6,48):=by kernel_rfl
theorem Jz {V:World} (B:Nat) (v:Value) (l:List Pr) (q:Pr) (hR:dV 168 4 CQ V B v l) (hB:B≤V.heap.size) (g:Nat) (hg:V.heap[g]? =some (.cells #[.int .i64 q.1.1,.int .i64 q.1.2,.int .i64 q.2.1,.int .i64 q.2.2] 168 (0,0))) (hl:l.length≤8388608):
 ∃v' w',(∀(o:Oper) (ev:Operand→Value) (s x:Operand),o.op= .call { callee:= .builtin .append,args:= #[s,x],argTypes:= #[141,141] }→o.type=141→ev s=v→ev x= .slice (some ⟨g,0,none⟩) 1 1→(execOp ev o).run Tryz.prog V= .ok (.value v') w')∧dV 168 4 CQ w' B v' (l++[q])∧V.grownBy w' v.ownBlock∧(v'.ownBlock=v.ownBlock∨v'.ownBlock=some V.heap.size):=by
 obtain⟨i1,hi1,hy0,hy1,hy2⟩:=info_parts Tryz.Ue
 obtain⟨v',w',hr,h2,h3,_,h5⟩:=run_append_own_at (P:=Tryz.prog) V B 141 141 168 i1 (.agg #[.int .i64 0,.int .i64 0,.int .i64 0,.int .i64 0]) 4 32 Tryz.underlying141 hi1 hy0 hy1 hy2 rfl (by decide) v l.length (l.flatMap CQ) hR ⟨g,0,none⟩ 1 1 (CQ q) rfl (World.news_of_block hg) (by simp[CQ,Value.oneCell']) (by unfold maxLen;omega) (by omega) hB
 refine⟨v',w',fun o ev s x ho ht hs hx=> ?_,?_,h3,h5⟩
 ·unfold execOp
  simp only[ho,ht,resolve,invoke,builtin,Sem.run_bind,Sem.run_pure,Result.andThen_ok,List.map_toArray,List.map_cons,List.map_nil,hs,hx,hr]
 ·unfold dV
  rw[List.flatMap_append,List.length_append]
  simpa using h2
theorem Jy {V:World} (B:Nat) (v:Value) (l:List jw) (q:jw) (hR:dV 170 6 tM V B v l) (hB:B≤V.heap.size) (g:Nat) (hg:V.heap[g]? =some (.cells #[.int .i64 q.1,.int .i64 q.2.1,.int .i64 q.2.2.1.1,.int .i64 q.2.2.1.2,.int .i64 q.2.2.2.1,.int .i64 q.2.2.2.2] 170 (0,0))) (hl:l.length≤8388608):
 ∃v' w',(∀(o:Oper) (ev:Operand→Value) (s x:Operand),o.op= .call { callee:= .builtin .append,args:= #[s,x],argTypes:= #[142,142] }→o.type=142→ev s=v→ev x= .slice (some ⟨g,0,none⟩) 1 1→(execOp ev o).run Tryz.prog V= .ok (.value v') w')∧dV 170 6 tM w' B v' (l++[q])∧V.grownBy w' v.ownBlock∧(v'.ownBlock=v.ownBlock∨v'.ownBlock=some V.heap.size):=by
 obtain⟨i1,hi1,hy0,hy1,hy2⟩:=info_parts Tryz.PI
 obtain⟨v',w',hr,h2,h3,_,h5⟩:=run_append_own_at (P:=Tryz.prog) V B 142 142 170 i1 (.agg #[.int .i64 0,.int .i64 0,.int .i64 0,.int .i64 0,.int .i64 0,.int .i64 0]) 6 48 Tryz.underlying142 hi1 hy0 hy1 hy2 rfl (by decide) v l.length (l.flatMap tM) hR ⟨g,0,none⟩ 1 1 (tM q) rfl (World.news_of_block hg) (by simp[tM,Value.oneCell']) (by unfold maxLen;omega) (by omega) hB
 refine⟨v',w',fun o ev s x ho ht hs hx=> ?_,?_,h3,h5⟩
 ·unfold execOp
  simp only[ho,ht,resolve,invoke,builtin,Sem.run_bind,Sem.run_pure,Result.andThen_ok,List.map_toArray,List.map_cons,List.map_nil,hs,hx,hr]
 ·unfold dV
  rw[List.flatMap_append,List.length_append]
  simpa using h2
section
variable {c:Wp} {p t:Nat} {W0 W:World} {O:Nat→Prop} {st:TS} {L U Z:Nat} {vp vw:Value}
set_option maxRecDepth 100000 in
set_option maxHeartbeats 8000000 in
theorem sU (h:aQ c p t W0 O st L U Z vp vw W) (q:Pr) (hlen:st.stk.length≤8388607):Calls Tryz.prog 134 #[.pointer (some ⟨t,0,none⟩),fL q] W fun e w'=>e= .returned (.tuple #[])∧aT c p t W0 O W { st with stk:=q::st.stk } w':=by
 obtain⟨⟨a,b⟩,a',b'⟩:=q
 have hB0:=h.aI.size
 obtain⟨W1,hW1⟩:∃W1,W1=(W.alloc (.cells #[.int .i64 a,.int .i64 b,.int .i64 a',.int .i64 b'] 168)).drew:=⟨_,rfl⟩
 have hbl:W1.heap[W.heap.size]? =some (.cells #[.int .i64 a,.int .i64 b,.int .i64 a',.int .i64 b'] 168 (0,0)):=by rw[hW1];exact heap_alloc_new W _
 have hb:Below W.heap.size W W1:=by rw[hW1];exact((Below.refl _ _).alloc (Nat.le_refl _) _).drew
 have hsz:W1.heap.size=W.heap.size+1:=by rw[hW1];simp
 obtain⟨W2,hW2⟩:∃W2,W2=W1.alloc (.cells #[.int .i64 a,.int .i64 b,.int .i64 a',.int .i64 b'] 168):=⟨_,rfl⟩
 have hb2:Below W1.heap.size W1 W2:=by rw[hW2];exact(Below.refl _ _).alloc (Nat.le_refl _) _
 have hg2:W2.heap[W1.heap.size]? =some (.cells #[.int .i64 a,.int .i64 b,.int .i64 a',.int .i64 b'] 168 (0,0)):=by rw[hW2];exact heap_alloc_new W1 _
 have h1:=h.later hb
 have h2:=h1.later hb2
 obtain⟨ao,cap,hvp,-⟩:=h.qC.form
 rw[List.length_reverse] at hvp
 obtain⟨v',W3,hrun,r1,r2,r3⟩:=Jz W0.heap.size vp st.stk.reverse ((a,b),a',b') h2.qC (by have:=h2.aI.size;omega) W1.heap.size hg2 (by rw[List.length_reverse];omega)
 have AE:W2.heap.size=W.heap.size+2:=by rw[hW2];simp[hsz]
 have hat:v'.ownBlock=vp.ownBlock∨∃b,v'.ownBlock=some b∧W.heap.size≤b:=by
  rcases r3 with e|e
  ·exact .inl e
  ·exact .inr ⟨_,e,by omega⟩
 have hk3:∀b,b<W.heap.size→vp.ownBlock≠some b→W3.heap[b]? =W.heap[b]? :=fun k hk hn=>by
  rw[r2.block k (by omega) (fun e=>hn e.symm),hb2.block k (by omega),hb.block k hk]
 have hb3:Below W0.heap.size W0 W3:=h2.aI.grown r2 (by have:=h2.aI.size;omega) fun b hb=>(h2.qC.lt hb).1
 have hown:dV 168 4 CQ W3 W0.heap.size v' (((a,b),a',b')::st.stk).reverse:=by rw[List.reverse_cons];exact r1
 obtain⟨y1,y2,-,y4⟩:=h.LH hb3 hk3 (by have:=r2.size;omega) hown hat
 have bI:Hid (aT c p t W0 O W { st with stk:=((a,b),a',b')::st.stk } (W3.setCell ⟨t,3,none⟩ v')):=by
  refine⟨⟨?_,?_,?_,?_,fun k hk hn=> ?_⟩,L,U,Z,v',vw,y4⟩
  ·exact r2.os.trans (hb2.os.trans hb.os)
  ·exact r2.tape.trans (hb2.tape.trans hb.tape)
  ·exact r2.output.trans (hb2.output.trans hb.output)
  ·have:=r2.size
   simp
   omega
  ·rw[heap_setCell_other W3 ⟨t,3,none⟩ k _ (fun e=>hn (by rw[show k=t from e];exact h.oT))]
   exact hk3 k hk fun e=>hn (h.oP k e)
 obtain⟨mP,cap',hv',-⟩:=hown.form
 have AG:∀V,V=W1∨V=W2∨V=W3→V.cell? ⟨t,3,none⟩=some (.slice ao st.stk.length cap)∧V.cell? ⟨W.heap.size,0,none⟩=some (.int .i64 a)∧V.cell? ⟨W.heap.size,1,none⟩=some (.int .i64 b)∧V.cell? ⟨W.heap.size,2,none⟩=some (.int .i64 a')∧V.cell? ⟨W.heap.size,3,none⟩=some (.int .i64 b'):=fun V hV=>by
  have Mq:V.heap[W.heap.size]? =some (.cells #[.int .i64 a,.int .i64 b,.int .i64 a',.int .i64 b'] 168 (0,0)):=by
   rcases hV with rfl|rfl|rfl
   ·exact hbl
   ·rw[hb2.block _ (by omega)];exact hbl
   ·rw[r2.block _ (by omega) (fun e=>by have:=(h.qC.lt e.symm).2;omega),hb2.block _ (by omega)];exact hbl
  obtain⟨q0,q1,q2,q3,-⟩:=au Mq
  refine⟨?_,q0,q1,q2,q3⟩
  rw[←hvp]
  rcases hV with rfl|rfl|rfl
  ·exact h1.cells.2.2.2.1
  ·exact h2.cells.2.2.2.1
  ·exact y1
 have HV:=Nu.hid AG
 have jR:=Nu.hid hW1
 have HF:Hid (W3.frozen? ⟨t,3,none⟩=false):=y2
 have kR:=Nu.hid hW2
 have vH:=Nu.hid hsz
 subst hvp
 subst hv'
 clear h hlen hb hbl hsz hb2 hg2 h1 h2 r1 r2 r3 AE hat hk3 hb3 hown y1 y2 y4 AG hW1 hW2 hB0
 go_enter Tryz.func134,Tryz.ntmps134
 go_wp2_with fail
 refine wp_region_any (by kernel_rfl) ?_
 change wpAny _ _ _ _ _ _ _ ((W.alloc (.cells #[.int .i64 a,.int .i64 b,.int .i64 a',.int .i64 b'] 168)).drew)
 rw[←jR.out]
 refine aj.oI (fun j=>match j with|0=> .pointer (some ⟨t,0,none⟩)|1=> .pointer (some ⟨t,0,none⟩)|2=> .pointer (some ⟨t,0,none⟩)|3=> .pointer (some ⟨t,3,none⟩)|4=> .slice ao st.stk.length cap|5=> .agg #[.int .i64 a,.int .i64 b,.int .i64 a',.int .i64 b']|6=> .slice (some ⟨W1.heap.size,0,none⟩) 1 1|7=>(.slice mP (((a,b),a',b')::st.stk).reverse.length cap')|8=> .pointer (some ⟨t,0,none⟩)|9=> .pointer (some ⟨t,3,none⟩)|_=>undef) (AnyM.bG W1 [(10,(W3.setCell ⟨t,3,none⟩ (.slice mP (((a,b),a',b')::st.stk).reverse.length cap'))),(7,W3),(6,W2)]) 14 rfl (by kernel_rfl) rfl ?_ ?_
 ·intro j o' Ls V ev ho bO hC bU hdc aA aR kW iQ
  have hc:j=0∨j=1∨j=2∨j=3∨j=4∨j=5∨j=6∨j=7∨j=8∨j=9∨j=10:=by
   have:j<11:=(Array.getElem?_eq_some_iff.1 ho).1
   omega
  have hst:Ls 10=false:=by
   cases h:Ls 10 with
   |false=>rfl
   |true=>
    exfalso
    have hq:Ls j=true:=by
     rcases hc with rfl|rfl|rfl|rfl|rfl|rfl|rfl|rfl|rfl|rfl|rfl
     ·exact hdc 10 _ rfl h ⟨0,.phase⟩ (by simp) rfl
     ·exact hdc 10 _ rfl h ⟨1,.phase⟩ (by simp) rfl
     ·exact hdc 10 _ rfl h ⟨2,.phase⟩ (by simp) rfl
     ·exact hdc 10 _ rfl h ⟨3,.phase⟩ (by simp) rfl
     ·exact hdc 10 _ rfl h ⟨4,.phase⟩ (by simp) rfl
     ·exact hdc 10 _ rfl h ⟨5,.phase⟩ (by simp) rfl
     ·exact hdc 10 _ rfl h ⟨6,.phase⟩ (by simp) rfl
     ·exact hdc 10 _ rfl h ⟨7,.data⟩ (by simp) rfl
     ·exact hdc 9 _ rfl (hdc 10 _ rfl h ⟨9,.data⟩ (by simp) rfl) ⟨8,.data⟩ (by simp) rfl
     ·exact hdc 10 _ rfl h ⟨9,.data⟩ (by simp) rfl
     ·exact h
    rw[bO] at hq
    cases hq
  have qU:V=W1∨V=W2∨V=W3:=by
   cases h6:Ls 6<;>cases h7:Ls 7<;>simp[AnyM.bG,hst,h6,h7] at hC<;>simp[hC]
  obtain⟨k1,k2,k3,k4,k5⟩:=HV.out V qU
  rcases hc with rfl|rfl|rfl|rfl|rfl|rfl|rfl|rfl|rfl|rfl|rfl<;>obtain rfl:=Option.some.inj ho
  ·have e1:ev (.tmp 0)= .pointer (some ⟨t,0,none⟩):=aR 0 (by kernel_rfl)
   exact aj.ah (v:= .pointer (some ⟨t,0,none⟩)) (w':=V) (by simp[execOp,go_sem,e1]) ⟨rfl,AnyM.other rfl hC⟩
  ·have e1:ev (.tmp 0)= .pointer (some ⟨t,0,none⟩):=aR 0 (by kernel_rfl)
   exact aj.ah (v:= .pointer (some ⟨t,0,none⟩)) (w':=V) (by simp[execOp,go_sem,e1]) ⟨rfl,AnyM.other rfl hC⟩
  ·have e1:ev (.tmp 5)= .pointer (some ⟨t,0,none⟩):=aA 1 5 (by omega) rfl (by decide)
   exact aj.ah (v:= .pointer (some ⟨t,0,none⟩)) (w':=V) (by simp[execOp,go_sem,e1]) ⟨rfl,AnyM.other rfl hC⟩
  ·have e1:ev (.tmp 6)= .pointer (some ⟨t,0,none⟩):=aA 2 6 (by omega) rfl (by decide)
   exact aj.ah (v:= .pointer (some ⟨t,3,none⟩)) (w':=V) (by simp[execOp,go_sem,e1]) ⟨rfl,AnyM.other rfl hC⟩
  ·have e1:ev (.tmp 7)= .pointer (some ⟨t,3,none⟩):=aA 3 7 (by omega) rfl (by decide)
   exact aj.ah (v:= .slice ao st.stk.length cap) (w':=V) (by simp[execOp,go_sem,e1,k1]) ⟨rfl,AnyM.other rfl hC⟩
  ·have e1:ev (.tmp 3)= .pointer (some ⟨W.heap.size,0,none⟩):=aR 3 (by kernel_rfl)
   exact aj.ah (v:= .agg #[.int .i64 a,.int .i64 b,.int .i64 a',.int .i64 b']) (w':=V) (by simp[execOp,go_sem,e1,k2,k3,k4,k5]) ⟨rfl,AnyM.other rfl hC⟩
  ·have e1:ev (.tmp 9)= .agg #[.int .i64 a,.int .i64 b,.int .i64 a',.int .i64 b']:=aA 5 9 (by omega) rfl (by decide)
   have hn7:Ls 7=false:=by
    cases h:Ls 7 with
    |false=>rfl
    |true=>
     have wI:Ls 6=true:=hdc 7 _ rfl h ⟨6,.data⟩ (by simp) rfl
     rw[bO] at wI
     cases wI
   have iD:V=W1:=by
    simp only[AnyM.bG] at hC
    simp only[hn7,bO,hst,Bool.false_eq_true,if_false] at hC
    exact hC
   rw[iD]
   refine aj.ah (v:= .slice (some ⟨W1.heap.size,0,none⟩) 1 1) (w':=W2) (by simp[execOp,go_sem,e1,kR.out]) ⟨rfl,?_⟩
   simp[AnyM.bG,aj.bQ,hn7,hst]
  ·have e1:ev (.tmp 8)= .slice ao st.stk.length cap:=aA 4 8 (by omega) rfl (by decide)
   have e2:ev (.tmp 10)= .slice (some ⟨W1.heap.size,0,none⟩) 1 1:=aA 6 10 (by omega) rfl (by decide)
   have hp:Ls 6=true:=bU ⟨6,.data⟩ (by simp) rfl
   have iD:V=W2:=by
    simp only[AnyM.bG] at hC
    simp only[bO,hp,hst,Bool.false_eq_true,if_false,if_true] at hC
    exact hC
   rw[iD]
   refine aj.ah (v:=(.slice mP (((a,b),a',b')::st.stk).reverse.length cap')) (w':=W3) (hrun _ ev _ _ rfl rfl e1 e2) ⟨rfl,?_⟩
   simp[AnyM.bG,aj.bQ,hst]
  ·have e1:ev (.tmp 4)= .pointer (some ⟨t,0,none⟩):=aA 0 4 (by omega) rfl (by decide)
   exact aj.ah (v:= .pointer (some ⟨t,0,none⟩)) (w':=V) (by simp[execOp,go_sem,e1]) ⟨rfl,AnyM.other rfl hC⟩
  ·have e1:ev (.tmp 12)= .pointer (some ⟨t,0,none⟩):=aA 8 12 (by omega) rfl (by decide)
   exact aj.ah (v:= .pointer (some ⟨t,3,none⟩)) (w':=V) (by simp[execOp,go_sem,e1]) ⟨rfl,AnyM.other rfl hC⟩
  ·have e1:ev (.tmp 13)= .pointer (some ⟨t,3,none⟩):=aA 9 13 (by omega) rfl (by decide)
   have e2:ev (.tmp 11)=(.slice mP (((a,b),a',b')::st.stk).reverse.length cap'):=aA 7 11 (by omega) rfl (by decide)
   have hp:Ls 7=true:=bU ⟨7,.data⟩ (by simp) rfl
   have iD:V=W3:=by
    simp only[AnyM.bG] at hC
    simp only[bO,hp,Bool.false_eq_true,if_false,if_true] at hC
    exact hC
   rw[iD]
   rw[iD] at k1
   refine aj.bF (w':=(W3.setCell ⟨t,3,none⟩ (.slice mP (((a,b),a',b')::st.stk).reverse.length cap'))) (by simp[execOp,go_sem,e1,e2,k1,HF.out]) ⟨rfl,?_⟩
   simp[AnyM.bG,aj.bQ]
 ·intro Ls V hall hC
  unfold AnyM.bG at hC
  rw[if_pos (hall 10 (by decide))] at hC
  subst hC
  refine bodyPost_end (results_none rfl _ _ _) (aj.kC _) ?_
  exact⟨rfl,bI.out⟩
set_option maxRecDepth 100000 in
set_option maxHeartbeats 4000000 in
theorem Gp (w:World):Calls Tryz.prog 135 #[] w fun e w'=>e= .returned (dG aP)∧w'=w.alloc (.cells #[.int .i64 (-1),.int .i64 (-1)] 166):=by
 go_enter Tryz.func135,Tryz.ntmps135
 go_wp2
 obtain⟨r0,r1,-⟩:=az (heap_alloc_new w (Obj.cells #[Value.int IntKind.i64 (-1),Value.int IntKind.i64 (-1)] 166))
 refine bodyPost_ret (v:=dG aP) (by simp[results,Tryz.results135,go_sem,r0,r1]) rfl ?_
 exact⟨rfl,rfl⟩
theorem Pv (w:World):∃V,V.heap.size=w.heap.size+3∧Below w.heap.size w V∧Calls Tryz.prog 131 #[] w fun e w'=>e= .returned (fL dI)∧w'=V:=by
 obtain⟨W,hW⟩:∃W,W=w.alloc (.cells #[.int .i64 0,.int .i64 0,.int .i64 0,.int .i64 0] 168):=⟨_,rfl⟩
 obtain⟨W1,hW1⟩:∃W1,W1=W.alloc (.cells #[.int .i64 (-1),.int .i64 (-1)] 166):=⟨_,rfl⟩
 obtain⟨W2,hW2⟩:∃W2,W2=W1.alloc (.cells #[.int .i64 (-1),.int .i64 (-1)] 166):=⟨_,rfl⟩
 have hbl:W.heap[w.heap.size]? =some (.cells #[.int .i64 0,.int .i64 0,.int .i64 0,.int .i64 0] 168 (0,0)):=by rw[hW];exact heap_alloc_new w _
 have hb:Below w.heap.size w W:=by rw[hW];exact(Below.refl _ _).alloc (Nat.le_refl _) _
 have hb1:Below W.heap.size W W1:=by rw[hW1];exact(Below.refl _ _).alloc (Nat.le_refl _) _
 have hb2:Below W1.heap.size W1 W2:=by rw[hW2];exact(Below.refl _ _).alloc (Nat.le_refl _) _
 have hlt:=lt_of_block hbl
 have Q7:W2.heap[w.heap.size]? =some (.cells #[.int .i64 0,.int .i64 0,.int .i64 0,.int .i64 0] 168 (0,0)):=by
  rw[hb2.block _ (by have:=hb1.size;omega),hb1.block _ hlt];exact hbl
 refine⟨dY W2 w.heap.size (.int .i64 (-1)) (.int .i64 (-1)) (.int .i64 (-1)) (.int .i64 (-1)),?_,?_,?_⟩
 ·have e1:W2.heap.size=w.heap.size+3:=by rw[hW2,hW1,hW];simp
  simpa[dY] using e1
 ·exact eA (hb.trans ((hb1.mono hb.size).trans (hb2.mono (by have:=hb.size;have:=hb1.size;omega)))) (Nat.le_refl _) _ _ _ _
 ·obtain⟨q0,q1,q2,q3,qf⟩:=au Q7
  obtain⟨r0,r1,r2,r3,-⟩:=au (iE Q7 (.int .i64 (-1)) (.int .i64 (-1)) (.int .i64 (-1)) (.int .i64 (-1)))
  have HI:=Nu.hid (Gp W)
  have mX:=Nu.hid (Gp W1)
  rw[←hW1] at HI
  rw[←hW2] at mX
  have HW:=Nu.hid hW
  clear hbl hb hb1 hb2 hlt Q7 hW hW1 hW2
  go_enter Tryz.func131,Tryz.ntmps131
  go_wp2_with fail
  rw[←HW.out]
  go_wp2_with (go_at_call 135;first|(refine HI.out.mono ?_;rintro e w1 ⟨rfl,rfl⟩)|(refine mX.out.mono ?_;rintro e w1 ⟨rfl,rfl⟩))
  refine bodyPost_ret (v:=fL dI) (by simp[results,Tryz.results131,go_sem,r0,r1,r2,r3]) rfl ?_
  exact⟨rfl,rfl⟩
set_option maxRecDepth 100000 in
set_option maxHeartbeats 8000000 in
theorem xC (h:aQ c p t W0 O st L U Z vp vw W) (x:Int) (hlen:st.way.length≤8388607):Calls Tryz.prog 116 #[.pointer (some ⟨t,0,none⟩),.int .i64 x] W fun e w'=>e= .returned (.tuple #[])∧aT c p t W0 O W (enter st x) w':=by
 have hB0:=h.aI.size
 obtain⟨W1,hW1⟩:∃W1,W1=W.drew:=⟨_,rfl⟩
 have hb:Below W.heap.size W W1:=by rw[hW1];exact(Below.refl _ _).drew
 have hsz:W1.heap.size=W.heap.size:=by rw[hW1];rfl
 obtain⟨vu,xS,hb1,hnp⟩:=Pv W1
 obtain⟨W2,hW2⟩:∃W2,W2=vu.alloc (.cells #[.int .i64 x,.int .i64 0,.int .i64 (-1),.int .i64 (-1),.int .i64 (-1),.int .i64 (-1)] 170):=⟨_,rfl⟩
 have hb2:Below vu.heap.size vu W2:=by rw[hW2];exact(Below.refl _ _).alloc (Nat.le_refl _) _
 have hg2:W2.heap[vu.heap.size]? =some (.cells #[.int .i64 x,.int .i64 0,.int .i64 (-1),.int .i64 (-1),.int .i64 (-1),.int .i64 (-1)] 170 (0,0)):=by rw[hW2];exact heap_alloc_new vu _
 have h1:=h.later hb
 have h1':=h1.later hb1
 have h2:=h1'.later hb2
 obtain⟨ao,cap,Zi,-⟩:=h.way.form
 rw[List.length_reverse] at Zi
 obtain⟨v',W3,hrun,r1,r2,r3⟩:=Jy W0.heap.size vw st.way.reverse (x,0,dI) h2.way (by have:=h2.aI.size;omega) vu.heap.size hg2 (by rw[List.length_reverse];omega)
 have AE:W2.heap.size=W.heap.size+4:=by rw[hW2];simp[xS,hsz]
 have hat:v'.ownBlock=vw.ownBlock∨∃b,v'.ownBlock=some b∧W.heap.size≤b:=by
  rcases r3 with e|e
  ·exact .inl e
  ·exact .inr ⟨_,e,by omega⟩
 have hk3:∀b,b<W.heap.size→vw.ownBlock≠some b→W3.heap[b]? =W.heap[b]? :=fun k hk hn=>by
  rw[r2.block k (by omega) (fun e=>hn e.symm),hb2.block k (by omega),hb1.block k (by omega),hb.block k hk]
 have hb3:Below W0.heap.size W0 W3:=h2.aI.grown r2 (by have:=h2.aI.size;omega) fun b hb=>(h2.way.lt hb).1
 have hown:dV 170 6 tM W3 W0.heap.size v' ((x,0,dI)::st.way).reverse:=by rw[List.reverse_cons];exact r1
 obtain⟨y1,y2,y4⟩:=h.VU hb3 hk3 (by have:=r2.size;omega) hown hat
 have bI:Hid (aT c p t W0 O W (enter st x) (W3.setCell ⟨t,4,none⟩ v')):=by
  refine⟨⟨?_,?_,?_,?_,fun k hk hn=> ?_⟩,L,U,Z,vp,v',y4⟩
  ·exact r2.os.trans (hb2.os.trans (hb1.os.trans hb.os))
  ·exact r2.tape.trans (hb2.tape.trans (hb1.tape.trans hb.tape))
  ·exact r2.output.trans (hb2.output.trans (hb1.output.trans hb.output))
  ·have:=r2.size
   simp
   omega
  ·rw[heap_setCell_other W3 ⟨t,4,none⟩ k _ (fun e=>hn (by rw[show k=t from e];exact h.oT))]
   exact hk3 k hk fun e=>hn (h.oW k e)
 obtain⟨mP,cap',hv',-⟩:=hown.form
 have AG:∀V,V=W1∨V=vu∨V=W2∨V=W3→V.cell? ⟨t,4,none⟩=some (.slice ao st.way.length cap):=fun V hV=>by
  rw[←Zi]
  rcases hV with rfl|rfl|rfl|rfl
  ·exact h1.cells.2.2.2.2.1
  ·exact h1'.cells.2.2.2.2.1
  ·exact h2.cells.2.2.2.2.1
  ·exact y1
 have HV:Hid (∀V,V=W1∨V=vu∨V=W2∨V=W3→V.cell? ⟨t,4,none⟩=some (.slice ao st.way.length cap)∧True):=fun V hV=>⟨AG V hV,trivial⟩
 have jR:=Nu.hid hW1
 have HF:Hid (W3.frozen? ⟨t,4,none⟩=false):=y2
 have kR:=Nu.hid hW2
 have xl:=Nu.hid hnp
 subst Zi
 subst hv'
 clear h hlen hb hsz hb2 hg2 h1 h2 r1 r2 r3 AE hat hk3 hb3 hown y1 y2 y4 AG hW1 hW2 hB0 h1' hnp xS hb1
 go_enter Tryz.func116,Tryz.ntmps116
 go_wp2_with fail
 refine wp_region_any (by kernel_rfl) ?_
 change wpAny _ _ _ _ _ _ _ (W.drew)
 rw[←jR.out]
 refine aj.oI (fun j=>match j with|0=> .pointer (some ⟨t,0,none⟩)|1=> .pointer (some ⟨t,0,none⟩)|2=> .pointer (some ⟨t,0,none⟩)|3=> .pointer (some ⟨t,4,none⟩)|4=> .slice ao st.way.length cap|5=> .int .i64 x|6=> .agg #[.int .i64 (-1),.int .i64 (-1),.int .i64 (-1),.int .i64 (-1)]|7=> .agg #[.int .i64 x,.int .i64 0,.int .i64 (-1),.int .i64 (-1),.int .i64 (-1),.int .i64 (-1)]|8=>(.slice (some ⟨vu.heap.size,0,none⟩) 1 1)|9=>(.slice mP ((x,0,dI)::st.way).reverse.length cap')|10=> .pointer (some ⟨t,0,none⟩)|11=> .pointer (some ⟨t,4,none⟩)|_=>undef) (AnyM.bG W1 [(12,(W3.setCell ⟨t,4,none⟩ (.slice mP ((x,0,dI)::st.way).reverse.length cap'))),(9,W3),(8,W2),(6,vu)]) 16 rfl (by kernel_rfl) rfl ?_ ?_
 ·intro j o' Ls V ev ho bO hC bU hdc aA aR kW iQ
  have hc:j=0∨j=1∨j=2∨j=3∨j=4∨j=5∨j=6∨j=7∨j=8∨j=9∨j=10∨j=11∨j=12:=by
   have:j<13:=(Array.getElem?_eq_some_iff.1 ho).1
   omega
  have hst:Ls 12=false:=by
   cases h:Ls 12 with
   |false=>rfl
   |true=>
    exfalso
    have hq:Ls j=true:=by
     rcases hc with rfl|rfl|rfl|rfl|rfl|rfl|rfl|rfl|rfl|rfl|rfl|rfl|rfl
     ·exact hdc 12 _ rfl h ⟨0,.phase⟩ (by simp) rfl
     ·exact hdc 12 _ rfl h ⟨1,.phase⟩ (by simp) rfl
     ·exact hdc 12 _ rfl h ⟨2,.phase⟩ (by simp) rfl
     ·exact hdc 12 _ rfl h ⟨3,.phase⟩ (by simp) rfl
     ·exact hdc 12 _ rfl h ⟨4,.phase⟩ (by simp) rfl
     ·exact hdc 12 _ rfl h ⟨5,.phase⟩ (by simp) rfl
     ·exact hdc 12 _ rfl h ⟨6,.phase⟩ (by simp) rfl
     ·exact hdc 12 _ rfl h ⟨7,.phase⟩ (by simp) rfl
     ·exact hdc 12 _ rfl h ⟨8,.phase⟩ (by simp) rfl
     ·exact hdc 12 _ rfl h ⟨9,.data⟩ (by simp) rfl
     ·exact hdc 11 _ rfl (hdc 12 _ rfl h ⟨11,.data⟩ (by simp) rfl) ⟨10,.data⟩ (by simp) rfl
     ·exact hdc 12 _ rfl h ⟨11,.data⟩ (by simp) rfl
     ·exact h
    rw[bO] at hq
    cases hq
  have qU:V=W1∨V=vu∨V=W2∨V=W3:=by
   cases h6:Ls 6<;>cases h8:Ls 8<;>cases h9:Ls 9<;>simp[AnyM.bG,hst,h6,h8,h9] at hC<;>simp[hC]
  obtain⟨k1,-⟩:=HV.out V qU
  rcases hc with rfl|rfl|rfl|rfl|rfl|rfl|rfl|rfl|rfl|rfl|rfl|rfl|rfl<;>obtain rfl:=Option.some.inj ho
  ·have e1:ev (.tmp 0)= .pointer (some ⟨t,0,none⟩):=aR 0 (by kernel_rfl)
   exact aj.ah (v:= .pointer (some ⟨t,0,none⟩)) (w':=V) (by simp[execOp,go_sem,e1]) ⟨rfl,AnyM.other rfl hC⟩
  ·have e1:ev (.tmp 0)= .pointer (some ⟨t,0,none⟩):=aR 0 (by kernel_rfl)
   exact aj.ah (v:= .pointer (some ⟨t,0,none⟩)) (w':=V) (by simp[execOp,go_sem,e1]) ⟨rfl,AnyM.other rfl hC⟩
  ·have e1:ev (.tmp 5)= .pointer (some ⟨t,0,none⟩):=aA 1 5 (by omega) rfl (by decide)
   exact aj.ah (v:= .pointer (some ⟨t,0,none⟩)) (w':=V) (by simp[execOp,go_sem,e1]) ⟨rfl,AnyM.other rfl hC⟩
  ·have e1:ev (.tmp 6)= .pointer (some ⟨t,0,none⟩):=aA 2 6 (by omega) rfl (by decide)
   exact aj.ah (v:= .pointer (some ⟨t,4,none⟩)) (w':=V) (by simp[execOp,go_sem,e1]) ⟨rfl,AnyM.other rfl hC⟩
  ·have e1:ev (.tmp 7)= .pointer (some ⟨t,4,none⟩):=aA 3 7 (by omega) rfl (by decide)
   exact aj.ah (v:= .slice ao st.way.length cap) (w':=V) (by simp[execOp,go_sem,e1,k1]) ⟨rfl,AnyM.other rfl hC⟩
  ·have e1:ev (.tmp 1)= .int .i64 x:=aR 1 (by kernel_rfl)
   exact aj.ah (v:= .int .i64 x) (w':=V) (by simp[execOp,go_sem,e1]) ⟨rfl,AnyM.other rfl hC⟩
  ·have Zu:Ls 8=false:=by
    cases h:Ls 8 with
    |false=>rfl
    |true=>
     have wI:Ls 6=true:=hdc 7 _ rfl (hdc 8 _ rfl h ⟨7,.data⟩ (by simp) rfl) ⟨6,.data⟩ (by simp) rfl
     rw[bO] at wI
     cases wI
   have Qu:Ls 9=false:=by
    cases h:Ls 9 with
    |false=>rfl
    |true=>
     have tF:Ls 8=true:=hdc 9 _ rfl h ⟨8,.data⟩ (by simp) rfl
     rw[Zu] at tF
     cases tF
   have iD:V=W1:=by
    simp only[AnyM.bG] at hC
    simp only[Zu,Qu,bO,hst,Bool.false_eq_true,if_false] at hC
    exact hC
   rw[iD]
   refine AnyM.jH (by simp[execOp,go_sem,iQ]) xl.out ⟨rfl,?_⟩
   simp[AnyM.bG,aj.bQ,Zu,Qu,hst]
  ·have e1:ev (.tmp 9)= .int .i64 x:=aA 5 9 (by omega) rfl (by decide)
   have e2:ev (.tmp 10)= .agg #[.int .i64 (-1),.int .i64 (-1),.int .i64 (-1),.int .i64 (-1)]:=aA 6 10 (by omega) rfl (by decide)
   exact aj.ah (v:= .agg #[.int .i64 x,.int .i64 0,.int .i64 (-1),.int .i64 (-1),.int .i64 (-1),.int .i64 (-1)]) (w':=V) (by simp[execOp,go_sem,e1,e2]) ⟨rfl,AnyM.other rfl hC⟩
  ·have e1:ev (.tmp 11)= .agg #[.int .i64 x,.int .i64 0,.int .i64 (-1),.int .i64 (-1),.int .i64 (-1),.int .i64 (-1)]:=aA 7 11 (by omega) rfl (by decide)
   have hp:Ls 6=true:=hdc 7 _ rfl (bU ⟨7,.data⟩ (by simp) rfl) ⟨6,.data⟩ (by simp) rfl
   have Qu:Ls 9=false:=by
    cases h:Ls 9 with
    |false=>rfl
    |true=>
     have tF:Ls 8=true:=hdc 9 _ rfl h ⟨8,.data⟩ (by simp) rfl
     rw[bO] at tF
     cases tF
   have iD:V=vu:=by
    simp only[AnyM.bG] at hC
    simp only[Qu,bO,hp,hst,Bool.false_eq_true,if_false,if_true] at hC
    exact hC
   rw[iD]
   refine aj.ah (v:=(.slice (some ⟨vu.heap.size,0,none⟩) 1 1)) (w':=W2) (by simp[execOp,go_sem,e1,kR.out]) ⟨rfl,?_⟩
   simp[AnyM.bG,aj.bQ,Qu,hst]
  ·have e1:ev (.tmp 8)= .slice ao st.way.length cap:=aA 4 8 (by omega) rfl (by decide)
   have e2:ev (.tmp 12)=(.slice (some ⟨vu.heap.size,0,none⟩) 1 1):=aA 8 12 (by omega) rfl (by decide)
   have hp:Ls 8=true:=bU ⟨8,.data⟩ (by simp) rfl
   have iD:V=W2:=by
    simp only[AnyM.bG] at hC
    simp only[bO,hp,hst,Bool.false_eq_true,if_false,if_true] at hC
    exact hC
   rw[iD]
   refine aj.ah (v:=(.slice mP ((x,0,dI)::st.way).reverse.length cap')) (w':=W3) (hrun _ ev _ _ rfl rfl e1 e2) ⟨rfl,?_⟩
   simp[AnyM.bG,aj.bQ,hst]
  ·have e1:ev (.tmp 4)= .pointer (some ⟨t,0,none⟩):=aA 0 4 (by omega) rfl (by decide)
   exact aj.ah (v:= .pointer (some ⟨t,0,none⟩)) (w':=V) (by simp[execOp,go_sem,e1]) ⟨rfl,AnyM.other rfl hC⟩
  ·have e1:ev (.tmp 14)= .pointer (some ⟨t,0,none⟩):=aA 10 14 (by omega) rfl (by decide)
   exact aj.ah (v:= .pointer (some ⟨t,4,none⟩)) (w':=V) (by simp[execOp,go_sem,e1]) ⟨rfl,AnyM.other rfl hC⟩
  ·have e1:ev (.tmp 15)= .pointer (some ⟨t,4,none⟩):=aA 11 15 (by omega) rfl (by decide)
   have e2:ev (.tmp 13)=(.slice mP ((x,0,dI)::st.way).reverse.length cap'):=aA 9 13 (by omega) rfl (by decide)
   have hp:Ls 9=true:=bU ⟨9,.data⟩ (by simp) rfl
   have iD:V=W3:=by
    simp only[AnyM.bG] at hC
    simp only[bO,hp,Bool.false_eq_true,if_false,if_true] at hC
    exact hC
   rw[iD]
   rw[iD] at k1
   refine aj.bF (w':=(W3.setCell ⟨t,4,none⟩ (.slice mP ((x,0,dI)::st.way).reverse.length cap'))) (by simp[execOp,go_sem,e1,e2,k1,HF.out]) ⟨rfl,?_⟩
   simp[AnyM.bG,aj.bQ]
 ·intro Ls V hall hC
  unfold AnyM.bG at hC
  rw[if_pos (hall 12 (by decide))] at hC
  subst hC
  refine bodyPost_end (results_none rfl _ _ _) (aj.kC _) ?_
  exact⟨rfl,bI.out⟩
end
end
section
open Go.RowKit Lt
noncomputable abbrev Wp.lw (c:Wp):List Int:=upTo (Lo.low c.es c.s) c.es.length
theorem oH {l:List Int} {i a:Int} (h:bz l i=some a):∃k:Nat,i=(k:Int)∧k<l.length∧l[k]? =some a:=by
 unfold bz at h
 split at h
 ·rename_i h0
  exact⟨i.toNat,by omega,(List.getElem?_eq_some_iff.1 h).1,h⟩
 ·cases h
theorem jl {l l':List Int} {i z:Int} (h:eT l i z=some l'):∃k:Nat,i=(k:Int)∧k<l.length∧l'=l.set k z:=by
 unfold eT at h
 split at h
 ·rename_i h0
  cases h
  exact⟨i.toNat,by omega,by omega,rfl⟩
 ·cases h
theorem gW {c:Wp} {i a:Int} (h:bz c.lw i=some a):∃k:Nat,i=(k:Int)∧k<c.es.length∧Lo.low c.es c.s k=a:=by
 obtain⟨k,h1,h2,h3⟩:=oH h
 rw[fG] at h2
 rw[gR h2] at h3
 exact⟨k,h1,h2,Option.some.inj h3⟩
section
variable {c:Wp} {p t:Nat} {W0 W:World} {O:Nat→Prop} {st:TS} {L U Z:Nat} {vp vw:Value}
theorem aQ.low (h:aQ c p t W0 O st L U Z vp vw W) {x:Nat} (hx:x<c.es.length):∃gl cl,∀V,Below W.heap.size W V→V.cell? ⟨t,0,none⟩=some (.pointer (some ⟨p,0,none⟩))∧V.cell? ⟨p,6,none⟩=some (.slice (some ⟨gl,0,none⟩) c.es.length cl)∧∀y,y<c.es.length→V.cell? ⟨gl,y,none⟩=some (.int .i64 (Lo.low c.es c.s y)):=by
 obtain⟨gl,cl,e,hc⟩:=h.now.Ds hx
 refine⟨gl,cl,fun V hV=>⟨(h.later hV).cells.1,?_,fun y hy=>hc V hV y hy⟩⟩
 rw[←e]
 exact(h.now.later hV).c6
set_option maxRecDepth 100000 in
set_option maxHeartbeats 8000000 in
theorem Et (h:aQ c p t W0 O st L U Z vp vw W) {i:Iv} {e:Nat} {b:Bool} (hh:fU c.lw i (e:Int)=some b):Calls Tryz.prog 170 #[.pointer (some ⟨t,0,none⟩),dG i,.int .i64 (e:Int)] W fun r w'=>r= .returned (.bool b)∧Below W.heap.size W w':=by
 obtain⟨a,d⟩:=i
 have cq:=h.wk.val.few
 obtain⟨W1,hW1⟩:∃W1,W1=W.alloc (.cells #[.int .i64 a,.int .i64 d] 166):=⟨_,rfl⟩
 have hbl:W1.heap[W.heap.size]? =some (.cells #[.int .i64 a,.int .i64 d] 166 (0,0)):=by rw[hW1];exact heap_alloc_new W _
 have hb:Below W.heap.size W W1:=by rw[hW1];exact(Below.refl _ _).alloc (Nat.le_refl _) _
 have hlt:=lt_of_block hbl
 have h1:=h.later hb
 have y0:∀D:LW W1,D.val.cell? ⟨W.heap.size,0,none⟩=some (.int .i64 a):=fun D=>(az ((D.h.block _ hlt).trans hbl)).1
 have y1:∀D:LW W1,D.val.cell? ⟨W.heap.size,1,none⟩=some (.int .i64 d):=fun D=>(az ((D.h.block _ hlt).trans hbl)).2.1
 have fZ:Hid (∀D:LW W1,Calls Tryz.prog 149 #[.agg #[.int .i64 a,.int .i64 d]] D.val fun e w'=>e= .returned (.bool (decide ((a,d)=aP)))∧Below D.val.heap.size D.val w'):=fun D=>fW (a,d) D.val
 have bI:Hid (∀D:LW W1,Below W.heap.size W D.val):=fun D=>hb.trans (D.h.mono hb.size)
 have HW:=Nu.hid hW1
 have hne:=LW.any W1
 unfold fU at hh
 by_cases hn:(a,d)=aP
 ·rw[if_pos hn] at hh
  cases hh
  have e1:decide ((a,d)=aP)=true:=decide_eq_true hn
  rw[e1] at fZ
  clear h hW1 hbl hb hlt h1 hn e1
  go_enter Tryz.func170,Tryz.ntmps170
  go_wp2_with fail
  rw[←HW.out]
  refine aC (by kernel_rfl) (by kernel_rfl) ?_
  repeat (go_big_quiet_step ((first|(go_at_call 149;exact Calls.lw (fZ.out _)))))
  refine wpQuiet_nil ?_
  rintro _ ⟨D,rfl⟩
  clear y0 y1
  go_wp2
  go_ret
  exact⟨rfl,bI.out D⟩
 ·rw[if_neg hn] at hh
  cases ha:bz c.lw a with
  |none=>rw[ha] at hh;cases hh
  |some x=>
   cases he:bz c.lw (e:Int) with
   |none=>rw[ha,he] at hh;cases hh
   |some y=>
    rw[ha,he] at hh
    cases hh
    obtain⟨k,rfl,hk,ql⟩:=gW ha
    obtain⟨k',hk',wN,UD⟩:=gW he
    obtain rfl:e=k':=by omega
    obtain⟨gl,cl,hc⟩:=h1.low hk
    have e1:decide (((k:Int),d)=aP)=false:=decide_eq_false hn
    rw[e1] at fZ
    have z0:∀D:LW W1,D.val.cell? ⟨t,0,none⟩=some (.pointer (some ⟨p,0,none⟩)):=fun D=>(hc D.val D.h).1
    have z1:∀D:LW W1,D.val.cell? ⟨p,6,none⟩=some (.slice (some ⟨gl,0,none⟩) c.es.length cl):=fun D=>(hc D.val D.h).2.1
    have z2:∀D:LW W1,D.val.cell? ⟨gl,k,none⟩=some (.int .i64 x):=fun D=>by rw[←ql];exact(hc D.val D.h).2.2 k hk
    have z3:∀D:LW W1,D.val.cell? ⟨gl,e,none⟩=some (.int .i64 y):=fun D=>by rw[←UD];exact(hc D.val D.h).2.2 e wN
    have v0:(0:Int)≤(k:Int):=by omega
    have v1:(k:Int)<(c.es.length:Int):=by omega
    have v2:(0:Int)≤(e:Int):=by omega
    have v3:(e:Int)<(c.es.length:Int):=by omega
    clear h hW1 hbl hb hlt h1 hn e1 ha he ql UD hc hk' hk wN
    go_enter Tryz.func170,Tryz.ntmps170
    go_wp2_with fail
    rw[←HW.out]
    refine aC (by kernel_rfl) (by kernel_rfl) ?_
    repeat (go_big_quiet_step ((first|(go_at_call 149;exact Calls.lw (fZ.out _)))))
    refine wpQuiet_nil ?_
    rintro _ ⟨D,rfl⟩
    clear y0 y1 z0 z1 z2 z3
    go_wp2
    go_ret
    exact⟨rfl,bI.out D⟩
set_option maxRecDepth 100000 in
set_option maxHeartbeats 8000000 in
theorem FV (h:aQ c p t W0 O st L U Z vp vw W) {q:Pr} {z:Int} (hh:least c.lw q=some z):Calls Tryz.prog 147 #[.pointer (some ⟨t,0,none⟩),fL q] W fun r w'=>r= .returned (.int .i64 z)∧Below W.heap.size W w':=by
 obtain⟨⟨a,d⟩,a',d'⟩:=q
 have cq:=h.wk.val.few
 obtain⟨W1,hW1⟩:∃W1,W1=W.alloc (.cells #[.int .i64 a,.int .i64 d,.int .i64 a',.int .i64 d'] 168):=⟨_,rfl⟩
 have hbl:W1.heap[W.heap.size]? =some (.cells #[.int .i64 a,.int .i64 d,.int .i64 a',.int .i64 d'] 168 (0,0)):=by rw[hW1];exact heap_alloc_new W _
 have hb:Below W.heap.size W W1:=by rw[hW1];exact(Below.refl _ _).alloc (Nat.le_refl _) _
 have hlt:=lt_of_block hbl
 have h1:=h.later hb
 have fZ:Hid (∀(i:Iv) (w:World),Calls Tryz.prog 149 #[dG i] w fun e w'=>e= .returned (.bool (decide (i=aP)))∧Below w.heap.size w w'):=fW
 have HB:=Nu.hid hb
 have l9:=Nu.hid hbl
 obtain⟨q0,q1,q2,q3,-⟩:=au hbl
 have hacc:=Below.refl W1.heap.size W1
 unfold least at hh
 dsimp only at hh
 by_cases hn:(a,d)=aP
 ·rw[if_pos hn] at hh
  obtain⟨k,hkk,hk,ql⟩:=gW hh
  obtain⟨gl,cl,hc⟩:=h1.low hk
  have HC:=Nu.hid hc
  have e1:decide ((a,d)=aP)=true:=decide_eq_true hn
  have oN:Hid (∀w,Calls Tryz.prog 149 #[.agg #[.int .i64 a,.int .i64 d]] w fun e w'=>e= .returned (.bool true)∧Below w.heap.size w w'):=fun w=>by rw[←e1];exact fZ.out (a,d) w
  have v0:(0:Int)≤(k:Int):=by omega
  have v1:(k:Int)<(c.es.length:Int):=by omega
  subst hkk
  rw[hW1] at q0 q1 q2 q3 hacc
  rw[hW1] at HB l9 HC hlt
  clear h hW1 hbl hb h1 hn e1 hc hh fZ
  go_enter Tryz.func147,Tryz.ntmps147
  go_wp2_with (go_at_call 149;refine(oN.out _).mono ?_;rintro e w1 ⟨rfl,hb1⟩;have hacc:=hacc.trans (hb1.mono hacc.size);clear hb1;obtain⟨q0,q1,q2,q3,-⟩:=au ((hacc.block _ hlt).trans l9.out);obtain⟨z0,z1,z2⟩:=HC.out _ hacc;have z3:=z2 k hk;rw[ql] at z3;clear z2)
  go_quiet (fail)
  go_wp2
  go_ret
  exact⟨rfl,below_drewN (HB.out.trans (hacc.mono HB.out.size)) _⟩
 ·rw[if_neg hn] at hh
  have e1:decide ((a,d)=aP)=false:=decide_eq_false hn
  by_cases hn2:(a',d')=aP
  ·rw[if_pos hn2] at hh
   obtain⟨k,hkk,hk,ql⟩:=gW hh
   subst hkk
   obtain⟨gl,cl,hc⟩:=h1.low hk
   have HC:=Nu.hid hc
   have e2:decide ((a',d')=aP)=true:=decide_eq_true hn2
   have oN:Hid (∀w,Calls Tryz.prog 149 #[.agg #[.int .i64 a,.int .i64 (k:Int)]] w fun e w'=>e= .returned (.bool false)∧Below w.heap.size w w'):=fun w=>by rw[←e1];exact fZ.out (a,(k:Int)) w
   have xw:Hid (∀w,Calls Tryz.prog 149 #[.agg #[.int .i64 a',.int .i64 d']] w fun e w'=>e= .returned (.bool true)∧Below w.heap.size w w'):=fun w=>by rw[←e2];exact fZ.out (a',d') w
   have hne:d'≠(k:Int):=fun e=>by
    have:=congrArg Prod.snd hn2
    dsimp only at this
    omega
   have v0:(0:Int)≤(k:Int):=by omega
   have v1:(k:Int)<(c.es.length:Int):=by omega
   rw[hW1] at q0 q1 q2 q3 hacc
   rw[hW1] at HB l9 HC hlt
   have HN:=Nu.hid hne
   clear h hW1 hbl hb h1 hn e1 e2 hn2 hc hh fZ hne
   go_enter Tryz.func147,Tryz.ntmps147
   go_wp2_with (go_at_call 149;first|(with_reducible refine(oN.out _).mono ?_;rintro e w1 ⟨rfl,hb1⟩;have hacc:=hacc.trans (hb1.mono hacc.size);clear hb1;obtain⟨q0,q1,q2,q3,-⟩:=au ((hacc.block _ hlt).trans l9.out);obtain⟨z0,z1,z2⟩:=HC.out _ hacc;have z3:=z2 k hk;rw[ql] at z3;clear z2)|(with_reducible refine(xw.out _).mono ?_;rintro e w1 ⟨rfl,hb1⟩;have hacc:=hacc.trans (hb1.mono hacc.size);clear hb1;obtain⟨q0,q1,q2,q3,-⟩:=au ((hacc.block _ hlt).trans l9.out);obtain⟨z0,z1,z2⟩:=HC.out _ hacc;have z3:=z2 k hk;rw[ql] at z3;clear z2))
   go_quiet (fail)
   go_wp2
   go_ret
   exact⟨rfl,below_drewN (HB.out.trans (hacc.mono HB.out.size)) _⟩
  ·rw[if_neg hn2] at hh
   cases ha:bz c.lw d with
   |none=>rw[ha] at hh;cases hh
   |some x=>
    cases hb':bz c.lw d' with
    |none=>rw[ha,hb'] at hh;cases hh
    |some y=>
     rw[ha,hb'] at hh
     cases hh
     obtain⟨k,hkk,hk,ql⟩:=gW ha
     obtain⟨k',hkk',hk',Xc⟩:=gW hb'
     subst hkk
     subst hkk'
     obtain⟨gl,cl,hc⟩:=h1.low hk
     have HC:=Nu.hid hc
     have e2:decide ((a',(k':Int))=aP)=false:=decide_eq_false hn2
     have oN:Hid (∀w,Calls Tryz.prog 149 #[.agg #[.int .i64 a,.int .i64 (k:Int)]] w fun e w'=>e= .returned (.bool false)∧Below w.heap.size w w'):=fun w=>by rw[←e1];exact fZ.out (a,(k:Int)) w
     have xw:Hid (∀w,Calls Tryz.prog 149 #[.agg #[.int .i64 a',.int .i64 (k':Int)]] w fun e w'=>e= .returned (.bool false)∧Below w.heap.size w w'):=fun w=>by rw[←e2];exact fZ.out (a',(k':Int)) w
     have v0:(0:Int)≤(k:Int):=by omega
     have v1:(k:Int)<(c.es.length:Int):=by omega
     have v2:(0:Int)≤(k':Int):=by omega
     have v3:(k':Int)<(c.es.length:Int):=by omega
     rw[hW1] at q0 q1 q2 q3 hacc
     rw[hW1] at HB l9 HC hlt
     clear h hW1 hbl hb h1 hn e1 e2 hn2 hc ha hb' fZ
     go_enter Tryz.func147,Tryz.ntmps147
     go_wp2_with (go_at_call 149;first|(with_reducible refine(oN.out _).mono ?_;rintro e w1 ⟨rfl,hb1⟩;have hacc:=hacc.trans (hb1.mono hacc.size);clear hb1;obtain⟨q0,q1,q2,q3,-⟩:=au ((hacc.block _ hlt).trans l9.out);obtain⟨z0,z1,z2⟩:=HC.out _ hacc;have z3:=z2 k hk;have z4:=z2 k' hk';rw[ql] at z3;rw[Xc] at z4;clear z2)|(with_reducible refine(xw.out _).mono ?_;rintro e w1 ⟨rfl,hb1⟩;have hacc:=hacc.trans (hb1.mono hacc.size);clear hb1;obtain⟨q0,q1,q2,q3,-⟩:=au ((hacc.block _ hlt).trans l9.out);obtain⟨z0,z1,z2⟩:=HC.out _ hacc;have z3:=z2 k hk;have z4:=z2 k' hk';rw[ql] at z3;rw[Xc] at z4;clear z2))
     go_quiet (fail)
     go_wp2
     ·go_ret
      exact⟨by rw[show min x y=y by omega];rfl,below_drewN (HB.out.trans (hacc.mono HB.out.size)) _⟩
     ·go_ret
      exact⟨by rw[show min x y=x by omega];rfl,below_drewN (HB.out.trans (hacc.mono HB.out.size)) _⟩
end
end
end Go.Proofs.YtnhcggfbkoppnaaGreat
