import Derived.Test.YtbhdibflpjhpaaaGreatMg40
import Derived.Test.YtbhdibflpjhpaaaGreatMg39
set_option maxHeartbeats 8000000
set_option maxRecDepth 100000
namespace Go.Proofs.YtbhdibflpjhpaaaGreat
section
open Go.Proofs.Tryz
open Go.RowKit Lt
theorem Tryz.YT:(prog.info? 129).map (fun i=>(i.zero,i.size,i.bytes))=some (some (.agg #[.int .i64 0,.int .i64 0,.int .i64 0,.int .i64 0]),4,32):=by kernel_rfl
theorem Tryz.UJ:(prog.info? 131).map (fun i=>(i.zero,i.size,i.bytes))=some (some (.agg #[.int .i64 0,.int .i64 0,.int .i64 0,.int .i64 0,.int .i64 0,.int .i64 0]),6,48):=by kernel_rfl
theorem Nc {V:World} (B:Nat) (v:Value) (l:List Pr) (q:Pr) (hR:dZ 129 4 Fq V B v l) (hB:B<=V.heap.size) (g:Nat) (hg:V.heap[g]? =some (.cells #[.int .i64 q.1.1,.int .i64 q.1.2,.int .i64 q.2.1,.int .i64 q.2.2] 129 (0,0))) (hl:l.length<=8388608):
 ∃v' w',(∀(o:Oper) (ev:Operand->Value) (s x:Operand),o.op= .call { callee:= .builtin .append,args:= #[s,x],argTypes:= #[110,110] }->o.type=110->ev s=v->ev x= .slice (some ⟨g,0,none⟩) 1 1->(execOp ev o).run prog V= .ok (.value v') w')/\dZ 129 4 Fq w' B v' (l++[q])/\V.grownBy w' v.ownBlock/\(v'.ownBlock=v.ownBlock\/v'.ownBlock=some V.heap.size):=by
 obtain⟨i1,hi1,hy0,hy1,hy2⟩:=info_parts Tryz.YT;obtain⟨v',w',hr,h2,h3,_,h5⟩:=run_append_own_at (P:=prog) V B 110 110 129 i1 (.agg #[.int .i64 0,.int .i64 0,.int .i64 0,.int .i64 0]) 4 32 Tryz.underlying110 hi1 hy0 hy1 hy2 rfl (by decide) v l.length (l.flatMap Fq) hR ⟨g,0,none⟩ 1 1 (Fq q) rfl (aek hg) (by simp[Fq,Value.oneCell']) (by unfold maxLen;omega) (by omega) hB;refine⟨v',w',fun o ev s x ho ht hs hx=> ?_,?_,h3,h5⟩
 .unfold execOp
  simp only[ho,ht,resolve,invoke,builtin,aeQ,aeR,ad7,aei,ac6,aeT,hs,hx,hr]
 .unfold dZ
  rw[aeO,abZ];simpa using h2
theorem Nb {V:World} (B:Nat) (v:Value) (l:List kC) (q:kC) (hR:dZ 131 6 xq V B v l) (hB:B<=V.heap.size) (g:Nat) (hg:V.heap[g]? =some (.cells #[.int .i64 q.1,.int .i64 q.2.1,.int .i64 q.2.2.1.1,.int .i64 q.2.2.1.2,.int .i64 q.2.2.2.1,.int .i64 q.2.2.2.2] 131 (0,0))) (hl:l.length<=8388608):
 ∃v' w',(∀(o:Oper) (ev:Operand->Value) (s x:Operand),o.op= .call { callee:= .builtin .append,args:= #[s,x],argTypes:= #[111,111] }->o.type=111->ev s=v->ev x= .slice (some ⟨g,0,none⟩) 1 1->(execOp ev o).run prog V= .ok (.value v') w')/\dZ 131 6 xq w' B v' (l++[q])/\V.grownBy w' v.ownBlock/\(v'.ownBlock=v.ownBlock\/v'.ownBlock=some V.heap.size):=by
 obtain⟨i1,hi1,hy0,hy1,hy2⟩:=info_parts Tryz.UJ;obtain⟨v',w',hr,h2,h3,_,h5⟩:=run_append_own_at (P:=prog) V B 111 111 131 i1 (.agg #[.int .i64 0,.int .i64 0,.int .i64 0,.int .i64 0,.int .i64 0,.int .i64 0]) 6 48 Tryz.underlying111 hi1 hy0 hy1 hy2 rfl (by decide) v l.length (l.flatMap xq) hR ⟨g,0,none⟩ 1 1 (xq q) rfl (aek hg) (by simp[xq,Value.oneCell']) (by unfold maxLen;omega) (by omega) hB;refine⟨v',w',fun o ev s x ho ht hs hx=> ?_,?_,h3,h5⟩
 .unfold execOp
  simp only[ho,ht,resolve,invoke,builtin,aeQ,aeR,ad7,aei,ac6,aeT,hs,hx,hr]
 .unfold dZ
  rw[aeO,abZ];simpa using h2
section
variable {c:Wp} {p t:Nat} {W0 W:World} {O:Nat->Prop} {st:TS} {L U Z:Nat} {vp vw:Value}
theorem wL (h:aS c p t W0 O st L U Z vp vw W) (q:Pr) (hlen:st.stk.length<=8388607):Calls prog 94 #[.pointer (some ⟨t,0,none⟩),gK q] W fun e w'=>e= .returned (.tuple #[])/\aW c p t W0 O W { st with stk:=q::st.stk } w':=by
 obtain⟨⟨a,b⟩,a',b'⟩:=q;have hB0:=h.aZ.size;obtain⟨W1,hW1⟩:∃W1,W1=(W.alloc (.cells #[.int .i64 a,.int .i64 b,.int .i64 a',.int .i64 b'] 129)).drew:=⟨_,rfl⟩;have hbl:W1.heap[W.heap.size]? =some (.cells #[.int .i64 a,.int .i64 b,.int .i64 a',.int .i64 b'] 129 (0,0)):=by rw[hW1];exact heap_alloc_new W _
 have hb:Below W.heap.size W W1:=by rw[hW1];exact((aae _ _).alloc (aad _) _).drew
 have hsz:W1.heap.size=W.heap.size+1:=by rw[hW1];simp
 obtain⟨W2,hW2⟩:∃W2,W2=W1.alloc (.cells #[.int .i64 a,.int .i64 b,.int .i64 a',.int .i64 b'] 129):=⟨_,rfl⟩;have hb2:Below W1.heap.size W1 W2:=by rw[hW2];exact(aae _ _).alloc (aad _) _
 have hg2:W2.heap[W1.heap.size]? =some (.cells #[.int .i64 a,.int .i64 b,.int .i64 a',.int .i64 b'] 129 (0,0)):=by rw[hW2];exact heap_alloc_new W1 _
 have h1:=h.later hb;have h2:=h1.later hb2;obtain⟨ao,cap,hvp,-⟩:=h.iX.form;rw[acD] at hvp;obtain⟨v',W3,hrun,r1,r2,r3⟩:=Nc W0.heap.size vp st.stk.reverse ((a,b),a',b') h2.iX (by have:=h2.aZ.size;omega) W1.heap.size hg2 (by rw[acD];omega);have Gj:W2.heap.size=W.heap.size+2:=by rw[hW2];simp[hsz]
 have hat:v'.ownBlock=vp.ownBlock\/∃b,v'.ownBlock=some b/\W.heap.size<=b:=by
  rcases r3 with e|e
  .exact .inl e
  .exact .inr ⟨_,e,by omega⟩
 have hk3:∀b,b<W.heap.size->vp.ownBlock≠some b->W3.heap[b]? =W.heap[b]? :=fun k hk hn=>by
  rw[r2.block k (by omega) (fun e=>hn e.symm),hb2.block k (by omega),hb.block k hk]
 have hb3:Below W0.heap.size W0 W3:=h2.aZ.grown r2 (by have:=h2.aZ.size;omega) fun b hb=>(h2.iX.lt hb).1
 have hown:dZ 129 4 Fq W3 W0.heap.size v' (((a,b),a',b')::st.stk).reverse:=by rw[ac4];exact r1
 obtain⟨y1,y2,-,y4⟩:=h.PD hb3 hk3 (by have:=r2.size;omega) hown hat;have bX:Hid (aW c p t W0 O W { st with stk:=((a,b),a',b')::st.stk } (W3.setCell ⟨t,3,none⟩ v')):=by
  refine⟨⟨?_,?_,?_,?_,fun k hk hn=> ?_⟩,L,U,Z,v',vw,y4⟩
  .exact r2.os.trans (hb2.os.trans hb.os)
  .exact r2.tape.trans (hb2.tape.trans hb.tape)
  .exact r2.output.trans (hb2.output.trans hb.output)
  .have:=r2.size
   simp;omega
  .rw[heap_setCell_other W3 ⟨t,3,none⟩ k _ (fun e=>hn (by rw[show k=t from e];exact h.oT))]
   exact hk3 k hk fun e=>hn (h.oP k e)
 obtain⟨su,cap',hv',-⟩:=hown.form;have wZ:∀V,V=W1\/V=W2\/V=W3->V.cell? ⟨t,3,none⟩=some (.slice ao st.stk.length cap)/\V.cell? ⟨W.heap.size,0,none⟩=some (.int .i64 a)/\V.cell? ⟨W.heap.size,1,none⟩=some (.int .i64 b)/\V.cell? ⟨W.heap.size,2,none⟩=some (.int .i64 a')/\V.cell? ⟨W.heap.size,3,none⟩=some (.int .i64 b'):=fun V hV=>by
  have yC:V.heap[W.heap.size]? =some (.cells #[.int .i64 a,.int .i64 b,.int .i64 a',.int .i64 b'] 129 (0,0)):=by
   rcases hV with rfl|rfl|rfl
   .exact hbl
   .rw[hb2.block _ (by omega)];exact hbl
   .rw[r2.block _ (by omega) (fun e=>by have:=(h.iX.lt e.symm).2;omega),hb2.block _ (by omega)];exact hbl
  obtain⟨q0,q1,q2,q3,-⟩:=ah yC;refine⟨?_,q0,q1,q2,q3⟩;rw[<-hvp];rcases hV with rfl|rfl|rfl
  .exact h1.cells.2.2.2.1
  .exact h2.cells.2.2.2.1
  .exact y1
 have HV:=ζ wZ;have pE:=ζ hW1;have HF:Hid (W3.frozen? ⟨t,3,none⟩=false):=y2;have qh:=ζ hW2;have ER:=ζ hsz;subst hvp;subst hv';clear h hlen hb hbl hsz hb2 hg2 h1 h2 r1 r2 r3 Gj hat hk3 hb3 hown y1 y2 y4 wZ hW1 hW2 hB0;go_enter func94,ntmps94;go_wp2_with fail;refine wp_region_any (by kernel_rfl) ?_;change wpAny _ _ _ _ _ _ _ ((W.alloc (.cells #[.int .i64 a,.int .i64 b,.int .i64 a',.int .i64 b'] 129)).drew);rw[<-pE.out];refine aq.QV (fun j=>match j with|0=> .pointer (some ⟨t,0,none⟩)|1=> .pointer (some ⟨t,0,none⟩)|2=> .pointer (some ⟨t,0,none⟩)|3=> .pointer (some ⟨t,3,none⟩)|4=> .slice ao st.stk.length cap|5=> .agg #[.int .i64 a,.int .i64 b,.int .i64 a',.int .i64 b']|6=> .slice (some ⟨W1.heap.size,0,none⟩) 1 1|7=>(.slice su (((a,b),a',b')::st.stk).reverse.length cap')|8=> .pointer (some ⟨t,0,none⟩)|9=> .pointer (some ⟨t,3,none⟩)|_=>undef) (AnyM.fF W1 [(10,(W3.setCell ⟨t,3,none⟩ (.slice su (((a,b),a',b')::st.stk).reverse.length cap'))),(7,W3),(6,W2)]) 14 rfl (by kernel_rfl) rfl ?_ ?_
 .intro j o' Ls V ev ho dQ hC dY hdc aM dw IM cQ
  have hc:j=0\/j=1\/j=2\/j=3\/j=4\/j=5\/j=6\/j=7\/j=8\/j=9\/j=10:=by
   have:j<11:=(abR.1 ho).1;omega
  have hst:Ls 10=false:=aq.yu (by kernel_rfl) hdc dQ (by omega);have VG:V=W1\/V=W2\/V=W3:=by
   cases h6:Ls 6<;>cases h7:Ls 7<;>simp[AnyM.fF,hst,h6,h7] at hC<;>simp[hC]
  obtain⟨k1,k2,k3,k4,k5⟩:=HV.out V VG;rcases hc with rfl|rfl|rfl|rfl|rfl|rfl|rfl|rfl|rfl|rfl|rfl<;>obtain rfl:=aal ho
  .exact AnyM.gv hC (by simp[execOp,go_sem,dw 0 (by kernel_rfl)]) rfl
  .exact AnyM.gv hC (by simp[execOp,go_sem,dw 0 (by kernel_rfl)]) rfl
  .exact AnyM.gv hC (by simp[execOp,go_sem,aM 1 5 (by omega) rfl (by decide)]) rfl
  .exact AnyM.gv hC (by simp[execOp,go_sem,aM 2 6 (by omega) rfl (by decide)]) rfl
  .exact AnyM.gv hC (by simp[execOp,go_sem,aM 3 7 (by omega) rfl (by decide),k1]) rfl
  .exact AnyM.gv hC (by simp[execOp,go_sem,dw 3 (by kernel_rfl),k2,k3,k4,k5]) rfl
  .have e1:ev (.tmp 9)= .agg #[.int .i64 a,.int .i64 b,.int .i64 a',.int .i64 b']:=aM 5 9 (by omega) rfl (by decide)
   have hn7:Ls 7=false:=by
    cases h:Ls 7 with
    |false=>rfl
    |true=>
     have KV:Ls 6=true:=hdc 7 _ rfl h ⟨6,.data⟩ (by simp) rfl;rw[dQ] at KV;cases KV
   have xl:V=W1:=by
    simp only[AnyM.fF] at hC;simp only[hn7,dQ,hst,adq,if_false] at hC;exact hC
   rw[xl];refine aq.cI (v:= .slice (some ⟨W1.heap.size,0,none⟩) 1 1) (w':=W2) (by simp[execOp,go_sem,e1,qh.out]) ⟨rfl,?_⟩;simp[AnyM.fF,aq.bM,hn7,hst]
  .have e1:ev (.tmp 8)= .slice ao st.stk.length cap:=aM 4 8 (by omega) rfl (by decide)
   have e2:ev (.tmp 10)= .slice (some ⟨W1.heap.size,0,none⟩) 1 1:=aM 6 10 (by omega) rfl (by decide);have hp:Ls 6=true:=dY ⟨6,.data⟩ (by simp) rfl;have xl:V=W2:=by
    simp only[AnyM.fF] at hC;simp only[dQ,hp,hst,adq,if_false,if_true] at hC;exact hC
   rw[xl];refine aq.cI (v:=(.slice su (((a,b),a',b')::st.stk).reverse.length cap')) (w':=W3) (hrun _ ev _ _ rfl rfl e1 e2) ⟨rfl,?_⟩;simp[AnyM.fF,aq.bM,hst]
  .exact AnyM.gv hC (by simp[execOp,go_sem,aM 0 4 (by omega) rfl (by decide)]) rfl
  .exact AnyM.gv hC (by simp[execOp,go_sem,aM 8 12 (by omega) rfl (by decide)]) rfl
  .have e1:ev (.tmp 13)= .pointer (some ⟨t,3,none⟩):=aM 9 13 (by omega) rfl (by decide)
   have e2:ev (.tmp 11)=(.slice su (((a,b),a',b')::st.stk).reverse.length cap'):=aM 7 11 (by omega) rfl (by decide);have hp:Ls 7=true:=dY ⟨7,.data⟩ (by simp) rfl;have xl:V=W3:=by
    simp only[AnyM.fF] at hC;simp only[dQ,hp,adq,if_false,if_true] at hC;exact hC
   rw[xl];rw[xl] at k1;refine aq.gP (w':=(W3.setCell ⟨t,3,none⟩ (.slice su (((a,b),a',b')::st.stk).reverse.length cap'))) (by simp[execOp,go_sem,e1,e2,k1,HF.out]) ⟨rfl,?_⟩;simp[AnyM.fF,aq.bM]
 .intro Ls V hall hC
  unfold AnyM.fF at hC;rw[if_pos (hall 10 (by decide))] at hC;subst hC;refine bodyPost_end (results_none rfl _ _ _) (aq.mz _) ?_;exact⟨rfl,bX.out⟩
theorem Kj (w:World):Calls prog 95 #[] w fun e w'=>e= .returned (fj aP)/\w'=w.alloc (.cells #[.int .i64 (-1),.int .i64 (-1)] 127):=by
 go_enter func95,ntmps95;go_wp2;obtain⟨r0,r1,-⟩:=aj (heap_alloc_new w (Obj.cells #[Value.int IntKind.i64 (-1),Value.int IntKind.i64 (-1)] 127));refine bodyPost_ret (v:=fj aP) (by simp[results,results95,go_sem,r0,r1]) rfl ?_;exact⟨rfl,rfl⟩
theorem Ur (w:World):∃V,V.heap.size=w.heap.size+3/\Below w.heap.size w V/\Calls prog 90 #[] w fun e w'=>e= .returned (gK dN)/\w'=V:=by
 obtain⟨W,hW⟩:∃W,W=w.alloc (.cells #[.int .i64 0,.int .i64 0,.int .i64 0,.int .i64 0] 129):=⟨_,rfl⟩;obtain⟨W1,hW1⟩:∃W1,W1=W.alloc (.cells #[.int .i64 (-1),.int .i64 (-1)] 127):=⟨_,rfl⟩;obtain⟨W2,hW2⟩:∃W2,W2=W1.alloc (.cells #[.int .i64 (-1),.int .i64 (-1)] 127):=⟨_,rfl⟩;have hbl:W.heap[w.heap.size]? =some (.cells #[.int .i64 0,.int .i64 0,.int .i64 0,.int .i64 0] 129 (0,0)):=by rw[hW];exact heap_alloc_new w _
 have hb:Below w.heap.size w W:=by rw[hW];exact(aae _ _).alloc (aad _) _
 have hb1:Below W.heap.size W W1:=by rw[hW1];exact(aae _ _).alloc (aad _) _
 have hb2:Below W1.heap.size W1 W2:=by rw[hW2];exact(aae _ _).alloc (aad _) _
 have hlt:=lt_of_block hbl;have VJ:W2.heap[w.heap.size]? =some (.cells #[.int .i64 0,.int .i64 0,.int .i64 0,.int .i64 0] 129 (0,0)):=by
  rw[hb2.block _ (by have:=hb1.size;omega),hb1.block _ hlt];exact hbl
 refine⟨jY W2 w.heap.size (.int .i64 (-1)) (.int .i64 (-1)) (.int .i64 (-1)) (.int .i64 (-1)),?_,?_,?_⟩
 .have e1:W2.heap.size=w.heap.size+3:=by rw[hW2,hW1,hW];simp
  simpa[jY] using e1
 .exact fO (hb.trans ((hb1.mono hb.size).trans (hb2.mono (by have:=hb.size;have:=hb1.size;omega)))) (aad _) _ _ _ _
 .obtain⟨q0,q1,q2,q3,qf⟩:=ah VJ
  obtain⟨r0,r1,r2,r3,-⟩:=ah (jy VJ (.int .i64 (-1)) (.int .i64 (-1)) (.int .i64 (-1)) (.int .i64 (-1)));have HI:=ζ (Kj W);have qZ:=ζ (Kj W1);rw[<-hW1] at HI;rw[<-hW2] at qZ;have HW:=ζ hW;clear hbl hb hb1 hb2 hlt VJ hW hW1 hW2;go_enter func90,ntmps90;go_wp2_with fail;rw[<-HW.out];go_wp2_with (go_at_call 95;first|(refine HI.out.mono ?_;rintro e w1 ⟨rfl,rfl⟩)|(refine qZ.out.mono ?_;rintro e w1 ⟨rfl,rfl⟩));refine bodyPost_ret (v:=gK dN) (by simp[results,results90,go_sem,r0,r1,r2,r3]) rfl ?_;exact⟨rfl,rfl⟩
theorem AA (h:aS c p t W0 O st L U Z vp vw W) (x:Int) (hlen:st.way.length<=8388607):Calls prog 72 #[.pointer (some ⟨t,0,none⟩),.int .i64 x] W fun e w'=>e= .returned (.tuple #[])/\aW c p t W0 O W (enter st x) w':=by
 have hB0:=h.aZ.size;obtain⟨W1,hW1⟩:∃W1,W1=W.drew:=⟨_,rfl⟩;have hb:Below W.heap.size W W1:=by rw[hW1];exact(aae _ _).drew
 have hsz:W1.heap.size=W.heap.size:=by rw[hW1];rfl
 obtain⟨yT,A0,hb1,hnp⟩:=Ur W1;obtain⟨W2,hW2⟩:∃W2,W2=yT.alloc (.cells #[.int .i64 x,.int .i64 0,.int .i64 (-1),.int .i64 (-1),.int .i64 (-1),.int .i64 (-1)] 131):=⟨_,rfl⟩;have hb2:Below yT.heap.size yT W2:=by rw[hW2];exact(aae _ _).alloc (aad _) _
 have hg2:W2.heap[yT.heap.size]? =some (.cells #[.int .i64 x,.int .i64 0,.int .i64 (-1),.int .i64 (-1),.int .i64 (-1),.int .i64 (-1)] 131 (0,0)):=by rw[hW2];exact heap_alloc_new yT _
 have h1:=h.later hb;have h1':=h1.later hb1;have h2:=h1'.later hb2;obtain⟨ao,cap,N1,-⟩:=h.way.form;rw[acD] at N1;obtain⟨v',W3,hrun,r1,r2,r3⟩:=Nb W0.heap.size vw st.way.reverse (x,0,dN) h2.way (by have:=h2.aZ.size;omega) yT.heap.size hg2 (by rw[acD];omega);have Gj:W2.heap.size=W.heap.size+4:=by rw[hW2];simp[A0,hsz]
 have hat:v'.ownBlock=vw.ownBlock\/∃b,v'.ownBlock=some b/\W.heap.size<=b:=by
  rcases r3 with e|e
  .exact .inl e
  .exact .inr ⟨_,e,by omega⟩
 have hk3:∀b,b<W.heap.size->vw.ownBlock≠some b->W3.heap[b]? =W.heap[b]? :=fun k hk hn=>by
  rw[r2.block k (by omega) (fun e=>hn e.symm),hb2.block k (by omega),hb1.block k (by omega),hb.block k hk]
 have hb3:Below W0.heap.size W0 W3:=h2.aZ.grown r2 (by have:=h2.aZ.size;omega) fun b hb=>(h2.way.lt hb).1
 have hown:dZ 131 6 xq W3 W0.heap.size v' ((x,0,dN)::st.way).reverse:=by rw[ac4];exact r1
 obtain⟨y1,y2,y4⟩:=h.aar hb3 hk3 (by have:=r2.size;omega) hown hat;have bX:Hid (aW c p t W0 O W (enter st x) (W3.setCell ⟨t,4,none⟩ v')):=by
  refine⟨⟨?_,?_,?_,?_,fun k hk hn=> ?_⟩,L,U,Z,vp,v',y4⟩
  .exact r2.os.trans (hb2.os.trans (hb1.os.trans hb.os))
  .exact r2.tape.trans (hb2.tape.trans (hb1.tape.trans hb.tape))
  .exact r2.output.trans (hb2.output.trans (hb1.output.trans hb.output))
  .have:=r2.size
   simp;omega
  .rw[heap_setCell_other W3 ⟨t,4,none⟩ k _ (fun e=>hn (by rw[show k=t from e];exact h.oT))]
   exact hk3 k hk fun e=>hn (h.oW k e)
 obtain⟨su,cap',hv',-⟩:=hown.form;have wZ:∀V,V=W1\/V=yT\/V=W2\/V=W3->V.cell? ⟨t,4,none⟩=some (.slice ao st.way.length cap):=fun V hV=>by
  rw[<-N1];rcases hV with rfl|rfl|rfl|rfl
  .exact h1.cells.2.2.2.2.1
  .exact h1'.cells.2.2.2.2.1
  .exact h2.cells.2.2.2.2.1
  .exact y1
 have HV:Hid (∀V,V=W1\/V=yT\/V=W2\/V=W3->V.cell? ⟨t,4,none⟩=some (.slice ao st.way.length cap)/\True):=fun V hV=>⟨wZ V hV,trivial⟩
 have pE:=ζ hW1;have HF:Hid (W3.frozen? ⟨t,4,none⟩=false):=y2;have qh:=ζ hW2;have Ao:=ζ hnp;subst N1;subst hv';clear h hlen hb hsz hb2 hg2 h1 h2 r1 r2 r3 Gj hat hk3 hb3 hown y1 y2 y4 wZ hW1 hW2 hB0 h1' hnp A0 hb1;go_enter func72,ntmps72;go_wp2_with fail;refine wp_region_any (by kernel_rfl) ?_;change wpAny _ _ _ _ _ _ _ (W.drew);rw[<-pE.out];refine aq.QV (fun j=>match j with|0=> .pointer (some ⟨t,0,none⟩)|1=> .pointer (some ⟨t,0,none⟩)|2=> .pointer (some ⟨t,0,none⟩)|3=> .pointer (some ⟨t,4,none⟩)|4=> .slice ao st.way.length cap|5=> .int .i64 x|6=> .agg #[.int .i64 (-1),.int .i64 (-1),.int .i64 (-1),.int .i64 (-1)]|7=> .agg #[.int .i64 x,.int .i64 0,.int .i64 (-1),.int .i64 (-1),.int .i64 (-1),.int .i64 (-1)]|8=>(.slice (some ⟨yT.heap.size,0,none⟩) 1 1)|9=>(.slice su ((x,0,dN)::st.way).reverse.length cap')|10=> .pointer (some ⟨t,0,none⟩)|11=> .pointer (some ⟨t,4,none⟩)|_=>undef) (AnyM.fF W1 [(12,(W3.setCell ⟨t,4,none⟩ (.slice su ((x,0,dN)::st.way).reverse.length cap'))),(9,W3),(8,W2),(6,yT)]) 16 rfl (by kernel_rfl) rfl ?_ ?_
 .intro j o' Ls V ev ho dQ hC dY hdc aM dw IM cQ
  have hc:j=0\/j=1\/j=2\/j=3\/j=4\/j=5\/j=6\/j=7\/j=8\/j=9\/j=10\/j=11\/j=12:=by
   have:j<13:=(abR.1 ho).1;omega
  have hst:Ls 12=false:=aq.yu (by kernel_rfl) hdc dQ (by omega);have VG:V=W1\/V=yT\/V=W2\/V=W3:=by
   cases h6:Ls 6<;>cases h8:Ls 8<;>cases h9:Ls 9<;>simp[AnyM.fF,hst,h6,h8,h9] at hC<;>simp[hC]
  obtain⟨k1,-⟩:=HV.out V VG;rcases hc with rfl|rfl|rfl|rfl|rfl|rfl|rfl|rfl|rfl|rfl|rfl|rfl|rfl<;>obtain rfl:=aal ho
  .exact AnyM.gv hC (by simp[execOp,go_sem,dw 0 (by kernel_rfl)]) rfl
  .exact AnyM.gv hC (by simp[execOp,go_sem,dw 0 (by kernel_rfl)]) rfl
  .exact AnyM.gv hC (by simp[execOp,go_sem,aM 1 5 (by omega) rfl (by decide)]) rfl
  .exact AnyM.gv hC (by simp[execOp,go_sem,aM 2 6 (by omega) rfl (by decide)]) rfl
  .exact AnyM.gv hC (by simp[execOp,go_sem,aM 3 7 (by omega) rfl (by decide),k1]) rfl
  .exact AnyM.gv hC (by simp[execOp,go_sem,dw 1 (by kernel_rfl)]) rfl
  .have hn8:Ls 8=false:=by
    cases h:Ls 8 with
    |false=>rfl
    |true=>
     have KV:Ls 6=true:=hdc 7 _ rfl (hdc 8 _ rfl h ⟨7,.data⟩ (by simp) rfl) ⟨6,.data⟩ (by simp) rfl;rw[dQ] at KV;cases KV
   have Vk:Ls 9=false:=by
    cases h:Ls 9 with
    |false=>rfl
    |true=>
     have U9:Ls 8=true:=hdc 9 _ rfl h ⟨8,.data⟩ (by simp) rfl;rw[hn8] at U9;cases U9
   have xl:V=W1:=by
    simp only[AnyM.fF] at hC;simp only[hn8,Vk,dQ,hst,adq,if_false] at hC;exact hC
   rw[xl];refine AnyM.I0 (by simp[execOp,go_sem,cQ]) Ao.out ⟨rfl,?_⟩;simp[AnyM.fF,aq.bM,hn8,Vk,hst]
  .exact AnyM.gv hC (by simp[execOp,go_sem,aM 5 9 (by omega) rfl (by decide),aM 6 10 (by omega) rfl (by decide)]) rfl
  .have e1:ev (.tmp 11)= .agg #[.int .i64 x,.int .i64 0,.int .i64 (-1),.int .i64 (-1),.int .i64 (-1),.int .i64 (-1)]:=aM 7 11 (by omega) rfl (by decide)
   have hp:Ls 6=true:=hdc 7 _ rfl (dY ⟨7,.data⟩ (by simp) rfl) ⟨6,.data⟩ (by simp) rfl;have Vk:Ls 9=false:=by
    cases h:Ls 9 with
    |false=>rfl
    |true=>
     have U9:Ls 8=true:=hdc 9 _ rfl h ⟨8,.data⟩ (by simp) rfl;rw[dQ] at U9;cases U9
   have xl:V=yT:=by
    simp only[AnyM.fF] at hC;simp only[Vk,dQ,hp,hst,adq,if_false,if_true] at hC;exact hC
   rw[xl];refine aq.cI (v:=(.slice (some ⟨yT.heap.size,0,none⟩) 1 1)) (w':=W2) (by simp[execOp,go_sem,e1,qh.out]) ⟨rfl,?_⟩;simp[AnyM.fF,aq.bM,Vk,hst]
  .have e1:ev (.tmp 8)= .slice ao st.way.length cap:=aM 4 8 (by omega) rfl (by decide)
   have e2:ev (.tmp 12)=(.slice (some ⟨yT.heap.size,0,none⟩) 1 1):=aM 8 12 (by omega) rfl (by decide);have hp:Ls 8=true:=dY ⟨8,.data⟩ (by simp) rfl;have xl:V=W2:=by
    simp only[AnyM.fF] at hC;simp only[dQ,hp,hst,adq,if_false,if_true] at hC;exact hC
   rw[xl];refine aq.cI (v:=(.slice su ((x,0,dN)::st.way).reverse.length cap')) (w':=W3) (hrun _ ev _ _ rfl rfl e1 e2) ⟨rfl,?_⟩;simp[AnyM.fF,aq.bM,hst]
  .exact AnyM.gv hC (by simp[execOp,go_sem,aM 0 4 (by omega) rfl (by decide)]) rfl
  .exact AnyM.gv hC (by simp[execOp,go_sem,aM 10 14 (by omega) rfl (by decide)]) rfl
  .have e1:ev (.tmp 15)= .pointer (some ⟨t,4,none⟩):=aM 11 15 (by omega) rfl (by decide)
   have e2:ev (.tmp 13)=(.slice su ((x,0,dN)::st.way).reverse.length cap'):=aM 9 13 (by omega) rfl (by decide);have hp:Ls 9=true:=dY ⟨9,.data⟩ (by simp) rfl;have xl:V=W3:=by
    simp only[AnyM.fF] at hC;simp only[dQ,hp,adq,if_false,if_true] at hC;exact hC
   rw[xl];rw[xl] at k1;refine aq.gP (w':=(W3.setCell ⟨t,4,none⟩ (.slice su ((x,0,dN)::st.way).reverse.length cap'))) (by simp[execOp,go_sem,e1,e2,k1,HF.out]) ⟨rfl,?_⟩;simp[AnyM.fF,aq.bM]
 .intro Ls V hall hC
  unfold AnyM.fF at hC;rw[if_pos (hall 12 (by decide))] at hC;subst hC;refine bodyPost_end (results_none rfl _ _ _) (aq.mz _) ?_;exact⟨rfl,bX.out⟩
end
end
section
open Go.RowKit Lt
def aJ (c:Wp) (p t:Nat) (W0:World) (O:Nat->Prop) (W:World) (B:Nat->Prop) (st:TS) (wr:World):Prop:=
 (W0.heap.size<=W.heap.size/\(∀b,O b->W0.heap.size<=b/\b<W.heap.size)/\∀b,B b->W.heap.size<=b)/\az O W wr/\∃O',(∀b,O' b->O b\/W.heap.size<=b)/\(∀b,B b->¬O' b)/\Ts c p t W0 O' st wr
section
variable {c:Wp} {p t:Nat} {W0 W wr w':World} {O B B':Nat->Prop} {st st':TS} {L U Z:Nat} {vp vw:Value}
theorem aJ.start (h:aS c p t W0 O st L U Z vp vw W):aJ c p t W0 O W (fun _=>False) st W:=
 ⟨⟨h.aZ.size,fun b hb=>⟨h.oB b hb,h.oX b hb⟩,fun _ hb=>hb.elim⟩,az.refl _ _,O,fun _ hb=> .inl hb,fun _ hb=>hb.elim,L,U,Z,vp,vw,h⟩
theorem aJ.post (h:aJ c p t W0 O W B st wr):aW c p t W0 O W st wr:=by
 obtain⟨⟨h0,qM,-⟩,h1,O',h2,-,L,U,Z,vp,vw,h3⟩:=h;exact⟨h1,L,U,Z,vp,vw,h3.more (fun b hb=>⟨h2 b hb,h3.oX b hb⟩) (fun b hb=>hb.1.elim (fun q=>(qM b q).1) fun q=>by omega) (fun b hb=>hb.2)⟩
theorem aJ.less (h:aJ c p t W0 O W B st wr) (hB:∀b,B' b->B b):aJ c p t W0 O W B' st wr:=by
 obtain⟨⟨h0,qM,IZ⟩,h1,O',h2,h3,h4⟩:=h;exact⟨⟨h0,qM,fun b hb=>IZ b (hB b hb)⟩,h1,O',h2,fun b hb=>h3 b (hB b hb),h4⟩
theorem aJ.later (h:aJ c p t W0 O W B st wr) (hb:Below wr.heap.size wr w'):aJ c p t W0 O W B st w':=by
 obtain⟨h0,h1,O',h2,h3,L,U,Z,vp,vw,h4⟩:=h;exact⟨h0,h1.later hb,O',h2,h3,L,U,Z,vp,vw,h4.later hb⟩
theorem aJ.box (h:aJ c p t W0 O W B st wr) (o:Obj):aJ c p t W0 O W (fun b=>B b\/b=wr.heap.size) st (wr.alloc o):=by
 have h':=h.later ((aae _ _).alloc (aad _) o);obtain⟨⟨h0,qM,IZ⟩,h1,O',h2,h3,L,U,Z,vp,vw,h4⟩:=h';obtain⟨-,k1,O1,k2,k3,L1,U1,Z1,vp1,vw1,k4⟩:=h;have k5:=k4.later ((aae _ _).alloc (aad _) o);refine⟨⟨h0,qM,fun b hb=> ?_⟩,h1,O1,k2,fun b hb=> ?_,L1,U1,Z1,vp1,vw1,k5⟩
 .rcases hb with hb|hb
  .exact IZ b hb
  .have:=k1.size
   omega
 .rcases hb with hb|hb
  .exact k3 b hb
  .intro q
   have:=k4.oX b q;omega
theorem aJ.YL (h:aJ c p t W0 O W B st wr) (hb:Below wr.heap.size wr w') {b0:Nat} (h0:wr.heap.size<=b0):aJ c p t W0 O W (fun b=>B b\/b=b0) st w':=by
 have h':=h.later hb;obtain⟨⟨k0,k00,k01⟩,k1,O1,k2,k3,L1,U1,Z1,vp1,vw1,k4⟩:=h;have k5:=k4.later hb;obtain⟨-,h1,-⟩:=h';refine⟨⟨k0,k00,fun b hb=> ?_⟩,h1,O1,k2,fun b hb=> ?_,L1,U1,Z1,vp1,vw1,k5⟩
 .rcases hb with hb|hb
  .exact k01 b hb
  .have:=k1.size
   omega
 .rcases hb with hb|hb
  .exact k3 b hb
  .intro q
   have:=k4.oX b q;omega
theorem aJ.set (h:aJ c p t W0 O W B st wr) {b i:Nat} (hb:B b) (x:Value):aJ c p t W0 O W B st (wr.setCell ⟨b,i,none⟩ x):=by
 obtain⟨⟨h0,qM,IZ⟩,h1,O',h2,h3,L,U,Z,vp,vw,h4⟩:=h;exact⟨⟨h0,qM,IZ⟩,gQ h1 (IZ b hb) x,O',h2,h3,L,U,Z,vp,vw,h4.far (h3 b hb) (by have:=IZ b hb;omega) x⟩
theorem aJ.drew (h:aJ c p t W0 O W B st wr):aJ c p t W0 O W B st wr.drew:=h.later ((aae _ _).drew)
theorem aJ.drewN (h:aJ c p t W0 O W B st wr) (k:Nat):aJ c p t W0 O W B st (wr.drewN k):=h.later (below_drewN (aae _ _) k)
theorem aJ.calls {f:FuncId} {args:Array Value} {R:Ending->Prop} (h:aJ c p t W0 O W B st wr) (hB:∀b,B b->b<wr.heap.size)
 (hc:∀{O':Nat->Prop} {L U Z:Nat} {vp vw:Value},aS c p t W0 O' st L U Z vp vw wr->Calls Tryz.prog f args wr fun e w'=>R e/\aW c p t W0 O' wr st' w'):
 Calls Tryz.prog f args wr fun e w'=>R e/\aJ c p t W0 O W B st' w'/\∀b,B b->w'.heap[b]? =wr.heap[b]? :=by
 obtain⟨⟨h0,qM,IZ⟩,h1,O',h2,h3,L,U,Z,vp,vw,h4⟩:=h;refine(hc h4).mono fun e w' ⟨he,hw,L',U',Z',sZ,vO,h5⟩=>⟨he,⟨⟨h0,qM,IZ⟩,?_,_,fun b hb=> ?_,fun b hb q=> ?_,L',U',Z',sZ,vO,h5⟩,fun b hb=>hw.block b (hB b hb) (h3 b hb)⟩
 .refine⟨hw.os.trans h1.os,hw.tape.trans h1.tape,hw.output.trans h1.output,acA h1.size hw.size,fun k hk hn=> ?_⟩
  have hs:=h1.size;exact(hw.block k (by omega) (fun q=>(h2 k q).elim hn fun q=>by omega)).trans (h1.block k hk hn)
 .have hs:=h1.size
  rcases hb.1 with q|q
  .exact h2 b q
  .exact .inr (by omega)
 .rcases q.1 with q|q
  .exact h3 b hb q
  .have:=hB b hb
   omega
theorem aJ.reads {f:FuncId} {args:Array Value} {R:Ending->Prop} (h:aJ c p t W0 O W B st wr) (hB:∀b,B b->b<wr.heap.size)
 (hc:∀{O':Nat->Prop} {L U Z:Nat} {vp vw:Value},aS c p t W0 O' st L U Z vp vw wr->Calls Tryz.prog f args wr fun e w'=>R e/\Below wr.heap.size wr w'):
 Calls Tryz.prog f args wr fun e w'=>R e/\aJ c p t W0 O W B st w'/\(∀b,B b->w'.heap[b]? =wr.heap[b]?)/\Below wr.heap.size wr w':=by
 have h':=h;obtain⟨-,h1,O',h2,h3,L,U,Z,vp,vw,h4⟩:=h';exact(hc h4).mono fun e w' ⟨he,hw⟩=>⟨he,h.later hw,fun b hb=>hw.block b (hB b hb),hw⟩
theorem aJ.YM (h:aJ c p t W0 O W B st wr) {k:Nat} (hk:k<st.like.length):∃g,wr.cell? ⟨t,1,none⟩=some (.slice (some ⟨g,0,none⟩) c.es.length c.es.length)/\wr.cell? ⟨g,k,none⟩=some (.int .i64 (st.like[k]?.getD 0))/\wr.frozen? ⟨g,k,none⟩=false/\(∀b,B b->g≠b)/\k<c.es.length/\g≠t/\∀z,aJ c p t W0 O W B { st with like:=st.like.set k z } (wr.setCell ⟨g,k,none⟩ (.int .i64 z)):=by
 obtain⟨h0,h1,O',h2,h3,L,U,Z,vp,vw,h4⟩:=h;refine⟨L,h4.cells.2.1,p5 h4.like hk,h4.like.free k,fun b hb e=>h3 b hb (by rw[<-e];exact h4.oL),by rw[<-h4.ll];exact hk,?_,fun z=>⟨h0,?_,O',h2,h3,L,U,Z,vp,vw,h4.CX k z⟩⟩
 .have:=h4.n1
  omega
 .rcases h2 L h4.oL with q|q
  .exact h1.setCell q _
  .exact gQ h1 q _
theorem aJ.Yp (h:aJ c p t W0 O W B st wr) {k:Nat} (hk:k<st.turn.length):∃g,wr.cell? ⟨t,2,none⟩=some (.slice (some ⟨g,0,none⟩) c.es.length c.es.length)/\wr.cell? ⟨g,k,none⟩=some (.int .i64 (st.turn[k]?.getD 0))/\wr.frozen? ⟨g,k,none⟩=false/\(∀b,B b->g≠b)/\k<c.es.length/\g≠t/\∀z,aJ c p t W0 O W B { st with turn:=st.turn.set k z } (wr.setCell ⟨g,k,none⟩ (.int .i64 z)):=by
 obtain⟨h0,h1,O',h2,h3,L,U,Z,vp,vw,h4⟩:=h;refine⟨U,h4.cells.2.2.1,p5 h4.turn hk,h4.turn.free k,fun b hb e=>h3 b hb (by rw[<-e];exact h4.oU),by rw[<-h4.lu];exact hk,?_,fun z=>⟨h0,?_,O',h2,h3,L,U,Z,vp,vw,h4.JZ k z⟩⟩
 .have:=h4.n1
  omega
 .rcases h2 U h4.oU with q|q
  .exact h1.setCell q _
  .exact gQ h1 q _
theorem aJ.acn (h:aJ c p t W0 O W B st wr) {k:Nat} (hk:k<st.lowest.length):∃g,wr.cell? ⟨t,5,none⟩=some (.slice (some ⟨g,0,none⟩) c.es.length c.es.length)/\wr.cell? ⟨g,k,none⟩=some (.int .i64 (st.lowest[k]?.getD 0))/\wr.frozen? ⟨g,k,none⟩=false/\(∀b,B b->g≠b)/\k<c.es.length/\g≠t/\∀z,aJ c p t W0 O W B { st with lowest:=st.lowest.set k z } (wr.setCell ⟨g,k,none⟩ (.int .i64 z)):=by
 obtain⟨h0,h1,O',h2,h3,L,U,Z,vp,vw,h4⟩:=h;refine⟨Z,h4.cells.2.2.2.2.2.1,p5 h4.lowest hk,h4.lowest.free k,fun b hb e=>h3 b hb (by rw[<-e];exact h4.oZ),by rw[<-h4.lz];exact hk,?_,fun z=>⟨h0,?_,O',h2,h3,L,U,Z,vp,vw,h4.wO k z⟩⟩
 .have:=h4.n1
  omega
 .rcases h2 Z h4.oZ with q|q
  .exact h1.setCell q _
  .exact gQ h1 q _
def fY (t:Nat) (w:World):Nat:=match w.cell? ⟨t,3,none⟩ with|some (.slice _ n _)=>n|_=>0
theorem aJ.fY (h:aJ c p t W0 O W B st wr):fY t wr=st.stk.length:=by
 obtain⟨-,-,O',-,-,L,U,Z,vp,vw,h4⟩:=h;obtain⟨ao,cap,e,-⟩:=h4.iX.form;have:=h4.cells.2.2.2.1;rw[e] at this;unfold Go.Proofs.YtbhdibflpjhpaaaGreat.fY;rw[this];simp
end
end
end Go.Proofs.YtbhdibflpjhpaaaGreat
