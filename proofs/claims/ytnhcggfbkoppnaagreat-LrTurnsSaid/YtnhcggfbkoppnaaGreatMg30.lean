import Derived.Test.YtnhcggfbkoppnaaGreatMg29
import Derived.Test.YtnhcggfbkoppnaaGreatMg25
namespace Go.Proofs.YtnhcggfbkoppnaaGreat
section
open Go.RowKit Lt
def JL (oa ob:Int):Nat→aj.ny
 |0=>⟨[],fun v _ _ _ _=>v=dG aP⟩
 |1=>⟨[],fun v _ _ _ _=>v= .agg #[.int .i64 oa,.int .i64 ob]⟩
 |2=>⟨[0,1],fun v _ _ _ _=>v= .agg #[.int .i64 (-1),.int .i64 (-1),.int .i64 oa,.int .i64 ob]⟩
 |_=>⟨[],fun v _ lo hi w=>v= .pointer (some ⟨lo,0,none⟩)∧lo<hi∧w.heap[lo]? =some (bY ((0,0),0,0))⟩
section
variable {c:Wp} {p t:Nat} {W0 W:World} {O:Nat→Prop} {st:TS} {L U Z:Nat} {vp vw:Value}
def Sh (c:Wp) (p t:Nat) (W0:World) (O:Nat→Prop) (W:World) (st:TS) (r:Option (List Pr×List Int×Pr)) (e:Ending) (w':World):Prop:=
 match r with
 |none=>∃q st',e= .returned (.tuple #[fL q,.bool false])∧aT c p t W0 O W st' w'
 |some (ps,aH,q)=>e= .returned (.tuple #[fL q,.bool true])∧aT c p t W0 O W { st with stk:=ps,like:=aH } w'
set_option maxRecDepth 100000 in
set_option maxHeartbeats 16000000 in
theorem Dg (h:aQ c p t W0 O st L U Z vp vw W) {e:Nat} (oi:Iv) {r:Option (List Pr×List Int×Pr)} (hlen:st.stk.length≤8388607)
 (ho:others c.lw e st.stk st.like (aP,oi)=some r):Calls Tryz.prog 162 #[.pointer (some ⟨t,0,none⟩),.int .i64 (e:Int),dG oi] W (Sh c p t W0 O W st r):=by
 obtain⟨oa,ob⟩:=oi
 obtain⟨W1,hW1⟩:∃W1,W1=(W.alloc (.cells #[.int .i64 oa,.int .i64 ob] 166)).alloc (.cells #[.int .i64 0,.int .i64 0,.int .i64 0,.int .i64 0] 168):=⟨_,rfl⟩
 have mI:aD c p t W0 O W (fun b=>b=W.heap.size∨b=W.heap.size+1) st W1:=by
  rw[hW1]
  refine(((aD.start h).box _).box _).less fun b hb=> ?_
  rcases hb with q|q
  ·exact .inl (.inr q)
  ·exact .inr (by rw[q];simp)
 have hb5:W1.heap[W.heap.size]? =some (kK (oa,ob)):=by
  rw[hW1,Below.heap_alloc _ _ _ (by simp)]
  exact heap_alloc_new W _
 have cg:W1.heap[W.heap.size+1]? =some (bY ((0,0),0,0)):=by
  rw[hW1]
  have:=heap_alloc_new (W.alloc (.cells #[.int .i64 oa,.int .i64 ob] 166)) (bY ((0,0),0,0))
  rw[World.size_alloc] at this
  exact this
 have nD:=Nu.hid mI
 have gj:=Nu.hid hb5
 have jQ:=Nu.hid cg
 have HW:=Nu.hid hW1
 have HHO:=Nu.hid ho
 have HLEN:=Nu.hid hlen
 obtain⟨x0,x1,-⟩:=az hb5
 clear h mI hb5 cg hW1 ho hlen
 go_enter Tryz.func162,Tryz.ntmps162
 go_wp2
 go_step3
 go_wp2_with fail
 rw[←HW.out]
 refine wp_region_any (by kernel_rfl) ?_
 have dU:Below W1.heap.size W1 { W1 with drawn:=W1.drawn+1 }:=(Below.refl _ _).drew
 refine aj.aeJ (JL oa ob) 4 61 (by decide) rfl (by kernel_rfl) ?_ ?_ ?_
 ·intro i hi v vs lo hi' V V' h1 h2 h3
  have hc:i=0∨i=1∨i=2∨i=3:=by omega
  rcases hc with rfl|rfl|rfl|rfl
  ·exact h3
  ·exact h3
  ·exact h3
  ·exact⟨h3.1,h3.2.1,(h2.block lo (Nat.lt_of_lt_of_le h3.2.1 h1)).trans h3.2.2⟩
 ·intro i o ρ V ev hi ho hb hd aA aR _ iQ
  have hb':Below W1.heap.size W1 V:=dU.trans hb
  obtain⟨y0,y1,-⟩:=az ((hb'.block _ (lt_of_block gj.out)).trans gj.out)
  have hc:i=0∨i=1∨i=2∨i=3:=by omega
  rcases hc with rfl|rfl|rfl|rfl<;>obtain rfl:=Option.some.inj ho
  ·exact AnyM.g9 (v:=dG aP) (by simp[execOp,go_sem,iQ]) (mg V) (fun w2 hw2=>⟨hw2,rfl⟩)
  ·have e1:ev (.tmp 5)= .pointer (some ⟨W.heap.size,0,none⟩):=aR 5 (by kernel_rfl)
   exact aj.ah (v:= .agg #[.int .i64 oa,.int .i64 ob]) (w':=V) (by simp[execOp,go_sem,e1,y0,y1]) ⟨Below.refl _ _,rfl⟩
  ·obtain⟨_,_,_,_,_,r4⟩:=hd 0 (by simp[JL])
   obtain⟨_,_,_,_,_,r5⟩:=hd 1 (by simp[JL])
   have e0:ev (.tmp 12)= .agg #[.int .i64 (-1),.int .i64 (-1)]:=(aA 0 12 (by omega) rfl (by decide)).trans r4
   have e1:ev (.tmp 13)= .agg #[.int .i64 oa,.int .i64 ob]:=(aA 1 13 (by omega) rfl (by decide)).trans r5
   exact aj.ah (v:= .agg #[.int .i64 (-1),.int .i64 (-1),.int .i64 oa,.int .i64 ob]) (w':=V) (by simp[execOp,go_sem,e0,e1]) ⟨Below.refl _ _,rfl⟩
  ·refine aj.ah (v:= .pointer (some ⟨V.heap.size,0,none⟩)) (w':=V.alloc (bY ((0,0),0,0))) ?_ ⟨(Below.refl _ _).alloc (Nat.le_refl _) _,rfl,by simp,heap_alloc_new _ _⟩
   simp[execOp,go_sem]
 ·intro ρ lo hi V a ha A7 aA aR hb hd DJ
  have hfr2:a={ tmps:= #[.pointer (some ⟨t,0,none⟩),.int .i64 (e:Int),dG (oa,ob),undef,undef,.pointer (some ⟨W.heap.size,0,none⟩),.pointer (some ⟨W.heap.size+1,0,none⟩),.bool false,ρ 3,undef,undef,undef,ρ 0,ρ 1,ρ 2,undef,undef,undef,undef,undef,undef,undef,undef,undef,undef,undef,undef,undef,undef,undef,undef,undef,undef,undef,undef,undef,undef,undef,undef,undef,undef,undef,undef,undef,undef,undef,undef,undef,undef,undef,undef,undef,undef,undef,undef,undef,undef,undef,undef,undef,undef],defers:=[] }:=by rw[ha];kernel_rfl
  obtain⟨q1,q2,q3,r1,r2,r3⟩:=hd 3 (by omega)
  have p0:ρ 0=dG aP:=(hd 0 (by omega)).2.2.2
  have p1:ρ 1= .agg #[.int .i64 oa,.int .i64 ob]:=(hd 1 (by omega)).2.2.2
  have p2:ρ 2= .agg #[.int .i64 (-1),.int .i64 (-1),.int .i64 oa,.int .i64 ob]:=(hd 2 (by omega)).2.2.2
  obtain⟨b8,dH⟩:∃b8,lo 3=b8:=⟨_,rfl⟩
  rw[dH] at r1 r3
  have hb2:Below W1.heap.size W1 V:=dU.trans hb
  have JH:W1.heap.size≤b8:=by rw[←dH];exact q1
  rw[p0,p1,p2,r1] at hfr2
  have QG:=lt_of_block jQ.out
  have hl5:=lt_of_block gj.out
  obtain⟨W2,hW2⟩:∃W2,W2=(((V.setCell ⟨b8,0,none⟩ (.int .i64 (-1))).setCell ⟨b8,1,none⟩ (.int .i64 (-1))).setCell ⟨b8,2,none⟩ (.int .i64 oa)).setCell ⟨b8,3,none⟩ (.int .i64 ob):=⟨_,rfl⟩
  have lI:∀b,b≠b8→W2.heap[b]? =V.heap[b]? :=fun b hb=>by
   rw[hW2,heap_setCell_other _ ⟨b8,3,none⟩ b _ hb,heap_setCell_other _ ⟨b8,2,none⟩ b _ hb,heap_setCell_other _ ⟨b8,1,none⟩ b _ hb,heap_setCell_other _ ⟨b8,0,none⟩ b _ hb]
  have fo:Hid (aD c p t W0 O W (fun b=>(b=W.heap.size∨b=W.heap.size+1)∨b=b8) st W2):=by
   have h1:=nD.out.T9 hb2 JH
   rw[hW2]
   exact(((h1.set (.inr rfl) _).set (.inr rfl) _).set (.inr rfl) _).set (.inr rfl) _
  have HX5:Hid (W2.heap[W.heap.size]? =some (kK (oa,ob))):=(lI _ (by omega)).trans ((hb2.block _ hl5).trans gj.out)
  have Ld:Hid (W2.heap[W.heap.size+1]? =some (bY ((0,0),0,0))):=(lI _ (by omega)).trans ((hb2.block _ QG).trans jQ.out)
  have HX8:Hid (W2.heap[b8]? =some (bY ((-1,-1),oa,ob))):=by rw[hW2];exact iE r3 _ _ _ _
  have HN:Hid (W.heap.size≠b8∧W.heap.size+1≠b8):=⟨by omega,by omega⟩
  have uj:=Nu.hid r3
  have kR:=Nu.hid hW2
  subst hfr2
  clear ha A7 aA aR hb hd DJ p0 p1 p2 r1 r2 r3 q1 q2 q3 JH dH hl5 QG hb2 lI hW2 dU
  refine wpAny_ready (rs:=[4]) (by kernel_rfl) (by simp) ?_
  refine AllReady.cons rfl (fun K hK=> ?_) AllReady.nil
  rw[if_pos (by rfl)]
  refine aj.cF.wp (R:=fun _ w'=>w'=W2) ?_ ?_
  ·obtain⟨z0,z1,z2,z3,zf⟩:=au uj.out
   exact aj.bF (w':=W2) (by rw[kR.out];simp[execOp,go_sem,z0,z1,z2,z3,zf]) rfl
  ·rintro v w' rfl
   refine hK _ _ ?_
   clear hK K
   refine wpAny_done (by kernel_rfl) ?_ _
   simp only[Act.put]
   go_wp2_with fail
   go_step3
   obtain⟨b5,hb5⟩:∃b5,W.heap.size=b5:=⟨_,rfl⟩
   obtain⟨b6,cg⟩:∃b6,b5+1=b6:=⟨_,rfl⟩
   rw[hb5] at fo Ld HN
   rw[cg] at fo Ld HN
   rw[hb5,cg]
   have HQ5:=Nu.hid hb5
   have IP:=Nu.hid cg
   clear hb5 cg x0 x1 HX5 uj kR nD gj jQ HW
   go_wp2_with fail
   go_loopw [9] (fun _ wr=>∃ps lk q,aD c p t W0 O W (fun b=>(b=b5∨b=b6)∨b=b8) { st with stk:=ps,like:=lk } wr∧wr.heap[b6]? =some (bY ((0,0),0,0))∧wr.heap[b8]? =some (bY q)∧others c.lw e ps lk q=some r∧ps.length≤8388607) (fun _ wr=>dQ t wr)
   case atStart=>exact⟨st.stk,st.like,((-1,-1),oa,ob),fo.out,Ld.out,HX8.out,HHO.out,HLEN.out⟩
   case round=>
    obtain⟨ps,lk,q,g8,yA,Zb,ho2,hl2⟩:=hrel
    have Yh:=Nu.hid g8
    have aeO:=Nu.hid yA
    have aeN:=Nu.hid Zb
    have jN:=Nu.hid hl2
    have HOW:=Nu.hid ho2
    have hB:∀b,(b=b5∨b=b6)∨b=b8→b<wr.heap.size:=fun b hb=>by
     have q1:=lt_of_block yA
     have q2:=lt_of_block Zb
     have q3:=IP.out
     omega
    obtain⟨q',hq'⟩:∃q',top ps=q':=⟨_,rfl⟩
    have lM:=Nu.hid (aD.reads g8 hB (f:=118) (args:= #[.pointer (some ⟨t,0,none⟩)]) (R:=fun e=>e= .returned (fL q')) (fun hT=>by rw[←hq'];exact iw hT (by dsimp only;omega)))
    obtain⟨l,hl,rr,hr,how⟩:∃l,fU c.lw q'.1 e=some l∧∃rr,fU c.lw q'.2 e=some rr∧(if l=true∧rr=true then r=none else if l=false∧rr=false then r=some (ps,lk,q) else ∃ps',ps=q'::ps'∧(match join lk q.1 (if l=true then q' else turned q').1 with|none=>none|some (eX,i1)=>match join eX q.2 (if l=true then q' else turned q').2 with|none=>none|some (eW,i2)=>others c.lw e ps' eW (i1,i2))=some r):=by
     have h1:=HOW.out
     cases ps with
     |nil=>
      have e1:q'=dI:=hq'.symm
      refine⟨false,by rw[e1];rfl,false,by rw[e1];rfl,?_⟩
      rw[if_neg (by simp),if_pos ⟨rfl,rfl⟩]
      exact(Option.some.inj h1).symm
     |cons q0 ps=>
      have e1:q0=q':=hq'
      subst e1
      unfold others at h1
      cases hl:fU c.lw q0.1 e with
      |none=>rw[hl] at h1;cases h1
      |some l=>
       cases hr:fU c.lw q0.2 e with
       |none=>rw[hl,hr] at h1;cases l<;>cases h1
       |some rr=>
        refine⟨l,rfl,rr,rfl,?_⟩
        rw[hl,hr] at h1
        cases l<;>cases rr
        ·rw[if_neg (by simp),if_pos ⟨rfl,rfl⟩]
         exact(Option.some.inj h1).symm
        ·rw[if_neg (by simp),if_neg (by simp)]
         exact⟨ps,rfl,h1⟩
        ·rw[if_neg (by simp),if_neg (by simp)]
         exact⟨ps,rfl,h1⟩
        ·rw[if_pos ⟨rfl,rfl⟩]
         exact(Option.some.inj h1).symm
    have HHI:Hid (∀(V:World) (i:Iv) (b:Bool),aD c p t W0 O W (fun b=>((b=b5∨b=b6)∨b=b8)∨b=0) { st with stk:=ps,like:=lk } V→True):=fun _ _ _ _=>trivial
    have HH:=Nu.hid how
    obtain⟨⟨qa,qb⟩,qc,qd⟩:=q'
    have HQT:=Nu.hid hq'
    clear HHI how g8 yA Zb ho2 hl2 hq' hB
    go_wp2_with (go_at_call 118;refine lM.out.mono ?_;rintro e w5 ⟨rfl,kM,hk5,-⟩;have yq:=Nu.hid kM;have FD:=Nu.hid ((hk5 b6 (.inl (.inr rfl))).trans aeO.out);have HE8:=Nu.hid ((hk5 b8 (.inr rfl)).trans aeN.out);clear kM hk5)
    obtain⟨b9,gw⟩:∃b9,w5.heap.size=b9:=⟨_,rfl⟩
    obtain⟨W6,uX⟩:∃W6,W6=w5.alloc (bY ((qa,qb),qc,qd)):=⟨_,rfl⟩
    have eZ:aD c p t W0 O W (fun b=>((b=b5∨b=b6)∨b=b8)∨b=b9) { st with stk:=ps,like:=lk } W6:=by
     rw[uX]
     exact(yq.out.box _).less fun b hb=>hb.imp id fun q=>by omega
    have tH:W6.heap[b9]? =some (bY ((qa,qb),qc,qd)):=by rw[uX,←gw];exact heap_alloc_new _ _
    have NS:W6.heap[b6]? =some (bY ((0,0),0,0)):=by rw[uX,Below.heap_alloc _ _ _ (lt_of_block FD.out)];exact FD.out
    have NR:W6.heap[b8]? =some (bY q):=by rw[uX,Below.heap_alloc _ _ _ (lt_of_block HE8.out)];exact HE8.out
    have VB:Hid (b9≠b6∧b9≠b8):=by
     have q1:=lt_of_block FD.out
     have q2:=lt_of_block HE8.out
     exact⟨by omega,by omega⟩
    have HHI:Hid (∀(D:LW W6) (ia ib:Int) (b:Bool),fU c.lw (ia,ib) (e:Int)=some b→Calls Tryz.prog 170 #[.pointer (some ⟨t,0,none⟩),.agg #[.int .i64 ia,.int .i64 ib],.int .i64 (e:Int)] D.val fun r w'=>r= .returned (.bool b)∧Below D.val.heap.size D.val w'):=fun D ia ib b hb=>by
     obtain⟨-,-,O',-,-,L',U',Z',oY,qo,hT⟩:=eZ.later D.h
     exact Et (i:=(ia,ib)) hT hb
    have Ht:=lt_of_block tH
    have y0:∀D:LW W6,D.val.cell? ⟨b9,0,none⟩=some (.int .i64 qa):=fun D=>(au ((D.h.block _ Ht).trans tH)).1
    have y1:∀D:LW W6,D.val.cell? ⟨b9,1,none⟩=some (.int .i64 qb):=fun D=>(au ((D.h.block _ Ht).trans tH)).2.1
    have y2:∀D:LW W6,D.val.cell? ⟨b9,2,none⟩=some (.int .i64 qc):=fun D=>(au ((D.h.block _ Ht).trans tH)).2.2.1
    have y3:∀D:LW W6,D.val.cell? ⟨b9,3,none⟩=some (.int .i64 qd):=fun D=>(au ((D.h.block _ Ht).trans tH)).2.2.2.1
    have hne:=LW.any W6
    have rB:=Nu.hid eZ
    have VM:=Nu.hid NS
    have VL:=Nu.hid NR
    have Tq:=Nu.hid tH
    have Oy:=Nu.hid uX
    have yT:=Nu.hid hl
    have xk:=Nu.hid hr
    change Code.wp _ _ _ _ (w5.alloc (bY ((qa,qb),qc,qd)))
    rw[←Oy.out,gw]
    clear eZ NS NR tH Ht uX gw
    refine aC (by kernel_rfl) (by kernel_rfl) ?_
    repeat (go_big_quiet_step ((first|(go_at_call 170;exact Calls.lw (HHI.out _ _ _ _ (by assumption))))))
    refine wpQuiet_nil ?_
    rintro _ ⟨D,rfl⟩
    clear y0 y1 y2 y3
    have B5:=Nu.hid (rB.out.later D.h)
    have uo:=Nu.hid ((D.h.block _ (lt_of_block VM.out)).trans VM.out)
    have xu:=Nu.hid ((D.h.block _ (lt_of_block VL.out)).trans VL.out)
    have Tk:=Nu.hid ((D.h.block _ (lt_of_block Tq.out)).trans Tq.out)
    clear hl hr
    obtain⟨⟨pa,pb⟩,pc,pd⟩:=q
    obtain⟨x0,x1,x2,x3,xf⟩:=au uo.out
    obtain⟨z0,z1,z2,z3,-⟩:=au xu.out
    have Eg:Hid (aT c p t W0 O W { st with stk:=ps,like:=lk } ((((D.val.setCell ⟨b6,0,none⟩ (.int .i64 pa)).setCell ⟨b6,1,none⟩ (.int .i64 pb)).setCell ⟨b6,2,none⟩ (.int .i64 pc)).setCell ⟨b6,3,none⟩ (.int .i64 pd))):=((((B5.out.set (b:=b6) (i:=0) (.inl (.inl (.inr rfl))) (.int .i64 pa)).set (b:=b6) (i:=1) (.inl (.inl (.inr rfl))) (.int .i64 pb)).set (b:=b6) (i:=2) (.inl (.inl (.inr rfl))) (.int .i64 pc)).set (b:=b6) (i:=3) (.inl (.inl (.inr rfl))) (.int .i64 pd)).post
    obtain⟨r0,r1,r2,r3,-⟩:=au (iE uo.out (.int .i64 pa) (.int .i64 pb) (.int .i64 pc) (.int .i64 pd))
    cases l<;>cases rr
    ·have hr:r=some (ps,lk,(pa,pb),pc,pd):=by
      have h1:=HH.out
      rw[if_neg (by simp),if_pos ⟨rfl,rfl⟩] at h1
      exact h1
     have HR:=Nu.hid hr
     clear hr
     go_wp2
     refine bodyPost_ret (v:= .tuple #[fL ((pa,pb),pc,pd),.bool true]) (by simp[results,Tryz.results162,go_sem,r0,r1,r2,r3]) rfl ?_
     rw[HR.out]
     exact⟨rfl,Eg.out⟩
    ·skip
     obtain⟨ps',gX,ia,ib,gH,ja,jb,hps,QL,hj2,ru⟩:∃ps' gX ia ib gH ja jb,ps=((qa,qb),qc,qd)::ps'∧join lk (pa,pb) (qc,qd)=some (gX,(ia,ib))∧join gX (pc,pd) (qa,qb)=some (gH,(ja,jb))∧Hid (others c.lw e ps' gH ((ia,ib),ja,jb)=some r):=by
      have h1:=HH.out
      rw[if_neg (by simp),if_neg (by simp)] at h1
      obtain⟨ps',h2,h3⟩:=h1
      simp only[Bool.false_eq_true,if_false,turned] at h3
      cases e1:join lk (pa,pb) (qc,qd) with
      |none=>rw[e1] at h3;cases h3
      |some r1=>
       obtain⟨gX,ia,ib⟩:=r1
       rw[e1] at h3
       dsimp only at h3
       cases e2:join gX (pc,pd) (qa,qb) with
       |none=>rw[e2] at h3;cases h3
       |some r2=>
        obtain⟨gH,ja,jb⟩:=r2
        rw[e2] at h3
        exact⟨ps',gX,ia,ib,gH,ja,jb,h2,rfl,e2,h3⟩
     subst hps
     have HJa:=Nu.hid QL
     have HJb:=Nu.hid hj2
     clear QL hj2 x0 x1 x2 x3 xf z0 z1 z2 z3 r0 r1 r2 r3 Eg
     have HTU:Hid (∀w,Calls Tryz.prog 168 #[fL ((qa,qb),qc,qd)] w fun e w'=>e= .returned (fL ((qc,qd),qa,qb))∧Below w.heap.size w w'):=fun w=>xA ((qa,qb),qc,qd) w
     obtain⟨z0,z1,z2,z3,-⟩:=au Tk.out
     go_wp2_with (go_at_call 168;refine(HTU.out _).mono ?_;rintro e1 wt ⟨rfl,kZ⟩;have afE:=Nu.hid (B5.out.later kZ);have C1:=Nu.hid ((kZ.block _ (lt_of_block uo.out)).trans uo.out);have HT8:=Nu.hid ((kZ.block _ (lt_of_block xu.out)).trans xu.out);have HT9:=Nu.hid ((kZ.block _ (lt_of_block Tk.out)).trans Tk.out);obtain⟨z0,z1,z2,z3,zf⟩:=au HT9.out;clear kZ)
     have Xf:=(((afE.out.set (b:=b9) (i:=0) (.inr rfl) (.int .i64 qc)).set (b:=b9) (i:=1) (.inr rfl) (.int .i64 qd)).set (b:=b9) (i:=2) (.inr rfl) (.int .i64 qa)).set (b:=b9) (i:=3) (.inr rfl) (.int .i64 qb)
     have hu9:=iE HT9.out (.int .i64 qc) (.int .i64 qd) (.int .i64 qa) (.int .i64 qb)
     have lI:∀b,b≠b9→((((wt.setCell ⟨b9,0,none⟩ (.int .i64 qc)).setCell ⟨b9,1,none⟩ (.int .i64 qd)).setCell ⟨b9,2,none⟩ (.int .i64 qa)).setCell ⟨b9,3,none⟩ (.int .i64 qb)).heap[b]? =wt.heap[b]? :=fun b hb=>by
      rw[heap_setCell_other _ ⟨b9,3,none⟩ b _ hb,heap_setCell_other _ ⟨b9,2,none⟩ b _ hb,heap_setCell_other _ ⟨b9,1,none⟩ b _ hb,heap_setCell_other _ ⟨b9,0,none⟩ b _ hb]
     have HU6:=Nu.hid ((lI b6 (Ne.symm VB.out.1)).trans C1.out)
     have HU8:=Nu.hid ((lI b8 (Ne.symm VB.out.2)).trans HT8.out)
     have HU9:=Nu.hid hu9
     have afD:=Nu.hid Xf
     clear lI hu9 Xf z0 z1 z2 z3 zf
     generalize (((wt.setCell ⟨b9,0,none⟩ (.int .i64 qc)).setCell ⟨b9,1,none⟩ (.int .i64 qd)).setCell ⟨b9,2,none⟩ (.int .i64 qa)).setCell ⟨b9,3,none⟩ (.int .i64 qb)=wu at*
     have tJ:∀b,((b=b5∨b=b6)∨b=b8)∨b=b9→b<wu.heap.size:=fun b hb=>by
      have q1:=lt_of_block HU6.out
      have q2:=lt_of_block HU8.out
      have q3:=lt_of_block HU9.out
      have q4:=IP.out
      omega
     have jM:=Nu.hid (aD.calls afD.out tJ (f:=148) (args:= #[.pointer (some ⟨t,0,none⟩)]) (R:=fun e=>e= .returned (.tuple #[])) (st':={ st with stk:=ps',like:=lk }) (fun hT=>nZ hT rfl (by have:=jN.out;simp at this ⊢;omega)))
     clear tJ
     go_wp2_with (go_at_call 148;refine jM.out.mono ?_;rintro e1 wp ⟨rfl,Hj,hkp⟩;have Th:=Nu.hid Hj;have HP6:=Nu.hid ((hkp b6 (.inl (.inl (.inr rfl)))).trans HU6.out);have HP8:=Nu.hid ((hkp b8 (.inl (.inr rfl))).trans HU8.out);have HP9:=Nu.hid ((hkp b9 (.inr rfl)).trans HU9.out);clear Hj hkp)
     obtain⟨Wq,jG⟩:∃Wq,Wq=wp.drew:=⟨_,rfl⟩
     have qO:aD c p t W0 O W (fun b=>((b=b5∨b=b6)∨b=b8)∨b=b9) { st with stk:=ps',like:=lk } Wq:=by rw[jG];exact Th.out.drew
     have AQ:Wq.heap[b6]? =some (bY ((0,0),0,0)):=by rw[jG];exact HP6.out
     have qM:Wq.heap[b8]? =some (bY ((pa,pb),pc,pd)):=by rw[jG];exact HP8.out
     have qL:Wq.heap[b9]? =some (bY ((qc,qd),qa,qb)):=by rw[jG];exact HP9.out
     have hB1:∀b,((b=b5∨b=b6)∨b=b8)∨b=b9→b<Wq.heap.size:=fun b hb=>by
      have q1:=lt_of_block AQ
      have q2:=lt_of_block qM
      have q3:=lt_of_block qL
      have q4:=IP.out
      omega
     have HJ1:=Nu.hid (aD.calls qO hB1 (f:=169) (args:= #[.pointer (some ⟨t,1,none⟩),dG (pa,pb),dG (qc,qd)]) (R:=fun e=>e= .returned (dG (ia,ib))) (st':={ st with stk:=ps',like:=gX }) (fun hT=>jW hT HJa.out))
     have Sx:Hid (∀V,V=Wq∨(fun V=>aD c p t W0 O W (fun b=>((b=b5∨b=b6)∨b=b8)∨b=b9) { st with stk:=ps',like:=gX } V∧∀b,((b=b5∨b=b6)∨b=b8)∨b=b9→V.heap[b]? =Wq.heap[b]?) V→V.cell? ⟨b8,0,none⟩=some (.int .i64 pa)∧V.cell? ⟨b8,1,none⟩=some (.int .i64 pb)∧V.cell? ⟨b9,0,none⟩=some (.int .i64 qc)∧V.cell? ⟨b9,1,none⟩=some (.int .i64 qd)∧∀i,V.frozen? ⟨b8,i,none⟩=false):=fun V hV=>by
      have h8:V.heap[b8]? =some (bY ((pa,pb),pc,pd)):=by
       rcases hV with rfl|hV
       ·exact qM
       ·exact(hV.2 b8 (.inl (.inr rfl))).trans qM
      have h9:V.heap[b9]? =some (bY ((qc,qd),qa,qb)):=by
       rcases hV with rfl|hV
       ·exact qL
       ·exact(hV.2 b9 (.inr rfl)).trans qL
      obtain⟨a0,a1,-,-,af⟩:=au h8
      obtain⟨a2,a3,-,-,-⟩:=au h9
      exact⟨a0,a1,a2,a3,af⟩
     have S3:=Nu.hid AQ
     have S2:=Nu.hid qM
     have S1:=Nu.hid qL
     have Lf:=Nu.hid jG
     clear qO AQ qM qL hB1 jG
     refine wp_region_any (by kernel_rfl) ?_
     change wpAny _ _ _ _ _ _ _ wp.drew
     rw[←Lf.out]
     refine aj.oI (fun j=>match j with|0=> .pointer (some ⟨t,0,none⟩)|1=> .pointer (some ⟨t,0,none⟩)|2=> .pointer (some ⟨t,1,none⟩)|3=> .pointer (some ⟨b8,0,none⟩)|4=> .agg #[.int .i64 pa,.int .i64 pb]|5=> .pointer (some ⟨b9,0,none⟩)|6=> .agg #[.int .i64 qc,.int .i64 qd]|7=> .agg #[.int .i64 ia,.int .i64 ib]|8=> .pointer (some ⟨b8,0,none⟩)|_=>undef) (AnyM.cH (fun V=>V=Wq) [(9,(fun V'=>∃V,(fun V=>aD c p t W0 O W (fun b=>((b=b5∨b=b6)∨b=b8)∨b=b9) { st with stk:=ps',like:=gX } V∧∀b,((b=b5∨b=b6)∨b=b8)∨b=b9→V.heap[b]? =Wq.heap[b]?) V∧V'=((V.setCell ⟨b8,0,none⟩ (.int .i64 ia)).setCell ⟨b8,1,none⟩ (.int .i64 ib)))),(7,(fun V=>aD c p t W0 O W (fun b=>((b=b5∨b=b6)∨b=b8)∨b=b9) { st with stk:=ps',like:=gX } V∧∀b,((b=b5∨b=b6)∨b=b8)∨b=b9→V.heap[b]? =Wq.heap[b]?))]) 61 rfl (by kernel_rfl) rfl ?_ ?_
     ·intro j o' Ls V ev ho bO hC bU hdc aA aR kW iQ
      have hc:j=0∨j=1∨j=2∨j=3∨j=4∨j=5∨j=6∨j=7∨j=8∨j=9:=by
       have:j<10:=(Array.getElem?_eq_some_iff.1 ho).1
       omega
      have hst:Ls 9=false:=by
       cases h:Ls 9 with
       |false=>rfl
       |true=>
        exfalso
        have hq:Ls j=true:=by
         rcases hc with rfl|rfl|rfl|rfl|rfl|rfl|rfl|rfl|rfl|rfl
         ·exact hdc 9 _ rfl h ⟨0,.phase⟩ (by simp) rfl
         ·exact hdc 9 _ rfl h ⟨1,.phase⟩ (by simp) rfl
         ·exact hdc 9 _ rfl h ⟨2,.phase⟩ (by simp) rfl
         ·exact hdc 9 _ rfl h ⟨3,.phase⟩ (by simp) rfl
         ·exact hdc 9 _ rfl h ⟨4,.phase⟩ (by simp) rfl
         ·exact hdc 9 _ rfl h ⟨5,.phase⟩ (by simp) rfl
         ·exact hdc 9 _ rfl h ⟨6,.phase⟩ (by simp) rfl
         ·exact hdc 9 _ rfl h ⟨7,.phase⟩ (by simp) rfl
         ·exact hdc 9 _ rfl h ⟨8,.data⟩ (by simp) rfl
         ·exact h
        rw[bO] at hq
        cases hq
      have qU:V=Wq∨((fun V=>aD c p t W0 O W (fun b=>((b=b5∨b=b6)∨b=b8)∨b=b9) { st with stk:=ps',like:=gX } V∧∀b,((b=b5∨b=b6)∨b=b8)∨b=b9→V.heap[b]? =Wq.heap[b]?)) V:=by
       simp only[AnyM.cH,hst,Bool.false_eq_true,if_false] at hC
       split at hC
       ·exact .inr hC
       ·exact .inl hC
      obtain⟨k1,k2,k3,k4,kf⟩:=Sx.out V qU
      rcases hc with rfl|rfl|rfl|rfl|rfl|rfl|rfl|rfl|rfl|rfl<;>obtain rfl:=Option.some.inj ho
      ·have e1:ev (.tmp 0)= .pointer (some ⟨t,0,none⟩):=aR 0 (by kernel_rfl)
       exact aj.ah (v:= .pointer (some ⟨t,0,none⟩)) (w':=V) (by simp[execOp,go_sem,e1]) ⟨rfl,AnyM.aW rfl hC⟩
      ·have e1:ev (.tmp 42)= .pointer (some ⟨t,0,none⟩):=aA 0 42 (by omega) rfl (by decide)
       exact aj.ah (v:= .pointer (some ⟨t,0,none⟩)) (w':=V) (by simp[execOp,go_sem,e1]) ⟨rfl,AnyM.aW rfl hC⟩
      ·have e1:ev (.tmp 43)= .pointer (some ⟨t,0,none⟩):=aA 1 43 (by omega) rfl (by decide)
       exact aj.ah (v:= .pointer (some ⟨t,1,none⟩)) (w':=V) (by simp[execOp,go_sem,e1]) ⟨rfl,AnyM.aW rfl hC⟩
      ·have e1:ev (.tmp 8)= .pointer (some ⟨b8,0,none⟩):=aR 8 (by kernel_rfl)
       exact aj.ah (v:= .pointer (some ⟨b8,0,none⟩)) (w':=V) (by simp[execOp,go_sem,e1]) ⟨rfl,AnyM.aW rfl hC⟩
      ·have e1:ev (.tmp 45)= .pointer (some ⟨b8,0,none⟩):=aA 3 45 (by omega) rfl (by decide)
       exact aj.ah (v:= .agg #[.int .i64 pa,.int .i64 pb]) (w':=V) (by simp[execOp,go_sem,e1,k1,k2]) ⟨rfl,AnyM.aW rfl hC⟩
      ·have e1:ev (.tmp 9)= .pointer (some ⟨b9,0,none⟩):=aR 9 (by kernel_rfl)
       exact aj.ah (v:= .pointer (some ⟨b9,0,none⟩)) (w':=V) (by simp[execOp,go_sem,e1]) ⟨rfl,AnyM.aW rfl hC⟩
      ·have e1:ev (.tmp 47)= .pointer (some ⟨b9,0,none⟩):=aA 5 47 (by omega) rfl (by decide)
       exact aj.ah (v:= .agg #[.int .i64 qc,.int .i64 qd]) (w':=V) (by simp[execOp,go_sem,e1,k3,k4]) ⟨rfl,AnyM.aW rfl hC⟩
      ·have e1:ev (.tmp 44)= .pointer (some ⟨t,1,none⟩):=aA 2 44 (by omega) rfl (by decide)
       have e2:ev (.tmp 46)= .agg #[.int .i64 pa,.int .i64 pb]:=aA 4 46 (by omega) rfl (by decide)
       have e3:ev (.tmp 48)= .agg #[.int .i64 qc,.int .i64 qd]:=aA 6 48 (by omega) rfl (by decide)
       have iD:V=Wq:=by
        simp only[AnyM.cH,hst,bO,Bool.false_eq_true,if_false] at hC
        exact hC
       rw[iD]
       refine AnyM.g9 (v:= .agg #[.int .i64 ia,.int .i64 ib]) (by simp[execOp,go_sem,e1,e2,e3,iQ]) HJ1.out (fun w2 hw2=>⟨rfl,?_⟩)
       simp only[AnyM.cH,aj.bQ]
       simp[hst]
       exact hw2
      ·have e1:ev (.tmp 8)= .pointer (some ⟨b8,0,none⟩):=aR 8 (by kernel_rfl)
       exact aj.ah (v:= .pointer (some ⟨b8,0,none⟩)) (w':=V) (by simp[execOp,go_sem,e1]) ⟨rfl,AnyM.aW rfl hC⟩
      ·have e1:ev (.tmp 50)= .pointer (some ⟨b8,0,none⟩):=aA 8 50 (by omega) rfl (by decide)
       have e2:ev (.tmp 49)= .agg #[.int .i64 ia,.int .i64 ib]:=aA 7 49 (by omega) rfl (by decide)
       have hp:Ls 7=true:=bU ⟨7,.data⟩ (by simp) rfl
       have hQ:((fun V=>aD c p t W0 O W (fun b=>((b=b5∨b=b6)∨b=b8)∨b=b9) { st with stk:=ps',like:=gX } V∧∀b,((b=b5∨b=b6)∨b=b8)∨b=b9→V.heap[b]? =Wq.heap[b]?)) V:=by
        simp only[AnyM.cH,bO,hp,Bool.false_eq_true,if_false,if_true] at hC
        exact hC
       refine aj.bF (w':=((V.setCell ⟨b8,0,none⟩ (.int .i64 ia)).setCell ⟨b8,1,none⟩ (.int .i64 ib))) (by simp[execOp,go_sem,e1,e2,k1,k2,kf]) ⟨rfl,?_⟩
       simp only[AnyM.cH,aj.bQ]
       simp only[if_true]
       exact⟨V,hQ,rfl⟩
     ·intro Ls V hall hC
      unfold AnyM.cH at hC
      rw[if_pos (hall 9 (by decide))] at hC
      obtain⟨V6,⟨eZ,kL⟩,rfl⟩:=hC
      simp only[aj.canon,aj.dst,Array.size,List.length_cons,List.length_nil]
      simp[Act.put]
      have AX:=(eZ.set (b:=b8) (i:=0) (.inl (.inr rfl)) (.int .i64 ia)).set (b:=b8) (i:=1) (.inl (.inr rfl)) (.int .i64 ib)
      have Qd:=Bf ((kL b8 (.inl (.inr rfl))).trans S2.out) (.int .i64 ia) (.int .i64 ib)
      obtain⟨n96,YQ⟩:=VB.out
      have Qe:=(eF (w:=V6) (b:=b8) (k:=b6) (fun e=>HN.out.2 e) (.int .i64 ia) (.int .i64 ib)).trans ((kL b6 (.inl (.inl (.inr rfl)))).trans S3.out)
      have Qc:=(eF (w:=V6) (b:=b8) (k:=b9) YQ (.int .i64 ia) (.int .i64 ib)).trans ((kL b9 (.inr rfl)).trans S1.out)
      generalize (V6.setCell ⟨b8,0,none⟩ (.int .i64 ia)).setCell ⟨b8,1,none⟩ (.int .i64 ib)=V7 at*
      have Tg:=Nu.hid AX
      have HR6:=Nu.hid Qe
      have HR8:=Nu.hid Qd
      have HR9:=Nu.hid Qc
      clear AX Qe Qd Qc eZ kL
      go_wp2_with fail
      obtain⟨Wr,sq⟩:∃Wr,Wr=V7.drew:=⟨_,rfl⟩
      have Hi:aD c p t W0 O W (fun b=>((b=b5∨b=b6)∨b=b8)∨b=b9) { st with stk:=ps',like:=gX } Wr:=by rw[sq];exact Tg.out.drew
      have AO:Wr.heap[b6]? =some (bY ((0,0),0,0)):=by rw[sq];exact HR6.out
      have qK:Wr.heap[b8]? =some (bY ((ia,ib),pc,pd)):=by rw[sq];exact HR8.out
      have uS:Wr.heap[b9]? =some (bY ((qc,qd),qa,qb)):=by rw[sq];exact HR9.out
      have hB2:∀b,((b=b5∨b=b6)∨b=b8)∨b=b9→b<Wr.heap.size:=fun b hb=>by
       have q1:=lt_of_block AO
       have q2:=lt_of_block qK
       have q3:=lt_of_block uS
       have q4:=IP.out
       omega
      have HJ2:=Nu.hid (aD.calls Hi hB2 (f:=169) (args:= #[.pointer (some ⟨t,1,none⟩),dG (pc,pd),dG (qa,qb)]) (R:=fun e=>e= .returned (dG (ja,jb))) (st':={ st with stk:=ps',like:=gH }) (fun hT=>jW hT HJb.out))
      have HV2:Hid (∀V,V=Wr∨(fun V=>aD c p t W0 O W (fun b=>((b=b5∨b=b6)∨b=b8)∨b=b9) { st with stk:=ps',like:=gH } V∧∀b,((b=b5∨b=b6)∨b=b8)∨b=b9→V.heap[b]? =Wr.heap[b]?) V→V.cell? ⟨b8,2,none⟩=some (.int .i64 pc)∧V.cell? ⟨b8,3,none⟩=some (.int .i64 pd)∧V.cell? ⟨b9,2,none⟩=some (.int .i64 qa)∧V.cell? ⟨b9,3,none⟩=some (.int .i64 qb)∧∀i,V.frozen? ⟨b8,i,none⟩=false):=fun V hV=>by
       have h8:V.heap[b8]? =some (bY ((ia,ib),pc,pd)):=by
        rcases hV with rfl|hV
        ·exact qK
        ·exact(hV.2 b8 (.inl (.inr rfl))).trans qK
       have h9:V.heap[b9]? =some (bY ((qc,qd),qa,qb)):=by
        rcases hV with rfl|hV
        ·exact uS
        ·exact(hV.2 b9 (.inr rfl)).trans uS
       obtain⟨-,-,a0,a1,af⟩:=au h8
       obtain⟨-,-,a2,a3,-⟩:=au h9
       exact⟨a0,a1,a2,a3,af⟩
      have SZ:=Nu.hid AO
      have SY:=Nu.hid qK
      have nT:=Nu.hid sq
      clear Hi AO qK uS hB2 sq
      refine wp_region_any (by kernel_rfl) ?_
      change wpAny _ _ _ _ _ _ _ V7.drew
      rw[←nT.out]
      refine aj.oI (fun j=>match j with|0=> .pointer (some ⟨t,0,none⟩)|1=> .pointer (some ⟨t,0,none⟩)|2=> .pointer (some ⟨t,1,none⟩)|3=> .pointer (some ⟨b8,2,none⟩)|4=> .agg #[.int .i64 pc,.int .i64 pd]|5=> .pointer (some ⟨b9,2,none⟩)|6=> .agg #[.int .i64 qa,.int .i64 qb]|7=> .agg #[.int .i64 ja,.int .i64 jb]|8=> .pointer (some ⟨b8,2,none⟩)|_=>undef) (AnyM.cH (fun V=>V=Wr) [(9,(fun V'=>∃V,(fun V=>aD c p t W0 O W (fun b=>((b=b5∨b=b6)∨b=b8)∨b=b9) { st with stk:=ps',like:=gH } V∧∀b,((b=b5∨b=b6)∨b=b8)∨b=b9→V.heap[b]? =Wr.heap[b]?) V∧V'=((V.setCell ⟨b8,2,none⟩ (.int .i64 ja)).setCell ⟨b8,3,none⟩ (.int .i64 jb)))),(7,(fun V=>aD c p t W0 O W (fun b=>((b=b5∨b=b6)∨b=b8)∨b=b9) { st with stk:=ps',like:=gH } V∧∀b,((b=b5∨b=b6)∨b=b8)∨b=b9→V.heap[b]? =Wr.heap[b]?))]) 61 rfl (by kernel_rfl) rfl ?_ ?_
      ·intro j o' Ls V ev ho bO hC bU hdc aA aR kW iQ
       have hc:j=0∨j=1∨j=2∨j=3∨j=4∨j=5∨j=6∨j=7∨j=8∨j=9:=by
        have:j<10:=(Array.getElem?_eq_some_iff.1 ho).1
        omega
       have hst:Ls 9=false:=by
        cases h:Ls 9 with
        |false=>rfl
        |true=>
         exfalso
         have hq:Ls j=true:=by
          rcases hc with rfl|rfl|rfl|rfl|rfl|rfl|rfl|rfl|rfl|rfl
          ·exact hdc 9 _ rfl h ⟨0,.phase⟩ (by simp) rfl
          ·exact hdc 9 _ rfl h ⟨1,.phase⟩ (by simp) rfl
          ·exact hdc 9 _ rfl h ⟨2,.phase⟩ (by simp) rfl
          ·exact hdc 9 _ rfl h ⟨3,.phase⟩ (by simp) rfl
          ·exact hdc 9 _ rfl h ⟨4,.phase⟩ (by simp) rfl
          ·exact hdc 9 _ rfl h ⟨5,.phase⟩ (by simp) rfl
          ·exact hdc 9 _ rfl h ⟨6,.phase⟩ (by simp) rfl
          ·exact hdc 9 _ rfl h ⟨7,.phase⟩ (by simp) rfl
          ·exact hdc 9 _ rfl h ⟨8,.data⟩ (by simp) rfl
          ·exact h
         rw[bO] at hq
         cases hq
       have qU:V=Wr∨((fun V=>aD c p t W0 O W (fun b=>((b=b5∨b=b6)∨b=b8)∨b=b9) { st with stk:=ps',like:=gH } V∧∀b,((b=b5∨b=b6)∨b=b8)∨b=b9→V.heap[b]? =Wr.heap[b]?)) V:=by
        simp only[AnyM.cH,hst,Bool.false_eq_true,if_false] at hC
        split at hC
        ·exact .inr hC
        ·exact .inl hC
       obtain⟨k1,k2,k3,k4,kf⟩:=HV2.out V qU
       rcases hc with rfl|rfl|rfl|rfl|rfl|rfl|rfl|rfl|rfl|rfl<;>obtain rfl:=Option.some.inj ho
       ·have e1:ev (.tmp 0)= .pointer (some ⟨t,0,none⟩):=aR 0 (by kernel_rfl)
        exact aj.ah (v:= .pointer (some ⟨t,0,none⟩)) (w':=V) (by simp[execOp,go_sem,e1]) ⟨rfl,AnyM.aW rfl hC⟩
       ·have e1:ev (.tmp 51)= .pointer (some ⟨t,0,none⟩):=aA 0 51 (by omega) rfl (by decide)
        exact aj.ah (v:= .pointer (some ⟨t,0,none⟩)) (w':=V) (by simp[execOp,go_sem,e1]) ⟨rfl,AnyM.aW rfl hC⟩
       ·have e1:ev (.tmp 52)= .pointer (some ⟨t,0,none⟩):=aA 1 52 (by omega) rfl (by decide)
        exact aj.ah (v:= .pointer (some ⟨t,1,none⟩)) (w':=V) (by simp[execOp,go_sem,e1]) ⟨rfl,AnyM.aW rfl hC⟩
       ·have e1:ev (.tmp 8)= .pointer (some ⟨b8,0,none⟩):=aR 8 (by kernel_rfl)
        exact aj.ah (v:= .pointer (some ⟨b8,2,none⟩)) (w':=V) (by simp[execOp,go_sem,e1]) ⟨rfl,AnyM.aW rfl hC⟩
       ·have e1:ev (.tmp 54)= .pointer (some ⟨b8,2,none⟩):=aA 3 54 (by omega) rfl (by decide)
        exact aj.ah (v:= .agg #[.int .i64 pc,.int .i64 pd]) (w':=V) (by simp[execOp,go_sem,e1,k1,k2]) ⟨rfl,AnyM.aW rfl hC⟩
       ·have e1:ev (.tmp 9)= .pointer (some ⟨b9,0,none⟩):=aR 9 (by kernel_rfl)
        exact aj.ah (v:= .pointer (some ⟨b9,2,none⟩)) (w':=V) (by simp[execOp,go_sem,e1]) ⟨rfl,AnyM.aW rfl hC⟩
       ·have e1:ev (.tmp 56)= .pointer (some ⟨b9,2,none⟩):=aA 5 56 (by omega) rfl (by decide)
        exact aj.ah (v:= .agg #[.int .i64 qa,.int .i64 qb]) (w':=V) (by simp[execOp,go_sem,e1,k3,k4]) ⟨rfl,AnyM.aW rfl hC⟩
       ·have e1:ev (.tmp 53)= .pointer (some ⟨t,1,none⟩):=aA 2 53 (by omega) rfl (by decide)
        have e2:ev (.tmp 55)= .agg #[.int .i64 pc,.int .i64 pd]:=aA 4 55 (by omega) rfl (by decide)
        have e3:ev (.tmp 57)= .agg #[.int .i64 qa,.int .i64 qb]:=aA 6 57 (by omega) rfl (by decide)
        have iD:V=Wr:=by
         simp only[AnyM.cH,hst,bO,Bool.false_eq_true,if_false] at hC
         exact hC
        rw[iD]
        refine AnyM.g9 (v:= .agg #[.int .i64 ja,.int .i64 jb]) (by simp[execOp,go_sem,e1,e2,e3,iQ]) HJ2.out (fun w2 hw2=>⟨rfl,?_⟩)
        simp only[AnyM.cH,aj.bQ]
        simp[hst]
        exact hw2
       ·have e1:ev (.tmp 8)= .pointer (some ⟨b8,0,none⟩):=aR 8 (by kernel_rfl)
        exact aj.ah (v:= .pointer (some ⟨b8,2,none⟩)) (w':=V) (by simp[execOp,go_sem,e1]) ⟨rfl,AnyM.aW rfl hC⟩
       ·have e1:ev (.tmp 59)= .pointer (some ⟨b8,2,none⟩):=aA 8 59 (by omega) rfl (by decide)
        have e2:ev (.tmp 58)= .agg #[.int .i64 ja,.int .i64 jb]:=aA 7 58 (by omega) rfl (by decide)
        have hp:Ls 7=true:=bU ⟨7,.data⟩ (by simp) rfl
        have hQ:((fun V=>aD c p t W0 O W (fun b=>((b=b5∨b=b6)∨b=b8)∨b=b9) { st with stk:=ps',like:=gH } V∧∀b,((b=b5∨b=b6)∨b=b8)∨b=b9→V.heap[b]? =Wr.heap[b]?)) V:=by
         simp only[AnyM.cH,bO,hp,Bool.false_eq_true,if_false,if_true] at hC
         exact hC
        refine aj.bF (w':=((V.setCell ⟨b8,2,none⟩ (.int .i64 ja)).setCell ⟨b8,3,none⟩ (.int .i64 jb))) (by simp[execOp,go_sem,e1,e2,k1,k2,kf]) ⟨rfl,?_⟩
        simp only[AnyM.cH,aj.bQ]
        simp only[if_true]
        exact⟨V,hQ,rfl⟩
      ·intro Ls V hall hC
       unfold AnyM.cH at hC
       rw[if_pos (hall 9 (by decide))] at hC
       obtain⟨V8,⟨xW,Hh⟩,rfl⟩:=hC
       simp only[aj.canon,aj.dst,Array.size,List.length_cons,List.length_nil]
       simp[Act.put]
       go_wp2
       go_roundw
       case rel=>
        refine⟨ps',gH,((ia,ib),ja,jb),((xW.less (B':=(fun b=>(b=b5∨b=b6)∨b=b8)) (fun _ hb=> .inl hb)).set (.inr rfl) _).set (.inr rfl) _,?_,Bg ((Hh b8 (.inl (.inr rfl))).trans SY.out) _ _,ru.out,by have:=jN.out;simp at this;omega⟩
        have Ia:b6≠b8:=fun e=>HN.out.2 e
        rw[heap_setCell_other _ ⟨b8,3,none⟩ b6 _ Ia,heap_setCell_other _ ⟨b8,2,none⟩ b6 _ Ia]
        exact(Hh b6 (.inl (.inl (.inr rfl)))).trans SZ.out
       case measure=>
        have h1:=((xW.set (b:=b8) (i:=2) (.inl (.inr rfl)) (.int .i64 ja)).set (b:=b8) (i:=3) (.inl (.inr rfl)) (.int .i64 jb)).dQ
        have h2:=Yh.out.dQ
        rw[h2]
        refine Nat.lt_of_le_of_lt (Nat.le_of_eq (show _=ps'.length from h1)) ?_
        simp
    ·skip
     obtain⟨ps',gX,ia,ib,gH,ja,jb,hps,QL,hj2,ru⟩:∃ps' gX ia ib gH ja jb,ps=((qa,qb),qc,qd)::ps'∧join lk (pa,pb) (qa,qb)=some (gX,(ia,ib))∧join gX (pc,pd) (qc,qd)=some (gH,(ja,jb))∧Hid (others c.lw e ps' gH ((ia,ib),ja,jb)=some r):=by
      have h1:=HH.out
      rw[if_neg (by simp),if_neg (by simp)] at h1
      obtain⟨ps',h2,h3⟩:=h1
      simp only[if_true,turned] at h3
      cases e1:join lk (pa,pb) (qa,qb) with
      |none=>rw[e1] at h3;cases h3
      |some r1=>
       obtain⟨gX,ia,ib⟩:=r1
       rw[e1] at h3
       dsimp only at h3
       cases e2:join gX (pc,pd) (qc,qd) with
       |none=>rw[e2] at h3;cases h3
       |some r2=>
        obtain⟨gH,ja,jb⟩:=r2
        rw[e2] at h3
        exact⟨ps',gX,ia,ib,gH,ja,jb,h2,rfl,e2,h3⟩
     subst hps
     have HJa:=Nu.hid QL
     have HJb:=Nu.hid hj2
     clear QL hj2 x0 x1 x2 x3 xf z0 z1 z2 z3 r0 r1 r2 r3 Eg
     skip
     have tJ:∀b,((b=b5∨b=b6)∨b=b8)∨b=b9→b<D.val.heap.size:=fun b hb=>by
      have q1:=lt_of_block uo.out
      have q2:=lt_of_block xu.out
      have q3:=lt_of_block Tk.out
      have q4:=IP.out
      omega
     have jM:=Nu.hid (aD.calls B5.out tJ (f:=148) (args:= #[.pointer (some ⟨t,0,none⟩)]) (R:=fun e=>e= .returned (.tuple #[])) (st':={ st with stk:=ps',like:=lk }) (fun hT=>nZ hT rfl (by have:=jN.out;simp at this ⊢;omega)))
     clear tJ
     go_wp2_with (go_at_call 148;refine jM.out.mono ?_;rintro e1 wp ⟨rfl,Hj,hkp⟩;have Th:=Nu.hid Hj;have HP6:=Nu.hid ((hkp b6 (.inl (.inl (.inr rfl)))).trans uo.out);have HP8:=Nu.hid ((hkp b8 (.inl (.inr rfl))).trans xu.out);have HP9:=Nu.hid ((hkp b9 (.inr rfl)).trans Tk.out);clear Hj hkp)
     obtain⟨Wq,jG⟩:∃Wq,Wq=wp.drew:=⟨_,rfl⟩
     have qO:aD c p t W0 O W (fun b=>((b=b5∨b=b6)∨b=b8)∨b=b9) { st with stk:=ps',like:=lk } Wq:=by rw[jG];exact Th.out.drew
     have AQ:Wq.heap[b6]? =some (bY ((0,0),0,0)):=by rw[jG];exact HP6.out
     have qM:Wq.heap[b8]? =some (bY ((pa,pb),pc,pd)):=by rw[jG];exact HP8.out
     have qL:Wq.heap[b9]? =some (bY ((qa,qb),qc,qd)):=by rw[jG];exact HP9.out
     have hB1:∀b,((b=b5∨b=b6)∨b=b8)∨b=b9→b<Wq.heap.size:=fun b hb=>by
      have q1:=lt_of_block AQ
      have q2:=lt_of_block qM
      have q3:=lt_of_block qL
      have q4:=IP.out
      omega
     have HJ1:=Nu.hid (aD.calls qO hB1 (f:=169) (args:= #[.pointer (some ⟨t,1,none⟩),dG (pa,pb),dG (qa,qb)]) (R:=fun e=>e= .returned (dG (ia,ib))) (st':={ st with stk:=ps',like:=gX }) (fun hT=>jW hT HJa.out))
     have Sx:Hid (∀V,V=Wq∨(fun V=>aD c p t W0 O W (fun b=>((b=b5∨b=b6)∨b=b8)∨b=b9) { st with stk:=ps',like:=gX } V∧∀b,((b=b5∨b=b6)∨b=b8)∨b=b9→V.heap[b]? =Wq.heap[b]?) V→V.cell? ⟨b8,0,none⟩=some (.int .i64 pa)∧V.cell? ⟨b8,1,none⟩=some (.int .i64 pb)∧V.cell? ⟨b9,0,none⟩=some (.int .i64 qa)∧V.cell? ⟨b9,1,none⟩=some (.int .i64 qb)∧∀i,V.frozen? ⟨b8,i,none⟩=false):=fun V hV=>by
      have h8:V.heap[b8]? =some (bY ((pa,pb),pc,pd)):=by
       rcases hV with rfl|hV
       ·exact qM
       ·exact(hV.2 b8 (.inl (.inr rfl))).trans qM
      have h9:V.heap[b9]? =some (bY ((qa,qb),qc,qd)):=by
       rcases hV with rfl|hV
       ·exact qL
       ·exact(hV.2 b9 (.inr rfl)).trans qL
      obtain⟨a0,a1,-,-,af⟩:=au h8
      obtain⟨a2,a3,-,-,-⟩:=au h9
      exact⟨a0,a1,a2,a3,af⟩
     have S3:=Nu.hid AQ
     have S2:=Nu.hid qM
     have S1:=Nu.hid qL
     have Lf:=Nu.hid jG
     clear qO AQ qM qL hB1 jG
     refine wp_region_any (by kernel_rfl) ?_
     change wpAny _ _ _ _ _ _ _ wp.drew
     rw[←Lf.out]
     refine aj.oI (fun j=>match j with|0=> .pointer (some ⟨t,0,none⟩)|1=> .pointer (some ⟨t,0,none⟩)|2=> .pointer (some ⟨t,1,none⟩)|3=> .pointer (some ⟨b8,0,none⟩)|4=> .agg #[.int .i64 pa,.int .i64 pb]|5=> .pointer (some ⟨b9,0,none⟩)|6=> .agg #[.int .i64 qa,.int .i64 qb]|7=> .agg #[.int .i64 ia,.int .i64 ib]|8=> .pointer (some ⟨b8,0,none⟩)|_=>undef) (AnyM.cH (fun V=>V=Wq) [(9,(fun V'=>∃V,(fun V=>aD c p t W0 O W (fun b=>((b=b5∨b=b6)∨b=b8)∨b=b9) { st with stk:=ps',like:=gX } V∧∀b,((b=b5∨b=b6)∨b=b8)∨b=b9→V.heap[b]? =Wq.heap[b]?) V∧V'=((V.setCell ⟨b8,0,none⟩ (.int .i64 ia)).setCell ⟨b8,1,none⟩ (.int .i64 ib)))),(7,(fun V=>aD c p t W0 O W (fun b=>((b=b5∨b=b6)∨b=b8)∨b=b9) { st with stk:=ps',like:=gX } V∧∀b,((b=b5∨b=b6)∨b=b8)∨b=b9→V.heap[b]? =Wq.heap[b]?))]) 61 rfl (by kernel_rfl) rfl ?_ ?_
     ·intro j o' Ls V ev ho bO hC bU hdc aA aR kW iQ
      have hc:j=0∨j=1∨j=2∨j=3∨j=4∨j=5∨j=6∨j=7∨j=8∨j=9:=by
       have:j<10:=(Array.getElem?_eq_some_iff.1 ho).1
       omega
      have hst:Ls 9=false:=by
       cases h:Ls 9 with
       |false=>rfl
       |true=>
        exfalso
        have hq:Ls j=true:=by
         rcases hc with rfl|rfl|rfl|rfl|rfl|rfl|rfl|rfl|rfl|rfl
         ·exact hdc 9 _ rfl h ⟨0,.phase⟩ (by simp) rfl
         ·exact hdc 9 _ rfl h ⟨1,.phase⟩ (by simp) rfl
         ·exact hdc 9 _ rfl h ⟨2,.phase⟩ (by simp) rfl
         ·exact hdc 9 _ rfl h ⟨3,.phase⟩ (by simp) rfl
         ·exact hdc 9 _ rfl h ⟨4,.phase⟩ (by simp) rfl
         ·exact hdc 9 _ rfl h ⟨5,.phase⟩ (by simp) rfl
         ·exact hdc 9 _ rfl h ⟨6,.phase⟩ (by simp) rfl
         ·exact hdc 9 _ rfl h ⟨7,.phase⟩ (by simp) rfl
         ·exact hdc 9 _ rfl h ⟨8,.data⟩ (by simp) rfl
         ·exact h
        rw[bO] at hq
        cases hq
      have qU:V=Wq∨((fun V=>aD c p t W0 O W (fun b=>((b=b5∨b=b6)∨b=b8)∨b=b9) { st with stk:=ps',like:=gX } V∧∀b,((b=b5∨b=b6)∨b=b8)∨b=b9→V.heap[b]? =Wq.heap[b]?)) V:=by
       simp only[AnyM.cH,hst,Bool.false_eq_true,if_false] at hC
       split at hC
       ·exact .inr hC
       ·exact .inl hC
      obtain⟨k1,k2,k3,k4,kf⟩:=Sx.out V qU
      rcases hc with rfl|rfl|rfl|rfl|rfl|rfl|rfl|rfl|rfl|rfl<;>obtain rfl:=Option.some.inj ho
      ·have e1:ev (.tmp 0)= .pointer (some ⟨t,0,none⟩):=aR 0 (by kernel_rfl)
       exact aj.ah (v:= .pointer (some ⟨t,0,none⟩)) (w':=V) (by simp[execOp,go_sem,e1]) ⟨rfl,AnyM.aW rfl hC⟩
      ·have e1:ev (.tmp 42)= .pointer (some ⟨t,0,none⟩):=aA 0 42 (by omega) rfl (by decide)
       exact aj.ah (v:= .pointer (some ⟨t,0,none⟩)) (w':=V) (by simp[execOp,go_sem,e1]) ⟨rfl,AnyM.aW rfl hC⟩
      ·have e1:ev (.tmp 43)= .pointer (some ⟨t,0,none⟩):=aA 1 43 (by omega) rfl (by decide)
       exact aj.ah (v:= .pointer (some ⟨t,1,none⟩)) (w':=V) (by simp[execOp,go_sem,e1]) ⟨rfl,AnyM.aW rfl hC⟩
      ·have e1:ev (.tmp 8)= .pointer (some ⟨b8,0,none⟩):=aR 8 (by kernel_rfl)
       exact aj.ah (v:= .pointer (some ⟨b8,0,none⟩)) (w':=V) (by simp[execOp,go_sem,e1]) ⟨rfl,AnyM.aW rfl hC⟩
      ·have e1:ev (.tmp 45)= .pointer (some ⟨b8,0,none⟩):=aA 3 45 (by omega) rfl (by decide)
       exact aj.ah (v:= .agg #[.int .i64 pa,.int .i64 pb]) (w':=V) (by simp[execOp,go_sem,e1,k1,k2]) ⟨rfl,AnyM.aW rfl hC⟩
      ·have e1:ev (.tmp 9)= .pointer (some ⟨b9,0,none⟩):=aR 9 (by kernel_rfl)
       exact aj.ah (v:= .pointer (some ⟨b9,0,none⟩)) (w':=V) (by simp[execOp,go_sem,e1]) ⟨rfl,AnyM.aW rfl hC⟩
      ·have e1:ev (.tmp 47)= .pointer (some ⟨b9,0,none⟩):=aA 5 47 (by omega) rfl (by decide)
       exact aj.ah (v:= .agg #[.int .i64 qa,.int .i64 qb]) (w':=V) (by simp[execOp,go_sem,e1,k3,k4]) ⟨rfl,AnyM.aW rfl hC⟩
      ·have e1:ev (.tmp 44)= .pointer (some ⟨t,1,none⟩):=aA 2 44 (by omega) rfl (by decide)
       have e2:ev (.tmp 46)= .agg #[.int .i64 pa,.int .i64 pb]:=aA 4 46 (by omega) rfl (by decide)
       have e3:ev (.tmp 48)= .agg #[.int .i64 qa,.int .i64 qb]:=aA 6 48 (by omega) rfl (by decide)
       have iD:V=Wq:=by
        simp only[AnyM.cH,hst,bO,Bool.false_eq_true,if_false] at hC
        exact hC
       rw[iD]
       refine AnyM.g9 (v:= .agg #[.int .i64 ia,.int .i64 ib]) (by simp[execOp,go_sem,e1,e2,e3,iQ]) HJ1.out (fun w2 hw2=>⟨rfl,?_⟩)
       simp only[AnyM.cH,aj.bQ]
       simp[hst]
       exact hw2
      ·have e1:ev (.tmp 8)= .pointer (some ⟨b8,0,none⟩):=aR 8 (by kernel_rfl)
       exact aj.ah (v:= .pointer (some ⟨b8,0,none⟩)) (w':=V) (by simp[execOp,go_sem,e1]) ⟨rfl,AnyM.aW rfl hC⟩
      ·have e1:ev (.tmp 50)= .pointer (some ⟨b8,0,none⟩):=aA 8 50 (by omega) rfl (by decide)
       have e2:ev (.tmp 49)= .agg #[.int .i64 ia,.int .i64 ib]:=aA 7 49 (by omega) rfl (by decide)
       have hp:Ls 7=true:=bU ⟨7,.data⟩ (by simp) rfl
       have hQ:((fun V=>aD c p t W0 O W (fun b=>((b=b5∨b=b6)∨b=b8)∨b=b9) { st with stk:=ps',like:=gX } V∧∀b,((b=b5∨b=b6)∨b=b8)∨b=b9→V.heap[b]? =Wq.heap[b]?)) V:=by
        simp only[AnyM.cH,bO,hp,Bool.false_eq_true,if_false,if_true] at hC
        exact hC
       refine aj.bF (w':=((V.setCell ⟨b8,0,none⟩ (.int .i64 ia)).setCell ⟨b8,1,none⟩ (.int .i64 ib))) (by simp[execOp,go_sem,e1,e2,k1,k2,kf]) ⟨rfl,?_⟩
       simp only[AnyM.cH,aj.bQ]
       simp only[if_true]
       exact⟨V,hQ,rfl⟩
     ·intro Ls V hall hC
      unfold AnyM.cH at hC
      rw[if_pos (hall 9 (by decide))] at hC
      obtain⟨V6,⟨eZ,kL⟩,rfl⟩:=hC
      simp only[aj.canon,aj.dst,Array.size,List.length_cons,List.length_nil]
      simp[Act.put]
      have AX:=(eZ.set (b:=b8) (i:=0) (.inl (.inr rfl)) (.int .i64 ia)).set (b:=b8) (i:=1) (.inl (.inr rfl)) (.int .i64 ib)
      have Qd:=Bf ((kL b8 (.inl (.inr rfl))).trans S2.out) (.int .i64 ia) (.int .i64 ib)
      obtain⟨n96,YQ⟩:=VB.out
      have Qe:=(eF (w:=V6) (b:=b8) (k:=b6) (fun e=>HN.out.2 e) (.int .i64 ia) (.int .i64 ib)).trans ((kL b6 (.inl (.inl (.inr rfl)))).trans S3.out)
      have Qc:=(eF (w:=V6) (b:=b8) (k:=b9) YQ (.int .i64 ia) (.int .i64 ib)).trans ((kL b9 (.inr rfl)).trans S1.out)
      generalize (V6.setCell ⟨b8,0,none⟩ (.int .i64 ia)).setCell ⟨b8,1,none⟩ (.int .i64 ib)=V7 at*
      have Tg:=Nu.hid AX
      have HR6:=Nu.hid Qe
      have HR8:=Nu.hid Qd
      have HR9:=Nu.hid Qc
      clear AX Qe Qd Qc eZ kL
      go_wp2_with fail
      obtain⟨Wr,sq⟩:∃Wr,Wr=V7.drew:=⟨_,rfl⟩
      have Hi:aD c p t W0 O W (fun b=>((b=b5∨b=b6)∨b=b8)∨b=b9) { st with stk:=ps',like:=gX } Wr:=by rw[sq];exact Tg.out.drew
      have AO:Wr.heap[b6]? =some (bY ((0,0),0,0)):=by rw[sq];exact HR6.out
      have qK:Wr.heap[b8]? =some (bY ((ia,ib),pc,pd)):=by rw[sq];exact HR8.out
      have uS:Wr.heap[b9]? =some (bY ((qa,qb),qc,qd)):=by rw[sq];exact HR9.out
      have hB2:∀b,((b=b5∨b=b6)∨b=b8)∨b=b9→b<Wr.heap.size:=fun b hb=>by
       have q1:=lt_of_block AO
       have q2:=lt_of_block qK
       have q3:=lt_of_block uS
       have q4:=IP.out
       omega
      have HJ2:=Nu.hid (aD.calls Hi hB2 (f:=169) (args:= #[.pointer (some ⟨t,1,none⟩),dG (pc,pd),dG (qc,qd)]) (R:=fun e=>e= .returned (dG (ja,jb))) (st':={ st with stk:=ps',like:=gH }) (fun hT=>jW hT HJb.out))
      have HV2:Hid (∀V,V=Wr∨(fun V=>aD c p t W0 O W (fun b=>((b=b5∨b=b6)∨b=b8)∨b=b9) { st with stk:=ps',like:=gH } V∧∀b,((b=b5∨b=b6)∨b=b8)∨b=b9→V.heap[b]? =Wr.heap[b]?) V→V.cell? ⟨b8,2,none⟩=some (.int .i64 pc)∧V.cell? ⟨b8,3,none⟩=some (.int .i64 pd)∧V.cell? ⟨b9,2,none⟩=some (.int .i64 qc)∧V.cell? ⟨b9,3,none⟩=some (.int .i64 qd)∧∀i,V.frozen? ⟨b8,i,none⟩=false):=fun V hV=>by
       have h8:V.heap[b8]? =some (bY ((ia,ib),pc,pd)):=by
        rcases hV with rfl|hV
        ·exact qK
        ·exact(hV.2 b8 (.inl (.inr rfl))).trans qK
       have h9:V.heap[b9]? =some (bY ((qa,qb),qc,qd)):=by
        rcases hV with rfl|hV
        ·exact uS
        ·exact(hV.2 b9 (.inr rfl)).trans uS
       obtain⟨-,-,a0,a1,af⟩:=au h8
       obtain⟨-,-,a2,a3,-⟩:=au h9
       exact⟨a0,a1,a2,a3,af⟩
      have SZ:=Nu.hid AO
      have SY:=Nu.hid qK
      have nT:=Nu.hid sq
      clear Hi AO qK uS hB2 sq
      refine wp_region_any (by kernel_rfl) ?_
      change wpAny _ _ _ _ _ _ _ V7.drew
      rw[←nT.out]
      refine aj.oI (fun j=>match j with|0=> .pointer (some ⟨t,0,none⟩)|1=> .pointer (some ⟨t,0,none⟩)|2=> .pointer (some ⟨t,1,none⟩)|3=> .pointer (some ⟨b8,2,none⟩)|4=> .agg #[.int .i64 pc,.int .i64 pd]|5=> .pointer (some ⟨b9,2,none⟩)|6=> .agg #[.int .i64 qc,.int .i64 qd]|7=> .agg #[.int .i64 ja,.int .i64 jb]|8=> .pointer (some ⟨b8,2,none⟩)|_=>undef) (AnyM.cH (fun V=>V=Wr) [(9,(fun V'=>∃V,(fun V=>aD c p t W0 O W (fun b=>((b=b5∨b=b6)∨b=b8)∨b=b9) { st with stk:=ps',like:=gH } V∧∀b,((b=b5∨b=b6)∨b=b8)∨b=b9→V.heap[b]? =Wr.heap[b]?) V∧V'=((V.setCell ⟨b8,2,none⟩ (.int .i64 ja)).setCell ⟨b8,3,none⟩ (.int .i64 jb)))),(7,(fun V=>aD c p t W0 O W (fun b=>((b=b5∨b=b6)∨b=b8)∨b=b9) { st with stk:=ps',like:=gH } V∧∀b,((b=b5∨b=b6)∨b=b8)∨b=b9→V.heap[b]? =Wr.heap[b]?))]) 61 rfl (by kernel_rfl) rfl ?_ ?_
      ·intro j o' Ls V ev ho bO hC bU hdc aA aR kW iQ
       have hc:j=0∨j=1∨j=2∨j=3∨j=4∨j=5∨j=6∨j=7∨j=8∨j=9:=by
        have:j<10:=(Array.getElem?_eq_some_iff.1 ho).1
        omega
       have hst:Ls 9=false:=by
        cases h:Ls 9 with
        |false=>rfl
        |true=>
         exfalso
         have hq:Ls j=true:=by
          rcases hc with rfl|rfl|rfl|rfl|rfl|rfl|rfl|rfl|rfl|rfl
          ·exact hdc 9 _ rfl h ⟨0,.phase⟩ (by simp) rfl
          ·exact hdc 9 _ rfl h ⟨1,.phase⟩ (by simp) rfl
          ·exact hdc 9 _ rfl h ⟨2,.phase⟩ (by simp) rfl
          ·exact hdc 9 _ rfl h ⟨3,.phase⟩ (by simp) rfl
          ·exact hdc 9 _ rfl h ⟨4,.phase⟩ (by simp) rfl
          ·exact hdc 9 _ rfl h ⟨5,.phase⟩ (by simp) rfl
          ·exact hdc 9 _ rfl h ⟨6,.phase⟩ (by simp) rfl
          ·exact hdc 9 _ rfl h ⟨7,.phase⟩ (by simp) rfl
          ·exact hdc 9 _ rfl h ⟨8,.data⟩ (by simp) rfl
          ·exact h
         rw[bO] at hq
         cases hq
       have qU:V=Wr∨((fun V=>aD c p t W0 O W (fun b=>((b=b5∨b=b6)∨b=b8)∨b=b9) { st with stk:=ps',like:=gH } V∧∀b,((b=b5∨b=b6)∨b=b8)∨b=b9→V.heap[b]? =Wr.heap[b]?)) V:=by
        simp only[AnyM.cH,hst,Bool.false_eq_true,if_false] at hC
        split at hC
        ·exact .inr hC
        ·exact .inl hC
       obtain⟨k1,k2,k3,k4,kf⟩:=HV2.out V qU
       rcases hc with rfl|rfl|rfl|rfl|rfl|rfl|rfl|rfl|rfl|rfl<;>obtain rfl:=Option.some.inj ho
       ·have e1:ev (.tmp 0)= .pointer (some ⟨t,0,none⟩):=aR 0 (by kernel_rfl)
        exact aj.ah (v:= .pointer (some ⟨t,0,none⟩)) (w':=V) (by simp[execOp,go_sem,e1]) ⟨rfl,AnyM.aW rfl hC⟩
       ·have e1:ev (.tmp 51)= .pointer (some ⟨t,0,none⟩):=aA 0 51 (by omega) rfl (by decide)
        exact aj.ah (v:= .pointer (some ⟨t,0,none⟩)) (w':=V) (by simp[execOp,go_sem,e1]) ⟨rfl,AnyM.aW rfl hC⟩
       ·have e1:ev (.tmp 52)= .pointer (some ⟨t,0,none⟩):=aA 1 52 (by omega) rfl (by decide)
        exact aj.ah (v:= .pointer (some ⟨t,1,none⟩)) (w':=V) (by simp[execOp,go_sem,e1]) ⟨rfl,AnyM.aW rfl hC⟩
       ·have e1:ev (.tmp 8)= .pointer (some ⟨b8,0,none⟩):=aR 8 (by kernel_rfl)
        exact aj.ah (v:= .pointer (some ⟨b8,2,none⟩)) (w':=V) (by simp[execOp,go_sem,e1]) ⟨rfl,AnyM.aW rfl hC⟩
       ·have e1:ev (.tmp 54)= .pointer (some ⟨b8,2,none⟩):=aA 3 54 (by omega) rfl (by decide)
        exact aj.ah (v:= .agg #[.int .i64 pc,.int .i64 pd]) (w':=V) (by simp[execOp,go_sem,e1,k1,k2]) ⟨rfl,AnyM.aW rfl hC⟩
       ·have e1:ev (.tmp 9)= .pointer (some ⟨b9,0,none⟩):=aR 9 (by kernel_rfl)
        exact aj.ah (v:= .pointer (some ⟨b9,2,none⟩)) (w':=V) (by simp[execOp,go_sem,e1]) ⟨rfl,AnyM.aW rfl hC⟩
       ·have e1:ev (.tmp 56)= .pointer (some ⟨b9,2,none⟩):=aA 5 56 (by omega) rfl (by decide)
        exact aj.ah (v:= .agg #[.int .i64 qc,.int .i64 qd]) (w':=V) (by simp[execOp,go_sem,e1,k3,k4]) ⟨rfl,AnyM.aW rfl hC⟩
       ·have e1:ev (.tmp 53)= .pointer (some ⟨t,1,none⟩):=aA 2 53 (by omega) rfl (by decide)
        have e2:ev (.tmp 55)= .agg #[.int .i64 pc,.int .i64 pd]:=aA 4 55 (by omega) rfl (by decide)
        have e3:ev (.tmp 57)= .agg #[.int .i64 qc,.int .i64 qd]:=aA 6 57 (by omega) rfl (by decide)
        have iD:V=Wr:=by
         simp only[AnyM.cH,hst,bO,Bool.false_eq_true,if_false] at hC
         exact hC
        rw[iD]
        refine AnyM.g9 (v:= .agg #[.int .i64 ja,.int .i64 jb]) (by simp[execOp,go_sem,e1,e2,e3,iQ]) HJ2.out (fun w2 hw2=>⟨rfl,?_⟩)
        simp only[AnyM.cH,aj.bQ]
        simp[hst]
        exact hw2
       ·have e1:ev (.tmp 8)= .pointer (some ⟨b8,0,none⟩):=aR 8 (by kernel_rfl)
        exact aj.ah (v:= .pointer (some ⟨b8,2,none⟩)) (w':=V) (by simp[execOp,go_sem,e1]) ⟨rfl,AnyM.aW rfl hC⟩
       ·have e1:ev (.tmp 59)= .pointer (some ⟨b8,2,none⟩):=aA 8 59 (by omega) rfl (by decide)
        have e2:ev (.tmp 58)= .agg #[.int .i64 ja,.int .i64 jb]:=aA 7 58 (by omega) rfl (by decide)
        have hp:Ls 7=true:=bU ⟨7,.data⟩ (by simp) rfl
        have hQ:((fun V=>aD c p t W0 O W (fun b=>((b=b5∨b=b6)∨b=b8)∨b=b9) { st with stk:=ps',like:=gH } V∧∀b,((b=b5∨b=b6)∨b=b8)∨b=b9→V.heap[b]? =Wr.heap[b]?)) V:=by
         simp only[AnyM.cH,bO,hp,Bool.false_eq_true,if_false,if_true] at hC
         exact hC
        refine aj.bF (w':=((V.setCell ⟨b8,2,none⟩ (.int .i64 ja)).setCell ⟨b8,3,none⟩ (.int .i64 jb))) (by simp[execOp,go_sem,e1,e2,k1,k2,kf]) ⟨rfl,?_⟩
        simp only[AnyM.cH,aj.bQ]
        simp only[if_true]
        exact⟨V,hQ,rfl⟩
      ·intro Ls V hall hC
       unfold AnyM.cH at hC
       rw[if_pos (hall 9 (by decide))] at hC
       obtain⟨V8,⟨xW,Hh⟩,rfl⟩:=hC
       simp only[aj.canon,aj.dst,Array.size,List.length_cons,List.length_nil]
       simp[Act.put]
       go_wp2
       go_roundw
       case rel=>
        refine⟨ps',gH,((ia,ib),ja,jb),((xW.less (B':=(fun b=>(b=b5∨b=b6)∨b=b8)) (fun _ hb=> .inl hb)).set (.inr rfl) _).set (.inr rfl) _,?_,Bg ((Hh b8 (.inl (.inr rfl))).trans SY.out) _ _,ru.out,by have:=jN.out;simp at this;omega⟩
        have Ia:b6≠b8:=fun e=>HN.out.2 e
        rw[heap_setCell_other _ ⟨b8,3,none⟩ b6 _ Ia,heap_setCell_other _ ⟨b8,2,none⟩ b6 _ Ia]
        exact(Hh b6 (.inl (.inl (.inr rfl)))).trans SZ.out
       case measure=>
        have h1:=((xW.set (b:=b8) (i:=2) (.inl (.inr rfl)) (.int .i64 ja)).set (b:=b8) (i:=3) (.inl (.inr rfl)) (.int .i64 jb)).dQ
        have h2:=Yh.out.dQ
        rw[h2]
        refine Nat.lt_of_le_of_lt (Nat.le_of_eq (show _=ps'.length from h1)) ?_
        simp
    ·have hr:r=none:=by
      have h1:=HH.out
      rw[if_pos ⟨rfl,rfl⟩] at h1
      exact h1
     have HR:=Nu.hid hr
     clear hr
     go_wp2
     refine bodyPost_ret (v:= .tuple #[fL ((pa,pb),pc,pd),.bool false]) (by simp[results,Tryz.results162,go_sem,r0,r1,r2,r3]) rfl ?_
     rw[HR.out]
     exact⟨_,_,rfl,Eg.out⟩
end
end
end Go.Proofs.YtnhcggfbkoppnaaGreat
