import Derived.Test.YtdjmnpmdmjclhabGreatMg22
import Derived.Test.YtdjmnpmdmjclhabGreatMg23
namespace Go.Proofs.YtdjmnpmdmjclhabGreat
section
open Go.RowKit Lt
def Ki (oa ob:Int):Nat→aj.nJ
 |0=>⟨[],fun v _ _ _ _=>v=dF aO⟩
 |1=>⟨[],fun v _ _ _ _=>v= .agg #[.int .i64 oa,.int .i64 ob]⟩
 |2=>⟨[0,1],fun v _ _ _ _=>v= .agg #[.int .i64 (-1),.int .i64 (-1),.int .i64 oa,.int .i64 ob]⟩
 |_=>⟨[],fun v _ lo hi w=>v= .pointer (some ⟨lo,0,none⟩)∧lo<hi∧w.heap[lo]? =some (bZ ((0,0),0,0))⟩
section
variable {c:Wp} {p t:Nat} {W0 W:World} {O:Nat→Prop} {st:TS} {L U Z:Nat} {vp vw:Value}
def Te (c:Wp) (p t:Nat) (W0:World) (O:Nat→Prop) (W:World) (st:TS) (r:Option (List Pr×List Int×Pr)) (e:Ending) (w':World):Prop:=
 match r with
 |none=>∃q st',e= .returned (.tuple #[fK q,.bool false])∧aT c p t W0 O W st' w'
 |some (ps,aH,q)=>e= .returned (.tuple #[fK q,.bool true])∧aT c p t W0 O W { st with stk:=ps,like:=aH } w'
set_option maxRecDepth 100000 in
set_option maxHeartbeats 16000000 in
theorem DI (h:aR c p t W0 O st L U Z vp vw W) {e:Nat} (oi:Iv) {r:Option (List Pr×List Int×Pr)} (hlen:st.stk.length≤8388607)
 (ho:others c.lw e st.stk st.like (aO,oi)=some r):Calls Tryz.prog 158 #[.pointer (some ⟨t,0,none⟩),.int .i64 (e:Int),dF oi] W (Te c p t W0 O W st r):=by
 obtain⟨oa,ob⟩:=oi
 obtain⟨W1,hW1⟩:∃W1,W1=(W.alloc (.cells #[.int .i64 oa,.int .i64 ob] 141)).alloc (.cells #[.int .i64 0,.int .i64 0,.int .i64 0,.int .i64 0] 143):=⟨_,rfl⟩
 have mQ:aD c p t W0 O W (fun b=>b=W.heap.size∨b=W.heap.size+1) st W1:=by
  rw[hW1]
  refine(((aD.start h).box _).box _).less fun b hb=> ?_
  rcases hb with q|q
  ·exact .inl (.inr q)
  ·exact .inr (by rw[q];simp)
 have hb5:W1.heap[W.heap.size]? =some (kV (oa,ob)):=by
  rw[hW1,aap _ _ _ (by simp)]
  exact heap_alloc_new W _
 have cq:W1.heap[W.heap.size+1]? =some (bZ ((0,0),0,0)):=by
  rw[hW1]
  have:=heap_alloc_new (W.alloc (.cells #[.int .i64 oa,.int .i64 ob] 141)) (bZ ((0,0),0,0))
  rw[aaM] at this
  exact this
 have nN:=Nu.hid mQ
 have jX:=Nu.hid hb5
 have nj:=Nu.hid cq
 have HW:=Nu.hid hW1
 have HHO:=Nu.hid ho
 have HLEN:=Nu.hid hlen
 obtain⟨x0,x1,-⟩:=ay hb5
 clear h mQ hb5 cq hW1 ho hlen
 go_enter Tryz.func158,Tryz.ntmps158
 go_wp2
 go_step3
 go_wp2_with fail
 rw[←HW.out]
 refine wp_region_any (by kernel_rfl) ?_
 have dS:Below W1.heap.size W1 { W1 with drawn:=W1.drawn+1 }:=(aae _ _).drew
 refine aj.afT (Ki oa ob) 4 61 (by decide) rfl (by kernel_rfl) ?_ ?_ ?_
 ·intro i hi v vs lo hi' V V' h1 h2 h3
  have hc:i=0∨i=1∨i=2∨i=3:=by omega
  rcases hc with rfl|rfl|rfl|rfl
  ·exact h3
  ·exact h3
  ·exact h3
  ·exact⟨h3.1,h3.2.1,(h2.block lo (aa7 h3.2.1 h1)).trans h3.2.2⟩
 ·intro i o ρ V ev hi ho hb hd aA aS _ iW
  have hb':Below W1.heap.size W1 V:=dS.trans hb
  obtain⟨y0,y1,-⟩:=ay ((hb'.block _ (lt_of_block jX.out)).trans jX.out)
  have hc:i=0∨i=1∨i=2∨i=3:=by omega
  rcases hc with rfl|rfl|rfl|rfl<;>obtain rfl:=aak ho
  ·exact AnyM.iq (v:=dF aO) (by simp[execOp,go_sem,iW]) (mC V) (fun w2 hw2=>⟨hw2,rfl⟩)
  ·have e1:ev (.tmp 5)= .pointer (some ⟨W.heap.size,0,none⟩):=aS 5 (by kernel_rfl)
   exact aj.ah (v:= .agg #[.int .i64 oa,.int .i64 ob]) (w':=V) (by simp[execOp,go_sem,e1,y0,y1]) ⟨aae _ _,rfl⟩
  ·obtain⟨_,_,_,_,_,r4⟩:=hd 0 (by simp[Ki])
   obtain⟨_,_,_,_,_,r5⟩:=hd 1 (by simp[Ki])
   have e0:ev (.tmp 12)= .agg #[.int .i64 (-1),.int .i64 (-1)]:=(aA 0 12 (by omega) rfl (by decide)).trans r4
   have e1:ev (.tmp 13)= .agg #[.int .i64 oa,.int .i64 ob]:=(aA 1 13 (by omega) rfl (by decide)).trans r5
   exact aj.ah (v:= .agg #[.int .i64 (-1),.int .i64 (-1),.int .i64 oa,.int .i64 ob]) (w':=V) (by simp[execOp,go_sem,e0,e1]) ⟨aae _ _,rfl⟩
  ·refine aj.ah (v:= .pointer (some ⟨V.heap.size,0,none⟩)) (w':=V.alloc (bZ ((0,0),0,0))) ?_ ⟨(aae _ _).alloc (aad _) _,rfl,by simp,heap_alloc_new _ _⟩
   simp[execOp,go_sem]
 ·intro ρ lo hi V a ha BC aA aS hb hd Ed
  have hfr2:a={ tmps:= #[.pointer (some ⟨t,0,none⟩),.int .i64 (e:Int),dF (oa,ob),undef,undef,.pointer (some ⟨W.heap.size,0,none⟩),.pointer (some ⟨W.heap.size+1,0,none⟩),.bool false,ρ 3,undef,undef,undef,ρ 0,ρ 1,ρ 2,undef,undef,undef,undef,undef,undef,undef,undef,undef,undef,undef,undef,undef,undef,undef,undef,undef,undef,undef,undef,undef,undef,undef,undef,undef,undef,undef,undef,undef,undef,undef,undef,undef,undef,undef,undef,undef,undef,undef,undef,undef,undef,undef,undef,undef,undef],defers:=[] }:=by rw[ha];kernel_rfl
  obtain⟨q1,q2,q3,r1,r2,r3⟩:=hd 3 (by omega)
  have p0:ρ 0=dF aO:=(hd 0 (by omega)).2.2.2
  have p1:ρ 1= .agg #[.int .i64 oa,.int .i64 ob]:=(hd 1 (by omega)).2.2.2
  have p2:ρ 2= .agg #[.int .i64 (-1),.int .i64 (-1),.int .i64 oa,.int .i64 ob]:=(hd 2 (by omega)).2.2.2
  obtain⟨b8,dV⟩:∃b8,lo 3=b8:=⟨_,rfl⟩
  rw[dV] at r1 r3
  have hb2:Below W1.heap.size W1 V:=dS.trans hb
  have Ke:W1.heap.size≤b8:=by rw[←dV];exact q1
  rw[p0,p1,p2,r1] at hfr2
  have Rq:=lt_of_block nj.out
  have hl5:=lt_of_block jX.out
  obtain⟨W2,hW2⟩:∃W2,W2=(((V.setCell ⟨b8,0,none⟩ (.int .i64 (-1))).setCell ⟨b8,1,none⟩ (.int .i64 (-1))).setCell ⟨b8,2,none⟩ (.int .i64 oa)).setCell ⟨b8,3,none⟩ (.int .i64 ob):=⟨_,rfl⟩
  have lU:∀b,b≠b8→W2.heap[b]? =V.heap[b]? :=fun b hb=>by
   rw[hW2,heap_setCell_other _ ⟨b8,3,none⟩ b _ hb,heap_setCell_other _ ⟨b8,2,none⟩ b _ hb,heap_setCell_other _ ⟨b8,1,none⟩ b _ hb,heap_setCell_other _ ⟨b8,0,none⟩ b _ hb]
  have fq:Hid (aD c p t W0 O W (fun b=>(b=W.heap.size∨b=W.heap.size+1)∨b=b8) st W2):=by
   have h1:=nN.out.UZ hb2 Ke
   rw[hW2]
   exact(((h1.set (.inr rfl) _).set (.inr rfl) _).set (.inr rfl) _).set (.inr rfl) _
  have HX5:Hid (W2.heap[W.heap.size]? =some (kV (oa,ob))):=(lU _ (by omega)).trans ((hb2.block _ hl5).trans jX.out)
  have LV:Hid (W2.heap[W.heap.size+1]? =some (bZ ((0,0),0,0))):=(lU _ (by omega)).trans ((hb2.block _ Rq).trans nj.out)
  have HX8:Hid (W2.heap[b8]? =some (bZ ((-1,-1),oa,ob))):=by rw[hW2];exact iI r3 _ _ _ _
  have HN:Hid (W.heap.size≠b8∧W.heap.size+1≠b8):=⟨by omega,by omega⟩
  have uD:=Nu.hid r3
  have jD:=Nu.hid hW2
  subst hfr2
  clear ha BC aA aS hb hd Ed p0 p1 p2 r1 r2 r3 q1 q2 q3 Ke dV hl5 Rq hb2 lU hW2 dS
  refine wpAny_ready (rs:=[4]) (by kernel_rfl) (by simp) ?_
  refine AllReady.cons rfl (fun K hK=> ?_) AllReady.nil
  rw[if_pos (by rfl)]
  refine aj.cF.wp (R:=fun _ w'=>w'=W2) ?_ ?_
  ·obtain⟨z0,z1,z2,z3,zf⟩:=au uD.out
   exact aj.bF (w':=W2) (by rw[jD.out];simp[execOp,go_sem,z0,z1,z2,z3,zf]) rfl
  ·rintro v w' rfl
   refine hK _ _ ?_
   clear hK K
   refine wpAny_done (by kernel_rfl) ?_ _
   simp only[Act.put]
   go_wp2_with fail
   go_step3
   obtain⟨b5,hb5⟩:∃b5,W.heap.size=b5:=⟨_,rfl⟩
   obtain⟨b6,cq⟩:∃b6,b5+1=b6:=⟨_,rfl⟩
   rw[hb5] at fq LV HN
   rw[cq] at fq LV HN
   rw[hb5,cq]
   have HQ5:=Nu.hid hb5
   have Jq:=Nu.hid cq
   clear hb5 cq x0 x1 HX5 uD jD nN jX nj HW
   go_wp2_with fail
   go_loopw [9] (fun _ wr=>∃ps lk q,aD c p t W0 O W (fun b=>(b=b5∨b=b6)∨b=b8) { st with stk:=ps,like:=lk } wr∧wr.heap[b6]? =some (bZ ((0,0),0,0))∧wr.heap[b8]? =some (bZ q)∧others c.lw e ps lk q=some r∧ps.length≤8388607) (fun _ wr=>dP t wr)
   case atStart=>exact⟨st.stk,st.like,((-1,-1),oa,ob),fq.out,LV.out,HX8.out,HHO.out,HLEN.out⟩
   case round=>
    obtain⟨ps,lk,q,ig,zi,hx8,ho2,hl2⟩:=hrel
    have Zd:=Nu.hid ig
    have afZ:=Nu.hid zi
    have afY:=Nu.hid hx8
    have jU:=Nu.hid hl2
    have HOW:=Nu.hid ho2
    have hB:∀b,(b=b5∨b=b6)∨b=b8→b<wr.heap.size:=fun b hb=>by
     have q1:=lt_of_block zi
     have q2:=lt_of_block hx8
     have q3:=Jq.out
     omega
    obtain⟨q',hq'⟩:∃q',top ps=q':=⟨_,rfl⟩
    have lY:=Nu.hid (aD.reads ig hB (f:=83) (args:= #[.pointer (some ⟨t,0,none⟩)]) (R:=fun e=>e= .returned (fK q')) (fun hT=>by rw[←hq'];exact iz hT (by dsimp only;omega)))
    obtain⟨l,hl,rr,hr,how⟩:∃l,fT c.lw q'.1 e=some l∧∃rr,fT c.lw q'.2 e=some rr∧(if l=true∧rr=true then r=none else if l=false∧rr=false then r=some (ps,lk,q) else ∃ps',ps=q'::ps'∧(match join lk q.1 (if l=true then q' else turned q').1 with|none=>none|some (eX,i1)=>match join eX q.2 (if l=true then q' else turned q').2 with|none=>none|some (eW,i2)=>others c.lw e ps' eW (i1,i2))=some r):=by
     have h1:=HOW.out
     cases ps with
     |nil=>
      have e1:q'=dG:=hq'.symm
      refine⟨false,by rw[e1];rfl,false,by rw[e1];rfl,?_⟩
      rw[if_neg (by simp),if_pos ⟨rfl,rfl⟩]
      exact(aak h1).symm
     |cons q0 ps=>
      have e1:q0=q':=hq'
      subst e1
      unfold others at h1
      cases hl:fT c.lw q0.1 e with
      |none=>rw[hl] at h1;cases h1
      |some l=>
       cases hr:fT c.lw q0.2 e with
       |none=>rw[hl,hr] at h1;cases l<;>cases h1
       |some rr=>
        refine⟨l,rfl,rr,rfl,?_⟩
        rw[hl,hr] at h1
        cases l<;>cases rr
        ·rw[if_neg (by simp),if_pos ⟨rfl,rfl⟩]
         exact(aak h1).symm
        ·rw[if_neg (by simp),if_neg (by simp)]
         exact⟨ps,rfl,h1⟩
        ·rw[if_neg (by simp),if_neg (by simp)]
         exact⟨ps,rfl,h1⟩
        ·rw[if_pos ⟨rfl,rfl⟩]
         exact(aak h1).symm
    have HHI:Hid (∀(V:World) (i:Iv) (b:Bool),aD c p t W0 O W (fun b=>((b=b5∨b=b6)∨b=b8)∨b=0) { st with stk:=ps,like:=lk } V→True):=fun _ _ _ _=>trivial
    have HH:=Nu.hid how
    obtain⟨⟨qa,qb⟩,qc,qd⟩:=q'
    have HQT:=Nu.hid hq'
    clear HHI how ig zi hx8 ho2 hl2 hq' hB
    go_wp2_with (go_at_call 83;refine lY.out.mono ?_;rintro e w5 ⟨rfl,kX,hk5,-⟩;have JA:=Nu.hid kX;have Gd:=Nu.hid ((hk5 b6 (.inl (.inr rfl))).trans afZ.out);have HE8:=Nu.hid ((hk5 b8 (.inr rfl)).trans afY.out);clear kX hk5)
    obtain⟨b9,gm⟩:∃b9,w5.heap.size=b9:=⟨_,rfl⟩
    obtain⟨W6,vA⟩:∃W6,W6=w5.alloc (bZ ((qa,qb),qc,qd)):=⟨_,rfl⟩
    have eY:aD c p t W0 O W (fun b=>((b=b5∨b=b6)∨b=b8)∨b=b9) { st with stk:=ps,like:=lk } W6:=by
     rw[vA]
     exact(JA.out.box _).less fun b hb=>hb.imp id fun q=>by omega
    have tS:W6.heap[b9]? =some (bZ ((qa,qb),qc,qd)):=by rw[vA,←gm];exact heap_alloc_new _ _
    have Oz:W6.heap[b6]? =some (bZ ((0,0),0,0)):=by rw[vA,aap _ _ _ (lt_of_block Gd.out)];exact Gd.out
    have Oy:W6.heap[b8]? =some (bZ q):=by rw[vA,aap _ _ _ (lt_of_block HE8.out)];exact HE8.out
    have WN:Hid (b9≠b6∧b9≠b8):=by
     have q1:=lt_of_block Gd.out
     have q2:=lt_of_block HE8.out
     exact⟨by omega,by omega⟩
    have HHI:Hid (∀(D:LW W6) (ia ib:Int) (b:Bool),fT c.lw (ia,ib) (e:Int)=some b→Calls Tryz.prog 167 #[.pointer (some ⟨t,0,none⟩),.agg #[.int .i64 ia,.int .i64 ib],.int .i64 (e:Int)] D.val fun r w'=>r= .returned (.bool b)∧Below D.val.heap.size D.val w'):=fun D ia ib b hb=>by
     obtain⟨-,-,O',-,-,L',U',Z',o9,qA,hT⟩:=eY.later D.h
     exact EO (i:=(ia,ib)) hT hb
    have IC:=lt_of_block tS
    have y0:∀D:LW W6,D.val.cell? ⟨b9,0,none⟩=some (.int .i64 qa):=fun D=>(au ((D.h.block _ IC).trans tS)).1
    have y1:∀D:LW W6,D.val.cell? ⟨b9,1,none⟩=some (.int .i64 qb):=fun D=>(au ((D.h.block _ IC).trans tS)).2.1
    have y2:∀D:LW W6,D.val.cell? ⟨b9,2,none⟩=some (.int .i64 qc):=fun D=>(au ((D.h.block _ IC).trans tS)).2.2.1
    have y3:∀D:LW W6,D.val.cell? ⟨b9,3,none⟩=some (.int .i64 qd):=fun D=>(au ((D.h.block _ IC).trans tS)).2.2.2.1
    have hne:=LW.any W6
    have rM:=Nu.hid eY
    have WW:=Nu.hid Oz
    have WV:=Nu.hid Oy
    have Ul:=Nu.hid tS
    have Pg:=Nu.hid vA
    have zH:=Nu.hid hl
    have xM:=Nu.hid hr
    change Code.wp _ _ _ _ (w5.alloc (bZ ((qa,qb),qc,qd)))
    rw[←Pg.out,gm]
    clear eY Oz Oy tS IC vA gm
    refine aB (by kernel_rfl) (by kernel_rfl) ?_
    repeat (go_big_quiet_step ((first|(go_at_call 167;exact Calls.lw (HHI.out _ _ _ _ (by assumption))))))
    refine wpQuiet_nil ?_
    rintro _ ⟨D,rfl⟩
    clear y0 y1 y2 y3
    have Ct:=Nu.hid (rM.out.later D.h)
    have uF:=Nu.hid ((D.h.block _ (lt_of_block WW.out)).trans WW.out)
    have xQ:=Nu.hid ((D.h.block _ (lt_of_block WV.out)).trans WV.out)
    have Gc:=Nu.hid ((D.h.block _ (lt_of_block Ul.out)).trans Ul.out)
    clear hl hr
    obtain⟨⟨pa,pb⟩,pc,pd⟩:=q
    obtain⟨x0,x1,x2,x3,xf⟩:=au uF.out
    obtain⟨z0,z1,z2,z3,-⟩:=au xQ.out
    have EA:Hid (aT c p t W0 O W { st with stk:=ps,like:=lk } ((((D.val.setCell ⟨b6,0,none⟩ (.int .i64 pa)).setCell ⟨b6,1,none⟩ (.int .i64 pb)).setCell ⟨b6,2,none⟩ (.int .i64 pc)).setCell ⟨b6,3,none⟩ (.int .i64 pd))):=((((Ct.out.set (b:=b6) (i:=0) (.inl (.inl (.inr rfl))) (.int .i64 pa)).set (b:=b6) (i:=1) (.inl (.inl (.inr rfl))) (.int .i64 pb)).set (b:=b6) (i:=2) (.inl (.inl (.inr rfl))) (.int .i64 pc)).set (b:=b6) (i:=3) (.inl (.inl (.inr rfl))) (.int .i64 pd)).post
    obtain⟨r0,r1,r2,r3,-⟩:=au (iI uF.out (.int .i64 pa) (.int .i64 pb) (.int .i64 pc) (.int .i64 pd))
    cases l<;>cases rr
    ·have hr:r=some (ps,lk,(pa,pb),pc,pd):=by
      have h1:=HH.out
      rw[if_neg (by simp),if_pos ⟨rfl,rfl⟩] at h1
      exact h1
     have HR:=Nu.hid hr
     clear hr
     go_wp2
     refine bodyPost_ret (v:= .tuple #[fK ((pa,pb),pc,pd),.bool true]) (by simp[results,Tryz.results158,go_sem,r0,r1,r2,r3]) rfl ?_
     rw[HR.out]
     exact⟨rfl,EA.out⟩
    ·skip
     obtain⟨ps',gY,ia,ib,gG,ja,jb,hps,Rw,hj2,rK⟩:∃ps' gY ia ib gG ja jb,ps=((qa,qb),qc,qd)::ps'∧join lk (pa,pb) (qc,qd)=some (gY,(ia,ib))∧join gY (pc,pd) (qa,qb)=some (gG,(ja,jb))∧Hid (others c.lw e ps' gG ((ia,ib),ja,jb)=some r):=by
      have h1:=HH.out
      rw[if_neg (by simp),if_neg (by simp)] at h1
      obtain⟨ps',h2,h3⟩:=h1
      simp only[aau,if_false,turned] at h3
      cases e1:join lk (pa,pb) (qc,qd) with
      |none=>rw[e1] at h3;cases h3
      |some r1=>
       obtain⟨gY,ia,ib⟩:=r1
       rw[e1] at h3
       dsimp only at h3
       cases e2:join gY (pc,pd) (qa,qb) with
       |none=>rw[e2] at h3;cases h3
       |some r2=>
        obtain⟨gG,ja,jb⟩:=r2
        rw[e2] at h3
        exact⟨ps',gY,ia,ib,gG,ja,jb,h2,rfl,e2,h3⟩
     subst hps
     have HJa:=Nu.hid Rw
     have HJb:=Nu.hid hj2
     clear Rw hj2 x0 x1 x2 x3 xf z0 z1 z2 z3 r0 r1 r2 r3 EA
     have HTU:Hid (∀w,Calls Tryz.prog 165 #[fK ((qa,qb),qc,qd)] w fun e w'=>e= .returned (fK ((qc,qd),qa,qb))∧Below w.heap.size w w'):=fun w=>xW ((qa,qb),qc,qd) w
     obtain⟨z0,z1,z2,z3,-⟩:=au Gc.out
     go_wp2_with (go_at_call 165;refine(HTU.out _).mono ?_;rintro e1 wt ⟨rfl,lJ⟩;have agR:=Nu.hid (Ct.out.later lJ);have LZ:=Nu.hid ((lJ.block _ (lt_of_block uF.out)).trans uF.out);have HT8:=Nu.hid ((lJ.block _ (lt_of_block xQ.out)).trans xQ.out);have HT9:=Nu.hid ((lJ.block _ (lt_of_block Gc.out)).trans Gc.out);obtain⟨z0,z1,z2,z3,zf⟩:=au HT9.out;clear lJ)
     have Yh:=(((agR.out.set (b:=b9) (i:=0) (.inr rfl) (.int .i64 qc)).set (b:=b9) (i:=1) (.inr rfl) (.int .i64 qd)).set (b:=b9) (i:=2) (.inr rfl) (.int .i64 qa)).set (b:=b9) (i:=3) (.inr rfl) (.int .i64 qb)
     have hu9:=iI HT9.out (.int .i64 qc) (.int .i64 qd) (.int .i64 qa) (.int .i64 qb)
     have lU:∀b,b≠b9→((((wt.setCell ⟨b9,0,none⟩ (.int .i64 qc)).setCell ⟨b9,1,none⟩ (.int .i64 qd)).setCell ⟨b9,2,none⟩ (.int .i64 qa)).setCell ⟨b9,3,none⟩ (.int .i64 qb)).heap[b]? =wt.heap[b]? :=fun b hb=>by
      rw[heap_setCell_other _ ⟨b9,3,none⟩ b _ hb,heap_setCell_other _ ⟨b9,2,none⟩ b _ hb,heap_setCell_other _ ⟨b9,1,none⟩ b _ hb,heap_setCell_other _ ⟨b9,0,none⟩ b _ hb]
     have HU6:=Nu.hid ((lU b6 (aaR WN.out.1)).trans LZ.out)
     have HU8:=Nu.hid ((lU b8 (aaR WN.out.2)).trans HT8.out)
     have HU9:=Nu.hid hu9
     have agQ:=Nu.hid Yh
     clear lU hu9 Yh z0 z1 z2 z3 zf
     generalize (((wt.setCell ⟨b9,0,none⟩ (.int .i64 qc)).setCell ⟨b9,1,none⟩ (.int .i64 qd)).setCell ⟨b9,2,none⟩ (.int .i64 qa)).setCell ⟨b9,3,none⟩ (.int .i64 qb)=wu at*
     have tT:∀b,((b=b5∨b=b6)∨b=b8)∨b=b9→b<wu.heap.size:=fun b hb=>by
      have q1:=lt_of_block HU6.out
      have q2:=lt_of_block HU8.out
      have q3:=lt_of_block HU9.out
      have q4:=Jq.out
      omega
     have jT:=Nu.hid (aD.calls agQ.out tT (f:=136) (args:= #[.pointer (some ⟨t,0,none⟩)]) (R:=fun e=>e= .returned (.tuple #[])) (st':={ st with stk:=ps',like:=lk }) (fun hT=>ou hT rfl (by have:=jU.out;simp at this ⊢;omega)))
     clear tT
     go_wp2_with (go_at_call 136;refine jT.out.mono ?_;rintro e1 wp ⟨rfl,Ir,hkp⟩;have Ue:=Nu.hid Ir;have HP6:=Nu.hid ((hkp b6 (.inl (.inl (.inr rfl)))).trans HU6.out);have HP8:=Nu.hid ((hkp b8 (.inl (.inr rfl))).trans HU8.out);have HP9:=Nu.hid ((hkp b9 (.inr rfl)).trans HU9.out);clear Ir hkp)
     obtain⟨Wq,jN⟩:∃Wq,Wq=wp.drew:=⟨_,rfl⟩
     have qZ:aD c p t W0 O W (fun b=>((b=b5∨b=b6)∨b=b8)∨b=b9) { st with stk:=ps',like:=lk } Wq:=by rw[jN];exact Ue.out.drew
     have Bf:Wq.heap[b6]? =some (bZ ((0,0),0,0)):=by rw[jN];exact HP6.out
     have qW:Wq.heap[b8]? =some (bZ ((pa,pb),pc,pd)):=by rw[jN];exact HP8.out
     have qV:Wq.heap[b9]? =some (bZ ((qc,qd),qa,qb)):=by rw[jN];exact HP9.out
     have hB1:∀b,((b=b5∨b=b6)∨b=b8)∨b=b9→b<Wq.heap.size:=fun b hb=>by
      have q1:=lt_of_block Bf
      have q2:=lt_of_block qW
      have q3:=lt_of_block qV
      have q4:=Jq.out
      omega
     have HJ1:=Nu.hid (aD.calls qZ hB1 (f:=166) (args:= #[.pointer (some ⟨t,1,none⟩),dF (pa,pb),dF (qc,qd)]) (R:=fun e=>e= .returned (dF (ia,ib))) (st':={ st with stk:=ps',like:=gY }) (fun hT=>kn hT HJa.out))
     have Tr:Hid (∀V,V=Wq∨(fun V=>aD c p t W0 O W (fun b=>((b=b5∨b=b6)∨b=b8)∨b=b9) { st with stk:=ps',like:=gY } V∧∀b,((b=b5∨b=b6)∨b=b8)∨b=b9→V.heap[b]? =Wq.heap[b]?) V→V.cell? ⟨b8,0,none⟩=some (.int .i64 pa)∧V.cell? ⟨b8,1,none⟩=some (.int .i64 pb)∧V.cell? ⟨b9,0,none⟩=some (.int .i64 qc)∧V.cell? ⟨b9,1,none⟩=some (.int .i64 qd)∧∀i,V.frozen? ⟨b8,i,none⟩=false):=fun V hV=>by
      have h8:V.heap[b8]? =some (bZ ((pa,pb),pc,pd)):=by
       rcases hV with rfl|hV
       ·exact qW
       ·exact(hV.2 b8 (.inl (.inr rfl))).trans qW
      have h9:V.heap[b9]? =some (bZ ((qc,qd),qa,qb)):=by
       rcases hV with rfl|hV
       ·exact qV
       ·exact(hV.2 b9 (.inr rfl)).trans qV
      obtain⟨a0,a1,-,-,af⟩:=au h8
      obtain⟨a2,a3,-,-,-⟩:=au h9
      exact⟨a0,a1,a2,a3,af⟩
     have TU:=Nu.hid Bf
     have TT:=Nu.hid qW
     have TR:=Nu.hid qV
     have LX:=Nu.hid jN
     clear qZ Bf qW qV hB1 jN
     refine wp_region_any (by kernel_rfl) ?_
     change wpAny _ _ _ _ _ _ _ wp.drew
     rw[←LX.out]
     refine aj.oK (fun j=>match j with|0=> .pointer (some ⟨t,0,none⟩)|1=> .pointer (some ⟨t,0,none⟩)|2=> .pointer (some ⟨t,1,none⟩)|3=> .pointer (some ⟨b8,0,none⟩)|4=> .agg #[.int .i64 pa,.int .i64 pb]|5=> .pointer (some ⟨b9,0,none⟩)|6=> .agg #[.int .i64 qc,.int .i64 qd]|7=> .agg #[.int .i64 ia,.int .i64 ib]|8=> .pointer (some ⟨b8,0,none⟩)|_=>undef) (AnyM.cI (fun V=>V=Wq) [(9,(fun V'=>∃V,(fun V=>aD c p t W0 O W (fun b=>((b=b5∨b=b6)∨b=b8)∨b=b9) { st with stk:=ps',like:=gY } V∧∀b,((b=b5∨b=b6)∨b=b8)∨b=b9→V.heap[b]? =Wq.heap[b]?) V∧V'=((V.setCell ⟨b8,0,none⟩ (.int .i64 ia)).setCell ⟨b8,1,none⟩ (.int .i64 ib)))),(7,(fun V=>aD c p t W0 O W (fun b=>((b=b5∨b=b6)∨b=b8)∨b=b9) { st with stk:=ps',like:=gY } V∧∀b,((b=b5∨b=b6)∨b=b8)∨b=b9→V.heap[b]? =Wq.heap[b]?))]) 61 rfl (by kernel_rfl) rfl ?_ ?_
     ·intro j o' Ls V ev ho bP hC bU hdc aA aS lG iW
      have hc:j=0∨j=1∨j=2∨j=3∨j=4∨j=5∨j=6∨j=7∨j=8∨j=9:=by
       have:j<10:=(aam.1 ho).1
       omega
      have hst:Ls 9=false:=by
       cases h:Ls 9 with
       |false=>rfl
       |true=>
        exfalso
        have hq:Ls j=true:=by
         rcases hc with rfl|rfl|rfl|rfl|rfl|rfl|rfl|rfl|rfl|rfl
         ·exact hdc 9 _ rfl h ⟨0,.phase⟩ (by simp) rfl
         ·exact hdc 9 _ rfl h ⟨1,.phase⟩ (by simp) rfl
         ·exact hdc 9 _ rfl h ⟨2,.phase⟩ (by simp) rfl
         ·exact hdc 9 _ rfl h ⟨3,.phase⟩ (by simp) rfl
         ·exact hdc 9 _ rfl h ⟨4,.phase⟩ (by simp) rfl
         ·exact hdc 9 _ rfl h ⟨5,.phase⟩ (by simp) rfl
         ·exact hdc 9 _ rfl h ⟨6,.phase⟩ (by simp) rfl
         ·exact hdc 9 _ rfl h ⟨7,.phase⟩ (by simp) rfl
         ·exact hdc 9 _ rfl h ⟨8,.data⟩ (by simp) rfl
         ·exact h
        rw[bP] at hq
        cases hq
      have rj:V=Wq∨((fun V=>aD c p t W0 O W (fun b=>((b=b5∨b=b6)∨b=b8)∨b=b9) { st with stk:=ps',like:=gY } V∧∀b,((b=b5∨b=b6)∨b=b8)∨b=b9→V.heap[b]? =Wq.heap[b]?)) V:=by
       simp only[AnyM.cI,hst,aau,if_false] at hC
       split at hC
       ·exact .inr hC
       ·exact .inl hC
      obtain⟨k1,k2,k3,k4,kf⟩:=Tr.out V rj
      rcases hc with rfl|rfl|rfl|rfl|rfl|rfl|rfl|rfl|rfl|rfl<;>obtain rfl:=aak ho
      ·have e1:ev (.tmp 0)= .pointer (some ⟨t,0,none⟩):=aS 0 (by kernel_rfl)
       exact aj.ah (v:= .pointer (some ⟨t,0,none⟩)) (w':=V) (by simp[execOp,go_sem,e1]) ⟨rfl,AnyM.aV rfl hC⟩
      ·have e1:ev (.tmp 42)= .pointer (some ⟨t,0,none⟩):=aA 0 42 (by omega) rfl (by decide)
       exact aj.ah (v:= .pointer (some ⟨t,0,none⟩)) (w':=V) (by simp[execOp,go_sem,e1]) ⟨rfl,AnyM.aV rfl hC⟩
      ·have e1:ev (.tmp 43)= .pointer (some ⟨t,0,none⟩):=aA 1 43 (by omega) rfl (by decide)
       exact aj.ah (v:= .pointer (some ⟨t,1,none⟩)) (w':=V) (by simp[execOp,go_sem,e1]) ⟨rfl,AnyM.aV rfl hC⟩
      ·have e1:ev (.tmp 8)= .pointer (some ⟨b8,0,none⟩):=aS 8 (by kernel_rfl)
       exact aj.ah (v:= .pointer (some ⟨b8,0,none⟩)) (w':=V) (by simp[execOp,go_sem,e1]) ⟨rfl,AnyM.aV rfl hC⟩
      ·have e1:ev (.tmp 45)= .pointer (some ⟨b8,0,none⟩):=aA 3 45 (by omega) rfl (by decide)
       exact aj.ah (v:= .agg #[.int .i64 pa,.int .i64 pb]) (w':=V) (by simp[execOp,go_sem,e1,k1,k2]) ⟨rfl,AnyM.aV rfl hC⟩
      ·have e1:ev (.tmp 9)= .pointer (some ⟨b9,0,none⟩):=aS 9 (by kernel_rfl)
       exact aj.ah (v:= .pointer (some ⟨b9,0,none⟩)) (w':=V) (by simp[execOp,go_sem,e1]) ⟨rfl,AnyM.aV rfl hC⟩
      ·have e1:ev (.tmp 47)= .pointer (some ⟨b9,0,none⟩):=aA 5 47 (by omega) rfl (by decide)
       exact aj.ah (v:= .agg #[.int .i64 qc,.int .i64 qd]) (w':=V) (by simp[execOp,go_sem,e1,k3,k4]) ⟨rfl,AnyM.aV rfl hC⟩
      ·have e1:ev (.tmp 44)= .pointer (some ⟨t,1,none⟩):=aA 2 44 (by omega) rfl (by decide)
       have e2:ev (.tmp 46)= .agg #[.int .i64 pa,.int .i64 pb]:=aA 4 46 (by omega) rfl (by decide)
       have e3:ev (.tmp 48)= .agg #[.int .i64 qc,.int .i64 qd]:=aA 6 48 (by omega) rfl (by decide)
       have iG:V=Wq:=by
        simp only[AnyM.cI,hst,bP,aau,if_false] at hC
        exact hC
       rw[iG]
       refine AnyM.iq (v:= .agg #[.int .i64 ia,.int .i64 ib]) (by simp[execOp,go_sem,e1,e2,e3,iW]) HJ1.out (fun w2 hw2=>⟨rfl,?_⟩)
       simp only[AnyM.cI,aj.bR]
       simp[hst]
       exact hw2
      ·have e1:ev (.tmp 8)= .pointer (some ⟨b8,0,none⟩):=aS 8 (by kernel_rfl)
       exact aj.ah (v:= .pointer (some ⟨b8,0,none⟩)) (w':=V) (by simp[execOp,go_sem,e1]) ⟨rfl,AnyM.aV rfl hC⟩
      ·have e1:ev (.tmp 50)= .pointer (some ⟨b8,0,none⟩):=aA 8 50 (by omega) rfl (by decide)
       have e2:ev (.tmp 49)= .agg #[.int .i64 ia,.int .i64 ib]:=aA 7 49 (by omega) rfl (by decide)
       have hp:Ls 7=true:=bU ⟨7,.data⟩ (by simp) rfl
       have hQ:((fun V=>aD c p t W0 O W (fun b=>((b=b5∨b=b6)∨b=b8)∨b=b9) { st with stk:=ps',like:=gY } V∧∀b,((b=b5∨b=b6)∨b=b8)∨b=b9→V.heap[b]? =Wq.heap[b]?)) V:=by
        simp only[AnyM.cI,bP,hp,aau,if_false,if_true] at hC
        exact hC
       refine aj.bF (w':=((V.setCell ⟨b8,0,none⟩ (.int .i64 ia)).setCell ⟨b8,1,none⟩ (.int .i64 ib))) (by simp[execOp,go_sem,e1,e2,k1,k2,kf]) ⟨rfl,?_⟩
       simp only[AnyM.cI,aj.bR]
       simp only[if_true]
       exact⟨V,hQ,rfl⟩
     ·intro Ls V hall hC
      unfold AnyM.cI at hC
      rw[if_pos (hall 9 (by decide))] at hC
      obtain⟨V6,⟨eY,kW⟩,rfl⟩:=hC
      simp only[aj.canon,aj.dst,Array.size,aar,aaS]
      simp[Act.put]
      have Bo:=(eY.set (b:=b8) (i:=0) (.inl (.inr rfl)) (.int .i64 ia)).set (b:=b8) (i:=1) (.inl (.inr rfl)) (.int .i64 ib)
      have QV:=BK ((kW b8 (.inl (.inr rfl))).trans TT.out) (.int .i64 ia) (.int .i64 ib)
      obtain⟨n96,ZV⟩:=WN.out
      have QW:=(eG (w:=V6) (b:=b8) (k:=b6) (fun e=>HN.out.2 e) (.int .i64 ia) (.int .i64 ib)).trans ((kW b6 (.inl (.inl (.inr rfl)))).trans TU.out)
      have QU:=(eG (w:=V6) (b:=b8) (k:=b9) ZV (.int .i64 ia) (.int .i64 ib)).trans ((kW b9 (.inr rfl)).trans TR.out)
      generalize (V6.setCell ⟨b8,0,none⟩ (.int .i64 ia)).setCell ⟨b8,1,none⟩ (.int .i64 ib)=V7 at*
      have Ud:=Nu.hid Bo
      have HR6:=Nu.hid QW
      have HR8:=Nu.hid QV
      have HR9:=Nu.hid QU
      clear Bo QW QV QU eY kW
      go_wp2_with fail
      obtain⟨Wr,sM⟩:∃Wr,Wr=V7.drew:=⟨_,rfl⟩
      have Iq:aD c p t W0 O W (fun b=>((b=b5∨b=b6)∨b=b8)∨b=b9) { st with stk:=ps',like:=gY } Wr:=by rw[sM];exact Ud.out.drew
      have Be:Wr.heap[b6]? =some (bZ ((0,0),0,0)):=by rw[sM];exact HR6.out
      have qU:Wr.heap[b8]? =some (bZ ((ia,ib),pc,pd)):=by rw[sM];exact HR8.out
      have vh:Wr.heap[b9]? =some (bZ ((qc,qd),qa,qb)):=by rw[sM];exact HR9.out
      have hB2:∀b,((b=b5∨b=b6)∨b=b8)∨b=b9→b<Wr.heap.size:=fun b hb=>by
       have q1:=lt_of_block Be
       have q2:=lt_of_block qU
       have q3:=lt_of_block vh
       have q4:=Jq.out
       omega
      have HJ2:=Nu.hid (aD.calls Iq hB2 (f:=166) (args:= #[.pointer (some ⟨t,1,none⟩),dF (pc,pd),dF (qa,qb)]) (R:=fun e=>e= .returned (dF (ja,jb))) (st':={ st with stk:=ps',like:=gG }) (fun hT=>kn hT HJb.out))
      have HV2:Hid (∀V,V=Wr∨(fun V=>aD c p t W0 O W (fun b=>((b=b5∨b=b6)∨b=b8)∨b=b9) { st with stk:=ps',like:=gG } V∧∀b,((b=b5∨b=b6)∨b=b8)∨b=b9→V.heap[b]? =Wr.heap[b]?) V→V.cell? ⟨b8,2,none⟩=some (.int .i64 pc)∧V.cell? ⟨b8,3,none⟩=some (.int .i64 pd)∧V.cell? ⟨b9,2,none⟩=some (.int .i64 qa)∧V.cell? ⟨b9,3,none⟩=some (.int .i64 qb)∧∀i,V.frozen? ⟨b8,i,none⟩=false):=fun V hV=>by
       have h8:V.heap[b8]? =some (bZ ((ia,ib),pc,pd)):=by
        rcases hV with rfl|hV
        ·exact qU
        ·exact(hV.2 b8 (.inl (.inr rfl))).trans qU
       have h9:V.heap[b9]? =some (bZ ((qc,qd),qa,qb)):=by
        rcases hV with rfl|hV
        ·exact vh
        ·exact(hV.2 b9 (.inr rfl)).trans vh
       obtain⟨-,-,a0,a1,af⟩:=au h8
       obtain⟨-,-,a2,a3,-⟩:=au h9
       exact⟨a0,a1,a2,a3,af⟩
      have TQ:=Nu.hid Be
      have TN:=Nu.hid qU
      have m8:=Nu.hid sM
      clear Iq Be qU vh hB2 sM
      refine wp_region_any (by kernel_rfl) ?_
      change wpAny _ _ _ _ _ _ _ V7.drew
      rw[←m8.out]
      refine aj.oK (fun j=>match j with|0=> .pointer (some ⟨t,0,none⟩)|1=> .pointer (some ⟨t,0,none⟩)|2=> .pointer (some ⟨t,1,none⟩)|3=> .pointer (some ⟨b8,2,none⟩)|4=> .agg #[.int .i64 pc,.int .i64 pd]|5=> .pointer (some ⟨b9,2,none⟩)|6=> .agg #[.int .i64 qa,.int .i64 qb]|7=> .agg #[.int .i64 ja,.int .i64 jb]|8=> .pointer (some ⟨b8,2,none⟩)|_=>undef) (AnyM.cI (fun V=>V=Wr) [(9,(fun V'=>∃V,(fun V=>aD c p t W0 O W (fun b=>((b=b5∨b=b6)∨b=b8)∨b=b9) { st with stk:=ps',like:=gG } V∧∀b,((b=b5∨b=b6)∨b=b8)∨b=b9→V.heap[b]? =Wr.heap[b]?) V∧V'=((V.setCell ⟨b8,2,none⟩ (.int .i64 ja)).setCell ⟨b8,3,none⟩ (.int .i64 jb)))),(7,(fun V=>aD c p t W0 O W (fun b=>((b=b5∨b=b6)∨b=b8)∨b=b9) { st with stk:=ps',like:=gG } V∧∀b,((b=b5∨b=b6)∨b=b8)∨b=b9→V.heap[b]? =Wr.heap[b]?))]) 61 rfl (by kernel_rfl) rfl ?_ ?_
      ·intro j o' Ls V ev ho bP hC bU hdc aA aS lG iW
       have hc:j=0∨j=1∨j=2∨j=3∨j=4∨j=5∨j=6∨j=7∨j=8∨j=9:=by
        have:j<10:=(aam.1 ho).1
        omega
       have hst:Ls 9=false:=by
        cases h:Ls 9 with
        |false=>rfl
        |true=>
         exfalso
         have hq:Ls j=true:=by
          rcases hc with rfl|rfl|rfl|rfl|rfl|rfl|rfl|rfl|rfl|rfl
          ·exact hdc 9 _ rfl h ⟨0,.phase⟩ (by simp) rfl
          ·exact hdc 9 _ rfl h ⟨1,.phase⟩ (by simp) rfl
          ·exact hdc 9 _ rfl h ⟨2,.phase⟩ (by simp) rfl
          ·exact hdc 9 _ rfl h ⟨3,.phase⟩ (by simp) rfl
          ·exact hdc 9 _ rfl h ⟨4,.phase⟩ (by simp) rfl
          ·exact hdc 9 _ rfl h ⟨5,.phase⟩ (by simp) rfl
          ·exact hdc 9 _ rfl h ⟨6,.phase⟩ (by simp) rfl
          ·exact hdc 9 _ rfl h ⟨7,.phase⟩ (by simp) rfl
          ·exact hdc 9 _ rfl h ⟨8,.data⟩ (by simp) rfl
          ·exact h
         rw[bP] at hq
         cases hq
       have rj:V=Wr∨((fun V=>aD c p t W0 O W (fun b=>((b=b5∨b=b6)∨b=b8)∨b=b9) { st with stk:=ps',like:=gG } V∧∀b,((b=b5∨b=b6)∨b=b8)∨b=b9→V.heap[b]? =Wr.heap[b]?)) V:=by
        simp only[AnyM.cI,hst,aau,if_false] at hC
        split at hC
        ·exact .inr hC
        ·exact .inl hC
       obtain⟨k1,k2,k3,k4,kf⟩:=HV2.out V rj
       rcases hc with rfl|rfl|rfl|rfl|rfl|rfl|rfl|rfl|rfl|rfl<;>obtain rfl:=aak ho
       ·have e1:ev (.tmp 0)= .pointer (some ⟨t,0,none⟩):=aS 0 (by kernel_rfl)
        exact aj.ah (v:= .pointer (some ⟨t,0,none⟩)) (w':=V) (by simp[execOp,go_sem,e1]) ⟨rfl,AnyM.aV rfl hC⟩
       ·have e1:ev (.tmp 51)= .pointer (some ⟨t,0,none⟩):=aA 0 51 (by omega) rfl (by decide)
        exact aj.ah (v:= .pointer (some ⟨t,0,none⟩)) (w':=V) (by simp[execOp,go_sem,e1]) ⟨rfl,AnyM.aV rfl hC⟩
       ·have e1:ev (.tmp 52)= .pointer (some ⟨t,0,none⟩):=aA 1 52 (by omega) rfl (by decide)
        exact aj.ah (v:= .pointer (some ⟨t,1,none⟩)) (w':=V) (by simp[execOp,go_sem,e1]) ⟨rfl,AnyM.aV rfl hC⟩
       ·have e1:ev (.tmp 8)= .pointer (some ⟨b8,0,none⟩):=aS 8 (by kernel_rfl)
        exact aj.ah (v:= .pointer (some ⟨b8,2,none⟩)) (w':=V) (by simp[execOp,go_sem,e1]) ⟨rfl,AnyM.aV rfl hC⟩
       ·have e1:ev (.tmp 54)= .pointer (some ⟨b8,2,none⟩):=aA 3 54 (by omega) rfl (by decide)
        exact aj.ah (v:= .agg #[.int .i64 pc,.int .i64 pd]) (w':=V) (by simp[execOp,go_sem,e1,k1,k2]) ⟨rfl,AnyM.aV rfl hC⟩
       ·have e1:ev (.tmp 9)= .pointer (some ⟨b9,0,none⟩):=aS 9 (by kernel_rfl)
        exact aj.ah (v:= .pointer (some ⟨b9,2,none⟩)) (w':=V) (by simp[execOp,go_sem,e1]) ⟨rfl,AnyM.aV rfl hC⟩
       ·have e1:ev (.tmp 56)= .pointer (some ⟨b9,2,none⟩):=aA 5 56 (by omega) rfl (by decide)
        exact aj.ah (v:= .agg #[.int .i64 qa,.int .i64 qb]) (w':=V) (by simp[execOp,go_sem,e1,k3,k4]) ⟨rfl,AnyM.aV rfl hC⟩
       ·have e1:ev (.tmp 53)= .pointer (some ⟨t,1,none⟩):=aA 2 53 (by omega) rfl (by decide)
        have e2:ev (.tmp 55)= .agg #[.int .i64 pc,.int .i64 pd]:=aA 4 55 (by omega) rfl (by decide)
        have e3:ev (.tmp 57)= .agg #[.int .i64 qa,.int .i64 qb]:=aA 6 57 (by omega) rfl (by decide)
        have iG:V=Wr:=by
         simp only[AnyM.cI,hst,bP,aau,if_false] at hC
         exact hC
        rw[iG]
        refine AnyM.iq (v:= .agg #[.int .i64 ja,.int .i64 jb]) (by simp[execOp,go_sem,e1,e2,e3,iW]) HJ2.out (fun w2 hw2=>⟨rfl,?_⟩)
        simp only[AnyM.cI,aj.bR]
        simp[hst]
        exact hw2
       ·have e1:ev (.tmp 8)= .pointer (some ⟨b8,0,none⟩):=aS 8 (by kernel_rfl)
        exact aj.ah (v:= .pointer (some ⟨b8,2,none⟩)) (w':=V) (by simp[execOp,go_sem,e1]) ⟨rfl,AnyM.aV rfl hC⟩
       ·have e1:ev (.tmp 59)= .pointer (some ⟨b8,2,none⟩):=aA 8 59 (by omega) rfl (by decide)
        have e2:ev (.tmp 58)= .agg #[.int .i64 ja,.int .i64 jb]:=aA 7 58 (by omega) rfl (by decide)
        have hp:Ls 7=true:=bU ⟨7,.data⟩ (by simp) rfl
        have hQ:((fun V=>aD c p t W0 O W (fun b=>((b=b5∨b=b6)∨b=b8)∨b=b9) { st with stk:=ps',like:=gG } V∧∀b,((b=b5∨b=b6)∨b=b8)∨b=b9→V.heap[b]? =Wr.heap[b]?)) V:=by
         simp only[AnyM.cI,bP,hp,aau,if_false,if_true] at hC
         exact hC
        refine aj.bF (w':=((V.setCell ⟨b8,2,none⟩ (.int .i64 ja)).setCell ⟨b8,3,none⟩ (.int .i64 jb))) (by simp[execOp,go_sem,e1,e2,k1,k2,kf]) ⟨rfl,?_⟩
        simp only[AnyM.cI,aj.bR]
        simp only[if_true]
        exact⟨V,hQ,rfl⟩
      ·intro Ls V hall hC
       unfold AnyM.cI at hC
       rw[if_pos (hall 9 (by decide))] at hC
       obtain⟨V8,⟨yC,Ip⟩,rfl⟩:=hC
       simp only[aj.canon,aj.dst,Array.size,aar,aaS]
       simp[Act.put]
       go_wp2
       go_roundw
       case rel=>
        refine⟨ps',gG,((ia,ib),ja,jb),((yC.less (B':=(fun b=>(b=b5∨b=b6)∨b=b8)) (fun _ hb=> .inl hb)).set (.inr rfl) _).set (.inr rfl) _,?_,BL ((Ip b8 (.inl (.inr rfl))).trans TN.out) _ _,rK.out,by have:=jU.out;simp at this;omega⟩
        have IU:b6≠b8:=fun e=>HN.out.2 e
        rw[heap_setCell_other _ ⟨b8,3,none⟩ b6 _ IU,heap_setCell_other _ ⟨b8,2,none⟩ b6 _ IU]
        exact(Ip b6 (.inl (.inl (.inr rfl)))).trans TQ.out
       case measure=>
        have h1:=((yC.set (b:=b8) (i:=2) (.inl (.inr rfl)) (.int .i64 ja)).set (b:=b8) (i:=3) (.inl (.inr rfl)) (.int .i64 jb)).dP
        have h2:=Zd.out.dP
        rw[h2]
        refine acm (acU (show _=ps'.length from h1)) ?_
        simp
    ·skip
     obtain⟨ps',gY,ia,ib,gG,ja,jb,hps,Rw,hj2,rK⟩:∃ps' gY ia ib gG ja jb,ps=((qa,qb),qc,qd)::ps'∧join lk (pa,pb) (qa,qb)=some (gY,(ia,ib))∧join gY (pc,pd) (qc,qd)=some (gG,(ja,jb))∧Hid (others c.lw e ps' gG ((ia,ib),ja,jb)=some r):=by
      have h1:=HH.out
      rw[if_neg (by simp),if_neg (by simp)] at h1
      obtain⟨ps',h2,h3⟩:=h1
      simp only[if_true,turned] at h3
      cases e1:join lk (pa,pb) (qa,qb) with
      |none=>rw[e1] at h3;cases h3
      |some r1=>
       obtain⟨gY,ia,ib⟩:=r1
       rw[e1] at h3
       dsimp only at h3
       cases e2:join gY (pc,pd) (qc,qd) with
       |none=>rw[e2] at h3;cases h3
       |some r2=>
        obtain⟨gG,ja,jb⟩:=r2
        rw[e2] at h3
        exact⟨ps',gY,ia,ib,gG,ja,jb,h2,rfl,e2,h3⟩
     subst hps
     have HJa:=Nu.hid Rw
     have HJb:=Nu.hid hj2
     clear Rw hj2 x0 x1 x2 x3 xf z0 z1 z2 z3 r0 r1 r2 r3 EA
     skip
     have tT:∀b,((b=b5∨b=b6)∨b=b8)∨b=b9→b<D.val.heap.size:=fun b hb=>by
      have q1:=lt_of_block uF.out
      have q2:=lt_of_block xQ.out
      have q3:=lt_of_block Gc.out
      have q4:=Jq.out
      omega
     have jT:=Nu.hid (aD.calls Ct.out tT (f:=136) (args:= #[.pointer (some ⟨t,0,none⟩)]) (R:=fun e=>e= .returned (.tuple #[])) (st':={ st with stk:=ps',like:=lk }) (fun hT=>ou hT rfl (by have:=jU.out;simp at this ⊢;omega)))
     clear tT
     go_wp2_with (go_at_call 136;refine jT.out.mono ?_;rintro e1 wp ⟨rfl,Ir,hkp⟩;have Ue:=Nu.hid Ir;have HP6:=Nu.hid ((hkp b6 (.inl (.inl (.inr rfl)))).trans uF.out);have HP8:=Nu.hid ((hkp b8 (.inl (.inr rfl))).trans xQ.out);have HP9:=Nu.hid ((hkp b9 (.inr rfl)).trans Gc.out);clear Ir hkp)
     obtain⟨Wq,jN⟩:∃Wq,Wq=wp.drew:=⟨_,rfl⟩
     have qZ:aD c p t W0 O W (fun b=>((b=b5∨b=b6)∨b=b8)∨b=b9) { st with stk:=ps',like:=lk } Wq:=by rw[jN];exact Ue.out.drew
     have Bf:Wq.heap[b6]? =some (bZ ((0,0),0,0)):=by rw[jN];exact HP6.out
     have qW:Wq.heap[b8]? =some (bZ ((pa,pb),pc,pd)):=by rw[jN];exact HP8.out
     have qV:Wq.heap[b9]? =some (bZ ((qa,qb),qc,qd)):=by rw[jN];exact HP9.out
     have hB1:∀b,((b=b5∨b=b6)∨b=b8)∨b=b9→b<Wq.heap.size:=fun b hb=>by
      have q1:=lt_of_block Bf
      have q2:=lt_of_block qW
      have q3:=lt_of_block qV
      have q4:=Jq.out
      omega
     have HJ1:=Nu.hid (aD.calls qZ hB1 (f:=166) (args:= #[.pointer (some ⟨t,1,none⟩),dF (pa,pb),dF (qa,qb)]) (R:=fun e=>e= .returned (dF (ia,ib))) (st':={ st with stk:=ps',like:=gY }) (fun hT=>kn hT HJa.out))
     have Tr:Hid (∀V,V=Wq∨(fun V=>aD c p t W0 O W (fun b=>((b=b5∨b=b6)∨b=b8)∨b=b9) { st with stk:=ps',like:=gY } V∧∀b,((b=b5∨b=b6)∨b=b8)∨b=b9→V.heap[b]? =Wq.heap[b]?) V→V.cell? ⟨b8,0,none⟩=some (.int .i64 pa)∧V.cell? ⟨b8,1,none⟩=some (.int .i64 pb)∧V.cell? ⟨b9,0,none⟩=some (.int .i64 qa)∧V.cell? ⟨b9,1,none⟩=some (.int .i64 qb)∧∀i,V.frozen? ⟨b8,i,none⟩=false):=fun V hV=>by
      have h8:V.heap[b8]? =some (bZ ((pa,pb),pc,pd)):=by
       rcases hV with rfl|hV
       ·exact qW
       ·exact(hV.2 b8 (.inl (.inr rfl))).trans qW
      have h9:V.heap[b9]? =some (bZ ((qa,qb),qc,qd)):=by
       rcases hV with rfl|hV
       ·exact qV
       ·exact(hV.2 b9 (.inr rfl)).trans qV
      obtain⟨a0,a1,-,-,af⟩:=au h8
      obtain⟨a2,a3,-,-,-⟩:=au h9
      exact⟨a0,a1,a2,a3,af⟩
     have TU:=Nu.hid Bf
     have TT:=Nu.hid qW
     have TR:=Nu.hid qV
     have LX:=Nu.hid jN
     clear qZ Bf qW qV hB1 jN
     refine wp_region_any (by kernel_rfl) ?_
     change wpAny _ _ _ _ _ _ _ wp.drew
     rw[←LX.out]
     refine aj.oK (fun j=>match j with|0=> .pointer (some ⟨t,0,none⟩)|1=> .pointer (some ⟨t,0,none⟩)|2=> .pointer (some ⟨t,1,none⟩)|3=> .pointer (some ⟨b8,0,none⟩)|4=> .agg #[.int .i64 pa,.int .i64 pb]|5=> .pointer (some ⟨b9,0,none⟩)|6=> .agg #[.int .i64 qa,.int .i64 qb]|7=> .agg #[.int .i64 ia,.int .i64 ib]|8=> .pointer (some ⟨b8,0,none⟩)|_=>undef) (AnyM.cI (fun V=>V=Wq) [(9,(fun V'=>∃V,(fun V=>aD c p t W0 O W (fun b=>((b=b5∨b=b6)∨b=b8)∨b=b9) { st with stk:=ps',like:=gY } V∧∀b,((b=b5∨b=b6)∨b=b8)∨b=b9→V.heap[b]? =Wq.heap[b]?) V∧V'=((V.setCell ⟨b8,0,none⟩ (.int .i64 ia)).setCell ⟨b8,1,none⟩ (.int .i64 ib)))),(7,(fun V=>aD c p t W0 O W (fun b=>((b=b5∨b=b6)∨b=b8)∨b=b9) { st with stk:=ps',like:=gY } V∧∀b,((b=b5∨b=b6)∨b=b8)∨b=b9→V.heap[b]? =Wq.heap[b]?))]) 61 rfl (by kernel_rfl) rfl ?_ ?_
     ·intro j o' Ls V ev ho bP hC bU hdc aA aS lG iW
      have hc:j=0∨j=1∨j=2∨j=3∨j=4∨j=5∨j=6∨j=7∨j=8∨j=9:=by
       have:j<10:=(aam.1 ho).1
       omega
      have hst:Ls 9=false:=by
       cases h:Ls 9 with
       |false=>rfl
       |true=>
        exfalso
        have hq:Ls j=true:=by
         rcases hc with rfl|rfl|rfl|rfl|rfl|rfl|rfl|rfl|rfl|rfl
         ·exact hdc 9 _ rfl h ⟨0,.phase⟩ (by simp) rfl
         ·exact hdc 9 _ rfl h ⟨1,.phase⟩ (by simp) rfl
         ·exact hdc 9 _ rfl h ⟨2,.phase⟩ (by simp) rfl
         ·exact hdc 9 _ rfl h ⟨3,.phase⟩ (by simp) rfl
         ·exact hdc 9 _ rfl h ⟨4,.phase⟩ (by simp) rfl
         ·exact hdc 9 _ rfl h ⟨5,.phase⟩ (by simp) rfl
         ·exact hdc 9 _ rfl h ⟨6,.phase⟩ (by simp) rfl
         ·exact hdc 9 _ rfl h ⟨7,.phase⟩ (by simp) rfl
         ·exact hdc 9 _ rfl h ⟨8,.data⟩ (by simp) rfl
         ·exact h
        rw[bP] at hq
        cases hq
      have rj:V=Wq∨((fun V=>aD c p t W0 O W (fun b=>((b=b5∨b=b6)∨b=b8)∨b=b9) { st with stk:=ps',like:=gY } V∧∀b,((b=b5∨b=b6)∨b=b8)∨b=b9→V.heap[b]? =Wq.heap[b]?)) V:=by
       simp only[AnyM.cI,hst,aau,if_false] at hC
       split at hC
       ·exact .inr hC
       ·exact .inl hC
      obtain⟨k1,k2,k3,k4,kf⟩:=Tr.out V rj
      rcases hc with rfl|rfl|rfl|rfl|rfl|rfl|rfl|rfl|rfl|rfl<;>obtain rfl:=aak ho
      ·have e1:ev (.tmp 0)= .pointer (some ⟨t,0,none⟩):=aS 0 (by kernel_rfl)
       exact aj.ah (v:= .pointer (some ⟨t,0,none⟩)) (w':=V) (by simp[execOp,go_sem,e1]) ⟨rfl,AnyM.aV rfl hC⟩
      ·have e1:ev (.tmp 42)= .pointer (some ⟨t,0,none⟩):=aA 0 42 (by omega) rfl (by decide)
       exact aj.ah (v:= .pointer (some ⟨t,0,none⟩)) (w':=V) (by simp[execOp,go_sem,e1]) ⟨rfl,AnyM.aV rfl hC⟩
      ·have e1:ev (.tmp 43)= .pointer (some ⟨t,0,none⟩):=aA 1 43 (by omega) rfl (by decide)
       exact aj.ah (v:= .pointer (some ⟨t,1,none⟩)) (w':=V) (by simp[execOp,go_sem,e1]) ⟨rfl,AnyM.aV rfl hC⟩
      ·have e1:ev (.tmp 8)= .pointer (some ⟨b8,0,none⟩):=aS 8 (by kernel_rfl)
       exact aj.ah (v:= .pointer (some ⟨b8,0,none⟩)) (w':=V) (by simp[execOp,go_sem,e1]) ⟨rfl,AnyM.aV rfl hC⟩
      ·have e1:ev (.tmp 45)= .pointer (some ⟨b8,0,none⟩):=aA 3 45 (by omega) rfl (by decide)
       exact aj.ah (v:= .agg #[.int .i64 pa,.int .i64 pb]) (w':=V) (by simp[execOp,go_sem,e1,k1,k2]) ⟨rfl,AnyM.aV rfl hC⟩
      ·have e1:ev (.tmp 9)= .pointer (some ⟨b9,0,none⟩):=aS 9 (by kernel_rfl)
       exact aj.ah (v:= .pointer (some ⟨b9,0,none⟩)) (w':=V) (by simp[execOp,go_sem,e1]) ⟨rfl,AnyM.aV rfl hC⟩
      ·have e1:ev (.tmp 47)= .pointer (some ⟨b9,0,none⟩):=aA 5 47 (by omega) rfl (by decide)
       exact aj.ah (v:= .agg #[.int .i64 qa,.int .i64 qb]) (w':=V) (by simp[execOp,go_sem,e1,k3,k4]) ⟨rfl,AnyM.aV rfl hC⟩
      ·have e1:ev (.tmp 44)= .pointer (some ⟨t,1,none⟩):=aA 2 44 (by omega) rfl (by decide)
       have e2:ev (.tmp 46)= .agg #[.int .i64 pa,.int .i64 pb]:=aA 4 46 (by omega) rfl (by decide)
       have e3:ev (.tmp 48)= .agg #[.int .i64 qa,.int .i64 qb]:=aA 6 48 (by omega) rfl (by decide)
       have iG:V=Wq:=by
        simp only[AnyM.cI,hst,bP,aau,if_false] at hC
        exact hC
       rw[iG]
       refine AnyM.iq (v:= .agg #[.int .i64 ia,.int .i64 ib]) (by simp[execOp,go_sem,e1,e2,e3,iW]) HJ1.out (fun w2 hw2=>⟨rfl,?_⟩)
       simp only[AnyM.cI,aj.bR]
       simp[hst]
       exact hw2
      ·have e1:ev (.tmp 8)= .pointer (some ⟨b8,0,none⟩):=aS 8 (by kernel_rfl)
       exact aj.ah (v:= .pointer (some ⟨b8,0,none⟩)) (w':=V) (by simp[execOp,go_sem,e1]) ⟨rfl,AnyM.aV rfl hC⟩
      ·have e1:ev (.tmp 50)= .pointer (some ⟨b8,0,none⟩):=aA 8 50 (by omega) rfl (by decide)
       have e2:ev (.tmp 49)= .agg #[.int .i64 ia,.int .i64 ib]:=aA 7 49 (by omega) rfl (by decide)
       have hp:Ls 7=true:=bU ⟨7,.data⟩ (by simp) rfl
       have hQ:((fun V=>aD c p t W0 O W (fun b=>((b=b5∨b=b6)∨b=b8)∨b=b9) { st with stk:=ps',like:=gY } V∧∀b,((b=b5∨b=b6)∨b=b8)∨b=b9→V.heap[b]? =Wq.heap[b]?)) V:=by
        simp only[AnyM.cI,bP,hp,aau,if_false,if_true] at hC
        exact hC
       refine aj.bF (w':=((V.setCell ⟨b8,0,none⟩ (.int .i64 ia)).setCell ⟨b8,1,none⟩ (.int .i64 ib))) (by simp[execOp,go_sem,e1,e2,k1,k2,kf]) ⟨rfl,?_⟩
       simp only[AnyM.cI,aj.bR]
       simp only[if_true]
       exact⟨V,hQ,rfl⟩
     ·intro Ls V hall hC
      unfold AnyM.cI at hC
      rw[if_pos (hall 9 (by decide))] at hC
      obtain⟨V6,⟨eY,kW⟩,rfl⟩:=hC
      simp only[aj.canon,aj.dst,Array.size,aar,aaS]
      simp[Act.put]
      have Bo:=(eY.set (b:=b8) (i:=0) (.inl (.inr rfl)) (.int .i64 ia)).set (b:=b8) (i:=1) (.inl (.inr rfl)) (.int .i64 ib)
      have QV:=BK ((kW b8 (.inl (.inr rfl))).trans TT.out) (.int .i64 ia) (.int .i64 ib)
      obtain⟨n96,ZV⟩:=WN.out
      have QW:=(eG (w:=V6) (b:=b8) (k:=b6) (fun e=>HN.out.2 e) (.int .i64 ia) (.int .i64 ib)).trans ((kW b6 (.inl (.inl (.inr rfl)))).trans TU.out)
      have QU:=(eG (w:=V6) (b:=b8) (k:=b9) ZV (.int .i64 ia) (.int .i64 ib)).trans ((kW b9 (.inr rfl)).trans TR.out)
      generalize (V6.setCell ⟨b8,0,none⟩ (.int .i64 ia)).setCell ⟨b8,1,none⟩ (.int .i64 ib)=V7 at*
      have Ud:=Nu.hid Bo
      have HR6:=Nu.hid QW
      have HR8:=Nu.hid QV
      have HR9:=Nu.hid QU
      clear Bo QW QV QU eY kW
      go_wp2_with fail
      obtain⟨Wr,sM⟩:∃Wr,Wr=V7.drew:=⟨_,rfl⟩
      have Iq:aD c p t W0 O W (fun b=>((b=b5∨b=b6)∨b=b8)∨b=b9) { st with stk:=ps',like:=gY } Wr:=by rw[sM];exact Ud.out.drew
      have Be:Wr.heap[b6]? =some (bZ ((0,0),0,0)):=by rw[sM];exact HR6.out
      have qU:Wr.heap[b8]? =some (bZ ((ia,ib),pc,pd)):=by rw[sM];exact HR8.out
      have vh:Wr.heap[b9]? =some (bZ ((qa,qb),qc,qd)):=by rw[sM];exact HR9.out
      have hB2:∀b,((b=b5∨b=b6)∨b=b8)∨b=b9→b<Wr.heap.size:=fun b hb=>by
       have q1:=lt_of_block Be
       have q2:=lt_of_block qU
       have q3:=lt_of_block vh
       have q4:=Jq.out
       omega
      have HJ2:=Nu.hid (aD.calls Iq hB2 (f:=166) (args:= #[.pointer (some ⟨t,1,none⟩),dF (pc,pd),dF (qc,qd)]) (R:=fun e=>e= .returned (dF (ja,jb))) (st':={ st with stk:=ps',like:=gG }) (fun hT=>kn hT HJb.out))
      have HV2:Hid (∀V,V=Wr∨(fun V=>aD c p t W0 O W (fun b=>((b=b5∨b=b6)∨b=b8)∨b=b9) { st with stk:=ps',like:=gG } V∧∀b,((b=b5∨b=b6)∨b=b8)∨b=b9→V.heap[b]? =Wr.heap[b]?) V→V.cell? ⟨b8,2,none⟩=some (.int .i64 pc)∧V.cell? ⟨b8,3,none⟩=some (.int .i64 pd)∧V.cell? ⟨b9,2,none⟩=some (.int .i64 qc)∧V.cell? ⟨b9,3,none⟩=some (.int .i64 qd)∧∀i,V.frozen? ⟨b8,i,none⟩=false):=fun V hV=>by
       have h8:V.heap[b8]? =some (bZ ((ia,ib),pc,pd)):=by
        rcases hV with rfl|hV
        ·exact qU
        ·exact(hV.2 b8 (.inl (.inr rfl))).trans qU
       have h9:V.heap[b9]? =some (bZ ((qa,qb),qc,qd)):=by
        rcases hV with rfl|hV
        ·exact vh
        ·exact(hV.2 b9 (.inr rfl)).trans vh
       obtain⟨-,-,a0,a1,af⟩:=au h8
       obtain⟨-,-,a2,a3,-⟩:=au h9
       exact⟨a0,a1,a2,a3,af⟩
      have TQ:=Nu.hid Be
      have TN:=Nu.hid qU
      have m8:=Nu.hid sM
      clear Iq Be qU vh hB2 sM
      refine wp_region_any (by kernel_rfl) ?_
      change wpAny _ _ _ _ _ _ _ V7.drew
      rw[←m8.out]
      refine aj.oK (fun j=>match j with|0=> .pointer (some ⟨t,0,none⟩)|1=> .pointer (some ⟨t,0,none⟩)|2=> .pointer (some ⟨t,1,none⟩)|3=> .pointer (some ⟨b8,2,none⟩)|4=> .agg #[.int .i64 pc,.int .i64 pd]|5=> .pointer (some ⟨b9,2,none⟩)|6=> .agg #[.int .i64 qc,.int .i64 qd]|7=> .agg #[.int .i64 ja,.int .i64 jb]|8=> .pointer (some ⟨b8,2,none⟩)|_=>undef) (AnyM.cI (fun V=>V=Wr) [(9,(fun V'=>∃V,(fun V=>aD c p t W0 O W (fun b=>((b=b5∨b=b6)∨b=b8)∨b=b9) { st with stk:=ps',like:=gG } V∧∀b,((b=b5∨b=b6)∨b=b8)∨b=b9→V.heap[b]? =Wr.heap[b]?) V∧V'=((V.setCell ⟨b8,2,none⟩ (.int .i64 ja)).setCell ⟨b8,3,none⟩ (.int .i64 jb)))),(7,(fun V=>aD c p t W0 O W (fun b=>((b=b5∨b=b6)∨b=b8)∨b=b9) { st with stk:=ps',like:=gG } V∧∀b,((b=b5∨b=b6)∨b=b8)∨b=b9→V.heap[b]? =Wr.heap[b]?))]) 61 rfl (by kernel_rfl) rfl ?_ ?_
      ·intro j o' Ls V ev ho bP hC bU hdc aA aS lG iW
       have hc:j=0∨j=1∨j=2∨j=3∨j=4∨j=5∨j=6∨j=7∨j=8∨j=9:=by
        have:j<10:=(aam.1 ho).1
        omega
       have hst:Ls 9=false:=by
        cases h:Ls 9 with
        |false=>rfl
        |true=>
         exfalso
         have hq:Ls j=true:=by
          rcases hc with rfl|rfl|rfl|rfl|rfl|rfl|rfl|rfl|rfl|rfl
          ·exact hdc 9 _ rfl h ⟨0,.phase⟩ (by simp) rfl
          ·exact hdc 9 _ rfl h ⟨1,.phase⟩ (by simp) rfl
          ·exact hdc 9 _ rfl h ⟨2,.phase⟩ (by simp) rfl
          ·exact hdc 9 _ rfl h ⟨3,.phase⟩ (by simp) rfl
          ·exact hdc 9 _ rfl h ⟨4,.phase⟩ (by simp) rfl
          ·exact hdc 9 _ rfl h ⟨5,.phase⟩ (by simp) rfl
          ·exact hdc 9 _ rfl h ⟨6,.phase⟩ (by simp) rfl
          ·exact hdc 9 _ rfl h ⟨7,.phase⟩ (by simp) rfl
          ·exact hdc 9 _ rfl h ⟨8,.data⟩ (by simp) rfl
          ·exact h
         rw[bP] at hq
         cases hq
       have rj:V=Wr∨((fun V=>aD c p t W0 O W (fun b=>((b=b5∨b=b6)∨b=b8)∨b=b9) { st with stk:=ps',like:=gG } V∧∀b,((b=b5∨b=b6)∨b=b8)∨b=b9→V.heap[b]? =Wr.heap[b]?)) V:=by
        simp only[AnyM.cI,hst,aau,if_false] at hC
        split at hC
        ·exact .inr hC
        ·exact .inl hC
       obtain⟨k1,k2,k3,k4,kf⟩:=HV2.out V rj
       rcases hc with rfl|rfl|rfl|rfl|rfl|rfl|rfl|rfl|rfl|rfl<;>obtain rfl:=aak ho
       ·have e1:ev (.tmp 0)= .pointer (some ⟨t,0,none⟩):=aS 0 (by kernel_rfl)
        exact aj.ah (v:= .pointer (some ⟨t,0,none⟩)) (w':=V) (by simp[execOp,go_sem,e1]) ⟨rfl,AnyM.aV rfl hC⟩
       ·have e1:ev (.tmp 51)= .pointer (some ⟨t,0,none⟩):=aA 0 51 (by omega) rfl (by decide)
        exact aj.ah (v:= .pointer (some ⟨t,0,none⟩)) (w':=V) (by simp[execOp,go_sem,e1]) ⟨rfl,AnyM.aV rfl hC⟩
       ·have e1:ev (.tmp 52)= .pointer (some ⟨t,0,none⟩):=aA 1 52 (by omega) rfl (by decide)
        exact aj.ah (v:= .pointer (some ⟨t,1,none⟩)) (w':=V) (by simp[execOp,go_sem,e1]) ⟨rfl,AnyM.aV rfl hC⟩
       ·have e1:ev (.tmp 8)= .pointer (some ⟨b8,0,none⟩):=aS 8 (by kernel_rfl)
        exact aj.ah (v:= .pointer (some ⟨b8,2,none⟩)) (w':=V) (by simp[execOp,go_sem,e1]) ⟨rfl,AnyM.aV rfl hC⟩
       ·have e1:ev (.tmp 54)= .pointer (some ⟨b8,2,none⟩):=aA 3 54 (by omega) rfl (by decide)
        exact aj.ah (v:= .agg #[.int .i64 pc,.int .i64 pd]) (w':=V) (by simp[execOp,go_sem,e1,k1,k2]) ⟨rfl,AnyM.aV rfl hC⟩
       ·have e1:ev (.tmp 9)= .pointer (some ⟨b9,0,none⟩):=aS 9 (by kernel_rfl)
        exact aj.ah (v:= .pointer (some ⟨b9,2,none⟩)) (w':=V) (by simp[execOp,go_sem,e1]) ⟨rfl,AnyM.aV rfl hC⟩
       ·have e1:ev (.tmp 56)= .pointer (some ⟨b9,2,none⟩):=aA 5 56 (by omega) rfl (by decide)
        exact aj.ah (v:= .agg #[.int .i64 qc,.int .i64 qd]) (w':=V) (by simp[execOp,go_sem,e1,k3,k4]) ⟨rfl,AnyM.aV rfl hC⟩
       ·have e1:ev (.tmp 53)= .pointer (some ⟨t,1,none⟩):=aA 2 53 (by omega) rfl (by decide)
        have e2:ev (.tmp 55)= .agg #[.int .i64 pc,.int .i64 pd]:=aA 4 55 (by omega) rfl (by decide)
        have e3:ev (.tmp 57)= .agg #[.int .i64 qc,.int .i64 qd]:=aA 6 57 (by omega) rfl (by decide)
        have iG:V=Wr:=by
         simp only[AnyM.cI,hst,bP,aau,if_false] at hC
         exact hC
        rw[iG]
        refine AnyM.iq (v:= .agg #[.int .i64 ja,.int .i64 jb]) (by simp[execOp,go_sem,e1,e2,e3,iW]) HJ2.out (fun w2 hw2=>⟨rfl,?_⟩)
        simp only[AnyM.cI,aj.bR]
        simp[hst]
        exact hw2
       ·have e1:ev (.tmp 8)= .pointer (some ⟨b8,0,none⟩):=aS 8 (by kernel_rfl)
        exact aj.ah (v:= .pointer (some ⟨b8,2,none⟩)) (w':=V) (by simp[execOp,go_sem,e1]) ⟨rfl,AnyM.aV rfl hC⟩
       ·have e1:ev (.tmp 59)= .pointer (some ⟨b8,2,none⟩):=aA 8 59 (by omega) rfl (by decide)
        have e2:ev (.tmp 58)= .agg #[.int .i64 ja,.int .i64 jb]:=aA 7 58 (by omega) rfl (by decide)
        have hp:Ls 7=true:=bU ⟨7,.data⟩ (by simp) rfl
        have hQ:((fun V=>aD c p t W0 O W (fun b=>((b=b5∨b=b6)∨b=b8)∨b=b9) { st with stk:=ps',like:=gG } V∧∀b,((b=b5∨b=b6)∨b=b8)∨b=b9→V.heap[b]? =Wr.heap[b]?)) V:=by
         simp only[AnyM.cI,bP,hp,aau,if_false,if_true] at hC
         exact hC
        refine aj.bF (w':=((V.setCell ⟨b8,2,none⟩ (.int .i64 ja)).setCell ⟨b8,3,none⟩ (.int .i64 jb))) (by simp[execOp,go_sem,e1,e2,k1,k2,kf]) ⟨rfl,?_⟩
        simp only[AnyM.cI,aj.bR]
        simp only[if_true]
        exact⟨V,hQ,rfl⟩
      ·intro Ls V hall hC
       unfold AnyM.cI at hC
       rw[if_pos (hall 9 (by decide))] at hC
       obtain⟨V8,⟨yC,Ip⟩,rfl⟩:=hC
       simp only[aj.canon,aj.dst,Array.size,aar,aaS]
       simp[Act.put]
       go_wp2
       go_roundw
       case rel=>
        refine⟨ps',gG,((ia,ib),ja,jb),((yC.less (B':=(fun b=>(b=b5∨b=b6)∨b=b8)) (fun _ hb=> .inl hb)).set (.inr rfl) _).set (.inr rfl) _,?_,BL ((Ip b8 (.inl (.inr rfl))).trans TN.out) _ _,rK.out,by have:=jU.out;simp at this;omega⟩
        have IU:b6≠b8:=fun e=>HN.out.2 e
        rw[heap_setCell_other _ ⟨b8,3,none⟩ b6 _ IU,heap_setCell_other _ ⟨b8,2,none⟩ b6 _ IU]
        exact(Ip b6 (.inl (.inl (.inr rfl)))).trans TQ.out
       case measure=>
        have h1:=((yC.set (b:=b8) (i:=2) (.inl (.inr rfl)) (.int .i64 ja)).set (b:=b8) (i:=3) (.inl (.inr rfl)) (.int .i64 jb)).dP
        have h2:=Zd.out.dP
        rw[h2]
        refine acm (acU (show _=ps'.length from h1)) ?_
        simp
    ·have hr:r=none:=by
      have h1:=HH.out
      rw[if_pos ⟨rfl,rfl⟩] at h1
      exact h1
     have HR:=Nu.hid hr
     clear hr
     go_wp2
     refine bodyPost_ret (v:= .tuple #[fK ((pa,pb),pc,pd),.bool false]) (by simp[results,Tryz.results158,go_sem,r0,r1,r2,r3]) rfl ?_
     rw[HR.out]
     exact⟨_,_,rfl,EA.out⟩
end
end
end Go.Proofs.YtdjmnpmdmjclhabGreat
