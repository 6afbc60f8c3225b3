import Derived.Test.YtnhcggfbkoppnaaGreatMg27
namespace Go.Proofs.YtnhcggfbkoppnaaGreat
section
open Go.RowKit Lt
section
variable {c:Wp} {p t:Nat} {W0 W:World} {O:Nat→Prop} {st:TS} {L U Z:Nat} {vp vw:Value}
abbrev bY (q:Pr):Obj:= .cells #[.int .i64 q.1.1,.int .i64 q.1.2,.int .i64 q.2.1,.int .i64 q.2.2] 168 (0,0)
theorem Gq {q:Pr} (h:q≠dI):(!(q.1.1== -1)|| !(q.1.2== -1)||(!(q.2.1== -1)|| !(q.2.2== -1)))=true:=by
 obtain⟨⟨a,b⟩,a',b'⟩:=q
 cases hc:(!(a== -1)|| !(b== -1)||(!(a'== -1)|| !(b'== -1))) with
 |true=>rfl
 |false=>
  simp at hc
  exact absurd (by rw[hc.1.1,hc.1.2,hc.2.1,hc.2.2]) h
theorem Bf {w:World} {b:Nat} {t:TypeId} {x y z u:Value} (h:w.heap[b]? =some (.cells #[x,y,z,u] t (0,0))) (x' y':Value):((w.setCell ⟨b,0,none⟩ x').setCell ⟨b,1,none⟩ y').heap[b]? =some (.cells #[x',y',z,u] t (0,0)):=by
 have h1:=heap_setCell_same w b 0 _ _ x' h
 have h2:=heap_setCell_same _ b 1 _ _ y' h1
 simpa using h2
theorem Bg {w:World} {b:Nat} {t:TypeId} {x y z u:Value} (h:w.heap[b]? =some (.cells #[x,y,z,u] t (0,0))) (x' y':Value):((w.setCell ⟨b,2,none⟩ x').setCell ⟨b,3,none⟩ y').heap[b]? =some (.cells #[x,y,x',y'] t (0,0)):=by
 have h1:=heap_setCell_same w b 2 _ _ x' h
 have h2:=heap_setCell_same _ b 3 _ _ y' h1
 simpa using h2
set_option maxRecDepth 100000 in
set_option maxHeartbeats 16000000 in
theorem Jf (h:aQ c p t W0 O st L U Z vp vw W) {hh:Int} {st':TS} (hlen:st.stk.length≤8388607) (ht:trim c.lw hh st=some st'):Calls Tryz.prog 132 #[.pointer (some ⟨t,0,none⟩),.int .i64 hh] W fun e w'=>e= .returned (.tuple #[])∧aT c p t W0 O W st' w':=by
 have eqP:=RT
 have hin:=aD.start h
 obtain⟨R,hR⟩:∃R,iK c.lw hh st.stk st.turn=R:=⟨_,rfl⟩
 have HR:=Nu.hid hR
 have HT:=Nu.hid ht
 have mW:=Nu.hid hin
 have HLEN:=Nu.hid hlen
 have lM:=Nu.hid (aD.reads hin (fun b hb=>hb.elim) (f:=118) (args:= #[.pointer (some ⟨t,0,none⟩)]) (R:=fun e=>e= .returned (fL (top st.stk))) (fun hT=>iw hT (by omega)))
 clear h hin hlen hR ht
 go_enter Tryz.func132,Tryz.ntmps132
 go_wp2_with (go_at_call 118;refine lM.out.mono ?_;rintro e w1 ⟨rfl,mI,-,-⟩;have nD:=Nu.hid mI;clear mI)
 go_loopw [4] (fun bp wr=>∃bx ps tn,bp= .pointer (some ⟨bx,0,none⟩)∧aD c p t W0 O W (fun b=>b=bx) { st with stk:=ps,turn:=tn } wr∧wr.heap[bx]? =some (bY (top ps))∧iK c.lw hh ps tn=R∧ps.length≤8388607) (fun _ wr=>dQ t wr)
 case atStart=>exact⟨w1.heap.size,st.stk,st.turn,rfl,(nD.out.box _).less (fun b hb=> .inr hb),heap_alloc_new _ _,HR.out,HLEN.out⟩
 case round=>
  obtain⟨bx,ps,tn,rfl,g8,Kv,hR2,hl2⟩:=hrel
  have hbl:=lt_of_block Kv
  have hB:∀b,b=bx→b<wr.heap.size:=fun b hb=>by omega
  have xl:Hid (∀D:LW wr,Calls Tryz.prog 131 #[] D.val fun e w'=>e= .returned (fL dI)∧Below D.val.heap.size D.val w'):=fun D=>oy D.val
  have jP:=Nu.hid Kv
  have fo:=Nu.hid g8
  have su:=Nu.hid hR2
  have jN:=Nu.hid hl2
  have hne:=LW.any wr
  have hcs:∀D:LW wr,D.val.heap[bx]? =some (bY (top ps)):=fun D=>(D.h.block _ hbl).trans Kv
  cases ps with
  |nil=>
   have y0:∀D:LW wr,D.val.cell? ⟨bx,0,none⟩=some (.int .i64 (-1)):=fun D=>(au (hcs D)).1
   have y1:∀D:LW wr,D.val.cell? ⟨bx,1,none⟩=some (.int .i64 (-1)):=fun D=>(au (hcs D)).2.1
   have y2:∀D:LW wr,D.val.cell? ⟨bx,2,none⟩=some (.int .i64 (-1)):=fun D=>(au (hcs D)).2.2.1
   have y3:∀D:LW wr,D.val.cell? ⟨bx,3,none⟩=some (.int .i64 (-1)):=fun D=>(au (hcs D)).2.2.2.1
   have hst:st'={ st with stk:=[],turn:=tn }:=by
    have h1:=HT.out
    unfold trim at h1
    rw[HR.out,←su.out] at h1
    exact(Option.some.inj h1).symm
   have HST:=Nu.hid hst
   clear g8 Kv hR2 hl2 hcs hbl hB hst
   refine(show Code.wp _ _ _ _ _ from ?_)
   go_wp2_with fail
   refine aC (by kernel_rfl) (by kernel_rfl) ?_
   repeat (go_big_quiet_step ((first|(go_at_call 131;exact Calls.lw (xl.out _)))))
   refine wpQuiet_nil ?_
   rintro _ ⟨D,rfl⟩
   clear y0 y1 y2 y3
   have qP:=fo.out.later D.h
   have aaH:=Nu.hid (aD.reads (qP.less (B':=fun _=>False) (fun _ hb=>hb.elim)) (fun b hb=>hb.elim) (f:=118) (args:= #[.pointer (some ⟨t,0,none⟩)]) (R:=fun e=>e= .returned (fL dI)) (fun hT=>iw hT (by simp)))
   clear qP
   go_wp2_with (go_at_call 118;refine aaH.out.mono ?_;rintro e w3 ⟨rfl,g7,-,-⟩;have p9:=Nu.hid g7;clear g7)
   obtain⟨W4,k8⟩:∃W4,W4=w3.alloc (bY dI):=⟨_,rfl⟩
   have hb4:W4.heap[w3.heap.size]? =some (bY dI):=by rw[k8];exact heap_alloc_new _ _
   have hl4:=lt_of_block hb4
   have p8:Hid (aD c p t W0 O W (fun _=>False) { st with stk:=[],turn:=tn } W4):=by rw[k8];exact(p9.out.box _).less (fun _ hb=>hb.elim)
   have S8:Hid (∀D:LW W4,Calls Tryz.prog 131 #[] D.val fun e w'=>e= .returned (fL dI)∧Below D.val.heap.size D.val w'):=fun D=>oy D.val
   have y0:∀D:LW W4,D.val.cell? ⟨w3.heap.size,0,none⟩=some (.int .i64 (-1)):=fun D=>(au ((D.h.block _ hl4).trans hb4)).1
   have y1:∀D:LW W4,D.val.cell? ⟨w3.heap.size,1,none⟩=some (.int .i64 (-1)):=fun D=>(au ((D.h.block _ hl4).trans hb4)).2.1
   have y2:∀D:LW W4,D.val.cell? ⟨w3.heap.size,2,none⟩=some (.int .i64 (-1)):=fun D=>(au ((D.h.block _ hl4).trans hb4)).2.2.1
   have y3:∀D:LW W4,D.val.cell? ⟨w3.heap.size,3,none⟩=some (.int .i64 (-1)):=fun D=>(au ((D.h.block _ hl4).trans hb4)).2.2.2.1
   have Qr:=LW.any W4
   have nU:=Nu.hid k8
   clear k8 hb4 hl4
   change Code.wp _ _ _ _ (w3.alloc (bY dI))
   rw[←nU.out]
   refine aC (by kernel_rfl) (by kernel_rfl) ?_
   repeat (go_big_quiet_step ((first|(go_at_call 131;exact Calls.lw (S8.out _)))))
   refine wpQuiet_nil ?_
   rintro _ ⟨D4,rfl⟩
   clear y0 y1 y2 y3
   go_wp2
   go_end0
   refine⟨rfl,?_⟩
   rw[HST.out]
   exact(p8.out.later D4.h).post
  |cons q ps=>
   have UQ:R≠none:=fun e=>by
    have h1:=HT.out
    unfold trim at h1
    rw[HR.out,e] at h1
    cases h1
   have hq:q≠dI:=fun e=>UQ (by rw[←su.out,e];unfold iK;rw[if_pos rfl])
   obtain⟨a,ha,hRa⟩:∃a,least c.lw q=some a∧(if a=hh then (if q.1=aP then iK c.lw hh ps tn else match eT tn q.1.2 (-1) with|none=>none|some aZ=>iK c.lw hh ps aZ) else some (q::ps,tn))=R:=by
    have h1:=su.out
    unfold iK at h1
    rw[if_neg hq] at h1
    cases hl:least c.lw q with
    |none=>rw[hl] at h1;exact absurd h1.symm UQ
    |some a=>rw[hl] at h1;exact⟨a,rfl,h1⟩
   have C7:Hid (∀D:LW wr,Calls Tryz.prog 147 #[.pointer (some ⟨t,0,none⟩),fL q] D.val fun e w'=>e= .returned (.int .i64 a)∧Below D.val.heap.size D.val w'):=fun D=>by
    obtain⟨-,-,O',-,-,L',U',Z',oY,qo,hT⟩:=fo.out.later D.h
    exact FV hT ha
   have HRA:=Nu.hid hRa
   have HQ:=Nu.hid hq
   have HRS:=Nu.hid UQ
   have hdec:=Gq hq
   have HB:=Nu.hid hB
   obtain⟨⟨qa,qb⟩,qc,qd⟩:=q
   dsimp only at hdec
   have y0:∀D:LW wr,D.val.cell? ⟨bx,0,none⟩=some (.int .i64 qa):=fun D=>(au (hcs D)).1
   have y1:∀D:LW wr,D.val.cell? ⟨bx,1,none⟩=some (.int .i64 qb):=fun D=>(au (hcs D)).2.1
   have y2:∀D:LW wr,D.val.cell? ⟨bx,2,none⟩=some (.int .i64 qc):=fun D=>(au (hcs D)).2.2.1
   have y3:∀D:LW wr,D.val.cell? ⟨bx,3,none⟩=some (.int .i64 qd):=fun D=>(au (hcs D)).2.2.2.1
   clear g8 Kv hR2 hl2 hcs hbl hB UQ hRa hq ha
   by_cases E7:a=hh
   ·have hae:(a==hh)=true:=by simp[E7]
    go_wp2_with fail
    refine aC (by kernel_rfl) (by kernel_rfl) ?_
    repeat (go_big_quiet_step ((first|(go_at_call 131;exact Calls.lw (xl.out _))|(go_at_call 147;exact Calls.lw (C7.out _)))))
    refine wpQuiet_nil ?_
    rintro _ ⟨D,rfl⟩
    clear y0 y1 y2 y3
    have qP:=fo.out.later D.h
    have wP:D.val.heap[bx]? =some (bY ((qa,qb),qc,qd)):=(D.h.block _ (lt_of_block jP.out)).trans jP.out
    have hBD:∀b,b=bx→b<D.val.heap.size:=fun b hb=>by have:=lt_of_block wP;omega
    have jM:=Nu.hid (aD.calls qP hBD (f:=148) (args:= #[.pointer (some ⟨t,0,none⟩)]) (R:=fun e=>e= .returned (.tuple #[])) (st':={ st with stk:=ps,turn:=tn }) (fun hT=>nZ hT rfl (by have:=jN.out;simp at this ⊢;omega)))
    have I1:=Nu.hid wP
    obtain⟨z0,z1,z2,z3,zf⟩:=au wP
    clear qP wP hBD
    by_cases hl:(qa,qb)=aP
    ·have hle:decide ((qa,qb)=aP)=true:=decide_eq_true hl
     have fZ:Hid (∀w,Calls Tryz.prog 149 #[.agg #[.int .i64 qa,.int .i64 qb]] w fun e w'=>e= .returned (.bool true)∧Below w.heap.size w w'):=fun w=>by rw[←hle];exact fW (qa,qb) w
     have xk:Hid (iK c.lw hh ps tn=R):=by
      have h1:=HRA.out
      rw[if_pos E7] at h1
      rw[if_pos hl] at h1
      exact h1
     have HHL:=Nu.hid hl
     clear hle hl hdec
     go_wp2_with (first
      |(go_at_call 148;refine jM.out.mono ?_;rintro e w3 ⟨rfl,g7,hk3⟩;have hb3:=(hk3 bx rfl).trans I1.out;have p9:=Nu.hid g7;have dM:=Nu.hid hb3;obtain⟨z0,z1,z2,z3,zf⟩:=au hb3;clear g7 hk3 hb3)
      |(go_at_call 149;refine(fZ.out _).mono ?_;rintro e w4 ⟨rfl,hb4⟩;have p8:=Nu.hid (p9.out.later hb4);have hb5:=(hb4.block _ (lt_of_block dM.out)).trans dM.out;have gJ:=Nu.hid hb5;obtain⟨z0,z1,z2,z3,zf⟩:=au hb5;clear hb4 hb5))
     have kM:=(p8.out.less (B':=fun _=>False) (fun _ hb=>hb.elim)).box (bY ((qa,qb),qc,qd))
     have hb5:(w4.alloc (bY ((qa,qb),qc,qd))).heap[w4.heap.size]? =some (bY ((qa,qb),qc,qd)):=heap_alloc_new _ _
     have BS:=Nu.hid (aD.reads kM (fun b hb=>hb.elim (fun q=>q.elim) fun q=>by have:=lt_of_block hb5;omega) (f:=118) (args:= #[.pointer (some ⟨t,0,none⟩)]) (R:=fun e=>e= .returned (fL (top ps))) (fun hT=>iw hT (by have:=jN.out;simp at this ⊢;omega)))
     have gj:=Nu.hid hb5
     clear kM hb5
     go_at_call 118
     refine BS.out.mono ?_
     rintro e w6 ⟨rfl,eZ,kL,-⟩
     have cg:=(kL w4.heap.size (.inr rfl)).trans gj.out
     obtain⟨x0,x1,x2,x3,xf⟩:=au cg
     have rB:=Nu.hid eZ
     have jQ:=Nu.hid cg
     clear eZ kL cg
     obtain⟨q',hq'⟩:∃q',top ps=q':=⟨_,rfl⟩
     have HQ':=Nu.hid hq'
     rw[hq']
     clear hq'
     go_wp2
     go_roundw
     case rel=>
      refine⟨w4.heap.size,ps,tn,rfl,?_,?_,xk.out,by have:=jN.out;simp at this;omega⟩
      ·exact((((rB.out.less (B':=fun b=>b=w4.heap.size) (fun _ hb=> .inr hb)).set rfl _).set rfl _).set rfl _).set rfl _
      ·rw[HQ'.out]
       exact iE jQ.out _ _ _ _
     case measure=>
      have h1:=(((((rB.out.less (B':=fun b=>b=w4.heap.size) (fun _ hb=> .inr hb)).set (i:=0) rfl (.int .i64 q'.1.1)).set (i:=1) rfl (.int .i64 q'.1.2)).set (i:=2) rfl (.int .i64 q'.2.1)).set (i:=3) rfl (.int .i64 q'.2.2)).dQ
      have h2:=fo.out.dQ
      rw[h2]
      dsimp only at h1 ⊢
      rw[h1]
      simp
    ·have hle:decide ((qa,qb)=aP)=false:=decide_eq_false hl
     have fZ:Hid (∀w,Calls Tryz.prog 149 #[.agg #[.int .i64 qa,.int .i64 qb]] w fun e w'=>e= .returned (.bool false)∧Below w.heap.size w w'):=fun w=>by rw[←hle];exact fW (qa,qb) w
     obtain⟨k,hkb,Uw,xk⟩:∃k:Nat,qb=(k:Int)∧k<tn.length∧Hid (iK c.lw hh ps (tn.set k (-1))=R):=by
      have h1:=HRA.out
      rw[if_pos E7] at h1
      rw[if_neg hl] at h1
      cases hp:eT tn ((qa,qb),qc,qd).1.2 (-1) with
      |none=>rw[hp] at h1;exact absurd h1.symm HRS.out
      |some tn'=>
       rw[hp] at h1
       obtain⟨k,e1,e2,e3⟩:=jl hp
       refine⟨k,e1,e2,?_⟩
       rw[←e3]
       exact h1
     subst hkb
     clear hle hl hdec
     go_wp2_with (first
      |(go_at_call 148;refine jM.out.mono ?_;rintro e w3 ⟨rfl,g7,hk3⟩;have hb3:=(hk3 bx rfl).trans I1.out;have p9:=Nu.hid g7;have dM:=Nu.hid hb3;obtain⟨z0,z1,z2,z3,zf⟩:=au hb3;clear g7 hk3 hb3)
      |(go_at_call 149;refine(fZ.out _).mono ?_;rintro e zA ⟨rfl,hb4⟩;have p8:=Nu.hid (p9.out.later hb4);have hb5:=(hb4.block _ (lt_of_block dM.out)).trans dM.out;have gJ:=Nu.hid hb5;obtain⟨z0,z1,z2,z3,zf⟩:=au hb5;clear hb4 hb5))
     obtain⟨U',u0,u1,u2,u3,u4,u5,u6⟩:=p8.out.TM (k:=k) Uw
     have abg:=Nu.hid (u6 (-1)).drew
     have n1:U'≠bx:=u3 bx rfl
     have v0:(0:Int)≤(k:Int):=by omega
     have v1:(k:Int)<(c.es.length:Int):=by omega
     have Ba:(zA.setCell ⟨U',k,none⟩ (.int .i64 (-1))).drew.heap[bx]? =some (bY ((qa,(k:Int)),qc,qd)):=(heap_setCell_other zA ⟨U',k,none⟩ _ _ (fun e=>n1 e.symm)).trans gJ.out
     have OP:=Nu.hid Ba
     clear u3 u6 Ba
     go_big_region
     go_wp2_with fail
     have kM:aD c p t W0 O W (fun b=>b=zA.heap.size) { st with stk:=ps,turn:=tn.set k (-1) } ((zA.setCell ⟨U',k,none⟩ (.int .i64 (-1))).alloc (bY ((qa,(k:Int)),qc,qd))).drew:=((abg.out.less (B':=fun _=>False) (fun _ hb=>hb.elim)).box (bY ((qa,(k:Int)),qc,qd))).less (fun b hb=> .inr (by rw[hb];simp[World.drew]))
     have hb5:((zA.setCell ⟨U',k,none⟩ (.int .i64 (-1))).alloc (bY ((qa,(k:Int)),qc,qd))).drew.heap[zA.heap.size]? =some (bY ((qa,(k:Int)),qc,qd)):=by
      have h1:=heap_alloc_new (zA.setCell ⟨U',k,none⟩ (.int .i64 (-1))) (bY ((qa,(k:Int)),qc,qd))
      have h2:(zA.setCell ⟨U',k,none⟩ (.int .i64 (-1))).heap.size=zA.heap.size:=by simp
      rw[h2] at h1
      exact h1
     have BS:=Nu.hid (aD.reads kM (fun b hb=>by have:=lt_of_block hb5;omega) (f:=118) (args:= #[.pointer (some ⟨t,0,none⟩)]) (R:=fun e=>e= .returned (fL (top ps))) (fun hT=>iw hT (by have:=jN.out;simp at this ⊢;omega)))
     have gj:=Nu.hid hb5
     clear kM hb5
     go_at_call 118
     refine BS.out.mono ?_
     rintro e w6 ⟨rfl,eZ,kL,-⟩
     have cg:=(kL zA.heap.size rfl).trans gj.out
     obtain⟨x0,x1,x2,x3,xf⟩:=au cg
     have rB:=Nu.hid eZ
     have jQ:=Nu.hid cg
     clear eZ kL cg
     obtain⟨q',hq'⟩:∃q',top ps=q':=⟨_,rfl⟩
     have HQ':=Nu.hid hq'
     rw[hq']
     clear hq'
     go_wp2
     go_roundw
     case rel=>
      refine⟨zA.heap.size,ps,tn.set k (-1),rfl,?_,?_,xk.out,by have:=jN.out;simp at this;omega⟩
      ·exact(((rB.out.set rfl _).set rfl _).set rfl _).set rfl _
      ·rw[HQ'.out]
       exact iE jQ.out _ _ _ _
     case measure=>
      have h1:=((((rB.out.set (i:=0) rfl (.int .i64 q'.1.1)).set (i:=1) rfl (.int .i64 q'.1.2)).set (i:=2) rfl (.int .i64 q'.2.1)).set (i:=3) rfl (.int .i64 q'.2.2)).dQ
      have h2:=fo.out.dQ
      rw[h2]
      dsimp only at h1 ⊢
      rw[h1]
      simp
   ·have hae:(a==hh)=false:=by simp[E7]
    have hR3:R=some (((qa,qb),qc,qd)::ps,tn):=by
     have h1:=HRA.out
     rw[if_neg E7] at h1
     exact h1.symm
    obtain⟨gX,Jm,i1,gH,Jl,i2,hc1,hc2,hst⟩:∃gX Jm i1 gH Jl i2,cut c.lw hh st.like tn (qa,qb) (qc,qd)=some (gX,Jm,i1)∧cut c.lw hh gX Jm (qc,qd) i1=some (gH,Jl,i2)∧st'={ st with stk:=(i1,i2)::ps,like:=gH,turn:=Jl }:=by
     have h1:=HT.out
     unfold trim at h1
     rw[HR.out,hR3] at h1
     dsimp only at h1
     rw[if_neg HQ.out] at h1
     cases e1:cut c.lw hh st.like tn (qa,qb) (qc,qd) with
     |none=>rw[e1] at h1;cases h1
     |some r1=>
      obtain⟨gX,Jm,i1⟩:=r1
      rw[e1] at h1
      dsimp only at h1
      cases e2:cut c.lw hh gX Jm (qc,qd) i1 with
      |none=>rw[e2] at h1;cases h1
      |some r2=>
       obtain⟨gH,Jl,i2⟩:=r2
       rw[e2] at h1
       exact⟨gX,Jm,i1,gH,Jl,i2,rfl,e2,(Option.some.inj h1).symm⟩
    have nY:=Nu.hid hc1
    have uq:=Nu.hid hc2
    have HST:=Nu.hid hst
    clear hR3 hc1 hc2 hst
    go_wp2_with fail
    refine aC (by kernel_rfl) (by kernel_rfl) ?_
    repeat (go_big_quiet_step ((first|(go_at_call 131;exact Calls.lw (xl.out _))|(go_at_call 147;exact Calls.lw (C7.out _)))))
    refine wpQuiet_nil ?_
    rintro _ ⟨D,rfl⟩
    clear y0 y1 y2 y3
    have qP:=(fo.out.later D.h).less (B':=fun _=>False) (fun _ hb=>hb.elim)
    have BS:=Nu.hid (aD.reads qP (fun b hb=>hb.elim) (f:=118) (args:= #[.pointer (some ⟨t,0,none⟩)]) (R:=fun e=>e= .returned (fL ((qa,qb),qc,qd))) (fun hT=>iw hT (by have:=jN.out;simp at this ⊢;omega)))
    clear qP
    go_wp2_with (go_at_call 118;refine BS.out.mono ?_;rintro e w3 ⟨rfl,g7,-,-⟩;have p9:=Nu.hid g7;clear g7)
    obtain⟨W4,k8⟩:∃W4,W4=w3.alloc (bY ((qa,qb),qc,qd)):=⟨_,rfl⟩
    obtain⟨bb,Ba⟩:∃bb,w3.heap.size=bb:=⟨_,rfl⟩
    have hb4:W4.heap[bb]? =some (bY ((qa,qb),qc,qd)):=by rw[k8,←Ba];exact heap_alloc_new _ _
    have hl4:=lt_of_block hb4
    have p8:Hid (aD c p t W0 O W (fun b=>b=bb) { st with stk:=((qa,qb),qc,qd)::ps,turn:=tn } W4):=by rw[k8];exact(p9.out.box _).less (fun b hb=> .inr (by omega))
    have S8:Hid (∀D:LW W4,Calls Tryz.prog 131 #[] D.val fun e w'=>e= .returned (fL dI)∧Below D.val.heap.size D.val w'):=fun D=>oy D.val
    have y0:∀D:LW W4,D.val.cell? ⟨bb,0,none⟩=some (.int .i64 qa):=fun D=>(au ((D.h.block _ hl4).trans hb4)).1
    have y1:∀D:LW W4,D.val.cell? ⟨bb,1,none⟩=some (.int .i64 qb):=fun D=>(au ((D.h.block _ hl4).trans hb4)).2.1
    have y2:∀D:LW W4,D.val.cell? ⟨bb,2,none⟩=some (.int .i64 qc):=fun D=>(au ((D.h.block _ hl4).trans hb4)).2.2.1
    have y3:∀D:LW W4,D.val.cell? ⟨bb,3,none⟩=some (.int .i64 qd):=fun D=>(au ((D.h.block _ hl4).trans hb4)).2.2.2.1
    have Qr:=LW.any W4
    have nU:=Nu.hid k8
    have gJ:=Nu.hid hb4
    change Code.wp _ _ _ _ (w3.alloc (bY ((qa,qb),qc,qd)))
    rw[←nU.out,Ba]
    clear k8 hb4 hl4 Ba
    refine aC (by kernel_rfl) (by kernel_rfl) ?_
    repeat (go_big_quiet_step ((first|(go_at_call 131;exact Calls.lw (S8.out _)))))
    refine wpQuiet_nil ?_
    rintro _ ⟨D4,rfl⟩
    clear y0 y1 y2 y3
    have Ho:=p8.out.later D4.h
    have hb4:D4.val.heap[bb]? =some (bY ((qa,qb),qc,qd)):=(D4.h.block _ (lt_of_block gJ.out)).trans gJ.out
    have jM:=Nu.hid (aD.calls Ho (fun b hb=>by have:=lt_of_block hb4;omega) (f:=148) (args:= #[.pointer (some ⟨t,0,none⟩)]) (R:=fun e=>e= .returned (.tuple #[])) (st':={ st with stk:=ps,turn:=tn }) (fun hT=>nZ hT rfl (by have:=jN.out;simp at this ⊢;omega)))
    have aga:=Nu.hid hb4
    clear Ho hb4
    go_wp2_with (go_at_call 148;refine jM.out.mono ?_;rintro e w5 ⟨rfl,kM,hk5⟩;have hb5:=(hk5 bb rfl).trans aga.out;have yq:=Nu.hid kM;have gj:=Nu.hid hb5;obtain⟨z0,z1,z2,z3,zf⟩:=au hb5;clear kM hk5 hb5)
    have abt:=Nu.hid (aD.calls yq.out (fun b hb=>by have:=lt_of_block gj.out;omega) (f:=150) (args:= #[.pointer (some ⟨t,0,none⟩),dG (qa,qb),dG (qc,qd),.int .i64 hh]) (R:=fun e=>e= .returned (dG i1)) (st':={ st with stk:=ps,like:=gX,turn:=Jm }) (fun hT=>Dh hT nY.out))
    obtain⟨J2,J1⟩:=i1
    obtain⟨J0,JZ⟩:=i2
    go_at_call 150
    refine abt.out.mono ?_
    rintro e w6 ⟨rfl,eZ,kL⟩
    have cg:=(kL bb rfl).trans gj.out
    have rB:=Nu.hid eZ
    have jQ:=Nu.hid cg
    obtain⟨z0,z1,z2,z3,zf⟩:=au cg
    clear eZ kL cg
    go_wp2_with fail
    have Hl:=(rB.out.set (b:=bb) (i:=0) rfl (.int .i64 J2)).set (b:=bb) (i:=1) rfl (.int .i64 J1)
    have kO:=Bf jQ.out (.int .i64 J2) (.int .i64 J1)
    generalize (w6.setCell ⟨bb,0,none⟩ (.int .i64 J2)).setCell ⟨bb,1,none⟩ (.int .i64 J1)=w7 at*
    have abr:=Nu.hid (aD.calls Hl (fun b hb=>by have:=lt_of_block kO;omega) (f:=150) (args:= #[.pointer (some ⟨t,0,none⟩),dG (qc,qd),dG (J2,J1),.int .i64 hh]) (R:=fun e=>e= .returned (dG (J0,JZ))) (st':={ st with stk:=ps,like:=gH,turn:=Jl }) (fun hT=>Dh hT uq.out))
    have FI:=Nu.hid kO
    clear Hl kO z0 z1 z2 z3 zf
    go_at_call 150
    refine abr.out.mono ?_
    rintro e w8 ⟨rfl,xW,Hh⟩
    have dH:=(Hh bb rfl).trans FI.out
    have B4:=Nu.hid xW
    have Lz:=Nu.hid dH
    obtain⟨z0,z1,z2,z3,zf⟩:=au dH
    clear xW Hh dH
    go_wp2_with fail
    have Xg:=(B4.out.set (b:=bb) (i:=2) rfl (.int .i64 J0)).set (b:=bb) (i:=3) rfl (.int .i64 JZ)
    have gw:=Bg Lz.out (.int .i64 J0) (.int .i64 JZ)
    generalize (w8.setCell ⟨bb,2,none⟩ (.int .i64 J0)).setCell ⟨bb,3,none⟩ (.int .i64 JZ)=w9 at*
    have aaT:=Nu.hid (aD.calls Xg (fun b hb=>by have:=lt_of_block gw;omega) (f:=134) (args:= #[.pointer (some ⟨t,0,none⟩),fL ((J2,J1),J0,JZ)]) (R:=fun e=>e= .returned (.tuple #[])) (st':={ st with stk:=((J2,J1),J0,JZ)::ps,like:=gH,turn:=Jl }) (fun hT=>sU hT ((J2,J1),J0,JZ) (by have:=jN.out;simp at this ⊢;omega)))
    clear Xg gw z0 z1 z2 z3 zf
    go_at_call 134
    refine aaT.out.mono ?_
    rintro e wa ⟨rfl,adr,-⟩
    go_wp2
    go_end0
    refine⟨rfl,?_⟩
    rw[HST.out]
    exact adr.post
end
end
end Go.Proofs.YtnhcggfbkoppnaaGreat
