import Derived.Test.YtnhcggfbkoppnaaGreatMg28
import Derived.WalkMore
namespace Go.Proofs.YtnhcggfbkoppnaaGreat
section
open Go.RowKit Lt
abbrev kK (q:Iv):Obj:= .cells #[.int .i64 q.1,.int .i64 q.2] 166 (0,0)
section
variable {c:Wp} {p t:Nat} {W0 W:World} {O:Nat→Prop} {st:TS} {L U Z:Nat} {vp vw:Value}
def Sg (c:Wp) (p t:Nat) (W0:World) (O:Nat→Prop) (W:World) (st:TS) (r:Option (List Pr×List Int×Iv)) (e:Ending) (w':World):Prop:=
 match r with
 |none=>∃i st',e= .returned (.tuple #[dG i,.bool false])∧aT c p t W0 O W st' w'
 |some (ps,aH,i)=>e= .returned (.tuple #[dG i,.bool true])∧aT c p t W0 O W { st with stk:=ps,like:=aH } w'
theorem yZ {w:World} {g o:Nat} {q:jw} (h:∀j u,(tM q)[j]? =some u→w.cell? ⟨g,o+j,none⟩=some u):w.cell? ⟨g,o,none⟩=some (.int .i64 q.1)∧w.cell? ⟨g,o+1,none⟩=some (.int .i64 q.2.1)∧w.cell? ⟨g,o+2,none⟩=some (.int .i64 q.2.2.1.1)∧w.cell? ⟨g,o+3,none⟩=some (.int .i64 q.2.2.1.2)∧w.cell? ⟨g,o+4,none⟩=some (.int .i64 q.2.2.2.1)∧w.cell? ⟨g,o+5,none⟩=some (.int .i64 q.2.2.2.2):=
 ⟨h 0 _ rfl,h 1 _ rfl,h 2 _ rfl,h 3 _ rfl,h 4 _ rfl,h 5 _ rfl⟩
set_option maxRecDepth 100000 in
set_option maxHeartbeats 16000000 in
theorem De (h:aQ c p t W0 O st L U Z vp vw W) {v:jw} {ws:List jw} (bB:st.way=v::ws) {above:Nat} {r:Option (List Pr×List Int×Iv)} (hlen:st.stk.length≤8388607) (hwl:st.way.length≤8388607)
 (ho:Lt.own c.lw st.lowest above v.2.2 st.stk st.like aP=some r):Calls Tryz.prog 161 #[.pointer (some ⟨t,0,none⟩),.int .i64 (above:Int)] W (Sg c p t W0 O W st r):=by
 have eqP:=RT
 obtain⟨W1,hW1⟩:∃W1,W1=W.alloc (.cells #[.int .i64 0,.int .i64 0] 166):=⟨_,rfl⟩
 have hb1:Below W.heap.size W W1:=by rw[hW1];exact(Below.refl _ _).alloc (Nat.le_refl _) _
 have h1:=h.later hb1
 obtain⟨x0,-,-,-,x4,-,-⟩:=h1.cells
 have hb2:Below W1.heap.size W1 (W1.alloc (.cells #[.int .i64 0,.int .i64 0,.int .i64 0,.int .i64 0] 168)):=(Below.refl _ _).alloc (Nat.le_refl _) _
 have h2:=h1.later hb2
 obtain⟨-,-,-,-,y4,-,-⟩:=h2.cells
 have Ay:=h1.way
 have PO:=h2.way
 rw[bB,List.reverse_cons] at PO
 rw[bB,List.reverse_cons] at Ay
 obtain⟨g,cap,rfl,hc,-,-,-⟩:=Ay.snoc oG
 rw[List.length_reverse] at hc x4
 obtain⟨d0,d1,d2,d3,d4,d5⟩:=yZ hc
 obtain⟨g',cap',ZC,hc',-,-,-⟩:=PO.snoc oG
 cases ZC
 rw[List.length_reverse] at hc' y4
 obtain⟨-,-,f2,f3,f4,f5⟩:=yZ hc'
 obtain⟨k,hk⟩:∃k,ws.length=k:=⟨_,rfl⟩
 rw[hk] at d2 d3 d4 d5 x4 f2 f3 f4 f5 y4
 rw[bB,List.length_cons,hk] at hwl
 have e1:((k:Int)+1)-1=(k:Int):=by omega
 have e2:(0:Int)≤(k:Int):=by omega
 have e3:(k:Int)<(k:Int)+1:=by omega
 obtain⟨vv,vn,⟨va,vb⟩,vc,vd⟩:=v
 dsimp only at d2 d3 d4 d5 f2 f3 f4 f5 ho
 rw[hW1] at x0 x4 d2 d3 d4 d5 y4 f2 f3 f4 f5
 have nD:Hid (aD c p t W0 O W (fun b=>b=W.heap.size) st W1):=by rw[hW1];exact((aD.start h).box _).less (fun b hb=> .inr hb)
 rw[hW1] at nD
 have HHO:=Nu.hid ho
 have HLEN:=Nu.hid hlen
 clear h h1 h2 Ay PO hc hc' hb1 hb2 hk d0 d1 bB ho hlen hW1
 go_enter Tryz.func161,Tryz.ntmps161
 go_wp2
 go_step3
 go_wp2_with fail
 go_big_region
 obtain⟨W2,hW2⟩:∃W2,W2=((W.alloc (.cells #[.int .i64 0,.int .i64 0] 166)).alloc (bY ((va,vb),vc,vd))).drew:=⟨_,rfl⟩
 have g8:aD c p t W0 O W (fun b=>b=W.heap.size∨b=W.heap.size+1) st W2:=by
  rw[hW2]
  exact((nD.out.box (bY ((va,vb),vc,vd))).less (fun b hb=>hb.elim .inl fun q=> .inr (by rw[q];simp))).drew
 have hb4:W2.heap[W.heap.size]? =some (kK (0,0)):=by
  rw[hW2]
  show((W.alloc _).alloc _).heap[W.heap.size]? =_
  rw[Below.heap_alloc _ _ _ (by simp)]
  exact heap_alloc_new W _
 have cg:W2.heap[W.heap.size+1]? =some (bY ((va,vb),vc,vd)):=by
  rw[hW2]
  have:=heap_alloc_new (W.alloc (.cells #[.int .i64 0,.int .i64 0] 166)) (bY ((va,vb),vc,vd))
  rw[World.size_alloc] at this
  exact this
 have fo:=Nu.hid g8
 have gJ:=Nu.hid hb4
 have jQ:=Nu.hid cg
 change Exit.then _ _ _ _ ((W.alloc (.cells #[.int .i64 0,.int .i64 0] 166)).alloc (bY ((va,vb),vc,vd))).drew
 rw[←hW2]
 clear g8 hb4 cg hW2 nD x0 x4 y4 d2 d3 d4 d5 f2 f3 f4 f5
 go_wp2_with (go_at_call 135;refine(mg _).mono ?_;rintro e w3 ⟨rfl,hb3⟩;have p9:=Nu.hid (fo.out.later hb3);have TG:=Nu.hid ((hb3.block _ (lt_of_block gJ.out)).trans gJ.out);have TF:=Nu.hid ((hb3.block _ (lt_of_block jQ.out)).trans jQ.out);clear hb3)
 go_step3
 obtain⟨b4,hb4⟩:∃b4,W.heap.size=b4:=⟨_,rfl⟩
 obtain⟨b6,cg⟩:∃b6,W.heap.size+1=b6:=⟨_,rfl⟩
 obtain⟨b7,kO⟩:∃b7,w3.heap.size=b7:=⟨_,rfl⟩
 have p8:Hid (aD c p t W0 O W (fun b=>b=b4∨b=b6∨b=b7) st (w3.alloc (kK (-1,-1)))):=(p9.out.box (kK (-1,-1))).less fun b hb=>by
  rcases hb with q|q|q
  ·exact .inl (.inl (by omega))
  ·exact .inl (.inr (by omega))
  ·exact .inr (by omega)
 have hlt3:=lt_of_block TG.out
 have Me:=lt_of_block TF.out
 have agb:Hid ((w3.alloc (kK (-1,-1))).heap[b4]? =some (kK (0,0))):=by
  rw[←hb4]
  show(w3.alloc (kK (-1,-1))).heap[W.heap.size]? =_
  rw[Below.heap_alloc _ _ _ hlt3]
  exact TG.out
 have af9:Hid ((w3.alloc (kK (-1,-1))).heap[b6]? =some (bY ((va,vb),vc,vd))):=by
  rw[←cg]
  show(w3.alloc (kK (-1,-1))).heap[W.heap.size+1]? =_
  rw[Below.heap_alloc _ _ _ Me]
  exact TF.out
 have af8:Hid ((w3.alloc (kK (-1,-1))).heap[b7]? =some (kK (-1,-1))):=by
  rw[←kO]
  exact heap_alloc_new w3 _
 have IW:Hid (b4≠b6∧b4≠b7∧b6≠b7):=⟨by omega,by omega,by omega⟩
 have Re:b4+1=b6:=by omega
 rw[kO,hb4,Re]
 have HQ4:=Nu.hid hb4
 have IP:=Nu.hid Re
 have HQ7:=Nu.hid kO
 clear hb4 cg kO Re
 go_wp2_with fail
 clear hlt3 Me fo p9 gJ jQ TG TF
 go_loopw [8] (fun _ wr=>∃ps lk o,aD c p t W0 O W (fun b=>b=b4∨b=b6∨b=b7) { st with stk:=ps,like:=lk } wr∧wr.heap[b4]? =some (kK (0,0))∧wr.heap[b6]? =some (bY ((va,vb),vc,vd))∧wr.heap[b7]? =some (kK o)∧Lt.own c.lw st.lowest above ((va,vb),vc,vd) ps lk o=some r∧ps.length≤8388607) (fun _ wr=>dQ t wr)
 case atStart=>exact⟨st.stk,st.like,aP,p8.out,agb.out,af9.out,af8.out,HHO.out,HLEN.out⟩
 case round=>
  obtain⟨ps,lk,o,g8,Zd,yA,Zc,ho2,hl2⟩:=hrel
  have xl:Hid (∀D:LW wr,Calls Tryz.prog 118 #[.pointer (some ⟨t,0,none⟩)] D.val fun e w'=>e= .returned (fL (top ps))∧Below D.val.heap.size D.val w'):=fun D=>by
   obtain⟨-,-,O',-,-,L',U',Z',oY,qo,hT⟩:=g8.later D.h
   exact iw hT (by dsimp only;omega)
  have Dx:=lt_of_block yA
  have y0:∀D:LW wr,D.val.cell? ⟨b6,0,none⟩=some (.int .i64 va):=fun D=>(au ((D.h.block _ Dx).trans yA)).1
  have y1:∀D:LW wr,D.val.cell? ⟨b6,1,none⟩=some (.int .i64 vb):=fun D=>(au ((D.h.block _ Dx).trans yA)).2.1
  have y2:∀D:LW wr,D.val.cell? ⟨b6,2,none⟩=some (.int .i64 vc):=fun D=>(au ((D.h.block _ Dx).trans yA)).2.2.1
  have y3:∀D:LW wr,D.val.cell? ⟨b6,3,none⟩=some (.int .i64 vd):=fun D=>(au ((D.h.block _ Dx).trans yA)).2.2.2.1
  have hne:=LW.any wr
  have fo:=Nu.hid g8
  have Ss:=Nu.hid Zd
  have Ld:=Nu.hid yA
  have Sr:=Nu.hid Zc
  have jN:=Nu.hid hl2
  have HOW:=Nu.hid ho2
  by_cases kZ:top ps=((va,vb),vc,vd)
  ·have hr:r=some (ps,lk,o):=by
    have h1:=HOW.out
    cases ps with
    |nil=>
     unfold Lt.own at h1
     rw[if_pos (show dI=((va,vb),vc,vd) from kZ)] at h1
     exact(Option.some.inj h1).symm
    |cons q ps=>
     unfold Lt.own at h1
     rw[if_pos (show q=((va,vb),vc,vd) from kZ)] at h1
     exact(Option.some.inj h1).symm
   have HR:=Nu.hid hr
   rw[kZ] at xl
   clear g8 Zd yA Zc ho2 hl2 kZ hr Dx
   go_wp2_with fail
   refine aC (by kernel_rfl) (by kernel_rfl) ?_
   repeat (go_big_quiet_step ((first|(go_at_call 118;exact Calls.lw (xl.out _)))))
   refine wpQuiet_nil ?_
   rintro _ ⟨D,rfl⟩
   clear y0 y1 y2 y3
   have g7:=fo.out.later D.h
   have h4:=(D.h.block _ (lt_of_block Ss.out)).trans Ss.out
   have h7:=(D.h.block _ (lt_of_block Sr.out)).trans Sr.out
   obtain⟨oa,ob⟩:=o
   obtain⟨z0,z1,zf⟩:=az h4
   obtain⟨z2,z3,-⟩:=az h7
   obtain⟨r0,r1,-⟩:=az (gF h4 (.int .i64 oa) (.int .i64 ob))
   have bI:Hid (aT c p t W0 O W { st with stk:=ps,like:=lk } ((D.val.setCell ⟨b4,0,none⟩ (.int .i64 oa)).setCell ⟨b4,1,none⟩ (.int .i64 ob))):=((g7.set (b:=b4) (i:=0) (.inl rfl) (.int .i64 oa)).set (b:=b4) (i:=1) (.inl rfl) (.int .i64 ob)).post
   clear g7 h4 h7
   go_wp2
   refine bodyPost_ret (v:= .tuple #[dG (oa,ob),.bool true]) (by simp[results,Tryz.results161,go_sem,r0,r1]) rfl ?_
   rw[HR.out]
   exact⟨rfl,bI.out⟩
  ·cases ps with
   |nil=>
    exfalso
    have h1:=HOW.out
    unfold Lt.own at h1
    rw[if_neg (show ¬dI=((va,vb),vc,vd) from kZ)] at h1
    cases h1
   |cons q ps=>
    have Uq:q≠((va,vb),vc,vd):=kZ
    have how:(if (if q.2=aP then q.2 else q.1)≠aP then some none else match bz c.lw (if q.2=aP then q.1 else q.2).2,bz c.lw above with|some a,some b=>if a=b then (match bz st.lowest above with|none=>none|some x=>match eT lk (if q.2=aP then q.1 else q.2).2 x with|none=>none|some aH=>Lt.own c.lw st.lowest above ((va,vb),vc,vd) ps aH o) else (match join lk o (if q.2=aP then q.1 else q.2) with|none=>none|some (aH,o')=>Lt.own c.lw st.lowest above ((va,vb),vc,vd) ps aH o')|_,_=>none)=some r:=by
     have h1:=HOW.out
     unfold Lt.own at h1
     rw[if_neg Uq] at h1
     exact h1
    have S7:=Nu.hid how
    obtain⟨⟨qa,qb⟩,qc,qd⟩:=q
    have hdec:(!(qa==va)|| !(qb==vb)||(!(qc==vc)|| !(qd==vd)))=true:=by
     cases hc:(!(qa==va)|| !(qb==vb)||(!(qc==vc)|| !(qd==vd))) with
     |true=>rfl
     |false=>
      simp at hc
      exact absurd (by rw[hc.1.1,hc.1.2,hc.2.1,hc.2.2]) Uq
    have HNQ:Hid (∀D:LW wr,Calls Tryz.prog 118 #[.pointer (some ⟨t,0,none⟩)] D.val fun e w'=>e= .returned (fL ((qa,qb),qc,qd))∧Below D.val.heap.size D.val w'):=fun D=>xl.out D
    clear g8 Zd yA Zc ho2 hl2 kZ Dx Uq how xl
    go_wp2_with fail
    refine aC (by kernel_rfl) (by kernel_rfl) ?_
    repeat (go_big_quiet_step ((first|(go_at_call 118;exact Calls.lw (HNQ.out _)))))
    refine wpQuiet_nil ?_
    rintro _ ⟨D,rfl⟩
    clear y0 y1 y2 y3 hdec
    have qP:=fo.out.later D.h
    have tK:∀b,b=b4∨b=b6∨b=b7→b<D.val.heap.size:=fun b hb=>by
     have q1:=lt_of_block Ss.out
     have q2:=lt_of_block Ld.out
     have q3:=lt_of_block Sr.out
     have q4:=D.h.size
     omega
    have HD4:=Nu.hid ((D.h.block _ (lt_of_block Ss.out)).trans Ss.out)
    have HD6:=Nu.hid ((D.h.block _ (lt_of_block Ld.out)).trans Ld.out)
    have HD7:=Nu.hid ((D.h.block _ (lt_of_block Sr.out)).trans Sr.out)
    have lM:=Nu.hid (aD.reads qP tK (f:=118) (args:= #[.pointer (some ⟨t,0,none⟩)]) (R:=fun e=>e= .returned (fL ((qa,qb),qc,qd))) (fun hT=>iw hT (by have:=jN.out;simp at this ⊢;omega)))
    clear qP tK
    go_wp2_with (go_at_call 118;refine lM.out.mono ?_;rintro e w5 ⟨rfl,kM,hk5,-⟩;have yq:=Nu.hid kM;have HE4:=Nu.hid ((hk5 b4 (.inl rfl)).trans HD4.out);have FD:=Nu.hid ((hk5 b6 (.inr (.inl rfl))).trans HD6.out);have HE7:=Nu.hid ((hk5 b7 (.inr (.inr rfl))).trans HD7.out);clear kM hk5)
    obtain⟨b8,dH⟩:∃b8,w5.heap.size=b8:=⟨_,rfl⟩
    obtain⟨W6,uX⟩:∃W6,W6=w5.alloc (bY ((qa,qb),qc,qd)):=⟨_,rfl⟩
    have eZ:aD c p t W0 O W (fun b=>(b=b4∨b=b6∨b=b7)∨b=b8) { st with stk:=((qa,qb),qc,qd)::ps,like:=lk } W6:=by
     rw[uX]
     exact(yq.out.box _).less fun b hb=>hb.imp id fun q=>by omega
    have NR:W6.heap[b8]? =some (bY ((qa,qb),qc,qd)):=by rw[uX,←dH];exact heap_alloc_new _ _
    have A4:W6.heap[b4]? =some (kK (0,0)):=by rw[uX,Below.heap_alloc _ _ _ (lt_of_block HE4.out)];exact HE4.out
    have NS:W6.heap[b6]? =some (bY ((va,vb),vc,vd)):=by rw[uX,Below.heap_alloc _ _ _ (lt_of_block FD.out)];exact FD.out
    have Hu:W6.heap[b7]? =some (kK o):=by rw[uX,Below.heap_alloc _ _ _ (lt_of_block HE7.out)];exact HE7.out
    have hB6:∀b,(b=b4∨b=b6∨b=b7)∨b=b8→b<W6.heap.size:=fun b hb=>by
     have q1:=lt_of_block A4
     have q2:=lt_of_block NS
     have q3:=lt_of_block Hu
     have q4:=lt_of_block NR
     omega
    have HN8:Hid (b8≠b4∧b8≠b6∧b8≠b7):=by
     have q1:=lt_of_block HE4.out
     have q2:=lt_of_block FD.out
     have q3:=lt_of_block HE7.out
     exact⟨by omega,by omega,by omega⟩
    have jM:=Nu.hid (aD.calls eZ hB6 (f:=148) (args:= #[.pointer (some ⟨t,0,none⟩)]) (R:=fun e=>e= .returned (.tuple #[])) (st':={ st with stk:=ps,like:=lk }) (fun hT=>nZ hT rfl (by have:=jN.out;simp at this ⊢;omega)))
    have HF4:=Nu.hid A4
    have VM:=Nu.hid NS
    have HF7:=Nu.hid Hu
    have VL:=Nu.hid NR
    have Oy:=Nu.hid uX
    change Calls _ _ _ (w5.alloc (bY ((qa,qb),qc,qd))) _
    rw[←Oy.out,dH]
    clear eZ A4 NS Hu NR hB6 uX dH
    go_at_call 148
    refine jM.out.mono ?_
    rintro e w7 ⟨rfl,Hl,QK⟩
    have B5:=Nu.hid Hl
    have B8:=Nu.hid ((QK b4 (.inl (.inl rfl))).trans HF4.out)
    have uo:=Nu.hid ((QK b6 (.inl (.inr (.inl rfl)))).trans VM.out)
    have OL:=Nu.hid ((QK b7 (.inl (.inr (.inr rfl)))).trans HF7.out)
    have xu:=Nu.hid ((QK b8 (.inr rfl)).trans VL.out)
    obtain⟨z0,z1,z2,z3,zf⟩:=au xu.out
    clear Hl QK
    have fZ:Hid (∀(i:Iv) (w:World),Calls Tryz.prog 149 #[dG i] w fun e w'=>e= .returned (.bool (decide (i=aP)))∧Below w.heap.size w w'):=fW
    by_cases hA:(qc,qd)=aP
    ·have hle:decide ((qc,qd)=aP)=true:=decide_eq_true hA
     have oN:Hid (∀w,Calls Tryz.prog 149 #[.agg #[.int .i64 qc,.int .i64 qd]] w fun e w'=>e= .returned (.bool true)∧Below w.heap.size w w'):=fun w=>by rw[←hle];exact fZ.out (qc,qd) w
     have HTU:Hid (∀w,Calls Tryz.prog 168 #[fL ((qa,qb),qc,qd)] w fun e w'=>e= .returned (fL ((qc,qd),qa,qb))∧Below w.heap.size w w'):=fun w=>xA ((qa,qb),qc,qd) w
     have HA:=Nu.hid hA
     clear hle hA
     go_wp2_with fail
     go_at_call 149
     refine(oN.out _).mono ?_
     rintro e w8 ⟨rfl,dH⟩
     have B4:=Nu.hid (B5.out.later dH)
     have yx:=Nu.hid ((dH.block _ (lt_of_block B8.out)).trans B8.out)
     have yu:=Nu.hid ((dH.block _ (lt_of_block uo.out)).trans uo.out)
     have yt:=Nu.hid ((dH.block _ (lt_of_block OL.out)).trans OL.out)
     have rC:=Nu.hid ((dH.block _ (lt_of_block xu.out)).trans xu.out)
     obtain⟨z0,z1,z2,z3,zf⟩:=au rC.out
     clear dH
     go_wp2_with fail
     go_at_call 168
     refine(HTU.out _).mono ?_
     rintro e Yr ⟨rfl,dH⟩
     have abf:=Nu.hid (B4.out.later dH)
     have abl:=Nu.hid ((dH.block _ (lt_of_block yx.out)).trans yx.out)
     have abk:=Nu.hid ((dH.block _ (lt_of_block yu.out)).trans yu.out)
     have abj:=Nu.hid ((dH.block _ (lt_of_block yt.out)).trans yt.out)
     have Tl:=Nu.hid ((dH.block _ (lt_of_block rC.out)).trans rC.out)
     obtain⟨z0,z1,z2,z3,zf⟩:=au Tl.out
     clear dH
     go_wp2_with fail
     have QT:=(((abf.out.set (b:=b8) (i:=0) (.inr rfl) (.int .i64 qc)).set (b:=b8) (i:=1) (.inr rfl) (.int .i64 qd)).set (b:=b8) (i:=2) (.inr rfl) (.int .i64 qa)).set (b:=b8) (i:=3) (.inr rfl) (.int .i64 qb)
     have hg8:=iE Tl.out (.int .i64 qc) (.int .i64 qd) (.int .i64 qa) (.int .i64 qb)
     have lI:∀b,b≠b8→((((Yr.setCell ⟨b8,0,none⟩ (.int .i64 qc)).setCell ⟨b8,1,none⟩ (.int .i64 qd)).setCell ⟨b8,2,none⟩ (.int .i64 qa)).setCell ⟨b8,3,none⟩ (.int .i64 qb)).heap[b]? =Yr.heap[b]? :=fun b hb=>by
      rw[heap_setCell_other _ ⟨b8,3,none⟩ b _ hb,heap_setCell_other _ ⟨b8,2,none⟩ b _ hb,heap_setCell_other _ ⟨b8,1,none⟩ b _ hb,heap_setCell_other _ ⟨b8,0,none⟩ b _ hb]
     obtain⟨n84,n86,n87⟩:=HN8.out
     have Tp:=Nu.hid ((lI b4 (Ne.symm n84)).trans abl.out)
     have Tn:=Nu.hid ((lI b6 (Ne.symm n86)).trans abk.out)
     have Tm:=Nu.hid ((lI b7 (Ne.symm n87)).trans abj.out)
     have Lp:=Nu.hid hg8
     have abe:=Nu.hid QT
     clear lI hg8 QT n84 n86 n87 z0 z1 z2 z3 zf
     generalize (((Yr.setCell ⟨b8,0,none⟩ (.int .i64 qc)).setCell ⟨b8,1,none⟩ (.int .i64 qd)).setCell ⟨b8,2,none⟩ (.int .i64 qa)).setCell ⟨b8,3,none⟩ (.int .i64 qb)=w8c at*
     obtain⟨z0,z1,z2,z3,zf⟩:=au Lp.out
     go_at_call 149
     refine(oN.out _).mono ?_
     rintro e W9 ⟨rfl,gw⟩
     have rA:=Nu.hid (abe.out.later gw)
     have yw:=Nu.hid ((gw.block _ (lt_of_block Tp.out)).trans Tp.out)
     have Ej:=Nu.hid ((gw.block _ (lt_of_block Tn.out)).trans Tn.out)
     have B7:=Nu.hid ((gw.block _ (lt_of_block Tm.out)).trans Tm.out)
     have Ei:=Nu.hid ((gw.block _ (lt_of_block Lp.out)).trans Lp.out)
     obtain⟨z0,z1,z2,z3,zf⟩:=au Ei.out
     clear gw
     go_wp2_with fail
     obtain⟨x,y,hx,hy,G5⟩:∃x y,bz c.lw qb=some x∧bz c.lw (above:Int)=some y∧(if x=y then (match bz st.lowest above with|none=>none|some z=>match eT lk qb z with|none=>none|some aH=>Lt.own c.lw st.lowest above ((va,vb),vc,vd) ps aH o) else (match join lk o (qa,qb) with|none=>none|some (aH,o')=>Lt.own c.lw st.lowest above ((va,vb),vc,vd) ps aH o'))=some r:=by
      have h1:=S7.out
      try dsimp only at h1
      rw[if_pos HA.out,if_pos HA.out,if_neg (by simpa using HA.out)] at h1
      cases hx:bz c.lw qb with
      |none=>rw[hx] at h1;cases h1
      |some x=>
       cases hy:bz c.lw (above:Int) with
       |none=>rw[hx,hy] at h1;cases h1
       |some y=>
        rw[hx,hy] at h1
        exact⟨x,y,rfl,rfl,h1⟩
     obtain⟨kx,ql,Hf,Hg⟩:=gW hx
     obtain⟨ky,QI,QH,He⟩:=gW hy
     obtain rfl:above=ky:=by omega
     have IQ:=Nu.hid G5
     obtain⟨gl,cl,lW⟩:∃gl cl,W9.cell? ⟨t,0,none⟩=some (.pointer (some ⟨p,0,none⟩))∧W9.cell? ⟨p,6,none⟩=some (.slice (some ⟨gl,0,none⟩) c.es.length cl)∧∀y,y<c.es.length→W9.cell? ⟨gl,y,none⟩=some (.int .i64 (Lo.low c.es c.s y)):=by
      obtain⟨-,-,O',-,-,L',U',Z',oY,qo,hT⟩:=rA.out
      obtain⟨gl,cl,h1⟩:=hT.low Hf
      exact⟨gl,cl,h1 _ (Below.refl _ _)⟩
     obtain⟨l0,l1,l2⟩:=lW
     have l3:=l2 kx Hf
     have l4:=l2 above QH
     rw[Hg] at l3
     rw[He] at l4
     subst ql
     have v0:(0:Int)≤(kx:Int):=by omega
     have v1:(kx:Int)<(c.es.length:Int):=by omega
     have v2:(0:Int)≤(above:Int):=by omega
     have v3:(above:Int)<(c.es.length:Int):=by omega
     clear hx hy G5 l2 Hg He QI
     by_cases hxy:x=y
     ·obtain⟨z,ka,jf,hz,hka,cT,ru⟩:∃(z:Int) (ka:Nat) (jf:List Int),st.lowest[above]?.getD 0=z∧above<st.lowest.length∧kx<lk.length∧Hid (Lt.own c.lw st.lowest above ((va,vb),vc,vd) ps (lk.set kx z) o=some r):=by
       have h1:=IQ.out
       rw[if_pos hxy] at h1
       cases e1:bz st.lowest (above:Int) with
       |none=>rw[e1] at h1;cases h1
       |some z=>
        rw[e1] at h1
        try dsimp only at h1
        cases e2:eT lk (kx:Int) z with
        |none=>rw[e2] at h1;cases h1
        |some jf=>
         rw[e2] at h1
         obtain⟨a1,a2,a3,a4⟩:=oH e1
         obtain⟨c1,c2,c3,c4⟩:=jl e2
         obtain rfl:above=a1:=by omega
         obtain rfl:kx=c1:=by omega
         exact⟨z,0,[],by rw[a4];rfl,a3,c3,by rw[←c4];exact h1⟩
      have uQ:(x==y)=true:=by simp[hxy]
      go_quiet (fail)
      go_wp2_with fail
      obtain⟨gL,u0,u1,u2,u3,u4,u5,u6⟩:=rA.out.LX (k:=kx) cT
      obtain⟨gZ,m0,m1,m2,m3,m4,m5,m6⟩:=rA.out.PD (k:=above) hka
      rw[hz] at m1
      obtain⟨zz,u1⟩:∃zz,W9.cell? ⟨gL,kx,none⟩=some (.int .i64 zz):=⟨_,u1⟩
      have n8:gL≠b8:=u3 b8 (.inr rfl)
      have B3:=Nu.hid (u6 z)
      have HU3:=Nu.hid u3
      clear u3 u6 m3 m6
      go_big_region
      go_wp2
      go_roundw
      case rel=>
       have hk:∀b,(b=b4∨b=b6∨b=b7)→((W9.drewN (nq+1)).setCell ⟨gL,kx,none⟩ (.int .i64 z)).heap[b]? =W9.heap[b]? :=fun b hb=>heap_setCell_other (W9.drewN (nq+1)) ⟨gL,kx,none⟩ b _ (fun e=>HU3.out b (.inl hb) (show b=gL from e).symm)
       exact⟨ps,lk.set kx z,o,(B3.out.less (B':=(fun b=>b=b4∨b=b6∨b=b7)) (fun _ hb=> .inl hb)).drewN (nq+1),(hk b4 (.inl rfl)).trans yw.out,(hk b6 (.inr (.inl rfl))).trans Ej.out,(hk b7 (.inr (.inr rfl))).trans B7.out,ru.out,by have:=jN.out;simp at this;omega⟩
      case measure=>
       have h1:=(B3.out.drewN (nq+1)).dQ
       have h2:=fo.out.dQ
       rw[h2]
       refine Nat.lt_of_le_of_lt (Nat.le_of_eq (show _=ps.length from h1)) ?_
       simp
     ·obtain⟨jf,oi,hjn,ru⟩:∃(jf:List Int) (oi:Iv),join lk o (qa,(kx:Int))=some (jf,oi)∧Hid (Lt.own c.lw st.lowest above ((va,vb),vc,vd) ps jf oi=some r):=by
       have h1:=IQ.out
       rw[if_neg hxy] at h1
       cases e1:join lk o (qa,(kx:Int)) with
       |none=>rw[e1] at h1;cases h1
       |some q=>
        obtain⟨jf,oi⟩:=q
        rw[e1] at h1
        exact⟨jf,oi,rfl,h1⟩
      have uQ:(x==y)=false:=by simp[hxy]
      go_quiet (fail)
      go_wp2_with fail
      obtain⟨oa,ob⟩:=o
      obtain⟨pH,pG⟩:=oi
      obtain⟨Wq,jG⟩:∃Wq,Wq=(W9.drewN nq).drew:=⟨_,rfl⟩
      have qO:aD c p t W0 O W (fun b=>(b=b4∨b=b6∨b=b7)∨b=b8) { st with stk:=ps,like:=lk } Wq:=by rw[jG];exact(rA.out.drewN nq).drew
      have Kg:Wq.heap[b4]? =some (kK (0,0)):=by rw[jG];exact yw.out
      have wI:Wq.heap[b6]? =some (bY ((va,vb),vc,vd)):=by rw[jG];exact Ej.out
      have AL:Wq.heap[b7]? =some (kK (oa,ob)):=by rw[jG];exact B7.out
      have tF:Wq.heap[b8]? =some (bY ((qc,qd),qa,(kx:Int))):=by rw[jG];exact Ei.out
      have RI:∀b,(b=b4∨b=b6∨b=b7)∨b=b8→b<Wq.heap.size:=fun b hb=>by
       have q1:=lt_of_block Kg
       have q2:=lt_of_block wI
       have q3:=lt_of_block AL
       have q4:=lt_of_block tF
       omega
      have Ll:=Nu.hid (aD.calls qO RI (f:=169) (args:= #[.pointer (some ⟨t,1,none⟩),dG (oa,ob),dG (qa,(kx:Int))]) (R:=fun e=>e= .returned (dG (pH,pG))) (st':={ st with stk:=ps,like:=jf }) (fun hT=>jW hT hjn))
      have HV:Hid (∀V,V=Wq∨(fun V=>aD c p t W0 O W (fun b=>(b=b4∨b=b6∨b=b7)∨b=b8) { st with stk:=ps,like:=jf } V∧∀b,(b=b4∨b=b6∨b=b7)∨b=b8→V.heap[b]? =Wq.heap[b]?) V→V.cell? ⟨b7,0,none⟩=some (.int .i64 oa)∧V.cell? ⟨b7,1,none⟩=some (.int .i64 ob)∧V.cell? ⟨b8,2,none⟩=some (.int .i64 qa)∧V.cell? ⟨b8,3,none⟩=some (.int .i64 (kx:Int))∧∀i,V.frozen? ⟨b7,i,none⟩=false):=fun V hV=>by
       have h7:V.heap[b7]? =some (kK (oa,ob)):=by
        rcases hV with rfl|hV
        ·exact AL
        ·exact(hV.2 b7 (.inl (.inr (.inr rfl)))).trans AL
       have h8:V.heap[b8]? =some (bY ((qc,qd),qa,(kx:Int))):=by
        rcases hV with rfl|hV
        ·exact tF
        ·exact(hV.2 b8 (.inr rfl)).trans tF
       obtain⟨a0,a1,af⟩:=az h7
       obtain⟨-,-,a2,a3,-⟩:=au h8
       exact⟨a0,a1,a2,a3,af⟩
      have SX:=Nu.hid Kg
      have SV:=Nu.hid wI
      have SU:=Nu.hid AL
      have Lf:=Nu.hid jG
      clear qO Kg wI AL tF RI jG
      refine wp_region_any (by kernel_rfl) ?_
      change wpAny _ _ _ _ _ _ _ ((W9.drewN nq).drew)
      rw[←Lf.out]
      refine aj.oI (fun j=>match j with|0=> .pointer (some ⟨t,0,none⟩)|1=> .pointer (some ⟨t,0,none⟩)|2=> .pointer (some ⟨t,1,none⟩)|3=> .agg #[.int .i64 oa,.int .i64 ob]|4=> .pointer (some ⟨b8,2,none⟩)|5=> .agg #[.int .i64 qa,.int .i64 (kx:Int)]|6=> .agg #[.int .i64 pH,.int .i64 pG]|_=>undef) (AnyM.cH (fun V=>V=Wq) [(7,(fun V'=>∃V,(fun V=>aD c p t W0 O W (fun b=>(b=b4∨b=b6∨b=b7)∨b=b8) { st with stk:=ps,like:=jf } V∧∀b,(b=b4∨b=b6∨b=b7)∨b=b8→V.heap[b]? =Wq.heap[b]?) V∧V'=((V.setCell ⟨b7,0,none⟩ (.int .i64 pH)).setCell ⟨b7,1,none⟩ (.int .i64 pG)))),(6,(fun V=>aD c p t W0 O W (fun b=>(b=b4∨b=b6∨b=b7)∨b=b8) { st with stk:=ps,like:=jf } V∧∀b,(b=b4∨b=b6∨b=b7)∨b=b8→V.heap[b]? =Wq.heap[b]?))]) 90 rfl (by kernel_rfl) rfl ?_ ?_
      ·intro j o' Ls V ev ho bO hC bU hdc aA aR kW iQ
       have hc:j=0∨j=1∨j=2∨j=3∨j=4∨j=5∨j=6∨j=7:=by
        have:j<8:=(Array.getElem?_eq_some_iff.1 ho).1
        omega
       have hst:Ls 7=false:=by
        cases h:Ls 7 with
        |false=>rfl
        |true=>
         exfalso
         have hq:Ls j=true:=by
          rcases hc with rfl|rfl|rfl|rfl|rfl|rfl|rfl|rfl
          ·exact hdc 7 _ rfl h ⟨0,.phase⟩ (by simp) rfl
          ·exact hdc 7 _ rfl h ⟨1,.phase⟩ (by simp) rfl
          ·exact hdc 7 _ rfl h ⟨2,.phase⟩ (by simp) rfl
          ·exact hdc 7 _ rfl h ⟨3,.phase⟩ (by simp) rfl
          ·exact hdc 7 _ rfl h ⟨4,.phase⟩ (by simp) rfl
          ·exact hdc 7 _ rfl h ⟨5,.phase⟩ (by simp) rfl
          ·exact hdc 7 _ rfl h ⟨6,.phase⟩ (by simp) rfl
          ·exact h
         rw[bO] at hq
         cases hq
       have qU:V=Wq∨((fun V=>aD c p t W0 O W (fun b=>(b=b4∨b=b6∨b=b7)∨b=b8) { st with stk:=ps,like:=jf } V∧∀b,(b=b4∨b=b6∨b=b7)∨b=b8→V.heap[b]? =Wq.heap[b]?)) V:=by
        simp only[AnyM.cH,hst,Bool.false_eq_true,if_false] at hC
        split at hC
        ·exact .inr hC
        ·exact .inl hC
       obtain⟨k1,k2,k3,k4,kf⟩:=HV.out V qU
       rcases hc with rfl|rfl|rfl|rfl|rfl|rfl|rfl|rfl<;>obtain rfl:=Option.some.inj ho
       ·have e1:ev (.tmp 0)= .pointer (some ⟨t,0,none⟩):=aR 0 (by kernel_rfl)
        exact aj.ah (v:= .pointer (some ⟨t,0,none⟩)) (w':=V) (by simp[execOp,go_sem,e1]) ⟨rfl,AnyM.aW rfl hC⟩
       ·have e1:ev (.tmp 82)= .pointer (some ⟨t,0,none⟩):=aA 0 82 (by omega) rfl (by decide)
        exact aj.ah (v:= .pointer (some ⟨t,0,none⟩)) (w':=V) (by simp[execOp,go_sem,e1]) ⟨rfl,AnyM.aW rfl hC⟩
       ·have e1:ev (.tmp 83)= .pointer (some ⟨t,0,none⟩):=aA 1 83 (by omega) rfl (by decide)
        exact aj.ah (v:= .pointer (some ⟨t,1,none⟩)) (w':=V) (by simp[execOp,go_sem,e1]) ⟨rfl,AnyM.aW rfl hC⟩
       ·have e1:ev (.tmp 7)= .pointer (some ⟨b7,0,none⟩):=aR 7 (by kernel_rfl)
        exact aj.ah (v:= .agg #[.int .i64 oa,.int .i64 ob]) (w':=V) (by simp[execOp,go_sem,e1,k1,k2]) ⟨rfl,AnyM.aW rfl hC⟩
       ·have e1:ev (.tmp 8)= .pointer (some ⟨b8,0,none⟩):=aR 8 (by kernel_rfl)
        exact aj.ah (v:= .pointer (some ⟨b8,2,none⟩)) (w':=V) (by simp[execOp,go_sem,e1]) ⟨rfl,AnyM.aW rfl hC⟩
       ·have e1:ev (.tmp 86)= .pointer (some ⟨b8,2,none⟩):=aA 4 86 (by omega) rfl (by decide)
        exact aj.ah (v:= .agg #[.int .i64 qa,.int .i64 (kx:Int)]) (w':=V) (by simp[execOp,go_sem,e1,k3,k4]) ⟨rfl,AnyM.aW rfl hC⟩
       ·have e1:ev (.tmp 84)= .pointer (some ⟨t,1,none⟩):=aA 2 84 (by omega) rfl (by decide)
        have e2:ev (.tmp 85)= .agg #[.int .i64 oa,.int .i64 ob]:=aA 3 85 (by omega) rfl (by decide)
        have e3:ev (.tmp 87)= .agg #[.int .i64 qa,.int .i64 (kx:Int)]:=aA 5 87 (by omega) rfl (by decide)
        have iD:V=Wq:=by
         simp only[AnyM.cH,hst,bO,Bool.false_eq_true,if_false] at hC
         exact hC
        rw[iD]
        refine AnyM.g9 (v:= .agg #[.int .i64 pH,.int .i64 pG]) (by simp[execOp,go_sem,e1,e2,e3,iQ]) Ll.out (fun w2 hw2=>⟨rfl,?_⟩)
        simp only[AnyM.cH,aj.bQ]
        simp[hst]
        exact hw2
       ·have e1:ev (.tmp 7)= .pointer (some ⟨b7,0,none⟩):=aR 7 (by kernel_rfl)
        have e2:ev (.tmp 88)= .agg #[.int .i64 pH,.int .i64 pG]:=aA 6 88 (by omega) rfl (by decide)
        have hp:Ls 6=true:=bU ⟨6,.data⟩ (by simp) rfl
        have hQ:((fun V=>aD c p t W0 O W (fun b=>(b=b4∨b=b6∨b=b7)∨b=b8) { st with stk:=ps,like:=jf } V∧∀b,(b=b4∨b=b6∨b=b7)∨b=b8→V.heap[b]? =Wq.heap[b]?)) V:=by
         simp only[AnyM.cH,bO,hp,Bool.false_eq_true,if_false,if_true] at hC
         exact hC
        refine aj.bF (w':=((V.setCell ⟨b7,0,none⟩ (.int .i64 pH)).setCell ⟨b7,1,none⟩ (.int .i64 pG))) (by simp[execOp,go_sem,e1,e2,k1,k2,kf]) ⟨rfl,?_⟩
        simp only[AnyM.cH,aj.bQ]
        simp only[if_true]
        exact⟨V,hQ,rfl⟩
      ·intro Ls V hall hC
       unfold AnyM.cH at hC
       rw[if_pos (hall 7 (by decide))] at hC
       obtain⟨V6,⟨eZ,kL⟩,rfl⟩:=hC
       simp only[aj.canon,aj.dst,Array.size,List.length_cons,List.length_nil]
       simp[Act.put]
       go_wp2
       go_roundw
       case rel=>
        have hk:∀b,b≠b7→((V6.setCell ⟨b7,0,none⟩ (.int .i64 pH)).setCell ⟨b7,1,none⟩ (.int .i64 pG)).heap[b]? =V6.heap[b]? :=fun b hb=>eF hb _ _
        obtain⟨n1,n2,n3⟩:=IW.out
        exact⟨ps,jf,(pH,pG),((eZ.less (B':=(fun b=>b=b4∨b=b6∨b=b7)) (fun _ hb=> .inl hb)).set (.inr (.inr rfl)) _).set (.inr (.inr rfl)) _,(hk b4 n2).trans ((kL b4 (.inl (.inl rfl))).trans SX.out),(hk b6 n3).trans ((kL b6 (.inl (.inr (.inl rfl)))).trans SV.out),gF ((kL b7 (.inl (.inr (.inr rfl)))).trans SU.out) _ _,ru.out,by have:=jN.out;simp at this;omega⟩
       case measure=>
        have h1:=((eZ.set (b:=b7) (i:=0) (.inl (.inr (.inr rfl))) (.int .i64 pH)).set (b:=b7) (i:=1) (.inl (.inr (.inr rfl))) (.int .i64 pG)).dQ
        have h2:=fo.out.dQ
        rw[h2]
        refine Nat.lt_of_le_of_lt (Nat.le_of_eq (show _=ps.length from h1)) ?_
        simp
    ·have hle:decide ((qc,qd)=aP)=false:=decide_eq_false hA
     have oN:Hid (∀w,Calls Tryz.prog 149 #[.agg #[.int .i64 qc,.int .i64 qd]] w fun e w'=>e= .returned (.bool false)∧Below w.heap.size w w'):=fun w=>by rw[←hle];exact fZ.out (qc,qd) w
     by_cases hC:(qa,qb)=aP
     ·have G7:decide ((qa,qb)=aP)=true:=decide_eq_true hC
      have xw:Hid (∀w,Calls Tryz.prog 149 #[.agg #[.int .i64 qa,.int .i64 qb]] w fun e w'=>e= .returned (.bool true)∧Below w.heap.size w w'):=fun w=>by rw[←G7];exact fZ.out (qa,qb) w
      clear hle G7
      go_wp2_with fail
      go_at_call 149
      refine(oN.out _).mono ?_
      rintro e w8 ⟨rfl,dH⟩
      have B4:=Nu.hid (B5.out.later dH)
      have yx:=Nu.hid ((dH.block _ (lt_of_block B8.out)).trans B8.out)
      have yu:=Nu.hid ((dH.block _ (lt_of_block uo.out)).trans uo.out)
      have yt:=Nu.hid ((dH.block _ (lt_of_block OL.out)).trans OL.out)
      have rC:=Nu.hid ((dH.block _ (lt_of_block xu.out)).trans xu.out)
      obtain⟨z0,z1,z2,z3,zf⟩:=au rC.out
      clear dH
      go_wp2_with fail
      go_at_call 149
      refine(xw.out _).mono ?_
      rintro e W9 ⟨rfl,gw⟩
      have rA:=Nu.hid (B4.out.later gw)
      have yw:=Nu.hid ((gw.block _ (lt_of_block yx.out)).trans yx.out)
      have Ej:=Nu.hid ((gw.block _ (lt_of_block yu.out)).trans yu.out)
      have B7:=Nu.hid ((gw.block _ (lt_of_block yt.out)).trans yt.out)
      have Ei:=Nu.hid ((gw.block _ (lt_of_block rC.out)).trans rC.out)
      obtain⟨z0,z1,z2,z3,zf⟩:=au Ei.out
      clear gw
      go_wp2_with fail
      obtain⟨x,y,hx,hy,G5⟩:∃x y,bz c.lw qd=some x∧bz c.lw (above:Int)=some y∧(if x=y then (match bz st.lowest above with|none=>none|some z=>match eT lk qd z with|none=>none|some aH=>Lt.own c.lw st.lowest above ((va,vb),vc,vd) ps aH o) else (match join lk o (qc,qd) with|none=>none|some (aH,o')=>Lt.own c.lw st.lowest above ((va,vb),vc,vd) ps aH o'))=some r:=by
       have h1:=S7.out
       try dsimp only at h1
       rw[if_neg hA,if_neg hA,if_neg (by simpa using hC)] at h1
       cases hx:bz c.lw qd with
       |none=>rw[hx] at h1;cases h1
       |some x=>
        cases hy:bz c.lw (above:Int) with
        |none=>rw[hx,hy] at h1;cases h1
        |some y=>
         rw[hx,hy] at h1
         exact⟨x,y,rfl,rfl,h1⟩
      obtain⟨kx,ql,Hf,Hg⟩:=gW hx
      obtain⟨ky,QI,QH,He⟩:=gW hy
      obtain rfl:above=ky:=by omega
      have IQ:=Nu.hid G5
      obtain⟨gl,cl,lW⟩:∃gl cl,W9.cell? ⟨t,0,none⟩=some (.pointer (some ⟨p,0,none⟩))∧W9.cell? ⟨p,6,none⟩=some (.slice (some ⟨gl,0,none⟩) c.es.length cl)∧∀y,y<c.es.length→W9.cell? ⟨gl,y,none⟩=some (.int .i64 (Lo.low c.es c.s y)):=by
       obtain⟨-,-,O',-,-,L',U',Z',oY,qo,hT⟩:=rA.out
       obtain⟨gl,cl,h1⟩:=hT.low Hf
       exact⟨gl,cl,h1 _ (Below.refl _ _)⟩
      obtain⟨l0,l1,l2⟩:=lW
      have l3:=l2 kx Hf
      have l4:=l2 above QH
      rw[Hg] at l3
      rw[He] at l4
      subst ql
      have v0:(0:Int)≤(kx:Int):=by omega
      have v1:(kx:Int)<(c.es.length:Int):=by omega
      have v2:(0:Int)≤(above:Int):=by omega
      have v3:(above:Int)<(c.es.length:Int):=by omega
      clear hx hy G5 l2 Hg He QI
      by_cases hxy:x=y
      ·obtain⟨z,ka,jf,hz,hka,cT,ru⟩:∃(z:Int) (ka:Nat) (jf:List Int),st.lowest[above]?.getD 0=z∧above<st.lowest.length∧kx<lk.length∧Hid (Lt.own c.lw st.lowest above ((va,vb),vc,vd) ps (lk.set kx z) o=some r):=by
        have h1:=IQ.out
        rw[if_pos hxy] at h1
        cases e1:bz st.lowest (above:Int) with
        |none=>rw[e1] at h1;cases h1
        |some z=>
         rw[e1] at h1
         try dsimp only at h1
         cases e2:eT lk (kx:Int) z with
         |none=>rw[e2] at h1;cases h1
         |some jf=>
          rw[e2] at h1
          obtain⟨a1,a2,a3,a4⟩:=oH e1
          obtain⟨c1,c2,c3,c4⟩:=jl e2
          obtain rfl:above=a1:=by omega
          obtain rfl:kx=c1:=by omega
          exact⟨z,0,[],by rw[a4];rfl,a3,c3,by rw[←c4];exact h1⟩
       have uQ:(x==y)=true:=by simp[hxy]
       go_quiet (fail)
       go_wp2_with fail
       obtain⟨gL,u0,u1,u2,u3,u4,u5,u6⟩:=rA.out.LX (k:=kx) cT
       obtain⟨gZ,m0,m1,m2,m3,m4,m5,m6⟩:=rA.out.PD (k:=above) hka
       rw[hz] at m1
       obtain⟨zz,u1⟩:∃zz,W9.cell? ⟨gL,kx,none⟩=some (.int .i64 zz):=⟨_,u1⟩
       have n8:gL≠b8:=u3 b8 (.inr rfl)
       have B3:=Nu.hid (u6 z)
       have HU3:=Nu.hid u3
       clear u3 u6 m3 m6
       go_big_region
       go_wp2
       go_roundw
       case rel=>
        have hk:∀b,(b=b4∨b=b6∨b=b7)→((W9.drewN (nq+1)).setCell ⟨gL,kx,none⟩ (.int .i64 z)).heap[b]? =W9.heap[b]? :=fun b hb=>heap_setCell_other (W9.drewN (nq+1)) ⟨gL,kx,none⟩ b _ (fun e=>HU3.out b (.inl hb) (show b=gL from e).symm)
        exact⟨ps,lk.set kx z,o,(B3.out.less (B':=(fun b=>b=b4∨b=b6∨b=b7)) (fun _ hb=> .inl hb)).drewN (nq+1),(hk b4 (.inl rfl)).trans yw.out,(hk b6 (.inr (.inl rfl))).trans Ej.out,(hk b7 (.inr (.inr rfl))).trans B7.out,ru.out,by have:=jN.out;simp at this;omega⟩
       case measure=>
        have h1:=(B3.out.drewN (nq+1)).dQ
        have h2:=fo.out.dQ
        rw[h2]
        refine Nat.lt_of_le_of_lt (Nat.le_of_eq (show _=ps.length from h1)) ?_
        simp
      ·obtain⟨jf,oi,hjn,ru⟩:∃(jf:List Int) (oi:Iv),join lk o (qc,(kx:Int))=some (jf,oi)∧Hid (Lt.own c.lw st.lowest above ((va,vb),vc,vd) ps jf oi=some r):=by
        have h1:=IQ.out
        rw[if_neg hxy] at h1
        cases e1:join lk o (qc,(kx:Int)) with
        |none=>rw[e1] at h1;cases h1
        |some q=>
         obtain⟨jf,oi⟩:=q
         rw[e1] at h1
         exact⟨jf,oi,rfl,h1⟩
       have uQ:(x==y)=false:=by simp[hxy]
       go_quiet (fail)
       go_wp2_with fail
       obtain⟨oa,ob⟩:=o
       obtain⟨pH,pG⟩:=oi
       obtain⟨Wq,jG⟩:∃Wq,Wq=(W9.drewN nq).drew:=⟨_,rfl⟩
       have qO:aD c p t W0 O W (fun b=>(b=b4∨b=b6∨b=b7)∨b=b8) { st with stk:=ps,like:=lk } Wq:=by rw[jG];exact(rA.out.drewN nq).drew
       have Kg:Wq.heap[b4]? =some (kK (0,0)):=by rw[jG];exact yw.out
       have wI:Wq.heap[b6]? =some (bY ((va,vb),vc,vd)):=by rw[jG];exact Ej.out
       have AL:Wq.heap[b7]? =some (kK (oa,ob)):=by rw[jG];exact B7.out
       have tF:Wq.heap[b8]? =some (bY ((qa,qb),qc,(kx:Int))):=by rw[jG];exact Ei.out
       have RI:∀b,(b=b4∨b=b6∨b=b7)∨b=b8→b<Wq.heap.size:=fun b hb=>by
        have q1:=lt_of_block Kg
        have q2:=lt_of_block wI
        have q3:=lt_of_block AL
        have q4:=lt_of_block tF
        omega
       have Ll:=Nu.hid (aD.calls qO RI (f:=169) (args:= #[.pointer (some ⟨t,1,none⟩),dG (oa,ob),dG (qc,(kx:Int))]) (R:=fun e=>e= .returned (dG (pH,pG))) (st':={ st with stk:=ps,like:=jf }) (fun hT=>jW hT hjn))
       have HV:Hid (∀V,V=Wq∨(fun V=>aD c p t W0 O W (fun b=>(b=b4∨b=b6∨b=b7)∨b=b8) { st with stk:=ps,like:=jf } V∧∀b,(b=b4∨b=b6∨b=b7)∨b=b8→V.heap[b]? =Wq.heap[b]?) V→V.cell? ⟨b7,0,none⟩=some (.int .i64 oa)∧V.cell? ⟨b7,1,none⟩=some (.int .i64 ob)∧V.cell? ⟨b8,2,none⟩=some (.int .i64 qc)∧V.cell? ⟨b8,3,none⟩=some (.int .i64 (kx:Int))∧∀i,V.frozen? ⟨b7,i,none⟩=false):=fun V hV=>by
        have h7:V.heap[b7]? =some (kK (oa,ob)):=by
         rcases hV with rfl|hV
         ·exact AL
         ·exact(hV.2 b7 (.inl (.inr (.inr rfl)))).trans AL
        have h8:V.heap[b8]? =some (bY ((qa,qb),qc,(kx:Int))):=by
         rcases hV with rfl|hV
         ·exact tF
         ·exact(hV.2 b8 (.inr rfl)).trans tF
        obtain⟨a0,a1,af⟩:=az h7
        obtain⟨-,-,a2,a3,-⟩:=au h8
        exact⟨a0,a1,a2,a3,af⟩
       have SX:=Nu.hid Kg
       have SV:=Nu.hid wI
       have SU:=Nu.hid AL
       have Lf:=Nu.hid jG
       clear qO Kg wI AL tF RI jG
       refine wp_region_any (by kernel_rfl) ?_
       change wpAny _ _ _ _ _ _ _ ((W9.drewN nq).drew)
       rw[←Lf.out]
       refine aj.oI (fun j=>match j with|0=> .pointer (some ⟨t,0,none⟩)|1=> .pointer (some ⟨t,0,none⟩)|2=> .pointer (some ⟨t,1,none⟩)|3=> .agg #[.int .i64 oa,.int .i64 ob]|4=> .pointer (some ⟨b8,2,none⟩)|5=> .agg #[.int .i64 qc,.int .i64 (kx:Int)]|6=> .agg #[.int .i64 pH,.int .i64 pG]|_=>undef) (AnyM.cH (fun V=>V=Wq) [(7,(fun V'=>∃V,(fun V=>aD c p t W0 O W (fun b=>(b=b4∨b=b6∨b=b7)∨b=b8) { st with stk:=ps,like:=jf } V∧∀b,(b=b4∨b=b6∨b=b7)∨b=b8→V.heap[b]? =Wq.heap[b]?) V∧V'=((V.setCell ⟨b7,0,none⟩ (.int .i64 pH)).setCell ⟨b7,1,none⟩ (.int .i64 pG)))),(6,(fun V=>aD c p t W0 O W (fun b=>(b=b4∨b=b6∨b=b7)∨b=b8) { st with stk:=ps,like:=jf } V∧∀b,(b=b4∨b=b6∨b=b7)∨b=b8→V.heap[b]? =Wq.heap[b]?))]) 90 rfl (by kernel_rfl) rfl ?_ ?_
       ·intro j o' Ls V ev ho bO hC bU hdc aA aR kW iQ
        have hc:j=0∨j=1∨j=2∨j=3∨j=4∨j=5∨j=6∨j=7:=by
         have:j<8:=(Array.getElem?_eq_some_iff.1 ho).1
         omega
        have hst:Ls 7=false:=by
         cases h:Ls 7 with
         |false=>rfl
         |true=>
          exfalso
          have hq:Ls j=true:=by
           rcases hc with rfl|rfl|rfl|rfl|rfl|rfl|rfl|rfl
           ·exact hdc 7 _ rfl h ⟨0,.phase⟩ (by simp) rfl
           ·exact hdc 7 _ rfl h ⟨1,.phase⟩ (by simp) rfl
           ·exact hdc 7 _ rfl h ⟨2,.phase⟩ (by simp) rfl
           ·exact hdc 7 _ rfl h ⟨3,.phase⟩ (by simp) rfl
           ·exact hdc 7 _ rfl h ⟨4,.phase⟩ (by simp) rfl
           ·exact hdc 7 _ rfl h ⟨5,.phase⟩ (by simp) rfl
           ·exact hdc 7 _ rfl h ⟨6,.phase⟩ (by simp) rfl
           ·exact h
          rw[bO] at hq
          cases hq
        have qU:V=Wq∨((fun V=>aD c p t W0 O W (fun b=>(b=b4∨b=b6∨b=b7)∨b=b8) { st with stk:=ps,like:=jf } V∧∀b,(b=b4∨b=b6∨b=b7)∨b=b8→V.heap[b]? =Wq.heap[b]?)) V:=by
         simp only[AnyM.cH,hst,Bool.false_eq_true,if_false] at hC
         split at hC
         ·exact .inr hC
         ·exact .inl hC
        obtain⟨k1,k2,k3,k4,kf⟩:=HV.out V qU
        rcases hc with rfl|rfl|rfl|rfl|rfl|rfl|rfl|rfl<;>obtain rfl:=Option.some.inj ho
        ·have e1:ev (.tmp 0)= .pointer (some ⟨t,0,none⟩):=aR 0 (by kernel_rfl)
         exact aj.ah (v:= .pointer (some ⟨t,0,none⟩)) (w':=V) (by simp[execOp,go_sem,e1]) ⟨rfl,AnyM.aW rfl hC⟩
        ·have e1:ev (.tmp 82)= .pointer (some ⟨t,0,none⟩):=aA 0 82 (by omega) rfl (by decide)
         exact aj.ah (v:= .pointer (some ⟨t,0,none⟩)) (w':=V) (by simp[execOp,go_sem,e1]) ⟨rfl,AnyM.aW rfl hC⟩
        ·have e1:ev (.tmp 83)= .pointer (some ⟨t,0,none⟩):=aA 1 83 (by omega) rfl (by decide)
         exact aj.ah (v:= .pointer (some ⟨t,1,none⟩)) (w':=V) (by simp[execOp,go_sem,e1]) ⟨rfl,AnyM.aW rfl hC⟩
        ·have e1:ev (.tmp 7)= .pointer (some ⟨b7,0,none⟩):=aR 7 (by kernel_rfl)
         exact aj.ah (v:= .agg #[.int .i64 oa,.int .i64 ob]) (w':=V) (by simp[execOp,go_sem,e1,k1,k2]) ⟨rfl,AnyM.aW rfl hC⟩
        ·have e1:ev (.tmp 8)= .pointer (some ⟨b8,0,none⟩):=aR 8 (by kernel_rfl)
         exact aj.ah (v:= .pointer (some ⟨b8,2,none⟩)) (w':=V) (by simp[execOp,go_sem,e1]) ⟨rfl,AnyM.aW rfl hC⟩
        ·have e1:ev (.tmp 86)= .pointer (some ⟨b8,2,none⟩):=aA 4 86 (by omega) rfl (by decide)
         exact aj.ah (v:= .agg #[.int .i64 qc,.int .i64 (kx:Int)]) (w':=V) (by simp[execOp,go_sem,e1,k3,k4]) ⟨rfl,AnyM.aW rfl hC⟩
        ·have e1:ev (.tmp 84)= .pointer (some ⟨t,1,none⟩):=aA 2 84 (by omega) rfl (by decide)
         have e2:ev (.tmp 85)= .agg #[.int .i64 oa,.int .i64 ob]:=aA 3 85 (by omega) rfl (by decide)
         have e3:ev (.tmp 87)= .agg #[.int .i64 qc,.int .i64 (kx:Int)]:=aA 5 87 (by omega) rfl (by decide)
         have iD:V=Wq:=by
          simp only[AnyM.cH,hst,bO,Bool.false_eq_true,if_false] at hC
          exact hC
         rw[iD]
         refine AnyM.g9 (v:= .agg #[.int .i64 pH,.int .i64 pG]) (by simp[execOp,go_sem,e1,e2,e3,iQ]) Ll.out (fun w2 hw2=>⟨rfl,?_⟩)
         simp only[AnyM.cH,aj.bQ]
         simp[hst]
         exact hw2
        ·have e1:ev (.tmp 7)= .pointer (some ⟨b7,0,none⟩):=aR 7 (by kernel_rfl)
         have e2:ev (.tmp 88)= .agg #[.int .i64 pH,.int .i64 pG]:=aA 6 88 (by omega) rfl (by decide)
         have hp:Ls 6=true:=bU ⟨6,.data⟩ (by simp) rfl
         have hQ:((fun V=>aD c p t W0 O W (fun b=>(b=b4∨b=b6∨b=b7)∨b=b8) { st with stk:=ps,like:=jf } V∧∀b,(b=b4∨b=b6∨b=b7)∨b=b8→V.heap[b]? =Wq.heap[b]?)) V:=by
          simp only[AnyM.cH,bO,hp,Bool.false_eq_true,if_false,if_true] at hC
          exact hC
         refine aj.bF (w':=((V.setCell ⟨b7,0,none⟩ (.int .i64 pH)).setCell ⟨b7,1,none⟩ (.int .i64 pG))) (by simp[execOp,go_sem,e1,e2,k1,k2,kf]) ⟨rfl,?_⟩
         simp only[AnyM.cH,aj.bQ]
         simp only[if_true]
         exact⟨V,hQ,rfl⟩
       ·intro Ls V hall hC
        unfold AnyM.cH at hC
        rw[if_pos (hall 7 (by decide))] at hC
        obtain⟨V6,⟨eZ,kL⟩,rfl⟩:=hC
        simp only[aj.canon,aj.dst,Array.size,List.length_cons,List.length_nil]
        simp[Act.put]
        go_wp2
        go_roundw
        case rel=>
         have hk:∀b,b≠b7→((V6.setCell ⟨b7,0,none⟩ (.int .i64 pH)).setCell ⟨b7,1,none⟩ (.int .i64 pG)).heap[b]? =V6.heap[b]? :=fun b hb=>eF hb _ _
         obtain⟨n1,n2,n3⟩:=IW.out
         exact⟨ps,jf,(pH,pG),((eZ.less (B':=(fun b=>b=b4∨b=b6∨b=b7)) (fun _ hb=> .inl hb)).set (.inr (.inr rfl)) _).set (.inr (.inr rfl)) _,(hk b4 n2).trans ((kL b4 (.inl (.inl rfl))).trans SX.out),(hk b6 n3).trans ((kL b6 (.inl (.inr (.inl rfl)))).trans SV.out),gF ((kL b7 (.inl (.inr (.inr rfl)))).trans SU.out) _ _,ru.out,by have:=jN.out;simp at this;omega⟩
        case measure=>
         have h1:=((eZ.set (b:=b7) (i:=0) (.inl (.inr (.inr rfl))) (.int .i64 pH)).set (b:=b7) (i:=1) (.inl (.inr (.inr rfl))) (.int .i64 pG)).dQ
         have h2:=fo.out.dQ
         rw[h2]
         refine Nat.lt_of_le_of_lt (Nat.le_of_eq (show _=ps.length from h1)) ?_
         simp
     ·have G7:decide ((qa,qb)=aP)=false:=decide_eq_false hC
      have xw:Hid (∀w,Calls Tryz.prog 149 #[.agg #[.int .i64 qa,.int .i64 qb]] w fun e w'=>e= .returned (.bool false)∧Below w.heap.size w w'):=fun w=>by rw[←G7];exact fZ.out (qa,qb) w
      have hr:r=none:=by
       have h1:=S7.out
       try dsimp only at h1
       rw[if_neg hA,if_pos (by simpa using hC)] at h1
       exact(Option.some.inj h1).symm
      have HR:=Nu.hid hr
      clear hle G7 hr
      go_wp2_with fail
      go_at_call 149
      refine(oN.out _).mono ?_
      rintro e w8 ⟨rfl,dH⟩
      have B4:=Nu.hid (B5.out.later dH)
      have yx:=Nu.hid ((dH.block _ (lt_of_block B8.out)).trans B8.out)
      have yu:=Nu.hid ((dH.block _ (lt_of_block uo.out)).trans uo.out)
      have yt:=Nu.hid ((dH.block _ (lt_of_block OL.out)).trans OL.out)
      have rC:=Nu.hid ((dH.block _ (lt_of_block xu.out)).trans xu.out)
      obtain⟨z0,z1,z2,z3,zf⟩:=au rC.out
      clear dH
      go_wp2_with fail
      go_at_call 149
      refine(xw.out _).mono ?_
      rintro e W9 ⟨rfl,gw⟩
      have rA:=Nu.hid (B4.out.later gw)
      have yw:=Nu.hid ((gw.block _ (lt_of_block yx.out)).trans yx.out)
      have Ej:=Nu.hid ((gw.block _ (lt_of_block yu.out)).trans yu.out)
      have B7:=Nu.hid ((gw.block _ (lt_of_block yt.out)).trans yt.out)
      have Ei:=Nu.hid ((gw.block _ (lt_of_block rC.out)).trans rC.out)
      clear gw
      obtain⟨oa,ob⟩:=o
      obtain⟨x0,x1,xf⟩:=az yw.out
      obtain⟨x2,x3,-⟩:=az B7.out
      obtain⟨r0,r1,-⟩:=az (gF yw.out (.int .i64 oa) (.int .i64 ob))
      have bI:Hid (aT c p t W0 O W { st with stk:=ps,like:=lk } ((W9.setCell ⟨b4,0,none⟩ (.int .i64 oa)).setCell ⟨b4,1,none⟩ (.int .i64 ob))):=((rA.out.set (b:=b4) (i:=0) (.inl (.inl rfl)) (.int .i64 oa)).set (b:=b4) (i:=1) (.inl (.inl rfl)) (.int .i64 ob)).post
      go_wp2
      refine bodyPost_ret (v:= .tuple #[dG (oa,ob),.bool false]) (by simp[results,Tryz.results161,go_sem,r0,r1]) rfl ?_
      rw[HR.out]
      exact⟨_,_,rfl,bI.out⟩
end
end
end Go.Proofs.YtnhcggfbkoppnaaGreat
