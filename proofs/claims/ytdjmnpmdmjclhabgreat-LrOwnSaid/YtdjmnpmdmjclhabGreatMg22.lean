import Derived.Test.YtdjmnpmdmjclhabGreatMg21
import Derived.WalkMore
namespace Go.Proofs.YtdjmnpmdmjclhabGreat
section
open Go.RowKit Lt
abbrev kV (q:Iv):Obj:= .cells #[.int .i64 q.1,.int .i64 q.2] 141 (0,0)
section
variable {c:Wp} {p t:Nat} {W0 W:World} {O:Nat→Prop} {st:TS} {L U Z:Nat} {vp vw:Value}
def Td (c:Wp) (p t:Nat) (W0:World) (O:Nat→Prop) (W:World) (st:TS) (r:Option (List Pr×List Int×Iv)) (e:Ending) (w':World):Prop:=
 match r with
 |none=>∃i st',e= .returned (.tuple #[dF i,.bool false])∧aT c p t W0 O W st' w'
 |some (ps,aH,i)=>e= .returned (.tuple #[dF i,.bool true])∧aT c p t W0 O W { st with stk:=ps,like:=aH } w'
theorem zM {w:World} {g o:Nat} {q:jC} (h:∀j u,(tW q)[j]? =some u→w.cell? ⟨g,o+j,none⟩=some u):w.cell? ⟨g,o,none⟩=some (.int .i64 q.1)∧w.cell? ⟨g,o+1,none⟩=some (.int .i64 q.2.1)∧w.cell? ⟨g,o+2,none⟩=some (.int .i64 q.2.2.1.1)∧w.cell? ⟨g,o+3,none⟩=some (.int .i64 q.2.2.1.2)∧w.cell? ⟨g,o+4,none⟩=some (.int .i64 q.2.2.2.1)∧w.cell? ⟨g,o+5,none⟩=some (.int .i64 q.2.2.2.2):=
 ⟨h 0 _ rfl,h 1 _ rfl,h 2 _ rfl,h 3 _ rfl,h 4 _ rfl,h 5 _ rfl⟩
set_option maxRecDepth 100000 in
set_option maxHeartbeats 16000000 in
theorem DG (h:aR c p t W0 O st L U Z vp vw W) {v:jC} {ws:List jC} (bB:st.way=v::ws) {above:Nat} {r:Option (List Pr×List Int×Iv)} (hlen:st.stk.length≤8388607) (hwl:st.way.length≤8388607)
 (ho:Lt.own c.lw st.lowest above v.2.2 st.stk st.like aO=some r):Calls Tryz.prog 157 #[.pointer (some ⟨t,0,none⟩),.int .i64 (above:Int)] W (Td c p t W0 O W st r):=by
 have VV:=SZ
 obtain⟨W1,hW1⟩:∃W1,W1=W.alloc (.cells #[.int .i64 0,.int .i64 0] 141):=⟨_,rfl⟩
 have hb1:Below W.heap.size W W1:=by rw[hW1];exact(aae _ _).alloc (aad _) _
 have h1:=h.later hb1
 obtain⟨x0,-,-,-,x4,-,-⟩:=h1.cells
 have hb2:Below W1.heap.size W1 (W1.alloc (.cells #[.int .i64 0,.int .i64 0,.int .i64 0,.int .i64 0] 143)):=(aae _ _).alloc (aad _) _
 have h2:=h1.later hb2
 obtain⟨-,-,-,-,y4,-,-⟩:=h2.cells
 have A4:=h1.way
 have Qy:=h2.way
 rw[bB,abm] at Qy
 rw[bB,abm] at A4
 obtain⟨g,cap,rfl,hc,-,-,-⟩:=A4.snoc oI
 rw[abg] at hc x4
 obtain⟨d0,d1,d2,d3,d4,d5⟩:=zM hc
 obtain⟨g',cap',hgg,hc',-,-,-⟩:=Qy.snoc oI
 cases hgg
 rw[abg] at hc' y4
 obtain⟨-,-,f2,f3,f4,f5⟩:=zM hc'
 obtain⟨k,hk⟩:∃k,ws.length=k:=⟨_,rfl⟩
 rw[hk] at d2 d3 d4 d5 x4 f2 f3 f4 f5 y4
 rw[bB,aar,hk] at hwl
 have e1:((k:Int)+1)-1=(k:Int):=by omega
 have e2:(0:Int)≤(k:Int):=by omega
 have e3:(k:Int)<(k:Int)+1:=by omega
 obtain⟨vv,vn,⟨va,vb⟩,vc,vd⟩:=v
 dsimp only at d2 d3 d4 d5 f2 f3 f4 f5 ho
 rw[hW1] at x0 x4 d2 d3 d4 d5 y4 f2 f3 f4 f5
 have nN:Hid (aD c p t W0 O W (fun b=>b=W.heap.size) st W1):=by rw[hW1];exact((aD.start h).box _).less (fun b hb=> .inr hb)
 rw[hW1] at nN
 have HHO:=Nu.hid ho
 have HLEN:=Nu.hid hlen
 clear h h1 h2 A4 Qy hc hc' hb1 hb2 hk d0 d1 bB ho hlen hW1
 go_enter Tryz.func157,Tryz.ntmps157
 go_wp2
 go_step3
 go_wp2_with fail
 go_big_region
 obtain⟨W2,hW2⟩:∃W2,W2=((W.alloc (.cells #[.int .i64 0,.int .i64 0] 141)).alloc (bZ ((va,vb),vc,vd))).drew:=⟨_,rfl⟩
 have ig:aD c p t W0 O W (fun b=>b=W.heap.size∨b=W.heap.size+1) st W2:=by
  rw[hW2]
  exact((nN.out.box (bZ ((va,vb),vc,vd))).less (fun b hb=>hb.elim .inl fun q=> .inr (by rw[q];simp))).drew
 have hb4:W2.heap[W.heap.size]? =some (kV (0,0)):=by
  rw[hW2]
  show((W.alloc _).alloc _).heap[W.heap.size]? =_
  rw[aap _ _ _ (by simp)]
  exact heap_alloc_new W _
 have cq:W2.heap[W.heap.size+1]? =some (bZ ((va,vb),vc,vd)):=by
  rw[hW2]
  have:=heap_alloc_new (W.alloc (.cells #[.int .i64 0,.int .i64 0] 141)) (bZ ((va,vb),vc,vd))
  rw[aaM] at this
  exact this
 have fq:=Nu.hid ig
 have gJ:=Nu.hid hb4
 have nj:=Nu.hid cq
 change Exit.then _ _ _ _ ((W.alloc (.cells #[.int .i64 0,.int .i64 0] 141)).alloc (bZ ((va,vb),vc,vd))).drew
 rw[←hW2]
 clear ig hb4 cq hW2 nN x0 x4 y4 d2 d3 d4 d5 f2 f3 f4 f5
 go_wp2_with (go_at_call 112;refine(mC _).mono ?_;rintro e w3 ⟨rfl,hb3⟩;have ql:=Nu.hid (fq.out.later hb3);have UD:=Nu.hid ((hb3.block _ (lt_of_block gJ.out)).trans gJ.out);have UC:=Nu.hid ((hb3.block _ (lt_of_block nj.out)).trans nj.out);clear hb3)
 go_step3
 obtain⟨b4,hb4⟩:∃b4,W.heap.size=b4:=⟨_,rfl⟩
 obtain⟨b6,cq⟩:∃b6,W.heap.size+1=b6:=⟨_,rfl⟩
 obtain⟨b7,kY⟩:∃b7,w3.heap.size=b7:=⟨_,rfl⟩
 have qj:Hid (aD c p t W0 O W (fun b=>b=b4∨b=b6∨b=b7) st (w3.alloc (kV (-1,-1)))):=(ql.out.box (kV (-1,-1))).less fun b hb=>by
  rcases hb with q|q|q
  ·exact .inl (.inl (by omega))
  ·exact .inl (.inr (by omega))
  ·exact .inr (by omega)
 have hlt3:=lt_of_block UD.out
 have MH:=lt_of_block UC.out
 have aho:Hid ((w3.alloc (kV (-1,-1))).heap[b4]? =some (kV (0,0))):=by
  rw[←hb4]
  show(w3.alloc (kV (-1,-1))).heap[W.heap.size]? =_
  rw[aap _ _ _ hlt3]
  exact UD.out
 have ahm:Hid ((w3.alloc (kV (-1,-1))).heap[b6]? =some (bZ ((va,vb),vc,vd))):=by
  rw[←cq]
  show(w3.alloc (kV (-1,-1))).heap[W.heap.size+1]? =_
  rw[aap _ _ _ MH]
  exact UC.out
 have ahl:Hid ((w3.alloc (kV (-1,-1))).heap[b7]? =some (kV (-1,-1))):=by
  rw[←kY]
  exact heap_alloc_new w3 _
 have Ju:Hid (b4≠b6∧b4≠b7∧b6≠b7):=⟨by omega,by omega,by omega⟩
 have Sa:b4+1=b6:=by omega
 rw[kY,hb4,Sa]
 have HQ4:=Nu.hid hb4
 have Jq:=Nu.hid Sa
 have HQ7:=Nu.hid kY
 clear hb4 cq kY Sa
 go_wp2_with fail
 clear hlt3 MH fq ql gJ nj UD UC
 go_loopw [8] (fun _ wr=>∃ps lk o,aD c p t W0 O W (fun b=>b=b4∨b=b6∨b=b7) { st with stk:=ps,like:=lk } wr∧wr.heap[b4]? =some (kV (0,0))∧wr.heap[b6]? =some (bZ ((va,vb),vc,vd))∧wr.heap[b7]? =some (kV o)∧Lt.own c.lw st.lowest above ((va,vb),vc,vd) ps lk o=some r∧ps.length≤8388607) (fun _ wr=>dP t wr)
 case atStart=>exact⟨st.stk,st.like,aO,qj.out,aho.out,ahm.out,ahl.out,HHO.out,HLEN.out⟩
 case round=>
  obtain⟨ps,lk,o,ig,hx4,zi,hx7,ho2,hl2⟩:=hrel
  have xN:Hid (∀D:LW wr,Calls Tryz.prog 83 #[.pointer (some ⟨t,0,none⟩)] D.val fun e w'=>e= .returned (fK (top ps))∧Below D.val.heap.size D.val w'):=fun D=>by
   obtain⟨-,-,O',-,-,L',U',Z',o9,qA,hT⟩:=ig.later D.h
   exact iz hT (by dsimp only;omega)
  have D7:=lt_of_block zi
  have y0:∀D:LW wr,D.val.cell? ⟨b6,0,none⟩=some (.int .i64 va):=fun D=>(au ((D.h.block _ D7).trans zi)).1
  have y1:∀D:LW wr,D.val.cell? ⟨b6,1,none⟩=some (.int .i64 vb):=fun D=>(au ((D.h.block _ D7).trans zi)).2.1
  have y2:∀D:LW wr,D.val.cell? ⟨b6,2,none⟩=some (.int .i64 vc):=fun D=>(au ((D.h.block _ D7).trans zi)).2.2.1
  have y3:∀D:LW wr,D.val.cell? ⟨b6,3,none⟩=some (.int .i64 vd):=fun D=>(au ((D.h.block _ D7).trans zi)).2.2.2.1
  have hne:=LW.any wr
  have fq:=Nu.hid ig
  have Tl:=Nu.hid hx4
  have LV:=Nu.hid zi
  have FZ:=Nu.hid hx7
  have jU:=Nu.hid hl2
  have HOW:=Nu.hid ho2
  by_cases lJ:top ps=((va,vb),vc,vd)
  ·have hr:r=some (ps,lk,o):=by
    have h1:=HOW.out
    cases ps with
    |nil=>
     unfold Lt.own at h1
     rw[if_pos (show dG=((va,vb),vc,vd) from lJ)] at h1
     exact(aak h1).symm
    |cons q ps=>
     unfold Lt.own at h1
     rw[if_pos (show q=((va,vb),vc,vd) from lJ)] at h1
     exact(aak h1).symm
   have HR:=Nu.hid hr
   rw[lJ] at xN
   clear ig hx4 zi hx7 ho2 hl2 lJ hr D7
   go_wp2_with fail
   refine aB (by kernel_rfl) (by kernel_rfl) ?_
   repeat (go_big_quiet_step ((first|(go_at_call 83;exact Calls.lw (xN.out _)))))
   refine wpQuiet_nil ?_
   rintro _ ⟨D,rfl⟩
   clear y0 y1 y2 y3
   have g9:=fq.out.later D.h
   have h4:=(D.h.block _ (lt_of_block Tl.out)).trans Tl.out
   have h7:=(D.h.block _ (lt_of_block FZ.out)).trans FZ.out
   obtain⟨oa,ob⟩:=o
   obtain⟨z0,z1,zf⟩:=ay h4
   obtain⟨z2,z3,-⟩:=ay h7
   obtain⟨r0,r1,-⟩:=ay (gD h4 (.int .i64 oa) (.int .i64 ob))
   have bI:Hid (aT c p t W0 O W { st with stk:=ps,like:=lk } ((D.val.setCell ⟨b4,0,none⟩ (.int .i64 oa)).setCell ⟨b4,1,none⟩ (.int .i64 ob))):=((g9.set (b:=b4) (i:=0) (.inl rfl) (.int .i64 oa)).set (b:=b4) (i:=1) (.inl rfl) (.int .i64 ob)).post
   clear g9 h4 h7
   go_wp2
   refine bodyPost_ret (v:= .tuple #[dF (oa,ob),.bool true]) (by simp[results,Tryz.results157,go_sem,r0,r1]) rfl ?_
   rw[HR.out]
   exact⟨rfl,bI.out⟩
  ·cases ps with
   |nil=>
    exfalso
    have h1:=HOW.out
    unfold Lt.own at h1
    rw[if_neg (show ¬dG=((va,vb),vc,vd) from lJ)] at h1
    cases h1
   |cons q ps=>
    have Vi:q≠((va,vb),vc,vd):=lJ
    have how:(if (if q.2=aO then q.2 else q.1)≠aO then some none else match bz c.lw (if q.2=aO then q.1 else q.2).2,bz c.lw above with|some a,some b=>if a=b then (match bz st.lowest above with|none=>none|some x=>match eT lk (if q.2=aO then q.1 else q.2).2 x with|none=>none|some aH=>Lt.own c.lw st.lowest above ((va,vb),vc,vd) ps aH o) else (match join lk o (if q.2=aO then q.1 else q.2) with|none=>none|some (aH,o')=>Lt.own c.lw st.lowest above ((va,vb),vc,vd) ps aH o')|_,_=>none)=some r:=by
     have h1:=HOW.out
     unfold Lt.own at h1
     rw[if_neg Vi] at h1
     exact h1
    have TX:=Nu.hid how
    obtain⟨⟨qa,qb⟩,qc,qd⟩:=q
    have hdec:(!(qa==va)|| !(qb==vb)||(!(qc==vc)|| !(qd==vd)))=true:=by
     cases hc:(!(qa==va)|| !(qb==vb)||(!(qc==vc)|| !(qd==vd))) with
     |true=>rfl
     |false=>
      simp at hc
      exact absurd (by rw[hc.1.1,hc.1.2,hc.2.1,hc.2.2]) Vi
    have HNQ:Hid (∀D:LW wr,Calls Tryz.prog 83 #[.pointer (some ⟨t,0,none⟩)] D.val fun e w'=>e= .returned (fK ((qa,qb),qc,qd))∧Below D.val.heap.size D.val w'):=fun D=>xN.out D
    clear ig hx4 zi hx7 ho2 hl2 lJ D7 Vi how xN
    go_wp2_with fail
    refine aB (by kernel_rfl) (by kernel_rfl) ?_
    repeat (go_big_quiet_step ((first|(go_at_call 83;exact Calls.lw (HNQ.out _)))))
    refine wpQuiet_nil ?_
    rintro _ ⟨D,rfl⟩
    clear y0 y1 y2 y3 hdec
    have q7:=fq.out.later D.h
    have tU:∀b,b=b4∨b=b6∨b=b7→b<D.val.heap.size:=fun b hb=>by
     have q1:=lt_of_block Tl.out
     have q2:=lt_of_block LV.out
     have q3:=lt_of_block FZ.out
     have q4:=D.h.size
     omega
    have HD4:=Nu.hid ((D.h.block _ (lt_of_block Tl.out)).trans Tl.out)
    have HD6:=Nu.hid ((D.h.block _ (lt_of_block LV.out)).trans LV.out)
    have HD7:=Nu.hid ((D.h.block _ (lt_of_block FZ.out)).trans FZ.out)
    have lY:=Nu.hid (aD.reads q7 tU (f:=83) (args:= #[.pointer (some ⟨t,0,none⟩)]) (R:=fun e=>e= .returned (fK ((qa,qb),qc,qd))) (fun hT=>iz hT (by have:=jU.out;simp at this ⊢;omega)))
    clear q7 tU
    go_wp2_with (go_at_call 83;refine lY.out.mono ?_;rintro e w5 ⟨rfl,kX,hk5,-⟩;have JA:=Nu.hid kX;have HE4:=Nu.hid ((hk5 b4 (.inl rfl)).trans HD4.out);have Gd:=Nu.hid ((hk5 b6 (.inr (.inl rfl))).trans HD6.out);have HE7:=Nu.hid ((hk5 b7 (.inr (.inr rfl))).trans HD7.out);clear kX hk5)
    obtain⟨b8,dV⟩:∃b8,w5.heap.size=b8:=⟨_,rfl⟩
    obtain⟨W6,vA⟩:∃W6,W6=w5.alloc (bZ ((qa,qb),qc,qd)):=⟨_,rfl⟩
    have eY:aD c p t W0 O W (fun b=>(b=b4∨b=b6∨b=b7)∨b=b8) { st with stk:=((qa,qb),qc,qd)::ps,like:=lk } W6:=by
     rw[vA]
     exact(JA.out.box _).less fun b hb=>hb.imp id fun q=>by omega
    have Oy:W6.heap[b8]? =some (bZ ((qa,qb),qc,qd)):=by rw[vA,←dV];exact heap_alloc_new _ _
    have Bz:W6.heap[b4]? =some (kV (0,0)):=by rw[vA,aap _ _ _ (lt_of_block HE4.out)];exact HE4.out
    have Oz:W6.heap[b6]? =some (bZ ((va,vb),vc,vd)):=by rw[vA,aap _ _ _ (lt_of_block Gd.out)];exact Gd.out
    have ID:W6.heap[b7]? =some (kV o):=by rw[vA,aap _ _ _ (lt_of_block HE7.out)];exact HE7.out
    have hB6:∀b,(b=b4∨b=b6∨b=b7)∨b=b8→b<W6.heap.size:=fun b hb=>by
     have q1:=lt_of_block Bz
     have q2:=lt_of_block Oz
     have q3:=lt_of_block ID
     have q4:=lt_of_block Oy
     omega
    have HN8:Hid (b8≠b4∧b8≠b6∧b8≠b7):=by
     have q1:=lt_of_block HE4.out
     have q2:=lt_of_block Gd.out
     have q3:=lt_of_block HE7.out
     exact⟨by omega,by omega,by omega⟩
    have jT:=Nu.hid (aD.calls eY hB6 (f:=136) (args:= #[.pointer (some ⟨t,0,none⟩)]) (R:=fun e=>e= .returned (.tuple #[])) (st':={ st with stk:=ps,like:=lk }) (fun hT=>ou hT rfl (by have:=jU.out;simp at this ⊢;omega)))
    have HF4:=Nu.hid Bz
    have WW:=Nu.hid Oz
    have HF7:=Nu.hid ID
    have WV:=Nu.hid Oy
    have Pg:=Nu.hid vA
    change Calls _ _ _ (w5.alloc (bZ ((qa,qb),qc,qd))) _
    rw[←Pg.out,dV]
    clear eY Bz Oz ID Oy hB6 vA dV
    go_at_call 136
    refine jT.out.mono ?_
    rintro e w7 ⟨rfl,Iu,Rv⟩
    have Ct:=Nu.hid Iu
    have Cw:=Nu.hid ((Rv b4 (.inl (.inl rfl))).trans HF4.out)
    have uF:=Nu.hid ((Rv b6 (.inl (.inr (.inl rfl)))).trans WW.out)
    have zI:=Nu.hid ((Rv b7 (.inl (.inr (.inr rfl)))).trans HF7.out)
    have xQ:=Nu.hid ((Rv b8 (.inr rfl)).trans WV.out)
    obtain⟨z0,z1,z2,z3,zf⟩:=au xQ.out
    clear Iu Rv
    have fY:Hid (∀(i:Iv) (w:World),Calls Tryz.prog 137 #[dF i] w fun e w'=>e= .returned (.bool (decide (i=aO)))∧Below w.heap.size w w'):=fV
    by_cases hA:(qc,qd)=aO
    ·have hle:decide ((qc,qd)=aO)=true:=decide_eq_true hA
     have oV:Hid (∀w,Calls Tryz.prog 137 #[.agg #[.int .i64 qc,.int .i64 qd]] w fun e w'=>e= .returned (.bool true)∧Below w.heap.size w w'):=fun w=>by rw[←hle];exact fY.out (qc,qd) w
     have HTU:Hid (∀w,Calls Tryz.prog 165 #[fK ((qa,qb),qc,qd)] w fun e w'=>e= .returned (fK ((qc,qd),qa,qb))∧Below w.heap.size w w'):=fun w=>xW ((qa,qb),qc,qd) w
     have HA:=Nu.hid hA
     clear hle hA
     go_wp2_with fail
     go_at_call 137
     refine(oV.out _).mono ?_
     rintro e w8 ⟨rfl,dV⟩
     have Cr:=Nu.hid (Ct.out.later dV)
     have yV:=Nu.hid ((dV.block _ (lt_of_block Cw.out)).trans Cw.out)
     have yT:=Nu.hid ((dV.block _ (lt_of_block uF.out)).trans uF.out)
     have yR:=Nu.hid ((dV.block _ (lt_of_block zI.out)).trans zI.out)
     have rN:=Nu.hid ((dV.block _ (lt_of_block xQ.out)).trans xQ.out)
     obtain⟨z0,z1,z2,z3,zf⟩:=au rN.out
     clear dV
     go_wp2_with fail
     go_at_call 165
     refine(HTU.out _).mono ?_
     rintro e Zs ⟨rfl,dV⟩
     have acv:=Nu.hid (Cr.out.later dV)
     have acC:=Nu.hid ((dV.block _ (lt_of_block yV.out)).trans yV.out)
     have acB:=Nu.hid ((dV.block _ (lt_of_block yT.out)).trans yT.out)
     have acA:=Nu.hid ((dV.block _ (lt_of_block yR.out)).trans yR.out)
     have Uh:=Nu.hid ((dV.block _ (lt_of_block rN.out)).trans rN.out)
     obtain⟨z0,z1,z2,z3,zf⟩:=au Uh.out
     clear dV
     go_wp2_with fail
     have RA:=(((acv.out.set (b:=b8) (i:=0) (.inr rfl) (.int .i64 qc)).set (b:=b8) (i:=1) (.inr rfl) (.int .i64 qd)).set (b:=b8) (i:=2) (.inr rfl) (.int .i64 qa)).set (b:=b8) (i:=3) (.inr rfl) (.int .i64 qb)
     have hg8:=iI Uh.out (.int .i64 qc) (.int .i64 qd) (.int .i64 qa) (.int .i64 qb)
     have lU:∀b,b≠b8→((((Zs.setCell ⟨b8,0,none⟩ (.int .i64 qc)).setCell ⟨b8,1,none⟩ (.int .i64 qd)).setCell ⟨b8,2,none⟩ (.int .i64 qa)).setCell ⟨b8,3,none⟩ (.int .i64 qb)).heap[b]? =Zs.heap[b]? :=fun b hb=>by
      rw[heap_setCell_other _ ⟨b8,3,none⟩ b _ hb,heap_setCell_other _ ⟨b8,2,none⟩ b _ hb,heap_setCell_other _ ⟨b8,1,none⟩ b _ hb,heap_setCell_other _ ⟨b8,0,none⟩ b _ hb]
     obtain⟨n84,n86,n87⟩:=HN8.out
     have Uk:=Nu.hid ((lU b4 (aaR n84)).trans acC.out)
     have Uj:=Nu.hid ((lU b6 (aaR n86)).trans acB.out)
     have Ui:=Nu.hid ((lU b7 (aaR n87)).trans acA.out)
     have Mc:=Nu.hid hg8
     have acu:=Nu.hid RA
     clear lU hg8 RA n84 n86 n87 z0 z1 z2 z3 zf
     generalize (((Zs.setCell ⟨b8,0,none⟩ (.int .i64 qc)).setCell ⟨b8,1,none⟩ (.int .i64 qd)).setCell ⟨b8,2,none⟩ (.int .i64 qa)).setCell ⟨b8,3,none⟩ (.int .i64 qb)=w8c at*
     obtain⟨z0,z1,z2,z3,zf⟩:=au Mc.out
     go_at_call 137
     refine(oV.out _).mono ?_
     rintro e W9 ⟨rfl,gm⟩
     have rL:=Nu.hid (acu.out.later gm)
     have yU:=Nu.hid ((gm.block _ (lt_of_block Uk.out)).trans Uk.out)
     have ED:=Nu.hid ((gm.block _ (lt_of_block Uj.out)).trans Uj.out)
     have Cv:=Nu.hid ((gm.block _ (lt_of_block Ui.out)).trans Ui.out)
     have EC:=Nu.hid ((gm.block _ (lt_of_block Mc.out)).trans Mc.out)
     obtain⟨z0,z1,z2,z3,zf⟩:=au EC.out
     clear gm
     go_wp2_with fail
     obtain⟨x,y,hx,hy,Ig⟩:∃x y,bz c.lw qb=some x∧bz c.lw (above:Int)=some y∧(if x=y then (match bz st.lowest above with|none=>none|some z=>match eT lk qb z with|none=>none|some aH=>Lt.own c.lw st.lowest above ((va,vb),vc,vd) ps aH o) else (match join lk o (qa,qb) with|none=>none|some (aH,o')=>Lt.own c.lw st.lowest above ((va,vb),vc,vd) ps aH o'))=some r:=by
      have h1:=TX.out
      try dsimp only at h1
      rw[if_pos HA.out,if_pos HA.out,if_neg (by simpa using HA.out)] at h1
      cases hx:bz c.lw qb with
      |none=>rw[hx] at h1;cases h1
      |some x=>
       cases hy:bz c.lw (above:Int) with
       |none=>rw[hx,hy] at h1;cases h1
       |some y=>
        rw[hx,hy] at h1
        exact⟨x,y,rfl,rfl,h1⟩
     obtain⟨kx,qw,Im,Io⟩:=gX hx
     obtain⟨ky,Rt,Rs,Il⟩:=gX hy
     obtain rfl:above=ky:=by omega
     have Jr:=Nu.hid Ig
     obtain⟨gl,cl,mg⟩:∃gl cl,W9.cell? ⟨t,0,none⟩=some (.pointer (some ⟨p,0,none⟩))∧W9.cell? ⟨p,6,none⟩=some (.slice (some ⟨gl,0,none⟩) c.es.length cl)∧∀y,y<c.es.length→W9.cell? ⟨gl,y,none⟩=some (.int .i64 (Lo.low c.es c.s y)):=by
      obtain⟨-,-,O',-,-,L',U',Z',o9,qA,hT⟩:=rL.out
      obtain⟨gl,cl,h1⟩:=hT.low Im
      exact⟨gl,cl,h1 _ (aae _ _)⟩
     obtain⟨l0,l1,l2⟩:=mg
     have l3:=l2 kx Im
     have l4:=l2 above Rs
     rw[Io] at l3
     rw[Il] at l4
     subst qw
     have v0:(0:Int)≤(kx:Int):=by omega
     have v1:(kx:Int)<(c.es.length:Int):=by omega
     have v2:(0:Int)≤(above:Int):=by omega
     have v3:(above:Int)<(c.es.length:Int):=by omega
     clear hx hy Ig l2 Io Il Rt
     by_cases hxy:x=y
     ·obtain⟨z,ka,jl,hz,hka,cU,rK⟩:∃(z:Int) (ka:Nat) (jl:List Int),st.lowest[above]?.getD 0=z∧above<st.lowest.length∧kx<lk.length∧Hid (Lt.own c.lw st.lowest above ((va,vb),vc,vd) ps (lk.set kx z) o=some r):=by
       have h1:=Jr.out
       rw[if_pos hxy] at h1
       cases e1:bz st.lowest (above:Int) with
       |none=>rw[e1] at h1;cases h1
       |some z=>
        rw[e1] at h1
        try dsimp only at h1
        cases e2:eT lk (kx:Int) z with
        |none=>rw[e2] at h1;cases h1
        |some jl=>
         rw[e2] at h1
         obtain⟨a1,a2,a3,a4⟩:=oJ e1
         obtain⟨c1,c2,c3,c4⟩:=ju e2
         obtain rfl:above=a1:=by omega
         obtain rfl:kx=c1:=by omega
         exact⟨z,0,[],by rw[a4];rfl,a3,c3,by rw[←c4];exact h1⟩
      have uZ:(x==y)=true:=by simp[hxy]
      go_quiet (fail)
      go_wp2_with fail
      obtain⟨gL,u0,u1,u2,u3,u4,u5,u6⟩:=rL.out.Mw (k:=kx) cU
      obtain⟨gZ,m0,m1,m2,m3,m4,m5,m6⟩:=rL.out.Qp (k:=above) hka
      rw[hz] at m1
      obtain⟨zz,u1⟩:∃zz,W9.cell? ⟨gL,kx,none⟩=some (.int .i64 zz):=⟨_,u1⟩
      have n8:gL≠b8:=u3 b8 (.inr rfl)
      have Cq:=Nu.hid (u6 z)
      have HU3:=Nu.hid u3
      clear u3 u6 m3 m6
      go_big_region
      go_wp2
      go_roundw
      case rel=>
       have hk:∀b,(b=b4∨b=b6∨b=b7)→((W9.drewN (nq+1)).setCell ⟨gL,kx,none⟩ (.int .i64 z)).heap[b]? =W9.heap[b]? :=fun b hb=>heap_setCell_other (W9.drewN (nq+1)) ⟨gL,kx,none⟩ b _ (fun e=>HU3.out b (.inl hb) (show b=gL from e).symm)
       exact⟨ps,lk.set kx z,o,(Cq.out.less (B':=(fun b=>b=b4∨b=b6∨b=b7)) (fun _ hb=> .inl hb)).drewN (nq+1),(hk b4 (.inl rfl)).trans yU.out,(hk b6 (.inr (.inl rfl))).trans ED.out,(hk b7 (.inr (.inr rfl))).trans Cv.out,rK.out,by have:=jU.out;simp at this;omega⟩
      case measure=>
       have h1:=(Cq.out.drewN (nq+1)).dP
       have h2:=fq.out.dP
       rw[h2]
       refine acm (acU (show _=ps.length from h1)) ?_
       simp
     ·obtain⟨jl,oi,hjn,rK⟩:∃(jl:List Int) (oi:Iv),join lk o (qa,(kx:Int))=some (jl,oi)∧Hid (Lt.own c.lw st.lowest above ((va,vb),vc,vd) ps jl oi=some r):=by
       have h1:=Jr.out
       rw[if_neg hxy] at h1
       cases e1:join lk o (qa,(kx:Int)) with
       |none=>rw[e1] at h1;cases h1
       |some q=>
        obtain⟨jl,oi⟩:=q
        rw[e1] at h1
        exact⟨jl,oi,rfl,h1⟩
      have uZ:(x==y)=false:=by simp[hxy]
      go_quiet (fail)
      go_wp2_with fail
      obtain⟨oa,ob⟩:=o
      obtain⟨pK,pJ⟩:=oi
      obtain⟨Wq,jN⟩:∃Wq,Wq=(W9.drewN nq).drew:=⟨_,rfl⟩
      have qZ:aD c p t W0 O W (fun b=>(b=b4∨b=b6∨b=b7)∨b=b8) { st with stk:=ps,like:=lk } Wq:=by rw[jN];exact(rL.out.drewN nq).drew
      have KQ:Wq.heap[b4]? =some (kV (0,0)):=by rw[jN];exact yU.out
      have xe:Wq.heap[b6]? =some (bZ ((va,vb),vc,vd)):=by rw[jN];exact ED.out
      have Bc:Wq.heap[b7]? =some (kV (oa,ob)):=by rw[jN];exact Cv.out
      have tQ:Wq.heap[b8]? =some (bZ ((qc,qd),qa,(kx:Int))):=by rw[jN];exact EC.out
      have SM:∀b,(b=b4∨b=b6∨b=b7)∨b=b8→b<Wq.heap.size:=fun b hb=>by
       have q1:=lt_of_block KQ
       have q2:=lt_of_block xe
       have q3:=lt_of_block Bc
       have q4:=lt_of_block tQ
       omega
      have L9:=Nu.hid (aD.calls qZ SM (f:=166) (args:= #[.pointer (some ⟨t,1,none⟩),dF (oa,ob),dF (qa,(kx:Int))]) (R:=fun e=>e= .returned (dF (pK,pJ))) (st':={ st with stk:=ps,like:=jl }) (fun hT=>kn hT hjn))
      have HV:Hid (∀V,V=Wq∨(fun V=>aD c p t W0 O W (fun b=>(b=b4∨b=b6∨b=b7)∨b=b8) { st with stk:=ps,like:=jl } V∧∀b,(b=b4∨b=b6∨b=b7)∨b=b8→V.heap[b]? =Wq.heap[b]?) V→V.cell? ⟨b7,0,none⟩=some (.int .i64 oa)∧V.cell? ⟨b7,1,none⟩=some (.int .i64 ob)∧V.cell? ⟨b8,2,none⟩=some (.int .i64 qa)∧V.cell? ⟨b8,3,none⟩=some (.int .i64 (kx:Int))∧∀i,V.frozen? ⟨b7,i,none⟩=false):=fun V hV=>by
       have h7:V.heap[b7]? =some (kV (oa,ob)):=by
        rcases hV with rfl|hV
        ·exact Bc
        ·exact(hV.2 b7 (.inl (.inr (.inr rfl)))).trans Bc
       have h8:V.heap[b8]? =some (bZ ((qc,qd),qa,(kx:Int))):=by
        rcases hV with rfl|hV
        ·exact tQ
        ·exact(hV.2 b8 (.inr rfl)).trans tQ
       obtain⟨a0,a1,af⟩:=ay h7
       obtain⟨-,-,a2,a3,-⟩:=au h8
       exact⟨a0,a1,a2,a3,af⟩
      have TM:=Nu.hid KQ
      have TL:=Nu.hid xe
      have TK:=Nu.hid Bc
      have LX:=Nu.hid jN
      clear qZ KQ xe Bc tQ SM jN
      refine wp_region_any (by kernel_rfl) ?_
      change wpAny _ _ _ _ _ _ _ ((W9.drewN nq).drew)
      rw[←LX.out]
      refine aj.oK (fun j=>match j with|0=> .pointer (some ⟨t,0,none⟩)|1=> .pointer (some ⟨t,0,none⟩)|2=> .pointer (some ⟨t,1,none⟩)|3=> .agg #[.int .i64 oa,.int .i64 ob]|4=> .pointer (some ⟨b8,2,none⟩)|5=> .agg #[.int .i64 qa,.int .i64 (kx:Int)]|6=> .agg #[.int .i64 pK,.int .i64 pJ]|_=>undef) (AnyM.cI (fun V=>V=Wq) [(7,(fun V'=>∃V,(fun V=>aD c p t W0 O W (fun b=>(b=b4∨b=b6∨b=b7)∨b=b8) { st with stk:=ps,like:=jl } V∧∀b,(b=b4∨b=b6∨b=b7)∨b=b8→V.heap[b]? =Wq.heap[b]?) V∧V'=((V.setCell ⟨b7,0,none⟩ (.int .i64 pK)).setCell ⟨b7,1,none⟩ (.int .i64 pJ)))),(6,(fun V=>aD c p t W0 O W (fun b=>(b=b4∨b=b6∨b=b7)∨b=b8) { st with stk:=ps,like:=jl } V∧∀b,(b=b4∨b=b6∨b=b7)∨b=b8→V.heap[b]? =Wq.heap[b]?))]) 90 rfl (by kernel_rfl) rfl ?_ ?_
      ·intro j o' Ls V ev ho bP hC bU hdc aA aS lG iW
       have hc:j=0∨j=1∨j=2∨j=3∨j=4∨j=5∨j=6∨j=7:=by
        have:j<8:=(aam.1 ho).1
        omega
       have hst:Ls 7=false:=by
        cases h:Ls 7 with
        |false=>rfl
        |true=>
         exfalso
         have hq:Ls j=true:=by
          rcases hc with rfl|rfl|rfl|rfl|rfl|rfl|rfl|rfl
          ·exact hdc 7 _ rfl h ⟨0,.phase⟩ (by simp) rfl
          ·exact hdc 7 _ rfl h ⟨1,.phase⟩ (by simp) rfl
          ·exact hdc 7 _ rfl h ⟨2,.phase⟩ (by simp) rfl
          ·exact hdc 7 _ rfl h ⟨3,.phase⟩ (by simp) rfl
          ·exact hdc 7 _ rfl h ⟨4,.phase⟩ (by simp) rfl
          ·exact hdc 7 _ rfl h ⟨5,.phase⟩ (by simp) rfl
          ·exact hdc 7 _ rfl h ⟨6,.phase⟩ (by simp) rfl
          ·exact h
         rw[bP] at hq
         cases hq
       have rj:V=Wq∨((fun V=>aD c p t W0 O W (fun b=>(b=b4∨b=b6∨b=b7)∨b=b8) { st with stk:=ps,like:=jl } V∧∀b,(b=b4∨b=b6∨b=b7)∨b=b8→V.heap[b]? =Wq.heap[b]?)) V:=by
        simp only[AnyM.cI,hst,aau,if_false] at hC
        split at hC
        ·exact .inr hC
        ·exact .inl hC
       obtain⟨k1,k2,k3,k4,kf⟩:=HV.out V rj
       rcases hc with rfl|rfl|rfl|rfl|rfl|rfl|rfl|rfl<;>obtain rfl:=aak ho
       ·have e1:ev (.tmp 0)= .pointer (some ⟨t,0,none⟩):=aS 0 (by kernel_rfl)
        exact aj.ah (v:= .pointer (some ⟨t,0,none⟩)) (w':=V) (by simp[execOp,go_sem,e1]) ⟨rfl,AnyM.aV rfl hC⟩
       ·have e1:ev (.tmp 82)= .pointer (some ⟨t,0,none⟩):=aA 0 82 (by omega) rfl (by decide)
        exact aj.ah (v:= .pointer (some ⟨t,0,none⟩)) (w':=V) (by simp[execOp,go_sem,e1]) ⟨rfl,AnyM.aV rfl hC⟩
       ·have e1:ev (.tmp 83)= .pointer (some ⟨t,0,none⟩):=aA 1 83 (by omega) rfl (by decide)
        exact aj.ah (v:= .pointer (some ⟨t,1,none⟩)) (w':=V) (by simp[execOp,go_sem,e1]) ⟨rfl,AnyM.aV rfl hC⟩
       ·have e1:ev (.tmp 7)= .pointer (some ⟨b7,0,none⟩):=aS 7 (by kernel_rfl)
        exact aj.ah (v:= .agg #[.int .i64 oa,.int .i64 ob]) (w':=V) (by simp[execOp,go_sem,e1,k1,k2]) ⟨rfl,AnyM.aV rfl hC⟩
       ·have e1:ev (.tmp 8)= .pointer (some ⟨b8,0,none⟩):=aS 8 (by kernel_rfl)
        exact aj.ah (v:= .pointer (some ⟨b8,2,none⟩)) (w':=V) (by simp[execOp,go_sem,e1]) ⟨rfl,AnyM.aV rfl hC⟩
       ·have e1:ev (.tmp 86)= .pointer (some ⟨b8,2,none⟩):=aA 4 86 (by omega) rfl (by decide)
        exact aj.ah (v:= .agg #[.int .i64 qa,.int .i64 (kx:Int)]) (w':=V) (by simp[execOp,go_sem,e1,k3,k4]) ⟨rfl,AnyM.aV rfl hC⟩
       ·have e1:ev (.tmp 84)= .pointer (some ⟨t,1,none⟩):=aA 2 84 (by omega) rfl (by decide)
        have e2:ev (.tmp 85)= .agg #[.int .i64 oa,.int .i64 ob]:=aA 3 85 (by omega) rfl (by decide)
        have e3:ev (.tmp 87)= .agg #[.int .i64 qa,.int .i64 (kx:Int)]:=aA 5 87 (by omega) rfl (by decide)
        have iG:V=Wq:=by
         simp only[AnyM.cI,hst,bP,aau,if_false] at hC
         exact hC
        rw[iG]
        refine AnyM.iq (v:= .agg #[.int .i64 pK,.int .i64 pJ]) (by simp[execOp,go_sem,e1,e2,e3,iW]) L9.out (fun w2 hw2=>⟨rfl,?_⟩)
        simp only[AnyM.cI,aj.bR]
        simp[hst]
        exact hw2
       ·have e1:ev (.tmp 7)= .pointer (some ⟨b7,0,none⟩):=aS 7 (by kernel_rfl)
        have e2:ev (.tmp 88)= .agg #[.int .i64 pK,.int .i64 pJ]:=aA 6 88 (by omega) rfl (by decide)
        have hp:Ls 6=true:=bU ⟨6,.data⟩ (by simp) rfl
        have hQ:((fun V=>aD c p t W0 O W (fun b=>(b=b4∨b=b6∨b=b7)∨b=b8) { st with stk:=ps,like:=jl } V∧∀b,(b=b4∨b=b6∨b=b7)∨b=b8→V.heap[b]? =Wq.heap[b]?)) V:=by
         simp only[AnyM.cI,bP,hp,aau,if_false,if_true] at hC
         exact hC
        refine aj.bF (w':=((V.setCell ⟨b7,0,none⟩ (.int .i64 pK)).setCell ⟨b7,1,none⟩ (.int .i64 pJ))) (by simp[execOp,go_sem,e1,e2,k1,k2,kf]) ⟨rfl,?_⟩
        simp only[AnyM.cI,aj.bR]
        simp only[if_true]
        exact⟨V,hQ,rfl⟩
      ·intro Ls V hall hC
       unfold AnyM.cI at hC
       rw[if_pos (hall 7 (by decide))] at hC
       obtain⟨V6,⟨eY,kW⟩,rfl⟩:=hC
       simp only[aj.canon,aj.dst,Array.size,aar,aaS]
       simp[Act.put]
       go_wp2
       go_roundw
       case rel=>
        have hk:∀b,b≠b7→((V6.setCell ⟨b7,0,none⟩ (.int .i64 pK)).setCell ⟨b7,1,none⟩ (.int .i64 pJ)).heap[b]? =V6.heap[b]? :=fun b hb=>eG hb _ _
        obtain⟨n1,n2,n3⟩:=Ju.out
        exact⟨ps,jl,(pK,pJ),((eY.less (B':=(fun b=>b=b4∨b=b6∨b=b7)) (fun _ hb=> .inl hb)).set (.inr (.inr rfl)) _).set (.inr (.inr rfl)) _,(hk b4 n2).trans ((kW b4 (.inl (.inl rfl))).trans TM.out),(hk b6 n3).trans ((kW b6 (.inl (.inr (.inl rfl)))).trans TL.out),gD ((kW b7 (.inl (.inr (.inr rfl)))).trans TK.out) _ _,rK.out,by have:=jU.out;simp at this;omega⟩
       case measure=>
        have h1:=((eY.set (b:=b7) (i:=0) (.inl (.inr (.inr rfl))) (.int .i64 pK)).set (b:=b7) (i:=1) (.inl (.inr (.inr rfl))) (.int .i64 pJ)).dP
        have h2:=fq.out.dP
        rw[h2]
        refine acm (acU (show _=ps.length from h1)) ?_
        simp
    ·have hle:decide ((qc,qd)=aO)=false:=decide_eq_false hA
     have oV:Hid (∀w,Calls Tryz.prog 137 #[.agg #[.int .i64 qc,.int .i64 qd]] w fun e w'=>e= .returned (.bool false)∧Below w.heap.size w w'):=fun w=>by rw[←hle];exact fY.out (qc,qd) w
     by_cases hC:(qa,qb)=aO
     ·have Ii:decide ((qa,qb)=aO)=true:=decide_eq_true hC
      have xR:Hid (∀w,Calls Tryz.prog 137 #[.agg #[.int .i64 qa,.int .i64 qb]] w fun e w'=>e= .returned (.bool true)∧Below w.heap.size w w'):=fun w=>by rw[←Ii];exact fY.out (qa,qb) w
      clear hle Ii
      go_wp2_with fail
      go_at_call 137
      refine(oV.out _).mono ?_
      rintro e w8 ⟨rfl,dV⟩
      have Cr:=Nu.hid (Ct.out.later dV)
      have yV:=Nu.hid ((dV.block _ (lt_of_block Cw.out)).trans Cw.out)
      have yT:=Nu.hid ((dV.block _ (lt_of_block uF.out)).trans uF.out)
      have yR:=Nu.hid ((dV.block _ (lt_of_block zI.out)).trans zI.out)
      have rN:=Nu.hid ((dV.block _ (lt_of_block xQ.out)).trans xQ.out)
      obtain⟨z0,z1,z2,z3,zf⟩:=au rN.out
      clear dV
      go_wp2_with fail
      go_at_call 137
      refine(xR.out _).mono ?_
      rintro e W9 ⟨rfl,gm⟩
      have rL:=Nu.hid (Cr.out.later gm)
      have yU:=Nu.hid ((gm.block _ (lt_of_block yV.out)).trans yV.out)
      have ED:=Nu.hid ((gm.block _ (lt_of_block yT.out)).trans yT.out)
      have Cv:=Nu.hid ((gm.block _ (lt_of_block yR.out)).trans yR.out)
      have EC:=Nu.hid ((gm.block _ (lt_of_block rN.out)).trans rN.out)
      obtain⟨z0,z1,z2,z3,zf⟩:=au EC.out
      clear gm
      go_wp2_with fail
      obtain⟨x,y,hx,hy,Ig⟩:∃x y,bz c.lw qd=some x∧bz c.lw (above:Int)=some y∧(if x=y then (match bz st.lowest above with|none=>none|some z=>match eT lk qd z with|none=>none|some aH=>Lt.own c.lw st.lowest above ((va,vb),vc,vd) ps aH o) else (match join lk o (qc,qd) with|none=>none|some (aH,o')=>Lt.own c.lw st.lowest above ((va,vb),vc,vd) ps aH o'))=some r:=by
       have h1:=TX.out
       try dsimp only at h1
       rw[if_neg hA,if_neg hA,if_neg (by simpa using hC)] at h1
       cases hx:bz c.lw qd with
       |none=>rw[hx] at h1;cases h1
       |some x=>
        cases hy:bz c.lw (above:Int) with
        |none=>rw[hx,hy] at h1;cases h1
        |some y=>
         rw[hx,hy] at h1
         exact⟨x,y,rfl,rfl,h1⟩
      obtain⟨kx,qw,Im,Io⟩:=gX hx
      obtain⟨ky,Rt,Rs,Il⟩:=gX hy
      obtain rfl:above=ky:=by omega
      have Jr:=Nu.hid Ig
      obtain⟨gl,cl,mg⟩:∃gl cl,W9.cell? ⟨t,0,none⟩=some (.pointer (some ⟨p,0,none⟩))∧W9.cell? ⟨p,6,none⟩=some (.slice (some ⟨gl,0,none⟩) c.es.length cl)∧∀y,y<c.es.length→W9.cell? ⟨gl,y,none⟩=some (.int .i64 (Lo.low c.es c.s y)):=by
       obtain⟨-,-,O',-,-,L',U',Z',o9,qA,hT⟩:=rL.out
       obtain⟨gl,cl,h1⟩:=hT.low Im
       exact⟨gl,cl,h1 _ (aae _ _)⟩
      obtain⟨l0,l1,l2⟩:=mg
      have l3:=l2 kx Im
      have l4:=l2 above Rs
      rw[Io] at l3
      rw[Il] at l4
      subst qw
      have v0:(0:Int)≤(kx:Int):=by omega
      have v1:(kx:Int)<(c.es.length:Int):=by omega
      have v2:(0:Int)≤(above:Int):=by omega
      have v3:(above:Int)<(c.es.length:Int):=by omega
      clear hx hy Ig l2 Io Il Rt
      by_cases hxy:x=y
      ·obtain⟨z,ka,jl,hz,hka,cU,rK⟩:∃(z:Int) (ka:Nat) (jl:List Int),st.lowest[above]?.getD 0=z∧above<st.lowest.length∧kx<lk.length∧Hid (Lt.own c.lw st.lowest above ((va,vb),vc,vd) ps (lk.set kx z) o=some r):=by
        have h1:=Jr.out
        rw[if_pos hxy] at h1
        cases e1:bz st.lowest (above:Int) with
        |none=>rw[e1] at h1;cases h1
        |some z=>
         rw[e1] at h1
         try dsimp only at h1
         cases e2:eT lk (kx:Int) z with
         |none=>rw[e2] at h1;cases h1
         |some jl=>
          rw[e2] at h1
          obtain⟨a1,a2,a3,a4⟩:=oJ e1
          obtain⟨c1,c2,c3,c4⟩:=ju e2
          obtain rfl:above=a1:=by omega
          obtain rfl:kx=c1:=by omega
          exact⟨z,0,[],by rw[a4];rfl,a3,c3,by rw[←c4];exact h1⟩
       have uZ:(x==y)=true:=by simp[hxy]
       go_quiet (fail)
       go_wp2_with fail
       obtain⟨gL,u0,u1,u2,u3,u4,u5,u6⟩:=rL.out.Mw (k:=kx) cU
       obtain⟨gZ,m0,m1,m2,m3,m4,m5,m6⟩:=rL.out.Qp (k:=above) hka
       rw[hz] at m1
       obtain⟨zz,u1⟩:∃zz,W9.cell? ⟨gL,kx,none⟩=some (.int .i64 zz):=⟨_,u1⟩
       have n8:gL≠b8:=u3 b8 (.inr rfl)
       have Cq:=Nu.hid (u6 z)
       have HU3:=Nu.hid u3
       clear u3 u6 m3 m6
       go_big_region
       go_wp2
       go_roundw
       case rel=>
        have hk:∀b,(b=b4∨b=b6∨b=b7)→((W9.drewN (nq+1)).setCell ⟨gL,kx,none⟩ (.int .i64 z)).heap[b]? =W9.heap[b]? :=fun b hb=>heap_setCell_other (W9.drewN (nq+1)) ⟨gL,kx,none⟩ b _ (fun e=>HU3.out b (.inl hb) (show b=gL from e).symm)
        exact⟨ps,lk.set kx z,o,(Cq.out.less (B':=(fun b=>b=b4∨b=b6∨b=b7)) (fun _ hb=> .inl hb)).drewN (nq+1),(hk b4 (.inl rfl)).trans yU.out,(hk b6 (.inr (.inl rfl))).trans ED.out,(hk b7 (.inr (.inr rfl))).trans Cv.out,rK.out,by have:=jU.out;simp at this;omega⟩
       case measure=>
        have h1:=(Cq.out.drewN (nq+1)).dP
        have h2:=fq.out.dP
        rw[h2]
        refine acm (acU (show _=ps.length from h1)) ?_
        simp
      ·obtain⟨jl,oi,hjn,rK⟩:∃(jl:List Int) (oi:Iv),join lk o (qc,(kx:Int))=some (jl,oi)∧Hid (Lt.own c.lw st.lowest above ((va,vb),vc,vd) ps jl oi=some r):=by
        have h1:=Jr.out
        rw[if_neg hxy] at h1
        cases e1:join lk o (qc,(kx:Int)) with
        |none=>rw[e1] at h1;cases h1
        |some q=>
         obtain⟨jl,oi⟩:=q
         rw[e1] at h1
         exact⟨jl,oi,rfl,h1⟩
       have uZ:(x==y)=false:=by simp[hxy]
       go_quiet (fail)
       go_wp2_with fail
       obtain⟨oa,ob⟩:=o
       obtain⟨pK,pJ⟩:=oi
       obtain⟨Wq,jN⟩:∃Wq,Wq=(W9.drewN nq).drew:=⟨_,rfl⟩
       have qZ:aD c p t W0 O W (fun b=>(b=b4∨b=b6∨b=b7)∨b=b8) { st with stk:=ps,like:=lk } Wq:=by rw[jN];exact(rL.out.drewN nq).drew
       have KQ:Wq.heap[b4]? =some (kV (0,0)):=by rw[jN];exact yU.out
       have xe:Wq.heap[b6]? =some (bZ ((va,vb),vc,vd)):=by rw[jN];exact ED.out
       have Bc:Wq.heap[b7]? =some (kV (oa,ob)):=by rw[jN];exact Cv.out
       have tQ:Wq.heap[b8]? =some (bZ ((qa,qb),qc,(kx:Int))):=by rw[jN];exact EC.out
       have SM:∀b,(b=b4∨b=b6∨b=b7)∨b=b8→b<Wq.heap.size:=fun b hb=>by
        have q1:=lt_of_block KQ
        have q2:=lt_of_block xe
        have q3:=lt_of_block Bc
        have q4:=lt_of_block tQ
        omega
       have L9:=Nu.hid (aD.calls qZ SM (f:=166) (args:= #[.pointer (some ⟨t,1,none⟩),dF (oa,ob),dF (qc,(kx:Int))]) (R:=fun e=>e= .returned (dF (pK,pJ))) (st':={ st with stk:=ps,like:=jl }) (fun hT=>kn hT hjn))
       have HV:Hid (∀V,V=Wq∨(fun V=>aD c p t W0 O W (fun b=>(b=b4∨b=b6∨b=b7)∨b=b8) { st with stk:=ps,like:=jl } V∧∀b,(b=b4∨b=b6∨b=b7)∨b=b8→V.heap[b]? =Wq.heap[b]?) V→V.cell? ⟨b7,0,none⟩=some (.int .i64 oa)∧V.cell? ⟨b7,1,none⟩=some (.int .i64 ob)∧V.cell? ⟨b8,2,none⟩=some (.int .i64 qc)∧V.cell? ⟨b8,3,none⟩=some (.int .i64 (kx:Int))∧∀i,V.frozen? ⟨b7,i,none⟩=false):=fun V hV=>by
        have h7:V.heap[b7]? =some (kV (oa,ob)):=by
         rcases hV with rfl|hV
         ·exact Bc
         ·exact(hV.2 b7 (.inl (.inr (.inr rfl)))).trans Bc
        have h8:V.heap[b8]? =some (bZ ((qa,qb),qc,(kx:Int))):=by
         rcases hV with rfl|hV
         ·exact tQ
         ·exact(hV.2 b8 (.inr rfl)).trans tQ
        obtain⟨a0,a1,af⟩:=ay h7
        obtain⟨-,-,a2,a3,-⟩:=au h8
        exact⟨a0,a1,a2,a3,af⟩
       have TM:=Nu.hid KQ
       have TL:=Nu.hid xe
       have TK:=Nu.hid Bc
       have LX:=Nu.hid jN
       clear qZ KQ xe Bc tQ SM jN
       refine wp_region_any (by kernel_rfl) ?_
       change wpAny _ _ _ _ _ _ _ ((W9.drewN nq).drew)
       rw[←LX.out]
       refine aj.oK (fun j=>match j with|0=> .pointer (some ⟨t,0,none⟩)|1=> .pointer (some ⟨t,0,none⟩)|2=> .pointer (some ⟨t,1,none⟩)|3=> .agg #[.int .i64 oa,.int .i64 ob]|4=> .pointer (some ⟨b8,2,none⟩)|5=> .agg #[.int .i64 qc,.int .i64 (kx:Int)]|6=> .agg #[.int .i64 pK,.int .i64 pJ]|_=>undef) (AnyM.cI (fun V=>V=Wq) [(7,(fun V'=>∃V,(fun V=>aD c p t W0 O W (fun b=>(b=b4∨b=b6∨b=b7)∨b=b8) { st with stk:=ps,like:=jl } V∧∀b,(b=b4∨b=b6∨b=b7)∨b=b8→V.heap[b]? =Wq.heap[b]?) V∧V'=((V.setCell ⟨b7,0,none⟩ (.int .i64 pK)).setCell ⟨b7,1,none⟩ (.int .i64 pJ)))),(6,(fun V=>aD c p t W0 O W (fun b=>(b=b4∨b=b6∨b=b7)∨b=b8) { st with stk:=ps,like:=jl } V∧∀b,(b=b4∨b=b6∨b=b7)∨b=b8→V.heap[b]? =Wq.heap[b]?))]) 90 rfl (by kernel_rfl) rfl ?_ ?_
       ·intro j o' Ls V ev ho bP hC bU hdc aA aS lG iW
        have hc:j=0∨j=1∨j=2∨j=3∨j=4∨j=5∨j=6∨j=7:=by
         have:j<8:=(aam.1 ho).1
         omega
        have hst:Ls 7=false:=by
         cases h:Ls 7 with
         |false=>rfl
         |true=>
          exfalso
          have hq:Ls j=true:=by
           rcases hc with rfl|rfl|rfl|rfl|rfl|rfl|rfl|rfl
           ·exact hdc 7 _ rfl h ⟨0,.phase⟩ (by simp) rfl
           ·exact hdc 7 _ rfl h ⟨1,.phase⟩ (by simp) rfl
           ·exact hdc 7 _ rfl h ⟨2,.phase⟩ (by simp) rfl
           ·exact hdc 7 _ rfl h ⟨3,.phase⟩ (by simp) rfl
           ·exact hdc 7 _ rfl h ⟨4,.phase⟩ (by simp) rfl
           ·exact hdc 7 _ rfl h ⟨5,.phase⟩ (by simp) rfl
           ·exact hdc 7 _ rfl h ⟨6,.phase⟩ (by simp) rfl
           ·exact h
          rw[bP] at hq
          cases hq
        have rj:V=Wq∨((fun V=>aD c p t W0 O W (fun b=>(b=b4∨b=b6∨b=b7)∨b=b8) { st with stk:=ps,like:=jl } V∧∀b,(b=b4∨b=b6∨b=b7)∨b=b8→V.heap[b]? =Wq.heap[b]?)) V:=by
         simp only[AnyM.cI,hst,aau,if_false] at hC
         split at hC
         ·exact .inr hC
         ·exact .inl hC
        obtain⟨k1,k2,k3,k4,kf⟩:=HV.out V rj
        rcases hc with rfl|rfl|rfl|rfl|rfl|rfl|rfl|rfl<;>obtain rfl:=aak ho
        ·have e1:ev (.tmp 0)= .pointer (some ⟨t,0,none⟩):=aS 0 (by kernel_rfl)
         exact aj.ah (v:= .pointer (some ⟨t,0,none⟩)) (w':=V) (by simp[execOp,go_sem,e1]) ⟨rfl,AnyM.aV rfl hC⟩
        ·have e1:ev (.tmp 82)= .pointer (some ⟨t,0,none⟩):=aA 0 82 (by omega) rfl (by decide)
         exact aj.ah (v:= .pointer (some ⟨t,0,none⟩)) (w':=V) (by simp[execOp,go_sem,e1]) ⟨rfl,AnyM.aV rfl hC⟩
        ·have e1:ev (.tmp 83)= .pointer (some ⟨t,0,none⟩):=aA 1 83 (by omega) rfl (by decide)
         exact aj.ah (v:= .pointer (some ⟨t,1,none⟩)) (w':=V) (by simp[execOp,go_sem,e1]) ⟨rfl,AnyM.aV rfl hC⟩
        ·have e1:ev (.tmp 7)= .pointer (some ⟨b7,0,none⟩):=aS 7 (by kernel_rfl)
         exact aj.ah (v:= .agg #[.int .i64 oa,.int .i64 ob]) (w':=V) (by simp[execOp,go_sem,e1,k1,k2]) ⟨rfl,AnyM.aV rfl hC⟩
        ·have e1:ev (.tmp 8)= .pointer (some ⟨b8,0,none⟩):=aS 8 (by kernel_rfl)
         exact aj.ah (v:= .pointer (some ⟨b8,2,none⟩)) (w':=V) (by simp[execOp,go_sem,e1]) ⟨rfl,AnyM.aV rfl hC⟩
        ·have e1:ev (.tmp 86)= .pointer (some ⟨b8,2,none⟩):=aA 4 86 (by omega) rfl (by decide)
         exact aj.ah (v:= .agg #[.int .i64 qc,.int .i64 (kx:Int)]) (w':=V) (by simp[execOp,go_sem,e1,k3,k4]) ⟨rfl,AnyM.aV rfl hC⟩
        ·have e1:ev (.tmp 84)= .pointer (some ⟨t,1,none⟩):=aA 2 84 (by omega) rfl (by decide)
         have e2:ev (.tmp 85)= .agg #[.int .i64 oa,.int .i64 ob]:=aA 3 85 (by omega) rfl (by decide)
         have e3:ev (.tmp 87)= .agg #[.int .i64 qc,.int .i64 (kx:Int)]:=aA 5 87 (by omega) rfl (by decide)
         have iG:V=Wq:=by
          simp only[AnyM.cI,hst,bP,aau,if_false] at hC
          exact hC
         rw[iG]
         refine AnyM.iq (v:= .agg #[.int .i64 pK,.int .i64 pJ]) (by simp[execOp,go_sem,e1,e2,e3,iW]) L9.out (fun w2 hw2=>⟨rfl,?_⟩)
         simp only[AnyM.cI,aj.bR]
         simp[hst]
         exact hw2
        ·have e1:ev (.tmp 7)= .pointer (some ⟨b7,0,none⟩):=aS 7 (by kernel_rfl)
         have e2:ev (.tmp 88)= .agg #[.int .i64 pK,.int .i64 pJ]:=aA 6 88 (by omega) rfl (by decide)
         have hp:Ls 6=true:=bU ⟨6,.data⟩ (by simp) rfl
         have hQ:((fun V=>aD c p t W0 O W (fun b=>(b=b4∨b=b6∨b=b7)∨b=b8) { st with stk:=ps,like:=jl } V∧∀b,(b=b4∨b=b6∨b=b7)∨b=b8→V.heap[b]? =Wq.heap[b]?)) V:=by
          simp only[AnyM.cI,bP,hp,aau,if_false,if_true] at hC
          exact hC
         refine aj.bF (w':=((V.setCell ⟨b7,0,none⟩ (.int .i64 pK)).setCell ⟨b7,1,none⟩ (.int .i64 pJ))) (by simp[execOp,go_sem,e1,e2,k1,k2,kf]) ⟨rfl,?_⟩
         simp only[AnyM.cI,aj.bR]
         simp only[if_true]
         exact⟨V,hQ,rfl⟩
       ·intro Ls V hall hC
        unfold AnyM.cI at hC
        rw[if_pos (hall 7 (by decide))] at hC
        obtain⟨V6,⟨eY,kW⟩,rfl⟩:=hC
        simp only[aj.canon,aj.dst,Array.size,aar,aaS]
        simp[Act.put]
        go_wp2
        go_roundw
        case rel=>
         have hk:∀b,b≠b7→((V6.setCell ⟨b7,0,none⟩ (.int .i64 pK)).setCell ⟨b7,1,none⟩ (.int .i64 pJ)).heap[b]? =V6.heap[b]? :=fun b hb=>eG hb _ _
         obtain⟨n1,n2,n3⟩:=Ju.out
         exact⟨ps,jl,(pK,pJ),((eY.less (B':=(fun b=>b=b4∨b=b6∨b=b7)) (fun _ hb=> .inl hb)).set (.inr (.inr rfl)) _).set (.inr (.inr rfl)) _,(hk b4 n2).trans ((kW b4 (.inl (.inl rfl))).trans TM.out),(hk b6 n3).trans ((kW b6 (.inl (.inr (.inl rfl)))).trans TL.out),gD ((kW b7 (.inl (.inr (.inr rfl)))).trans TK.out) _ _,rK.out,by have:=jU.out;simp at this;omega⟩
        case measure=>
         have h1:=((eY.set (b:=b7) (i:=0) (.inl (.inr (.inr rfl))) (.int .i64 pK)).set (b:=b7) (i:=1) (.inl (.inr (.inr rfl))) (.int .i64 pJ)).dP
         have h2:=fq.out.dP
         rw[h2]
         refine acm (acU (show _=ps.length from h1)) ?_
         simp
     ·have Ii:decide ((qa,qb)=aO)=false:=decide_eq_false hC
      have xR:Hid (∀w,Calls Tryz.prog 137 #[.agg #[.int .i64 qa,.int .i64 qb]] w fun e w'=>e= .returned (.bool false)∧Below w.heap.size w w'):=fun w=>by rw[←Ii];exact fY.out (qa,qb) w
      have hr:r=none:=by
       have h1:=TX.out
       try dsimp only at h1
       rw[if_neg hA,if_pos (by simpa using hC)] at h1
       exact(aak h1).symm
      have HR:=Nu.hid hr
      clear hle Ii hr
      go_wp2_with fail
      go_at_call 137
      refine(oV.out _).mono ?_
      rintro e w8 ⟨rfl,dV⟩
      have Cr:=Nu.hid (Ct.out.later dV)
      have yV:=Nu.hid ((dV.block _ (lt_of_block Cw.out)).trans Cw.out)
      have yT:=Nu.hid ((dV.block _ (lt_of_block uF.out)).trans uF.out)
      have yR:=Nu.hid ((dV.block _ (lt_of_block zI.out)).trans zI.out)
      have rN:=Nu.hid ((dV.block _ (lt_of_block xQ.out)).trans xQ.out)
      obtain⟨z0,z1,z2,z3,zf⟩:=au rN.out
      clear dV
      go_wp2_with fail
      go_at_call 137
      refine(xR.out _).mono ?_
      rintro e W9 ⟨rfl,gm⟩
      have rL:=Nu.hid (Cr.out.later gm)
      have yU:=Nu.hid ((gm.block _ (lt_of_block yV.out)).trans yV.out)
      have ED:=Nu.hid ((gm.block _ (lt_of_block yT.out)).trans yT.out)
      have Cv:=Nu.hid ((gm.block _ (lt_of_block yR.out)).trans yR.out)
      have EC:=Nu.hid ((gm.block _ (lt_of_block rN.out)).trans rN.out)
      clear gm
      obtain⟨oa,ob⟩:=o
      obtain⟨x0,x1,xf⟩:=ay yU.out
      obtain⟨x2,x3,-⟩:=ay Cv.out
      obtain⟨r0,r1,-⟩:=ay (gD yU.out (.int .i64 oa) (.int .i64 ob))
      have bI:Hid (aT c p t W0 O W { st with stk:=ps,like:=lk } ((W9.setCell ⟨b4,0,none⟩ (.int .i64 oa)).setCell ⟨b4,1,none⟩ (.int .i64 ob))):=((rL.out.set (b:=b4) (i:=0) (.inl (.inl rfl)) (.int .i64 oa)).set (b:=b4) (i:=1) (.inl (.inl rfl)) (.int .i64 ob)).post
      go_wp2
      refine bodyPost_ret (v:= .tuple #[dF (oa,ob),.bool false]) (by simp[results,Tryz.results157,go_sem,r0,r1]) rfl ?_
      rw[HR.out]
      exact⟨_,_,rfl,bI.out⟩
end
end
end Go.Proofs.YtdjmnpmdmjclhabGreat
