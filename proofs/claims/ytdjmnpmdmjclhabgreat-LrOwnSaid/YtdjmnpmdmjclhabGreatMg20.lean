import Derived.Test.YtdjmnpmdmjclhabGreatMg19
import Derived.Test.YtdjmnpmdmjclhabGreatMg04
import Derived.Test.YtdjmnpmdmjclhabGreatMg05
import Derived.Maps.AppendAt
import Derived.Deep.AppendLies
import Derived.Laws.AppendOwnNone
namespace Go.Proofs.YtdjmnpmdmjclhabGreat
section
open Go.RowKit Lt
section
variable {c:Wp} {p t:Nat} {W0 W:World} {O:Nat→Prop} {st:TS} {L U Z:Nat} {vp vw:Value}
set_option maxRecDepth 100000 in
set_option maxHeartbeats 8000000 in
theorem DJ (h:aR c p t W0 O st L U Z vp vw W) {i o j:Iv} {hh:Int} {aH aZ:List Int} (hj:cut c.lw hh st.like st.turn i o=some (aH,aZ,j)):Calls Tryz.prog 138 #[.pointer (some ⟨t,0,none⟩),dF i,dF o,.int .i64 hh] W fun r w'=>r= .returned (dF j)∧aT c p t W0 O W { st with like:=aH,turn:=aZ } w':=by
 obtain⟨a,b⟩:=i
 obtain⟨a',b'⟩:=o
 have cj:=h.wk.val.few
 have hB0:=h.aI.size
 obtain⟨W1,hW1⟩:∃W1,W1=((W.alloc (.cells #[.int .i64 a,.int .i64 b] 141)).alloc (.cells #[.int .i64 a',.int .i64 b'] 141)).alloc (.cells #[.int .i64 0,.int .i64 0] 141):=⟨_,rfl⟩
 have hb:Below W.heap.size W W1:=by rw[hW1];exact(((aae _ _).alloc (aad _) _).alloc (by simp) _).alloc (by simp;omega) _
 have hsz:W1.heap.size=W.heap.size+3:=by rw[hW1];simp
 have hu:W1.heap[W.heap.size]? =some (.cells #[.int .i64 a,.int .i64 b] 141 (0,0)):=by
  rw[hW1,aap _ _ _ (by simp;omega),aap _ _ _ (by simp)]
  exact heap_alloc_new W _
 have hl:W1.heap[W.heap.size+1]? =some (.cells #[.int .i64 a',.int .i64 b'] 141 (0,0)):=by
  rw[hW1,aap _ _ _ (by simp)]
  have:=heap_alloc_new (W.alloc (.cells #[.int .i64 a,.int .i64 b] 141)) (.cells #[.int .i64 a',.int .i64 b'] 141)
  simpa using this
 have hr:W1.heap[W.heap.size+1+1]? =some (.cells #[.int .i64 0,.int .i64 0] 141 (0,0)):=by
  rw[hW1]
  have:=heap_alloc_new ((W.alloc (.cells #[.int .i64 a,.int .i64 b] 141)).alloc (.cells #[.int .i64 a',.int .i64 b'] 141)) (.cells #[.int .i64 0,.int .i64 0] 141)
  simpa using this
 have h1:=h.later hb
 have fY:Hid (∀(i:Iv) (w:World),Calls Tryz.prog 137 #[dF i] w fun e w'=>e= .returned (.bool (decide (i=aO)))∧Below w.heap.size w w'):=fV
 have hacc:=aae W1.heap.size W1
 have HS:Hid (∀V,Below W1.heap.size W1 V→V.cell? ⟨W.heap.size,0,none⟩=some (.int .i64 a)∧V.cell? ⟨W.heap.size,1,none⟩=some (.int .i64 b)∧V.cell? ⟨W.heap.size+1,0,none⟩=some (.int .i64 a')∧V.cell? ⟨W.heap.size+1,1,none⟩=some (.int .i64 b')∧V.heap[W.heap.size+1+1]? =some (.cells #[.int .i64 0,.int .i64 0] 141 (0,0))∧aR c p t W0 O st L U Z vp vw V):=fun V hV=>by
  obtain⟨x0,x1,-⟩:=ay ((hV.block _ (by omega)).trans hu)
  obtain⟨x2,x3,-⟩:=ay ((hV.block _ (by omega)).trans hl)
  exact⟨x0,x1,x2,x3,(hV.block _ (by omega)).trans hr,h1.later hV⟩
 have hwr:∀V,Below W1.heap.size W1 V→aC O W V:=fun V hV=>((aC.refl O W).later hb).later hV
 have HO:Hid (∀b,O b→b<W.heap.size):=h.oX
 have bI:Hid (∀(st':TS) V x y,aC O W V→aR c p t W0 O st' L U Z vp vw V→V.heap[W.heap.size+1+1]? =some (.cells #[.int .i64 0,.int .i64 0] 141 (0,0))→aT c p t W0 O W st' ((V.setCell ⟨W.heap.size+1+1,0,none⟩ x).setCell ⟨W.heap.size+1+1,1,none⟩ y)∧((V.setCell ⟨W.heap.size+1+1,0,none⟩ x).setCell ⟨W.heap.size+1+1,1,none⟩ y).cell? ⟨W.heap.size+1+1,0,none⟩=some x∧((V.setCell ⟨W.heap.size+1+1,0,none⟩ x).setCell ⟨W.heap.size+1+1,1,none⟩ y).cell? ⟨W.heap.size+1+1,1,none⟩=some y):=fun st' V x y hw hT hc=>by
  have Re:¬O (W.heap.size+1+1):=fun q=>by have:=HO.out _ q;omega
  obtain⟨r0,r1,-⟩:=ay (gD hc x y)
  exact⟨aR.post hB0 (fP (fP hw (by omega) x) (by omega) y) ((hT.far Re (by omega) x).far Re (by omega) y),r0,r1⟩
 obtain⟨x0,x1,x2,x3,xr,xT⟩:=HS.out _ hacc
 obtain⟨wA,wz,wq⟩:=ay xr
 have m8:=Nu.hid hwr
 unfold cut at hj
 by_cases hn:(a,b)=aO
 ·rw[if_pos hn] at hj
  cases hj
  have e1:decide ((a,b)=aO)=true:=decide_eq_true hn
  have oV:Hid (∀w,Calls Tryz.prog 137 #[.agg #[.int .i64 a,.int .i64 b]] w fun e w'=>e= .returned (.bool true)∧Below w.heap.size w w'):=fun w=>by rw[←e1];exact fY.out (a,b) w
  rw[hW1] at x0 x1 x2 x3 wA wz wq hacc
  rw[hW1] at HS m8
  clear h hW1 hb hu hl hr h1 hn e1 fY xr xT hsz hwr hB0
  go_enter Tryz.func138,Tryz.ntmps138
  go_wp2_with (go_at_call 137;refine(oV.out _).mono ?_;rintro e w1 ⟨rfl,hb1⟩;have hacc:=hacc.trans (hb1.mono hacc.size);clear hb1;obtain⟨x0,x1,x2,x3,xr,xT⟩:=HS.out _ hacc;obtain⟨wA,wz,wq⟩:=ay xr;have zF:=Nu.hid xr;have nr:=Nu.hid xT;clear xr xT)
  obtain⟨k1,r0,r1⟩:=bI.out st w1 (.int .i64 a) (.int .i64 b) (m8.out _ hacc) nr.out zF.out
  refine bodyPost_ret (v:=dF (a,b)) (by simp[results,Tryz.results138,go_sem,r0,r1]) rfl ?_
  exact⟨rfl,k1⟩
 ·rw[if_neg hn] at hj
  have e1:decide ((a,b)=aO)=false:=decide_eq_false hn
  have oV:Hid (∀w,Calls Tryz.prog 137 #[.agg #[.int .i64 a,.int .i64 b]] w fun e w'=>e= .returned (.bool false)∧Below w.heap.size w w'):=fun w=>by rw[←e1];exact fY.out (a,b) w
  cases hd:down c.lw st.like hh (st.like.length+1) a with
  |none=>rw[hd] at hj;cases hj
  |some x=>
   rw[hd] at hj
   dsimp only at hj
   have HD:=Nu.hid hd
   have HJ:=Nu.hid hj
   have zH:=Nu.hid h.ll
   rw[hW1] at x0 x1 x2 x3 wA wz wq hacc
   rw[hW1] at HS m8
   have HL:Hid (∀V,aR c p t W0 O st L U Z vp vw V→V.cell? ⟨t,0,none⟩=some (.pointer (some ⟨p,0,none⟩))∧V.cell? ⟨t,1,none⟩=some (.slice (some ⟨L,0,none⟩) c.es.length c.es.length)∧V.cell? ⟨t,2,none⟩=some (.slice (some ⟨U,0,none⟩) c.es.length c.es.length)):=fun V hV=>⟨hV.cells.1,hV.cells.2.1,hV.cells.2.2.1⟩
   have HN:Hid ((L≠W.heap.size∧L≠W.heap.size+1∧L≠W.heap.size+1+1)∧(U≠W.heap.size∧U≠W.heap.size+1∧U≠W.heap.size+1+1)∧(t≠L∧t≠U∧L≠U)∧O L∧O U):=by
    have q1:=h.oX L h.oL
    have q2:=h.oX U h.oU
    exact⟨⟨by omega,by omega,by omega⟩,⟨by omega,by omega,by omega⟩,⟨h.n1.1,h.n1.2.1,h.n1.2.2.2.1⟩,h.oL,h.oU⟩
   clear h hW1 hb hu hl hr h1 hn e1 fY xr xT hsz hwr hB0 hj hd
   go_enter Tryz.func138,Tryz.ntmps138
   go_wp2_with (go_at_call 137;refine(oV.out _).mono ?_;rintro e w1 ⟨rfl,hb1⟩;have hacc:=hacc.trans (hb1.mono hacc.size);clear hb1;obtain⟨x0,x1,x2,x3,xr,xT⟩:=HS.out _ hacc;obtain⟨wA,wz,wq⟩:=ay xr;have zF:=Nu.hid xr;have nr:=Nu.hid xT;obtain⟨l0,l1,l2⟩:=HL.out _ xT;clear xr xT)
   go_loopw [9] (fun cv wr=>∃z:Int,cv= .int .i64 z∧(∃k,down c.lw st.like hh k z=some x)∧wr=w1) (fun cv _=>leastOf fun k=>down c.lw st.like hh k (intOf cv)=some x)
   case atStart=>exact⟨a,rfl,⟨_,HD.out⟩,rfl⟩
   case round=>
    obtain⟨z,rfl,⟨k,hk⟩,rfl⟩:=hrel
    obtain⟨hI,-⟩:=leastOf_spec (P:=fun k=>down c.lw st.like hh k z=some x) hk
    obtain⟨k0,hk0⟩:∃k0,leastOf (fun k=>down c.lw st.like hh k z=some x)=k0:=⟨_,rfl⟩
    rw[hk0] at hI
    clear hk k
    cases k0 with
    |zero=>exact absurd hI (by unfold down;simp)
    |succ k=>
     unfold down at hI
     by_cases hz:z= -1
     ·rw[if_pos hz] at hI
      cases hI
      subst hz
      have hj:=HJ.out
      rw[if_pos rfl] at hj
      cases gQ:eT st.like (a,b).2 (a',b').2 with
      |none=>rw[gQ] at hj;cases hj
      |some lk=>
       cases iQ:eT st.turn (a,b).2 (-1) with
       |none=>rw[gQ,iQ] at hj;cases hj
       |some tn=>
        rw[gQ,iQ] at hj
        cases hj
        obtain⟨kb,hkb,cU,rfl⟩:=ju gQ
        obtain⟨kb',hkb',Vo,rfl⟩:=ju iQ
        dsimp only at hkb hkb'
        obtain rfl:kb=kb':=by omega
        subst hkb
        have l3:∃q,wr.cell? ⟨L,kb,none⟩=some (.int .i64 q):=⟨_,nY nr.out.like cU⟩
        have l4:=nr.out.like.free kb
        have l5:∃q,wr.cell? ⟨U,kb,none⟩=some (.int .i64 q):=⟨_,nY nr.out.turn Vo⟩
        have l6:=nr.out.turn.free kb
        obtain⟨q3,l3⟩:=l3
        obtain⟨q5,l5⟩:=l5
        have v0:(0:Int)≤(kb:Int):=by omega
        have v1:(kb:Int)<(c.es.length:Int):=by rw[←zH.out];omega
        obtain⟨⟨n1,n2,n3⟩,⟨n4,n5,n6⟩,⟨n7,n8,n9⟩,hOL,hOU⟩:=HN.out
        clear gQ iQ cU Vo hk0
        go_wp2_with fail
        go_big_region
        go_wp2_with fail
        go_big_region
        go_wp2_with fail
        have hT:=((nr.out.Aj kb b').GL kb (-1)).drew.drew
        have VH:=((((m8.out _ hacc).setCell hOL (i:=kb) (.int .i64 b')).setCell hOU (i:=kb) (.int .i64 (-1))).drew).drew
        have hRV:((wr.setCell ⟨L,kb,none⟩ (.int .i64 b')).setCell ⟨U,kb,none⟩ (.int .i64 (-1))).drew.drew.heap[W.heap.size+1+1]? =some (.cells #[.int .i64 0,.int .i64 0] 141 (0,0)):=(heap_setCell_other (wr.setCell ⟨L,kb,none⟩ (.int .i64 b')) ⟨U,kb,none⟩ _ _ (fun e=>n6 e.symm)).trans ((heap_setCell_other wr ⟨L,kb,none⟩ _ _ (fun e=>n3 e.symm)).trans zF.out)
        generalize ((wr.setCell ⟨L,kb,none⟩ (.int .i64 b')).setCell ⟨U,kb,none⟩ (.int .i64 (-1))).drew.drew=V at*
        have HT:=Nu.hid hT
        have HWV:=Nu.hid VH
        have HRV:=Nu.hid hRV
        clear hT VH hRV
        go_at_call 112
        refine(mC _).mono ?_
        rintro e w2 ⟨rfl,hb2⟩
        have qy:=Nu.hid ((hb2.block _ (lt_of_block HRV.out)).trans HRV.out)
        have HT2:=Nu.hid (HT.out.later hb2)
        have jD:=Nu.hid (HWV.out.later hb2)
        obtain⟨y0,y1,yf⟩:=ay qy.out
        clear hb2
        go_wp2
        obtain⟨k1,r0,r1⟩:=bI.out _ w2 (.int .i64 (-1)) (.int .i64 (-1)) jD.out HT2.out qy.out
        refine bodyPost_ret (v:=dF aO) (by simp[results,Tryz.results138,go_sem,r0,r1]) rfl ?_
        exact⟨rfl,k1⟩
     ·rw[if_neg hz] at hI
      cases hz2:bz c.lw z with
      |none=>rw[hz2] at hI;cases hI
      |some q=>
       rw[hz2] at hI
       dsimp only at hI
       obtain⟨kz,rfl,Oo,hqz⟩:=gX hz2
       obtain⟨gl,cl,mg⟩:=nr.out.low Oo
       obtain⟨-,z1,z2⟩:=mg wr (aae _ _)
       have z3:=z2 kz Oo
       rw[hqz] at z3
       have v0:(0:Int)≤(kz:Int):=by omega
       have v1:(kz:Int)<(c.es.length:Int):=by omega
       have v2:((kz:Int) != -1)=true:=by simp
       by_cases hq:q=hh
       ·rw[if_pos hq] at hI
        cases hlk:bz st.like (kz:Int) with
        |none=>rw[hlk] at hI;cases hI
        |some y=>
         rw[hlk] at hI
         dsimp only at hI
         obtain⟨kz',e',aeE,hy⟩:=oJ hlk
         obtain rfl:kz=kz':=by omega
         have l3:wr.cell? ⟨L,kz,none⟩=some (.int .i64 y):=by
          have:=nY nr.out.like aeE
          rw[hy] at this
          exact this
         have HI:=Nu.hid hI
         have HK:=Nu.hid hk0
         subst hq
         clear hI hk0 hlk hy hz2 hqz mg z2 hz
         go_wp2
         go_roundw
         case rel=>exact⟨y,rfl,⟨_,HI.out⟩,by first|rfl|trivial⟩
         case measure=>
          have h3:=(leastOf_spec (P:=fun k=>down c.lw st.like q k y=some x) HI.out).2
          have h4:=HK.out
          simp only[intOf]
          omega
       ·rw[if_neg hq] at hI
        cases hI
        have hj:=HJ.out
        rw[if_neg hz] at hj
        cases hj
        have v3:(q==hh)=false:=by simp[hq]
        clear hk0 hz2 hqz mg z2 hz
        go_wp2
        obtain⟨k1,r0,r1⟩:=bI.out st wr (.int .i64 (kz:Int)) (.int .i64 b) (m8.out _ hacc) nr.out zF.out
        refine bodyPost_ret (v:=dF ((kz:Int),b)) (by simp[results,Tryz.results138,go_sem,r0,r1]) rfl ?_
        exact⟨rfl,k1⟩
end
end
section
open Go.RowKit Lt
theorem Tryz.U7:(Tryz.prog.info? 143).map (fun i=>(i.zero,i.size,i.bytes))=some (some (.agg #[.int .i64 0,.int .i64 0,.int .i64 0,.int .i64 0]),4,32):=by kernel_rfl
theorem Tryz.Qs:(Tryz.prog.info? 145).map (fun i=>(i.zero,i.size,i.bytes))=some (some (.agg #[.int .i64 0,.int .i64 0,.int .i64 0,.int .i64 0,.int .i64 0,.int .i64 0]),6,48):=by kernel_rfl
theorem J5 {V:World} (B:Nat) (v:Value) (l:List Pr) (q:Pr) (hR:dU 143 4 Dj V B v l) (hB:B≤V.heap.size) (g:Nat) (hg:V.heap[g]? =some (.cells #[.int .i64 q.1.1,.int .i64 q.1.2,.int .i64 q.2.1,.int .i64 q.2.2] 143 (0,0))) (hl:l.length≤8388608):
 ∃v' w',(∀(o:Oper) (ev:Operand→Value) (s x:Operand),o.op= .call { callee:= .builtin .append,args:= #[s,x],argTypes:= #[110,110] }→o.type=110→ev s=v→ev x= .slice (some ⟨g,0,none⟩) 1 1→(execOp ev o).run Tryz.prog V= .ok (.value v') w')∧dU 143 4 Dj w' B v' (l++[q])∧V.grownBy w' v.ownBlock∧(v'.ownBlock=v.ownBlock∨v'.ownBlock=some V.heap.size):=by
 obtain⟨i1,hi1,hy0,hy1,hy2⟩:=info_parts Tryz.U7
 obtain⟨v',w',hr,h2,h3,_,h5⟩:=run_append_own_at (P:=Tryz.prog) V B 110 110 143 i1 (.agg #[.int .i64 0,.int .i64 0,.int .i64 0,.int .i64 0]) 4 32 Tryz.underlying110 hi1 hy0 hy1 hy2 rfl (by decide) v l.length (l.flatMap Dj) hR ⟨g,0,none⟩ 1 1 (Dj q) rfl (abZ hg) (by simp[Dj,Value.oneCell']) (by unfold maxLen;omega) (by omega) hB
 refine⟨v',w',fun o ev s x ho ht hs hx=> ?_,?_,h3,h5⟩
 ·unfold execOp
  simp only[ho,ht,resolve,invoke,builtin,Sem.run_bind,Sem.run_pure,adA,adF,ace,adD,hs,hx,hr]
 ·unfold dU
  rw[acS,aaA]
  simpa using h2
theorem J4 {V:World} (B:Nat) (v:Value) (l:List jC) (q:jC) (hR:dU 145 6 tW V B v l) (hB:B≤V.heap.size) (g:Nat) (hg:V.heap[g]? =some (.cells #[.int .i64 q.1,.int .i64 q.2.1,.int .i64 q.2.2.1.1,.int .i64 q.2.2.1.2,.int .i64 q.2.2.2.1,.int .i64 q.2.2.2.2] 145 (0,0))) (hl:l.length≤8388608):
 ∃v' w',(∀(o:Oper) (ev:Operand→Value) (s x:Operand),o.op= .call { callee:= .builtin .append,args:= #[s,x],argTypes:= #[111,111] }→o.type=111→ev s=v→ev x= .slice (some ⟨g,0,none⟩) 1 1→(execOp ev o).run Tryz.prog V= .ok (.value v') w')∧dU 145 6 tW w' B v' (l++[q])∧V.grownBy w' v.ownBlock∧(v'.ownBlock=v.ownBlock∨v'.ownBlock=some V.heap.size):=by
 obtain⟨i1,hi1,hy0,hy1,hy2⟩:=info_parts Tryz.Qs
 obtain⟨v',w',hr,h2,h3,_,h5⟩:=run_append_own_at (P:=Tryz.prog) V B 111 111 145 i1 (.agg #[.int .i64 0,.int .i64 0,.int .i64 0,.int .i64 0,.int .i64 0,.int .i64 0]) 6 48 Tryz.underlying111 hi1 hy0 hy1 hy2 rfl (by decide) v l.length (l.flatMap tW) hR ⟨g,0,none⟩ 1 1 (tW q) rfl (abZ hg) (by simp[tW,Value.oneCell']) (by unfold maxLen;omega) (by omega) hB
 refine⟨v',w',fun o ev s x ho ht hs hx=> ?_,?_,h3,h5⟩
 ·unfold execOp
  simp only[ho,ht,resolve,invoke,builtin,Sem.run_bind,Sem.run_pure,adA,adF,ace,adD,hs,hx,hr]
 ·unfold dU
  rw[acS,aaA]
  simpa using h2
section
variable {c:Wp} {p t:Nat} {W0 W:World} {O:Nat→Prop} {st:TS} {L U Z:Nat} {vp vw:Value}
set_option maxRecDepth 100000 in
set_option maxHeartbeats 8000000 in
theorem tE (h:aR c p t W0 O st L U Z vp vw W) (q:Pr) (hlen:st.stk.length≤8388607):Calls Tryz.prog 111 #[.pointer (some ⟨t,0,none⟩),fK q] W fun e w'=>e= .returned (.tuple #[])∧aT c p t W0 O W { st with stk:=q::st.stk } w':=by
 obtain⟨⟨a,b⟩,a',b'⟩:=q
 have hB0:=h.aI.size
 obtain⟨W1,hW1⟩:∃W1,W1=(W.alloc (.cells #[.int .i64 a,.int .i64 b,.int .i64 a',.int .i64 b'] 143)).drew:=⟨_,rfl⟩
 have hbl:W1.heap[W.heap.size]? =some (.cells #[.int .i64 a,.int .i64 b,.int .i64 a',.int .i64 b'] 143 (0,0)):=by rw[hW1];exact heap_alloc_new W _
 have hb:Below W.heap.size W W1:=by rw[hW1];exact((aae _ _).alloc (aad _) _).drew
 have hsz:W1.heap.size=W.heap.size+1:=by rw[hW1];simp
 obtain⟨W2,hW2⟩:∃W2,W2=W1.alloc (.cells #[.int .i64 a,.int .i64 b,.int .i64 a',.int .i64 b'] 143):=⟨_,rfl⟩
 have hb2:Below W1.heap.size W1 W2:=by rw[hW2];exact(aae _ _).alloc (aad _) _
 have hg2:W2.heap[W1.heap.size]? =some (.cells #[.int .i64 a,.int .i64 b,.int .i64 a',.int .i64 b'] 143 (0,0)):=by rw[hW2];exact heap_alloc_new W1 _
 have h1:=h.later hb
 have h2:=h1.later hb2
 obtain⟨ao,cap,hvp,-⟩:=h.qJ.form
 rw[abg] at hvp
 obtain⟨v',W3,hrun,r1,r2,r3⟩:=J5 W0.heap.size vp st.stk.reverse ((a,b),a',b') h2.qJ (by have:=h2.aI.size;omega) W1.heap.size hg2 (by rw[abg];omega)
 have A8:W2.heap.size=W.heap.size+2:=by rw[hW2];simp[hsz]
 have hat:v'.ownBlock=vp.ownBlock∨∃b,v'.ownBlock=some b∧W.heap.size≤b:=by
  rcases r3 with e|e
  ·exact .inl e
  ·exact .inr ⟨_,e,by omega⟩
 have hk3:∀b,b<W.heap.size→vp.ownBlock≠some b→W3.heap[b]? =W.heap[b]? :=fun k hk hn=>by
  rw[r2.block k (by omega) (fun e=>hn e.symm),hb2.block k (by omega),hb.block k hk]
 have hb3:Below W0.heap.size W0 W3:=h2.aI.grown r2 (by have:=h2.aI.size;omega) fun b hb=>(h2.qJ.lt hb).1
 have hown:dU 143 4 Dj W3 W0.heap.size v' (((a,b),a',b')::st.stk).reverse:=by rw[abm];exact r1
 obtain⟨y1,y2,-,y4⟩:=h.Mk hb3 hk3 (by have:=r2.size;omega) hown hat
 have bI:Hid (aT c p t W0 O W { st with stk:=((a,b),a',b')::st.stk } (W3.setCell ⟨t,3,none⟩ v')):=by
  refine⟨⟨?_,?_,?_,?_,fun k hk hn=> ?_⟩,L,U,Z,v',vw,y4⟩
  ·exact r2.os.trans (hb2.os.trans hb.os)
  ·exact r2.tape.trans (hb2.tape.trans hb.tape)
  ·exact r2.output.trans (hb2.output.trans hb.output)
  ·have:=r2.size
   simp
   omega
  ·rw[heap_setCell_other W3 ⟨t,3,none⟩ k _ (fun e=>hn (by rw[show k=t from e];exact h.oT))]
   exact hk3 k hk fun e=>hn (h.oP k e)
 obtain⟨zC,cap',hv',-⟩:=hown.form
 have A9:∀V,V=W1∨V=W2∨V=W3→V.cell? ⟨t,3,none⟩=some (.slice ao st.stk.length cap)∧V.cell? ⟨W.heap.size,0,none⟩=some (.int .i64 a)∧V.cell? ⟨W.heap.size,1,none⟩=some (.int .i64 b)∧V.cell? ⟨W.heap.size,2,none⟩=some (.int .i64 a')∧V.cell? ⟨W.heap.size,3,none⟩=some (.int .i64 b'):=fun V hV=>by
  have MT:V.heap[W.heap.size]? =some (.cells #[.int .i64 a,.int .i64 b,.int .i64 a',.int .i64 b'] 143 (0,0)):=by
   rcases hV with rfl|rfl|rfl
   ·exact hbl
   ·rw[hb2.block _ (by omega)];exact hbl
   ·rw[r2.block _ (by omega) (fun e=>by have:=(h.qJ.lt e.symm).2;omega),hb2.block _ (by omega)];exact hbl
  obtain⟨q0,q1,q2,q3,-⟩:=au MT
  refine⟨?_,q0,q1,q2,q3⟩
  rw[←hvp]
  rcases hV with rfl|rfl|rfl
  ·exact h1.cells.2.2.2.1
  ·exact h2.cells.2.2.2.1
  ·exact y1
 have HV:=Nu.hid A9
 have jE:=Nu.hid hW1
 have HF:Hid (W3.frozen? ⟨t,3,none⟩=false):=y2
 have jD:=Nu.hid hW2
 have vS:=Nu.hid hsz
 subst hvp
 subst hv'
 clear h hlen hb hbl hsz hb2 hg2 h1 h2 r1 r2 r3 A8 hat hk3 hb3 hown y1 y2 y4 A9 hW1 hW2 hB0
 go_enter Tryz.func111,Tryz.ntmps111
 go_wp2_with fail
 refine wp_region_any (by kernel_rfl) ?_
 change wpAny _ _ _ _ _ _ _ ((W.alloc (.cells #[.int .i64 a,.int .i64 b,.int .i64 a',.int .i64 b'] 143)).drew)
 rw[←jE.out]
 refine aj.oK (fun j=>match j with|0=> .pointer (some ⟨t,0,none⟩)|1=> .pointer (some ⟨t,0,none⟩)|2=> .pointer (some ⟨t,0,none⟩)|3=> .pointer (some ⟨t,3,none⟩)|4=> .slice ao st.stk.length cap|5=> .agg #[.int .i64 a,.int .i64 b,.int .i64 a',.int .i64 b']|6=> .slice (some ⟨W1.heap.size,0,none⟩) 1 1|7=>(.slice zC (((a,b),a',b')::st.stk).reverse.length cap')|8=> .pointer (some ⟨t,0,none⟩)|9=> .pointer (some ⟨t,3,none⟩)|_=>undef) (AnyM.bG W1 [(10,(W3.setCell ⟨t,3,none⟩ (.slice zC (((a,b),a',b')::st.stk).reverse.length cap'))),(7,W3),(6,W2)]) 14 rfl (by kernel_rfl) rfl ?_ ?_
 ·intro j o' Ls V ev ho bP hC bU hdc aA aS lG iW
  have hc:j=0∨j=1∨j=2∨j=3∨j=4∨j=5∨j=6∨j=7∨j=8∨j=9∨j=10:=by
   have:j<11:=(aam.1 ho).1
   omega
  have hst:Ls 10=false:=by
   cases h:Ls 10 with
   |false=>rfl
   |true=>
    exfalso
    have hq:Ls j=true:=by
     rcases hc with rfl|rfl|rfl|rfl|rfl|rfl|rfl|rfl|rfl|rfl|rfl
     ·exact hdc 10 _ rfl h ⟨0,.phase⟩ (by simp) rfl
     ·exact hdc 10 _ rfl h ⟨1,.phase⟩ (by simp) rfl
     ·exact hdc 10 _ rfl h ⟨2,.phase⟩ (by simp) rfl
     ·exact hdc 10 _ rfl h ⟨3,.phase⟩ (by simp) rfl
     ·exact hdc 10 _ rfl h ⟨4,.phase⟩ (by simp) rfl
     ·exact hdc 10 _ rfl h ⟨5,.phase⟩ (by simp) rfl
     ·exact hdc 10 _ rfl h ⟨6,.phase⟩ (by simp) rfl
     ·exact hdc 10 _ rfl h ⟨7,.data⟩ (by simp) rfl
     ·exact hdc 9 _ rfl (hdc 10 _ rfl h ⟨9,.data⟩ (by simp) rfl) ⟨8,.data⟩ (by simp) rfl
     ·exact hdc 10 _ rfl h ⟨9,.data⟩ (by simp) rfl
     ·exact h
    rw[bP] at hq
    cases hq
  have rj:V=W1∨V=W2∨V=W3:=by
   cases h6:Ls 6<;>cases h7:Ls 7<;>simp[AnyM.bG,hst,h6,h7] at hC<;>simp[hC]
  obtain⟨k1,k2,k3,k4,k5⟩:=HV.out V rj
  rcases hc with rfl|rfl|rfl|rfl|rfl|rfl|rfl|rfl|rfl|rfl|rfl<;>obtain rfl:=aak ho
  ·have e1:ev (.tmp 0)= .pointer (some ⟨t,0,none⟩):=aS 0 (by kernel_rfl)
   exact aj.ah (v:= .pointer (some ⟨t,0,none⟩)) (w':=V) (by simp[execOp,go_sem,e1]) ⟨rfl,AnyM.other rfl hC⟩
  ·have e1:ev (.tmp 0)= .pointer (some ⟨t,0,none⟩):=aS 0 (by kernel_rfl)
   exact aj.ah (v:= .pointer (some ⟨t,0,none⟩)) (w':=V) (by simp[execOp,go_sem,e1]) ⟨rfl,AnyM.other rfl hC⟩
  ·have e1:ev (.tmp 5)= .pointer (some ⟨t,0,none⟩):=aA 1 5 (by omega) rfl (by decide)
   exact aj.ah (v:= .pointer (some ⟨t,0,none⟩)) (w':=V) (by simp[execOp,go_sem,e1]) ⟨rfl,AnyM.other rfl hC⟩
  ·have e1:ev (.tmp 6)= .pointer (some ⟨t,0,none⟩):=aA 2 6 (by omega) rfl (by decide)
   exact aj.ah (v:= .pointer (some ⟨t,3,none⟩)) (w':=V) (by simp[execOp,go_sem,e1]) ⟨rfl,AnyM.other rfl hC⟩
  ·have e1:ev (.tmp 7)= .pointer (some ⟨t,3,none⟩):=aA 3 7 (by omega) rfl (by decide)
   exact aj.ah (v:= .slice ao st.stk.length cap) (w':=V) (by simp[execOp,go_sem,e1,k1]) ⟨rfl,AnyM.other rfl hC⟩
  ·have e1:ev (.tmp 3)= .pointer (some ⟨W.heap.size,0,none⟩):=aS 3 (by kernel_rfl)
   exact aj.ah (v:= .agg #[.int .i64 a,.int .i64 b,.int .i64 a',.int .i64 b']) (w':=V) (by simp[execOp,go_sem,e1,k2,k3,k4,k5]) ⟨rfl,AnyM.other rfl hC⟩
  ·have e1:ev (.tmp 9)= .agg #[.int .i64 a,.int .i64 b,.int .i64 a',.int .i64 b']:=aA 5 9 (by omega) rfl (by decide)
   have hn7:Ls 7=false:=by
    cases h:Ls 7 with
    |false=>rfl
    |true=>
     have xe:Ls 6=true:=hdc 7 _ rfl h ⟨6,.data⟩ (by simp) rfl
     rw[bP] at xe
     cases xe
   have iG:V=W1:=by
    simp only[AnyM.bG] at hC
    simp only[hn7,bP,hst,aau,if_false] at hC
    exact hC
   rw[iG]
   refine aj.ah (v:= .slice (some ⟨W1.heap.size,0,none⟩) 1 1) (w':=W2) (by simp[execOp,go_sem,e1,jD.out]) ⟨rfl,?_⟩
   simp[AnyM.bG,aj.bR,hn7,hst]
  ·have e1:ev (.tmp 8)= .slice ao st.stk.length cap:=aA 4 8 (by omega) rfl (by decide)
   have e2:ev (.tmp 10)= .slice (some ⟨W1.heap.size,0,none⟩) 1 1:=aA 6 10 (by omega) rfl (by decide)
   have hp:Ls 6=true:=bU ⟨6,.data⟩ (by simp) rfl
   have iG:V=W2:=by
    simp only[AnyM.bG] at hC
    simp only[bP,hp,hst,aau,if_false,if_true] at hC
    exact hC
   rw[iG]
   refine aj.ah (v:=(.slice zC (((a,b),a',b')::st.stk).reverse.length cap')) (w':=W3) (hrun _ ev _ _ rfl rfl e1 e2) ⟨rfl,?_⟩
   simp[AnyM.bG,aj.bR,hst]
  ·have e1:ev (.tmp 4)= .pointer (some ⟨t,0,none⟩):=aA 0 4 (by omega) rfl (by decide)
   exact aj.ah (v:= .pointer (some ⟨t,0,none⟩)) (w':=V) (by simp[execOp,go_sem,e1]) ⟨rfl,AnyM.other rfl hC⟩
  ·have e1:ev (.tmp 12)= .pointer (some ⟨t,0,none⟩):=aA 8 12 (by omega) rfl (by decide)
   exact aj.ah (v:= .pointer (some ⟨t,3,none⟩)) (w':=V) (by simp[execOp,go_sem,e1]) ⟨rfl,AnyM.other rfl hC⟩
  ·have e1:ev (.tmp 13)= .pointer (some ⟨t,3,none⟩):=aA 9 13 (by omega) rfl (by decide)
   have e2:ev (.tmp 11)=(.slice zC (((a,b),a',b')::st.stk).reverse.length cap'):=aA 7 11 (by omega) rfl (by decide)
   have hp:Ls 7=true:=bU ⟨7,.data⟩ (by simp) rfl
   have iG:V=W3:=by
    simp only[AnyM.bG] at hC
    simp only[bP,hp,aau,if_false,if_true] at hC
    exact hC
   rw[iG]
   rw[iG] at k1
   refine aj.bF (w':=(W3.setCell ⟨t,3,none⟩ (.slice zC (((a,b),a',b')::st.stk).reverse.length cap'))) (by simp[execOp,go_sem,e1,e2,k1,HF.out]) ⟨rfl,?_⟩
   simp[AnyM.bG,aj.bR]
 ·intro Ls V hall hC
  unfold AnyM.bG at hC
  rw[if_pos (hall 10 (by decide))] at hC
  subst hC
  refine bodyPost_end (results_none rfl _ _ _) (aj.kN _) ?_
  exact⟨rfl,bI.out⟩
set_option maxRecDepth 100000 in
set_option maxHeartbeats 4000000 in
theorem G6 (w:World):Calls Tryz.prog 112 #[] w fun e w'=>e= .returned (dF aO)∧w'=w.alloc (.cells #[.int .i64 (-1),.int .i64 (-1)] 141):=by
 go_enter Tryz.func112,Tryz.ntmps112
 go_wp2
 obtain⟨r0,r1,-⟩:=ay (heap_alloc_new w (Obj.cells #[Value.int IntKind.i64 (-1),Value.int IntKind.i64 (-1)] 141))
 refine bodyPost_ret (v:=dF aO) (by simp[results,Tryz.results112,go_sem,r0,r1]) rfl ?_
 exact⟨rfl,rfl⟩
theorem Qj (w:World):∃V,V.heap.size=w.heap.size+3∧Below w.heap.size w V∧Calls Tryz.prog 108 #[] w fun e w'=>e= .returned (fK dG)∧w'=V:=by
 obtain⟨W,hW⟩:∃W,W=w.alloc (.cells #[.int .i64 0,.int .i64 0,.int .i64 0,.int .i64 0] 143):=⟨_,rfl⟩
 obtain⟨W1,hW1⟩:∃W1,W1=W.alloc (.cells #[.int .i64 (-1),.int .i64 (-1)] 141):=⟨_,rfl⟩
 obtain⟨W2,hW2⟩:∃W2,W2=W1.alloc (.cells #[.int .i64 (-1),.int .i64 (-1)] 141):=⟨_,rfl⟩
 have hbl:W.heap[w.heap.size]? =some (.cells #[.int .i64 0,.int .i64 0,.int .i64 0,.int .i64 0] 143 (0,0)):=by rw[hW];exact heap_alloc_new w _
 have hb:Below w.heap.size w W:=by rw[hW];exact(aae _ _).alloc (aad _) _
 have hb1:Below W.heap.size W W1:=by rw[hW1];exact(aae _ _).alloc (aad _) _
 have hb2:Below W1.heap.size W1 W2:=by rw[hW2];exact(aae _ _).alloc (aad _) _
 have hlt:=lt_of_block hbl
 have RV:W2.heap[w.heap.size]? =some (.cells #[.int .i64 0,.int .i64 0,.int .i64 0,.int .i64 0] 143 (0,0)):=by
  rw[hb2.block _ (by have:=hb1.size;omega),hb1.block _ hlt];exact hbl
 refine⟨dY W2 w.heap.size (.int .i64 (-1)) (.int .i64 (-1)) (.int .i64 (-1)) (.int .i64 (-1)),?_,?_,?_⟩
 ·have e1:W2.heap.size=w.heap.size+3:=by rw[hW2,hW1,hW];simp
  simpa[dY] using e1
 ·exact eA (hb.trans ((hb1.mono hb.size).trans (hb2.mono (by have:=hb.size;have:=hb1.size;omega)))) (aad _) _ _ _ _
 ·obtain⟨q0,q1,q2,q3,qf⟩:=au RV
  obtain⟨r0,r1,r2,r3,-⟩:=au (iI RV (.int .i64 (-1)) (.int .i64 (-1)) (.int .i64 (-1)) (.int .i64 (-1)))
  have HI:=Nu.hid (G6 W)
  have ng:=Nu.hid (G6 W1)
  rw[←hW1] at HI
  rw[←hW2] at ng
  have HW:=Nu.hid hW
  clear hbl hb hb1 hb2 hlt RV hW hW1 hW2
  go_enter Tryz.func108,Tryz.ntmps108
  go_wp2_with fail
  rw[←HW.out]
  go_wp2_with (go_at_call 112;first|(refine HI.out.mono ?_;rintro e w1 ⟨rfl,rfl⟩)|(refine ng.out.mono ?_;rintro e w1 ⟨rfl,rfl⟩))
  refine bodyPost_ret (v:=fK dG) (by simp[results,Tryz.results108,go_sem,r0,r1,r2,r3]) rfl ?_
  exact⟨rfl,rfl⟩
set_option maxRecDepth 100000 in
set_option maxHeartbeats 8000000 in
theorem xY (h:aR c p t W0 O st L U Z vp vw W) (x:Int) (hlen:st.way.length≤8388607):Calls Tryz.prog 81 #[.pointer (some ⟨t,0,none⟩),.int .i64 x] W fun e w'=>e= .returned (.tuple #[])∧aT c p t W0 O W (enter st x) w':=by
 have hB0:=h.aI.size
 obtain⟨W1,hW1⟩:∃W1,W1=W.drew:=⟨_,rfl⟩
 have hb:Below W.heap.size W W1:=by rw[hW1];exact(aae _ _).drew
 have hsz:W1.heap.size=W.heap.size:=by rw[hW1];rfl
 obtain⟨vJ,yz,hb1,hnp⟩:=Qj W1
 obtain⟨W2,hW2⟩:∃W2,W2=vJ.alloc (.cells #[.int .i64 x,.int .i64 0,.int .i64 (-1),.int .i64 (-1),.int .i64 (-1),.int .i64 (-1)] 145):=⟨_,rfl⟩
 have hb2:Below vJ.heap.size vJ W2:=by rw[hW2];exact(aae _ _).alloc (aad _) _
 have hg2:W2.heap[vJ.heap.size]? =some (.cells #[.int .i64 x,.int .i64 0,.int .i64 (-1),.int .i64 (-1),.int .i64 (-1),.int .i64 (-1)] 145 (0,0)):=by rw[hW2];exact heap_alloc_new vJ _
 have h1:=h.later hb
 have h1':=h1.later hb1
 have h2:=h1'.later hb2
 obtain⟨ao,cap,hvw,-⟩:=h.way.form
 rw[abg] at hvw
 obtain⟨v',W3,hrun,r1,r2,r3⟩:=J4 W0.heap.size vw st.way.reverse (x,0,dG) h2.way (by have:=h2.aI.size;omega) vJ.heap.size hg2 (by rw[abg];omega)
 have A8:W2.heap.size=W.heap.size+4:=by rw[hW2];simp[yz,hsz]
 have hat:v'.ownBlock=vw.ownBlock∨∃b,v'.ownBlock=some b∧W.heap.size≤b:=by
  rcases r3 with e|e
  ·exact .inl e
  ·exact .inr ⟨_,e,by omega⟩
 have hk3:∀b,b<W.heap.size→vw.ownBlock≠some b→W3.heap[b]? =W.heap[b]? :=fun k hk hn=>by
  rw[r2.block k (by omega) (fun e=>hn e.symm),hb2.block k (by omega),hb1.block k (by omega),hb.block k hk]
 have hb3:Below W0.heap.size W0 W3:=h2.aI.grown r2 (by have:=h2.aI.size;omega) fun b hb=>(h2.way.lt hb).1
 have hown:dU 145 6 tW W3 W0.heap.size v' ((x,0,dG)::st.way).reverse:=by rw[abm];exact r1
 obtain⟨y1,y2,y4⟩:=h.Xg hb3 hk3 (by have:=r2.size;omega) hown hat
 have bI:Hid (aT c p t W0 O W (enter st x) (W3.setCell ⟨t,4,none⟩ v')):=by
  refine⟨⟨?_,?_,?_,?_,fun k hk hn=> ?_⟩,L,U,Z,vp,v',y4⟩
  ·exact r2.os.trans (hb2.os.trans (hb1.os.trans hb.os))
  ·exact r2.tape.trans (hb2.tape.trans (hb1.tape.trans hb.tape))
  ·exact r2.output.trans (hb2.output.trans (hb1.output.trans hb.output))
  ·have:=r2.size
   simp
   omega
  ·rw[heap_setCell_other W3 ⟨t,4,none⟩ k _ (fun e=>hn (by rw[show k=t from e];exact h.oT))]
   exact hk3 k hk fun e=>hn (h.oW k e)
 obtain⟨zC,cap',hv',-⟩:=hown.form
 have A9:∀V,V=W1∨V=vJ∨V=W2∨V=W3→V.cell? ⟨t,4,none⟩=some (.slice ao st.way.length cap):=fun V hV=>by
  rw[←hvw]
  rcases hV with rfl|rfl|rfl|rfl
  ·exact h1.cells.2.2.2.2.1
  ·exact h1'.cells.2.2.2.2.1
  ·exact h2.cells.2.2.2.2.1
  ·exact y1
 have HV:Hid (∀V,V=W1∨V=vJ∨V=W2∨V=W3→V.cell? ⟨t,4,none⟩=some (.slice ao st.way.length cap)∧True):=fun V hV=>⟨A9 V hV,trivial⟩
 have jE:=Nu.hid hW1
 have HF:Hid (W3.frozen? ⟨t,4,none⟩=false):=y2
 have jD:=Nu.hid hW2
 have xN:=Nu.hid hnp
 subst hvw
 subst hv'
 clear h hlen hb hsz hb2 hg2 h1 h2 r1 r2 r3 A8 hat hk3 hb3 hown y1 y2 y4 A9 hW1 hW2 hB0 h1' hnp yz hb1
 go_enter Tryz.func81,Tryz.ntmps81
 go_wp2_with fail
 refine wp_region_any (by kernel_rfl) ?_
 change wpAny _ _ _ _ _ _ _ (W.drew)
 rw[←jE.out]
 refine aj.oK (fun j=>match j with|0=> .pointer (some ⟨t,0,none⟩)|1=> .pointer (some ⟨t,0,none⟩)|2=> .pointer (some ⟨t,0,none⟩)|3=> .pointer (some ⟨t,4,none⟩)|4=> .slice ao st.way.length cap|5=> .int .i64 x|6=> .agg #[.int .i64 (-1),.int .i64 (-1),.int .i64 (-1),.int .i64 (-1)]|7=> .agg #[.int .i64 x,.int .i64 0,.int .i64 (-1),.int .i64 (-1),.int .i64 (-1),.int .i64 (-1)]|8=>(.slice (some ⟨vJ.heap.size,0,none⟩) 1 1)|9=>(.slice zC ((x,0,dG)::st.way).reverse.length cap')|10=> .pointer (some ⟨t,0,none⟩)|11=> .pointer (some ⟨t,4,none⟩)|_=>undef) (AnyM.bG W1 [(12,(W3.setCell ⟨t,4,none⟩ (.slice zC ((x,0,dG)::st.way).reverse.length cap'))),(9,W3),(8,W2),(6,vJ)]) 16 rfl (by kernel_rfl) rfl ?_ ?_
 ·intro j o' Ls V ev ho bP hC bU hdc aA aS lG iW
  have hc:j=0∨j=1∨j=2∨j=3∨j=4∨j=5∨j=6∨j=7∨j=8∨j=9∨j=10∨j=11∨j=12:=by
   have:j<13:=(aam.1 ho).1
   omega
  have hst:Ls 12=false:=by
   cases h:Ls 12 with
   |false=>rfl
   |true=>
    exfalso
    have hq:Ls j=true:=by
     rcases hc with rfl|rfl|rfl|rfl|rfl|rfl|rfl|rfl|rfl|rfl|rfl|rfl|rfl
     ·exact hdc 12 _ rfl h ⟨0,.phase⟩ (by simp) rfl
     ·exact hdc 12 _ rfl h ⟨1,.phase⟩ (by simp) rfl
     ·exact hdc 12 _ rfl h ⟨2,.phase⟩ (by simp) rfl
     ·exact hdc 12 _ rfl h ⟨3,.phase⟩ (by simp) rfl
     ·exact hdc 12 _ rfl h ⟨4,.phase⟩ (by simp) rfl
     ·exact hdc 12 _ rfl h ⟨5,.phase⟩ (by simp) rfl
     ·exact hdc 12 _ rfl h ⟨6,.phase⟩ (by simp) rfl
     ·exact hdc 12 _ rfl h ⟨7,.phase⟩ (by simp) rfl
     ·exact hdc 12 _ rfl h ⟨8,.phase⟩ (by simp) rfl
     ·exact hdc 12 _ rfl h ⟨9,.data⟩ (by simp) rfl
     ·exact hdc 11 _ rfl (hdc 12 _ rfl h ⟨11,.data⟩ (by simp) rfl) ⟨10,.data⟩ (by simp) rfl
     ·exact hdc 12 _ rfl h ⟨11,.data⟩ (by simp) rfl
     ·exact h
    rw[bP] at hq
    cases hq
  have rj:V=W1∨V=vJ∨V=W2∨V=W3:=by
   cases h6:Ls 6<;>cases h8:Ls 8<;>cases h9:Ls 9<;>simp[AnyM.bG,hst,h6,h8,h9] at hC<;>simp[hC]
  obtain⟨k1,-⟩:=HV.out V rj
  rcases hc with rfl|rfl|rfl|rfl|rfl|rfl|rfl|rfl|rfl|rfl|rfl|rfl|rfl<;>obtain rfl:=aak ho
  ·have e1:ev (.tmp 0)= .pointer (some ⟨t,0,none⟩):=aS 0 (by kernel_rfl)
   exact aj.ah (v:= .pointer (some ⟨t,0,none⟩)) (w':=V) (by simp[execOp,go_sem,e1]) ⟨rfl,AnyM.other rfl hC⟩
  ·have e1:ev (.tmp 0)= .pointer (some ⟨t,0,none⟩):=aS 0 (by kernel_rfl)
   exact aj.ah (v:= .pointer (some ⟨t,0,none⟩)) (w':=V) (by simp[execOp,go_sem,e1]) ⟨rfl,AnyM.other rfl hC⟩
  ·have e1:ev (.tmp 5)= .pointer (some ⟨t,0,none⟩):=aA 1 5 (by omega) rfl (by decide)
   exact aj.ah (v:= .pointer (some ⟨t,0,none⟩)) (w':=V) (by simp[execOp,go_sem,e1]) ⟨rfl,AnyM.other rfl hC⟩
  ·have e1:ev (.tmp 6)= .pointer (some ⟨t,0,none⟩):=aA 2 6 (by omega) rfl (by decide)
   exact aj.ah (v:= .pointer (some ⟨t,4,none⟩)) (w':=V) (by simp[execOp,go_sem,e1]) ⟨rfl,AnyM.other rfl hC⟩
  ·have e1:ev (.tmp 7)= .pointer (some ⟨t,4,none⟩):=aA 3 7 (by omega) rfl (by decide)
   exact aj.ah (v:= .slice ao st.way.length cap) (w':=V) (by simp[execOp,go_sem,e1,k1]) ⟨rfl,AnyM.other rfl hC⟩
  ·have e1:ev (.tmp 1)= .int .i64 x:=aS 1 (by kernel_rfl)
   exact aj.ah (v:= .int .i64 x) (w':=V) (by simp[execOp,go_sem,e1]) ⟨rfl,AnyM.other rfl hC⟩
  ·have hn8:Ls 8=false:=by
    cases h:Ls 8 with
    |false=>rfl
    |true=>
     have xe:Ls 6=true:=hdc 7 _ rfl (hdc 8 _ rfl h ⟨7,.data⟩ (by simp) rfl) ⟨6,.data⟩ (by simp) rfl
     rw[bP] at xe
     cases xe
   have Rf:Ls 9=false:=by
    cases h:Ls 9 with
    |false=>rfl
    |true=>
     have tQ:Ls 8=true:=hdc 9 _ rfl h ⟨8,.data⟩ (by simp) rfl
     rw[hn8] at tQ
     cases tQ
   have iG:V=W1:=by
    simp only[AnyM.bG] at hC
    simp only[hn8,Rf,bP,hst,aau,if_false] at hC
    exact hC
   rw[iG]
   refine AnyM.jO (by simp[execOp,go_sem,iW]) xN.out ⟨rfl,?_⟩
   simp[AnyM.bG,aj.bR,hn8,Rf,hst]
  ·have e1:ev (.tmp 9)= .int .i64 x:=aA 5 9 (by omega) rfl (by decide)
   have e2:ev (.tmp 10)= .agg #[.int .i64 (-1),.int .i64 (-1),.int .i64 (-1),.int .i64 (-1)]:=aA 6 10 (by omega) rfl (by decide)
   exact aj.ah (v:= .agg #[.int .i64 x,.int .i64 0,.int .i64 (-1),.int .i64 (-1),.int .i64 (-1),.int .i64 (-1)]) (w':=V) (by simp[execOp,go_sem,e1,e2]) ⟨rfl,AnyM.other rfl hC⟩
  ·have e1:ev (.tmp 11)= .agg #[.int .i64 x,.int .i64 0,.int .i64 (-1),.int .i64 (-1),.int .i64 (-1),.int .i64 (-1)]:=aA 7 11 (by omega) rfl (by decide)
   have hp:Ls 6=true:=hdc 7 _ rfl (bU ⟨7,.data⟩ (by simp) rfl) ⟨6,.data⟩ (by simp) rfl
   have Rf:Ls 9=false:=by
    cases h:Ls 9 with
    |false=>rfl
    |true=>
     have tQ:Ls 8=true:=hdc 9 _ rfl h ⟨8,.data⟩ (by simp) rfl
     rw[bP] at tQ
     cases tQ
   have iG:V=vJ:=by
    simp only[AnyM.bG] at hC
    simp only[Rf,bP,hp,hst,aau,if_false,if_true] at hC
    exact hC
   rw[iG]
   refine aj.ah (v:=(.slice (some ⟨vJ.heap.size,0,none⟩) 1 1)) (w':=W2) (by simp[execOp,go_sem,e1,jD.out]) ⟨rfl,?_⟩
   simp[AnyM.bG,aj.bR,Rf,hst]
  ·have e1:ev (.tmp 8)= .slice ao st.way.length cap:=aA 4 8 (by omega) rfl (by decide)
   have e2:ev (.tmp 12)=(.slice (some ⟨vJ.heap.size,0,none⟩) 1 1):=aA 8 12 (by omega) rfl (by decide)
   have hp:Ls 8=true:=bU ⟨8,.data⟩ (by simp) rfl
   have iG:V=W2:=by
    simp only[AnyM.bG] at hC
    simp only[bP,hp,hst,aau,if_false,if_true] at hC
    exact hC
   rw[iG]
   refine aj.ah (v:=(.slice zC ((x,0,dG)::st.way).reverse.length cap')) (w':=W3) (hrun _ ev _ _ rfl rfl e1 e2) ⟨rfl,?_⟩
   simp[AnyM.bG,aj.bR,hst]
  ·have e1:ev (.tmp 4)= .pointer (some ⟨t,0,none⟩):=aA 0 4 (by omega) rfl (by decide)
   exact aj.ah (v:= .pointer (some ⟨t,0,none⟩)) (w':=V) (by simp[execOp,go_sem,e1]) ⟨rfl,AnyM.other rfl hC⟩
  ·have e1:ev (.tmp 14)= .pointer (some ⟨t,0,none⟩):=aA 10 14 (by omega) rfl (by decide)
   exact aj.ah (v:= .pointer (some ⟨t,4,none⟩)) (w':=V) (by simp[execOp,go_sem,e1]) ⟨rfl,AnyM.other rfl hC⟩
  ·have e1:ev (.tmp 15)= .pointer (some ⟨t,4,none⟩):=aA 11 15 (by omega) rfl (by decide)
   have e2:ev (.tmp 13)=(.slice zC ((x,0,dG)::st.way).reverse.length cap'):=aA 9 13 (by omega) rfl (by decide)
   have hp:Ls 9=true:=bU ⟨9,.data⟩ (by simp) rfl
   have iG:V=W3:=by
    simp only[AnyM.bG] at hC
    simp only[bP,hp,aau,if_false,if_true] at hC
    exact hC
   rw[iG]
   rw[iG] at k1
   refine aj.bF (w':=(W3.setCell ⟨t,4,none⟩ (.slice zC ((x,0,dG)::st.way).reverse.length cap'))) (by simp[execOp,go_sem,e1,e2,k1,HF.out]) ⟨rfl,?_⟩
   simp[AnyM.bG,aj.bR]
 ·intro Ls V hall hC
  unfold AnyM.bG at hC
  rw[if_pos (hall 12 (by decide))] at hC
  subst hC
  refine bodyPost_end (results_none rfl _ _ _) (aj.kN _) ?_
  exact⟨rfl,bI.out⟩
end
end
end Go.Proofs.YtdjmnpmdmjclhabGreat
