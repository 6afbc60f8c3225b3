import Derived.Test.YtnhcggfbkoppnaaGreatMg26
import Derived.Test.YtnhcggfbkoppnaaGreatMg04
namespace Go.Proofs.YtnhcggfbkoppnaaGreat
section
open Go.RowKit Lt
section
variable {c:Wp} {p t:Nat} {W0 W:World} {O:Nat→Prop} {st:TS} {L U Z:Nat} {vp vw:Value}
theorem fQ {S:Nat→Prop} {w V:World} {b i:Nat} (h:aF S w V) (hb:w.heap.size≤b) (x:Value):aF S w (V.setCell ⟨b,i,none⟩ x):=
 ⟨h.os,h.tape,h.output,by simpa using h.size,fun k hk hn=>(heap_setCell_other V ⟨b,i,none⟩ k x (fun e=>by have e':k=b:=e;omega)).trans (h.block k hk hn)⟩
theorem aQ.far (h:aQ c p t W0 O st L U Z vp vw W) {b i:Nat} (hb:¬O b) (hB:W0.heap.size≤b) (x:Value):aQ c p t W0 O st L U Z vp vw (W.setCell ⟨b,i,none⟩ x):=
 h.same (h.aI.setCell (p:=⟨b,i,none⟩) hB x) (by simp) fun k hk _=>heap_setCell_other W ⟨b,i,none⟩ k _ (fun e=>hb (by rw[←show k=b from e];exact hk))
theorem aQ.drew (h:aQ c p t W0 O st L U Z vp vw W):aQ c p t W0 O st L U Z vp vw W.drew:=h.later ((Below.refl _ _).drew)
theorem aT.drew {V:World} {st':TS} (h:aT c p t W0 O W st' V):aT c p t W0 O W st' V.drew:=by
 obtain⟨h1,L',U',Z',oY,qo,h2⟩:=h
 exact⟨h1.drew,L',U',Z',oY,qo,h2.drew⟩
set_option maxRecDepth 100000 in
set_option maxHeartbeats 8000000 in
theorem jW (h:aQ c p t W0 O st L U Z vp vw W) {u l i:Iv} {aH:List Int} (hj:join st.like u l=some (aH,i)):Calls Tryz.prog 169 #[.pointer (some ⟨t,1,none⟩),dG u,dG l] W fun r w'=>r= .returned (dG i)∧aT c p t W0 O W { st with like:=aH } w':=by
 obtain⟨a,b⟩:=u
 obtain⟨a',b'⟩:=l
 have cq:=h.wk.val.few
 have hB0:=h.aI.size
 obtain⟨W1,hW1⟩:∃W1,W1=((W.alloc (.cells #[.int .i64 a,.int .i64 b] 166)).alloc (.cells #[.int .i64 a',.int .i64 b'] 166)).alloc (.cells #[.int .i64 0,.int .i64 0] 166):=⟨_,rfl⟩
 have hb:Below W.heap.size W W1:=by rw[hW1];exact(((Below.refl _ _).alloc (Nat.le_refl _) _).alloc (by simp) _).alloc (by simp;omega) _
 have hsz:W1.heap.size=W.heap.size+3:=by rw[hW1];simp
 have hu:W1.heap[W.heap.size]? =some (.cells #[.int .i64 a,.int .i64 b] 166 (0,0)):=by
  rw[hW1,Below.heap_alloc _ _ _ (by simp;omega),Below.heap_alloc _ _ _ (by simp)]
  exact heap_alloc_new W _
 have hl:W1.heap[W.heap.size+1]? =some (.cells #[.int .i64 a',.int .i64 b'] 166 (0,0)):=by
  rw[hW1,Below.heap_alloc _ _ _ (by simp)]
  have:=heap_alloc_new (W.alloc (.cells #[.int .i64 a,.int .i64 b] 166)) (.cells #[.int .i64 a',.int .i64 b'] 166)
  simpa using this
 have hr:W1.heap[W.heap.size+1+1]? =some (.cells #[.int .i64 0,.int .i64 0] 166 (0,0)):=by
  rw[hW1]
  have:=heap_alloc_new ((W.alloc (.cells #[.int .i64 a,.int .i64 b] 166)).alloc (.cells #[.int .i64 a',.int .i64 b'] 166)) (.cells #[.int .i64 0,.int .i64 0] 166)
  simpa using this
 have h1:=h.later hb
 have fZ:Hid (∀(i:Iv) (w:World),Calls Tryz.prog 149 #[dG i] w fun e w'=>e= .returned (.bool (decide (i=aP)))∧Below w.heap.size w w'):=fW
 have hacc:=Below.refl W1.heap.size W1
 have HS:Hid (∀V,Below W1.heap.size W1 V→V.cell? ⟨W.heap.size,0,none⟩=some (.int .i64 a)∧V.cell? ⟨W.heap.size,1,none⟩=some (.int .i64 b)∧V.cell? ⟨W.heap.size+1,0,none⟩=some (.int .i64 a')∧V.cell? ⟨W.heap.size+1,1,none⟩=some (.int .i64 b')∧V.heap[W.heap.size+1+1]? =some (.cells #[.int .i64 0,.int .i64 0] 166 (0,0))∧aQ c p t W0 O st L U Z vp vw V):=fun V hV=>by
  obtain⟨x0,x1,-⟩:=az ((hV.block _ (by omega)).trans hu)
  obtain⟨x2,x3,-⟩:=az ((hV.block _ (by omega)).trans hl)
  exact⟨x0,x1,x2,x3,(hV.block _ (by omega)).trans hr,h1.later hV⟩
 have hwr:∀V,Below W1.heap.size W1 V→aF O W V:=fun V hV=>((aF.refl O W).later hb).later hV
 have HO:Hid (∀b,O b→b<W.heap.size):=h.oX
 have bI:Hid (∀V x y,aF O W V→aQ c p t W0 O { st with like:=aH } L U Z vp vw V→V.heap[W.heap.size+1+1]? =some (.cells #[.int .i64 0,.int .i64 0] 166 (0,0))→aT c p t W0 O W { st with like:=aH } ((V.setCell ⟨W.heap.size+1+1,0,none⟩ x).setCell ⟨W.heap.size+1+1,1,none⟩ y)∧((V.setCell ⟨W.heap.size+1+1,0,none⟩ x).setCell ⟨W.heap.size+1+1,1,none⟩ y).cell? ⟨W.heap.size+1+1,0,none⟩=some x∧((V.setCell ⟨W.heap.size+1+1,0,none⟩ x).setCell ⟨W.heap.size+1+1,1,none⟩ y).cell? ⟨W.heap.size+1+1,1,none⟩=some y):=fun V x y hw hT hc=>by
  have Qs:¬O (W.heap.size+1+1):=fun q=>by have:=HO.out _ q;omega
  obtain⟨r0,r1,-⟩:=az (gF hc x y)
  exact⟨aQ.post hB0 (fQ (fQ hw (by omega) x) (by omega) y) ((hT.far Qs (by omega) x).far Qs (by omega) y),r0,r1⟩
 obtain⟨x0,x1,x2,x3,xr,xT⟩:=HS.out _ hacc
 obtain⟨vQ,vP,vO⟩:=az xr
 have nT:=Nu.hid hwr
 unfold join at hj
 by_cases hn:(a,b)=aP
 ·rw[if_pos hn] at hj
  cases hj
  have e1:decide ((a,b)=aP)=true:=decide_eq_true hn
  have oN:Hid (∀w,Calls Tryz.prog 149 #[.agg #[.int .i64 a,.int .i64 b]] w fun e w'=>e= .returned (.bool true)∧Below w.heap.size w w'):=fun w=>by rw[←e1];exact fZ.out (a,b) w
  rw[hW1] at x0 x1 x2 x3 vQ vP vO hacc
  rw[hW1] at HS nT
  clear h hW1 hb hu hl hr h1 hn e1 fZ xr xT hsz hwr hB0
  go_enter Tryz.func169,Tryz.ntmps169
  go_wp2_with (go_at_call 149;refine(oN.out _).mono ?_;rintro e w1 ⟨rfl,hb1⟩;have hacc:=hacc.trans (hb1.mono hacc.size);clear hb1;obtain⟨x0,x1,x2,x3,xr,xT⟩:=HS.out _ hacc;obtain⟨vQ,vP,vO⟩:=az xr;have yL:=Nu.hid xr;have m7:=Nu.hid xT;clear xr xT)
  obtain⟨k1,r0,r1⟩:=bI.out w1 (.int .i64 a') (.int .i64 b') (nT.out _ hacc) m7.out yL.out
  refine bodyPost_ret (v:=dG (a',b')) (by simp[results,Tryz.results169,go_sem,r0,r1]) rfl ?_
  exact⟨rfl,k1⟩
 ·rw[if_neg hn] at hj
  have e1:decide ((a,b)=aP)=false:=decide_eq_false hn
  have oN:Hid (∀w,Calls Tryz.prog 149 #[.agg #[.int .i64 a,.int .i64 b]] w fun e w'=>e= .returned (.bool false)∧Below w.heap.size w w'):=fun w=>by rw[←e1];exact fZ.out (a,b) w
  by_cases hn2:(a',b')=aP
  ·rw[if_pos hn2] at hj
   cases hj
   have e2:decide ((a',b')=aP)=true:=decide_eq_true hn2
   have xw:Hid (∀w,Calls Tryz.prog 149 #[.agg #[.int .i64 a',.int .i64 b']] w fun e w'=>e= .returned (.bool true)∧Below w.heap.size w w'):=fun w=>by rw[←e2];exact fZ.out (a',b') w
   rw[hW1] at x0 x1 x2 x3 vQ vP vO hacc
   rw[hW1] at HS nT
   clear h hW1 hb hu hl hr h1 hn hn2 e1 e2 fZ xr xT hsz hwr hB0
   go_enter Tryz.func169,Tryz.ntmps169
   go_wp2_with (go_at_call 149;first|(with_reducible refine(oN.out _).mono ?_;rintro e w1 ⟨rfl,hb1⟩;have hacc:=hacc.trans (hb1.mono hacc.size);clear hb1;obtain⟨x0,x1,x2,x3,xr,xT⟩:=HS.out _ hacc;obtain⟨vQ,vP,vO⟩:=az xr;have yL:=Nu.hid xr;have m7:=Nu.hid xT;clear xr xT)|(with_reducible refine(xw.out _).mono ?_;rintro e w1 ⟨rfl,hb1⟩;have hacc:=hacc.trans (hb1.mono hacc.size);clear hb1;obtain⟨x0,x1,x2,x3,xr,xT⟩:=HS.out _ hacc;obtain⟨vQ,vP,vO⟩:=az xr;have yL:=Nu.hid xr;have m7:=Nu.hid xT;clear xr xT))
   obtain⟨k1,r0,r1⟩:=bI.out w1 (.int .i64 a) (.int .i64 b) (nT.out _ hacc) m7.out yL.out
   refine bodyPost_ret (v:=dG (a,b)) (by simp[results,Tryz.results169,go_sem,r0,r1]) rfl ?_
   exact⟨rfl,k1⟩
  ·rw[if_neg hn2] at hj
   cases hp:eT st.like (a,b).2 (a',b').1 with
   |none=>rw[hp] at hj;cases hj
   |some lk=>
    rw[hp] at hj
    cases hj
    obtain⟨k,hk,cT,rfl⟩:=jl hp
    dsimp only at hk
    subst hk
    have hkm:k<c.es.length:=by rw[←h.ll];exact cT
    have e2:decide ((a',b')=aP)=false:=decide_eq_false hn2
    have xw:Hid (∀w,Calls Tryz.prog 149 #[.agg #[.int .i64 a',.int .i64 b']] w fun e w'=>e= .returned (.bool false)∧Below w.heap.size w w'):=fun w=>by rw[←e2];exact fZ.out (a',b') w
    have HL:Hid (∀V,aQ c p t W0 O st L U Z vp vw V→V.cell? ⟨t,1,none⟩=some (.slice (some ⟨L,0,none⟩) c.es.length c.es.length)∧(∃z,V.cell? ⟨L,k,none⟩=some (.int .i64 z))∧V.frozen? ⟨L,k,none⟩=false):=fun V hV=>⟨hV.cells.2.1,⟨_,nO hV.like cT⟩,hV.like.free k⟩
    have v0:(0:Int)≤(k:Int):=by omega
    have v1:(k:Int)<(c.es.length:Int):=by omega
    have IY:Hid (O L∧L≠W.heap.size∧L≠W.heap.size+1∧L≠W.heap.size+1+1):=⟨h.oL,by have:=h.oX L h.oL;omega,by have:=h.oX L h.oL;omega,by have:=h.oX L h.oL;omega⟩
    have n1:=IY.out.2.1
    have n2:=IY.out.2.2.1
    have n3:=IY.out.2.2.2
    rw[hW1] at x0 x1 x2 x3 vQ vP vO hacc
    rw[hW1] at HS nT
    clear h hW1 hb hu hl hr h1 hn hn2 e1 e2 fZ xr xT hsz hwr hB0 hp cT hkm
    go_enter Tryz.func169,Tryz.ntmps169
    go_wp2_with (go_at_call 149;first|(with_reducible refine(oN.out _).mono ?_;rintro e w1 ⟨rfl,hb1⟩;have hacc:=hacc.trans (hb1.mono hacc.size);clear hb1;obtain⟨x0,x1,x2,x3,xr,xT⟩:=HS.out _ hacc;obtain⟨vQ,vP,vO⟩:=az xr;have yL:=Nu.hid xr;have m7:=Nu.hid xT;obtain⟨l0,⟨lz,l1⟩,l2⟩:=HL.out _ xT;clear xr xT)|(with_reducible refine(xw.out _).mono ?_;rintro e w1 ⟨rfl,hb1⟩;have hacc:=hacc.trans (hb1.mono hacc.size);clear hb1;obtain⟨x0,x1,x2,x3,xr,xT⟩:=HS.out _ hacc;obtain⟨vQ,vP,vO⟩:=az xr;have yL:=Nu.hid xr;have m7:=Nu.hid xT;obtain⟨l0,⟨lz,l1⟩,l2⟩:=HL.out _ xT;clear xr xT))
    go_big_region
    go_wp2
    obtain⟨k1,r0,r1⟩:=bI.out (w1.setCell ⟨L,k,none⟩ (.int .i64 a')) (.int .i64 a) (.int .i64 b') ((nT.out _ hacc).setCell IY.out.1 _) (m7.out.zP k a') ((heap_setCell_other w1 ⟨L,k,none⟩ _ _ (fun e=>n3 e.symm)).trans yL.out)
    generalize ((w1.setCell ⟨L,k,none⟩ (.int .i64 a')).setCell ⟨W.heap.size+1+1,0,none⟩ (.int .i64 a)).setCell ⟨W.heap.size+1+1,1,none⟩ (.int .i64 b')=V at*
    have k2:=k1.drew
    have r2:V.drew.cell? ⟨W.heap.size+1+1,0,none⟩=some (.int .i64 a):=r0
    have r3:V.drew.cell? ⟨W.heap.size+1+1,1,none⟩=some (.int .i64 b'):=r1
    refine bodyPost_ret (v:=dG (a,b')) (by simp[results,Tryz.results169,go_sem,r2,r3]) rfl ?_
    exact⟨rfl,k2⟩
end
end
section
open Go.RowKit Lt
section
variable {c:Wp} {p t:Nat} {W0 W:World} {O:Nat→Prop} {st:TS} {L U Z:Nat} {vp vw:Value}
set_option maxRecDepth 100000 in
set_option maxHeartbeats 8000000 in
theorem Dh (h:aQ c p t W0 O st L U Z vp vw W) {i o j:Iv} {hh:Int} {aH aZ:List Int} (hj:cut c.lw hh st.like st.turn i o=some (aH,aZ,j)):Calls Tryz.prog 150 #[.pointer (some ⟨t,0,none⟩),dG i,dG o,.int .i64 hh] W fun r w'=>r= .returned (dG j)∧aT c p t W0 O W { st with like:=aH,turn:=aZ } w':=by
 obtain⟨a,b⟩:=i
 obtain⟨a',b'⟩:=o
 have cq:=h.wk.val.few
 have hB0:=h.aI.size
 obtain⟨W1,hW1⟩:∃W1,W1=((W.alloc (.cells #[.int .i64 a,.int .i64 b] 166)).alloc (.cells #[.int .i64 a',.int .i64 b'] 166)).alloc (.cells #[.int .i64 0,.int .i64 0] 166):=⟨_,rfl⟩
 have hb:Below W.heap.size W W1:=by rw[hW1];exact(((Below.refl _ _).alloc (Nat.le_refl _) _).alloc (by simp) _).alloc (by simp;omega) _
 have hsz:W1.heap.size=W.heap.size+3:=by rw[hW1];simp
 have hu:W1.heap[W.heap.size]? =some (.cells #[.int .i64 a,.int .i64 b] 166 (0,0)):=by
  rw[hW1,Below.heap_alloc _ _ _ (by simp;omega),Below.heap_alloc _ _ _ (by simp)]
  exact heap_alloc_new W _
 have hl:W1.heap[W.heap.size+1]? =some (.cells #[.int .i64 a',.int .i64 b'] 166 (0,0)):=by
  rw[hW1,Below.heap_alloc _ _ _ (by simp)]
  have:=heap_alloc_new (W.alloc (.cells #[.int .i64 a,.int .i64 b] 166)) (.cells #[.int .i64 a',.int .i64 b'] 166)
  simpa using this
 have hr:W1.heap[W.heap.size+1+1]? =some (.cells #[.int .i64 0,.int .i64 0] 166 (0,0)):=by
  rw[hW1]
  have:=heap_alloc_new ((W.alloc (.cells #[.int .i64 a,.int .i64 b] 166)).alloc (.cells #[.int .i64 a',.int .i64 b'] 166)) (.cells #[.int .i64 0,.int .i64 0] 166)
  simpa using this
 have h1:=h.later hb
 have fZ:Hid (∀(i:Iv) (w:World),Calls Tryz.prog 149 #[dG i] w fun e w'=>e= .returned (.bool (decide (i=aP)))∧Below w.heap.size w w'):=fW
 have hacc:=Below.refl W1.heap.size W1
 have HS:Hid (∀V,Below W1.heap.size W1 V→V.cell? ⟨W.heap.size,0,none⟩=some (.int .i64 a)∧V.cell? ⟨W.heap.size,1,none⟩=some (.int .i64 b)∧V.cell? ⟨W.heap.size+1,0,none⟩=some (.int .i64 a')∧V.cell? ⟨W.heap.size+1,1,none⟩=some (.int .i64 b')∧V.heap[W.heap.size+1+1]? =some (.cells #[.int .i64 0,.int .i64 0] 166 (0,0))∧aQ c p t W0 O st L U Z vp vw V):=fun V hV=>by
  obtain⟨x0,x1,-⟩:=az ((hV.block _ (by omega)).trans hu)
  obtain⟨x2,x3,-⟩:=az ((hV.block _ (by omega)).trans hl)
  exact⟨x0,x1,x2,x3,(hV.block _ (by omega)).trans hr,h1.later hV⟩
 have hwr:∀V,Below W1.heap.size W1 V→aF O W V:=fun V hV=>((aF.refl O W).later hb).later hV
 have HO:Hid (∀b,O b→b<W.heap.size):=h.oX
 have bI:Hid (∀(st':TS) V x y,aF O W V→aQ c p t W0 O st' L U Z vp vw V→V.heap[W.heap.size+1+1]? =some (.cells #[.int .i64 0,.int .i64 0] 166 (0,0))→aT c p t W0 O W st' ((V.setCell ⟨W.heap.size+1+1,0,none⟩ x).setCell ⟨W.heap.size+1+1,1,none⟩ y)∧((V.setCell ⟨W.heap.size+1+1,0,none⟩ x).setCell ⟨W.heap.size+1+1,1,none⟩ y).cell? ⟨W.heap.size+1+1,0,none⟩=some x∧((V.setCell ⟨W.heap.size+1+1,0,none⟩ x).setCell ⟨W.heap.size+1+1,1,none⟩ y).cell? ⟨W.heap.size+1+1,1,none⟩=some y):=fun st' V x y hw hT hc=>by
  have Qs:¬O (W.heap.size+1+1):=fun q=>by have:=HO.out _ q;omega
  obtain⟨r0,r1,-⟩:=az (gF hc x y)
  exact⟨aQ.post hB0 (fQ (fQ hw (by omega) x) (by omega) y) ((hT.far Qs (by omega) x).far Qs (by omega) y),r0,r1⟩
 obtain⟨x0,x1,x2,x3,xr,xT⟩:=HS.out _ hacc
 obtain⟨vQ,vP,vO⟩:=az xr
 have nT:=Nu.hid hwr
 unfold cut at hj
 by_cases hn:(a,b)=aP
 ·rw[if_pos hn] at hj
  cases hj
  have e1:decide ((a,b)=aP)=true:=decide_eq_true hn
  have oN:Hid (∀w,Calls Tryz.prog 149 #[.agg #[.int .i64 a,.int .i64 b]] w fun e w'=>e= .returned (.bool true)∧Below w.heap.size w w'):=fun w=>by rw[←e1];exact fZ.out (a,b) w
  rw[hW1] at x0 x1 x2 x3 vQ vP vO hacc
  rw[hW1] at HS nT
  clear h hW1 hb hu hl hr h1 hn e1 fZ xr xT hsz hwr hB0
  go_enter Tryz.func150,Tryz.ntmps150
  go_wp2_with (go_at_call 149;refine(oN.out _).mono ?_;rintro e w1 ⟨rfl,hb1⟩;have hacc:=hacc.trans (hb1.mono hacc.size);clear hb1;obtain⟨x0,x1,x2,x3,xr,xT⟩:=HS.out _ hacc;obtain⟨vQ,vP,vO⟩:=az xr;have yL:=Nu.hid xr;have m7:=Nu.hid xT;clear xr xT)
  obtain⟨k1,r0,r1⟩:=bI.out st w1 (.int .i64 a) (.int .i64 b) (nT.out _ hacc) m7.out yL.out
  refine bodyPost_ret (v:=dG (a,b)) (by simp[results,Tryz.results150,go_sem,r0,r1]) rfl ?_
  exact⟨rfl,k1⟩
 ·rw[if_neg hn] at hj
  have e1:decide ((a,b)=aP)=false:=decide_eq_false hn
  have oN:Hid (∀w,Calls Tryz.prog 149 #[.agg #[.int .i64 a,.int .i64 b]] w fun e w'=>e= .returned (.bool false)∧Below w.heap.size w w'):=fun w=>by rw[←e1];exact fZ.out (a,b) w
  cases hd:down c.lw st.like hh (st.like.length+1) a with
  |none=>rw[hd] at hj;cases hj
  |some x=>
   rw[hd] at hj
   dsimp only at hj
   have HD:=Nu.hid hd
   have HJ:=Nu.hid hj
   have yT:=Nu.hid h.ll
   rw[hW1] at x0 x1 x2 x3 vQ vP vO hacc
   rw[hW1] at HS nT
   have HL:Hid (∀V,aQ c p t W0 O st L U Z vp vw V→V.cell? ⟨t,0,none⟩=some (.pointer (some ⟨p,0,none⟩))∧V.cell? ⟨t,1,none⟩=some (.slice (some ⟨L,0,none⟩) c.es.length c.es.length)∧V.cell? ⟨t,2,none⟩=some (.slice (some ⟨U,0,none⟩) c.es.length c.es.length)):=fun V hV=>⟨hV.cells.1,hV.cells.2.1,hV.cells.2.2.1⟩
   have HN:Hid ((L≠W.heap.size∧L≠W.heap.size+1∧L≠W.heap.size+1+1)∧(U≠W.heap.size∧U≠W.heap.size+1∧U≠W.heap.size+1+1)∧(t≠L∧t≠U∧L≠U)∧O L∧O U):=by
    have q1:=h.oX L h.oL
    have q2:=h.oX U h.oU
    exact⟨⟨by omega,by omega,by omega⟩,⟨by omega,by omega,by omega⟩,⟨h.n1.1,h.n1.2.1,h.n1.2.2.2.1⟩,h.oL,h.oU⟩
   clear h hW1 hb hu hl hr h1 hn e1 fZ xr xT hsz hwr hB0 hj hd
   go_enter Tryz.func150,Tryz.ntmps150
   go_wp2_with (go_at_call 149;refine(oN.out _).mono ?_;rintro e w1 ⟨rfl,hb1⟩;have hacc:=hacc.trans (hb1.mono hacc.size);clear hb1;obtain⟨x0,x1,x2,x3,xr,xT⟩:=HS.out _ hacc;obtain⟨vQ,vP,vO⟩:=az xr;have yL:=Nu.hid xr;have m7:=Nu.hid xT;obtain⟨l0,l1,l2⟩:=HL.out _ xT;clear xr xT)
   go_loopw [9] (fun cv wr=>∃z:Int,cv= .int .i64 z∧(∃k,down c.lw st.like hh k z=some x)∧wr=w1) (fun cv _=>leastOf fun k=>down c.lw st.like hh k (intOf cv)=some x)
   case atStart=>exact⟨a,rfl,⟨_,HD.out⟩,rfl⟩
   case round=>
    obtain⟨z,rfl,⟨k,hk⟩,rfl⟩:=hrel
    obtain⟨hI,-⟩:=leastOf_spec (P:=fun k=>down c.lw st.like hh k z=some x) hk
    obtain⟨k0,hk0⟩:∃k0,leastOf (fun k=>down c.lw st.like hh k z=some x)=k0:=⟨_,rfl⟩
    rw[hk0] at hI
    clear hk k
    cases k0 with
    |zero=>exact absurd hI (by unfold down;simp)
    |succ k=>
     unfold down at hI
     by_cases hz:z= -1
     ·rw[if_pos hz] at hI
      cases hI
      subst hz
      have hj:=HJ.out
      rw[if_pos rfl] at hj
      cases gP:eT st.like (a,b).2 (a',b').2 with
      |none=>rw[gP] at hj;cases hj
      |some lk=>
       cases iM:eT st.turn (a,b).2 (-1) with
       |none=>rw[gP,iM] at hj;cases hj
       |some tn=>
        rw[gP,iM] at hj
        cases hj
        obtain⟨kb,hkb,cT,rfl⟩:=jl gP
        obtain⟨kb',hkb',Uw,rfl⟩:=jl iM
        dsimp only at hkb hkb'
        obtain rfl:kb=kb':=by omega
        subst hkb
        have l3:∃q,wr.cell? ⟨L,kb,none⟩=some (.int .i64 q):=⟨_,nO m7.out.like cT⟩
        have l4:=m7.out.like.free kb
        have l5:∃q,wr.cell? ⟨U,kb,none⟩=some (.int .i64 q):=⟨_,nO m7.out.turn Uw⟩
        have l6:=m7.out.turn.free kb
        obtain⟨q3,l3⟩:=l3
        obtain⟨q5,l5⟩:=l5
        have v0:(0:Int)≤(kb:Int):=by omega
        have v1:(kb:Int)<(c.es.length:Int):=by rw[←yT.out];omega
        obtain⟨⟨n1,n2,n3⟩,⟨n4,n5,n6⟩,⟨n7,n8,n9⟩,hOL,hOU⟩:=HN.out
        clear gP iM cT Uw hk0
        go_wp2_with fail
        go_big_region
        go_wp2_with fail
        go_big_region
        go_wp2_with fail
        have hT:=((m7.out.zP kb b').Ga kb (-1)).drew.drew
        have UN:=((((nT.out _ hacc).setCell hOL (i:=kb) (.int .i64 b')).setCell hOU (i:=kb) (.int .i64 (-1))).drew).drew
        have hRV:((wr.setCell ⟨L,kb,none⟩ (.int .i64 b')).setCell ⟨U,kb,none⟩ (.int .i64 (-1))).drew.drew.heap[W.heap.size+1+1]? =some (.cells #[.int .i64 0,.int .i64 0] 166 (0,0)):=(heap_setCell_other (wr.setCell ⟨L,kb,none⟩ (.int .i64 b')) ⟨U,kb,none⟩ _ _ (fun e=>n6 e.symm)).trans ((heap_setCell_other wr ⟨L,kb,none⟩ _ _ (fun e=>n3 e.symm)).trans yL.out)
        generalize ((wr.setCell ⟨L,kb,none⟩ (.int .i64 b')).setCell ⟨U,kb,none⟩ (.int .i64 (-1))).drew.drew=V at*
        have HT:=Nu.hid hT
        have HWV:=Nu.hid UN
        have HRV:=Nu.hid hRV
        clear hT UN hRV
        go_at_call 135
        refine(mg _).mono ?_
        rintro e w2 ⟨rfl,hb2⟩
        have su:=Nu.hid ((hb2.block _ (lt_of_block HRV.out)).trans HRV.out)
        have HT2:=Nu.hid (HT.out.later hb2)
        have kR:=Nu.hid (HWV.out.later hb2)
        obtain⟨y0,y1,yf⟩:=az su.out
        clear hb2
        go_wp2
        obtain⟨k1,r0,r1⟩:=bI.out _ w2 (.int .i64 (-1)) (.int .i64 (-1)) kR.out HT2.out su.out
        refine bodyPost_ret (v:=dG aP) (by simp[results,Tryz.results150,go_sem,r0,r1]) rfl ?_
        exact⟨rfl,k1⟩
     ·rw[if_neg hz] at hI
      cases hz2:bz c.lw z with
      |none=>rw[hz2] at hI;cases hI
      |some q=>
       rw[hz2] at hI
       dsimp only at hI
       obtain⟨kz,rfl,NK,Zn⟩:=gW hz2
       obtain⟨gl,cl,lW⟩:=m7.out.low NK
       obtain⟨-,z1,z2⟩:=lW wr (Below.refl _ _)
       have z3:=z2 kz NK
       rw[Zn] at z3
       have v0:(0:Int)≤(kz:Int):=by omega
       have v1:(kz:Int)<(c.es.length:Int):=by omega
       have v2:((kz:Int) != -1)=true:=by simp
       by_cases hq:q=hh
       ·rw[if_pos hq] at hI
        cases hlk:bz st.like (kz:Int) with
        |none=>rw[hlk] at hI;cases hI
        |some y=>
         rw[hlk] at hI
         dsimp only at hI
         obtain⟨kz',e',adn,hy⟩:=oH hlk
         obtain rfl:kz=kz':=by omega
         have l3:wr.cell? ⟨L,kz,none⟩=some (.int .i64 y):=by
          have:=nO m7.out.like adn
          rw[hy] at this
          exact this
         have HI:=Nu.hid hI
         have HK:=Nu.hid hk0
         subst hq
         clear hI hk0 hlk hy hz2 Zn lW z2 hz
         go_wp2
         go_roundw
         case rel=>exact⟨y,rfl,⟨_,HI.out⟩,by first|rfl|trivial⟩
         case measure=>
          have h3:=(leastOf_spec (P:=fun k=>down c.lw st.like q k y=some x) HI.out).2
          have h4:=HK.out
          simp only[intOf]
          omega
       ·rw[if_neg hq] at hI
        cases hI
        have hj:=HJ.out
        rw[if_neg hz] at hj
        cases hj
        have v3:(q==hh)=false:=by simp[hq]
        clear hk0 hz2 Zn lW z2 hz
        go_wp2
        obtain⟨k1,r0,r1⟩:=bI.out st wr (.int .i64 (kz:Int)) (.int .i64 b) (nT.out _ hacc) m7.out yL.out
        refine bodyPost_ret (v:=dG ((kz:Int),b)) (by simp[results,Tryz.results150,go_sem,r0,r1]) rfl ?_
        exact⟨rfl,k1⟩
end
end
section
open Go.RowKit Lt
def aD (c:Wp) (p t:Nat) (W0:World) (O:Nat→Prop) (W:World) (B:Nat→Prop) (st:TS) (wr:World):Prop:=
 (W0.heap.size≤W.heap.size∧(∀b,O b→W0.heap.size≤b∧b<W.heap.size)∧∀b,B b→W.heap.size≤b)∧aF O W wr∧∃O',(∀b,O' b→O b∨W.heap.size≤b)∧(∀b,B b→¬O' b)∧Ts c p t W0 O' st wr
section
variable {c:Wp} {p t:Nat} {W0 W wr w':World} {O B B':Nat→Prop} {st st':TS} {L U Z:Nat} {vp vw:Value}
theorem aD.start (h:aQ c p t W0 O st L U Z vp vw W):aD c p t W0 O W (fun _=>False) st W:=
 ⟨⟨h.aI.size,fun b hb=>⟨h.oB b hb,h.oX b hb⟩,fun _ hb=>hb.elim⟩,aF.refl _ _,O,fun _ hb=> .inl hb,fun _ hb=>hb.elim,L,U,Z,vp,vw,h⟩
theorem aD.post (h:aD c p t W0 O W B st wr):aT c p t W0 O W st wr:=by
 obtain⟨⟨h0,tL,-⟩,h1,O',h2,-,L,U,Z,vp,vw,h3⟩:=h
 exact⟨h1,L,U,Z,vp,vw,h3.more (fun b hb=>⟨h2 b hb,h3.oX b hb⟩) (fun b hb=>hb.1.elim (fun q=>(tL b q).1) fun q=>by omega) (fun b hb=>hb.2)⟩
theorem aD.less (h:aD c p t W0 O W B st wr) (hB:∀b,B' b→B b):aD c p t W0 O W B' st wr:=by
 obtain⟨⟨h0,tL,Fa⟩,h1,O',h2,h3,h4⟩:=h
 exact⟨⟨h0,tL,fun b hb=>Fa b (hB b hb)⟩,h1,O',h2,fun b hb=>h3 b (hB b hb),h4⟩
theorem aD.later (h:aD c p t W0 O W B st wr) (hb:Below wr.heap.size wr w'):aD c p t W0 O W B st w':=by
 obtain⟨h0,h1,O',h2,h3,L,U,Z,vp,vw,h4⟩:=h
 exact⟨h0,h1.later hb,O',h2,h3,L,U,Z,vp,vw,h4.later hb⟩
theorem aD.box (h:aD c p t W0 O W B st wr) (o:Obj):aD c p t W0 O W (fun b=>B b∨b=wr.heap.size) st (wr.alloc o):=by
 have h':=h.later ((Below.refl _ _).alloc (Nat.le_refl _) o)
 obtain⟨⟨h0,tL,Fa⟩,h1,O',h2,h3,L,U,Z,vp,vw,h4⟩:=h'
 obtain⟨-,k1,O1,k2,k3,L1,U1,Z1,Yv,Yt,k4⟩:=h
 have k5:=k4.later ((Below.refl _ _).alloc (Nat.le_refl _) o)
 refine⟨⟨h0,tL,fun b hb=> ?_⟩,h1,O1,k2,fun b hb=> ?_,L1,U1,Z1,Yv,Yt,k5⟩
 ·rcases hb with hb|hb
  ·exact Fa b hb
  ·have:=k1.size
   omega
 ·rcases hb with hb|hb
  ·exact k3 b hb
  ·intro q
   have:=k4.oX b q
   omega
theorem aD.T9 (h:aD c p t W0 O W B st wr) (hb:Below wr.heap.size wr w') {b0:Nat} (h0:wr.heap.size≤b0):aD c p t W0 O W (fun b=>B b∨b=b0) st w':=by
 have h':=h.later hb
 obtain⟨⟨k0,Y5,k01⟩,k1,O1,k2,k3,L1,U1,Z1,Yv,Yt,k4⟩:=h
 have k5:=k4.later hb
 obtain⟨-,h1,-⟩:=h'
 refine⟨⟨k0,Y5,fun b hb=> ?_⟩,h1,O1,k2,fun b hb=> ?_,L1,U1,Z1,Yv,Yt,k5⟩
 ·rcases hb with hb|hb
  ·exact k01 b hb
  ·have:=k1.size
   omega
 ·rcases hb with hb|hb
  ·exact k3 b hb
  ·intro q
   have:=k4.oX b q
   omega
theorem aD.set (h:aD c p t W0 O W B st wr) {b i:Nat} (hb:B b) (x:Value):aD c p t W0 O W B st (wr.setCell ⟨b,i,none⟩ x):=by
 obtain⟨⟨h0,tL,Fa⟩,h1,O',h2,h3,L,U,Z,vp,vw,h4⟩:=h
 exact⟨⟨h0,tL,Fa⟩,fQ h1 (Fa b hb) x,O',h2,h3,L,U,Z,vp,vw,h4.far (h3 b hb) (by have:=Fa b hb;omega) x⟩
theorem aD.drew (h:aD c p t W0 O W B st wr):aD c p t W0 O W B st wr.drew:=h.later ((Below.refl _ _).drew)
theorem aD.drewN (h:aD c p t W0 O W B st wr) (k:Nat):aD c p t W0 O W B st (wr.drewN k):=h.later (below_drewN (Below.refl _ _) k)
theorem aD.calls {f:FuncId} {args:Array Value} {R:Ending→Prop} (h:aD c p t W0 O W B st wr) (hB:∀b,B b→b<wr.heap.size)
 (hc:∀{O':Nat→Prop} {L U Z:Nat} {vp vw:Value},aQ c p t W0 O' st L U Z vp vw wr→Calls Tryz.prog f args wr fun e w'=>R e∧aT c p t W0 O' wr st' w'):
 Calls Tryz.prog f args wr fun e w'=>R e∧aD c p t W0 O W B st' w'∧∀b,B b→w'.heap[b]? =wr.heap[b]? :=by
 obtain⟨⟨h0,tL,Fa⟩,h1,O',h2,h3,L,U,Z,vp,vw,h4⟩:=h
 refine(hc h4).mono fun e w' ⟨he,hw,L',U',Z',oY,qo,h5⟩=>⟨he,⟨⟨h0,tL,Fa⟩,?_,_,fun b hb=> ?_,fun b hb q=> ?_,L',U',Z',oY,qo,h5⟩,fun b hb=>hw.block b (hB b hb) (h3 b hb)⟩
 ·refine⟨hw.os.trans h1.os,hw.tape.trans h1.tape,hw.output.trans h1.output,Nat.le_trans h1.size hw.size,fun k hk hn=> ?_⟩
  have hs:=h1.size
  exact(hw.block k (by omega) (fun q=>(h2 k q).elim hn fun q=>by omega)).trans (h1.block k hk hn)
 ·have hs:=h1.size
  rcases hb.1 with q|q
  ·exact h2 b q
  ·exact .inr (by omega)
 ·rcases q.1 with q|q
  ·exact h3 b hb q
  ·have:=hB b hb
   omega
theorem aD.reads {f:FuncId} {args:Array Value} {R:Ending→Prop} (h:aD c p t W0 O W B st wr) (hB:∀b,B b→b<wr.heap.size)
 (hc:∀{O':Nat→Prop} {L U Z:Nat} {vp vw:Value},aQ c p t W0 O' st L U Z vp vw wr→Calls Tryz.prog f args wr fun e w'=>R e∧Below wr.heap.size wr w'):
 Calls Tryz.prog f args wr fun e w'=>R e∧aD c p t W0 O W B st w'∧(∀b,B b→w'.heap[b]? =wr.heap[b]?)∧Below wr.heap.size wr w':=by
 have h':=h
 obtain⟨-,h1,O',h2,h3,L,U,Z,vp,vw,h4⟩:=h'
 exact(hc h4).mono fun e w' ⟨he,hw⟩=>⟨he,h.later hw,fun b hb=>hw.block b (hB b hb),hw⟩
theorem aD.LX (h:aD c p t W0 O W B st wr) {k:Nat} (hk:k<st.like.length):∃g,wr.cell? ⟨t,1,none⟩=some (.slice (some ⟨g,0,none⟩) c.es.length c.es.length)∧wr.cell? ⟨g,k,none⟩=some (.int .i64 (st.like[k]?.getD 0))∧wr.frozen? ⟨g,k,none⟩=false∧(∀b,B b→g≠b)∧k<c.es.length∧g≠t∧∀z,aD c p t W0 O W B { st with like:=st.like.set k z } (wr.setCell ⟨g,k,none⟩ (.int .i64 z)):=by
 obtain⟨h0,h1,O',h2,h3,L,U,Z,vp,vw,h4⟩:=h
 refine⟨L,h4.cells.2.1,nO h4.like hk,h4.like.free k,fun b hb e=>h3 b hb (by rw[←e];exact h4.oL),by rw[←h4.ll];exact hk,?_,fun z=>⟨h0,?_,O',h2,h3,L,U,Z,vp,vw,h4.zP k z⟩⟩
 ·have:=h4.n1
  omega
 ·rcases h2 L h4.oL with q|q
  ·exact h1.setCell q _
  ·exact fQ h1 q _
theorem aD.TM (h:aD c p t W0 O W B st wr) {k:Nat} (hk:k<st.turn.length):∃g,wr.cell? ⟨t,2,none⟩=some (.slice (some ⟨g,0,none⟩) c.es.length c.es.length)∧wr.cell? ⟨g,k,none⟩=some (.int .i64 (st.turn[k]?.getD 0))∧wr.frozen? ⟨g,k,none⟩=false∧(∀b,B b→g≠b)∧k<c.es.length∧g≠t∧∀z,aD c p t W0 O W B { st with turn:=st.turn.set k z } (wr.setCell ⟨g,k,none⟩ (.int .i64 z)):=by
 obtain⟨h0,h1,O',h2,h3,L,U,Z,vp,vw,h4⟩:=h
 refine⟨U,h4.cells.2.2.1,nO h4.turn hk,h4.turn.free k,fun b hb e=>h3 b hb (by rw[←e];exact h4.oU),by rw[←h4.lu];exact hk,?_,fun z=>⟨h0,?_,O',h2,h3,L,U,Z,vp,vw,h4.Ga k z⟩⟩
 ·have:=h4.n1
  omega
 ·rcases h2 U h4.oU with q|q
  ·exact h1.setCell q _
  ·exact fQ h1 q _
theorem aD.PD (h:aD c p t W0 O W B st wr) {k:Nat} (hk:k<st.lowest.length):∃g,wr.cell? ⟨t,5,none⟩=some (.slice (some ⟨g,0,none⟩) c.es.length c.es.length)∧wr.cell? ⟨g,k,none⟩=some (.int .i64 (st.lowest[k]?.getD 0))∧wr.frozen? ⟨g,k,none⟩=false∧(∀b,B b→g≠b)∧k<c.es.length∧g≠t∧∀z,aD c p t W0 O W B { st with lowest:=st.lowest.set k z } (wr.setCell ⟨g,k,none⟩ (.int .i64 z)):=by
 obtain⟨h0,h1,O',h2,h3,L,U,Z,vp,vw,h4⟩:=h
 refine⟨Z,h4.cells.2.2.2.2.2.1,nO h4.lowest hk,h4.lowest.free k,fun b hb e=>h3 b hb (by rw[←e];exact h4.oZ),by rw[←h4.lz];exact hk,?_,fun z=>⟨h0,?_,O',h2,h3,L,U,Z,vp,vw,h4.sW k z⟩⟩
 ·have:=h4.n1
  omega
 ·rcases h2 Z h4.oZ with q|q
  ·exact h1.setCell q _
  ·exact fQ h1 q _
def dQ (t:Nat) (w:World):Nat:=match w.cell? ⟨t,3,none⟩ with|some (.slice _ n _)=>n|_=>0
theorem aD.dQ (h:aD c p t W0 O W B st wr):dQ t wr=st.stk.length:=by
 obtain⟨-,-,O',-,-,L,U,Z,vp,vw,h4⟩:=h
 obtain⟨ao,cap,e,-⟩:=h4.qC.form
 have:=h4.cells.2.2.2.1
 rw[e] at this
 unfold Go.Proofs.YtnhcggfbkoppnaaGreat.dQ
 rw[this]
 simp
end
end
end Go.Proofs.YtnhcggfbkoppnaaGreat
