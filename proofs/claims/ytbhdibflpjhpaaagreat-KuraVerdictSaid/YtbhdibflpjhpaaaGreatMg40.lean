import Derived.Test.YtbhdibflpjhpaaaGreatMg23
set_option maxHeartbeats 8000000
set_option maxRecDepth 100000
namespace Go.Proofs.YtbhdibflpjhpaaaGreat
section
open Go.Proofs.Tryz
open Go.RowKit Lt
section
variable {c:Wp} {p t:Nat} {W0 W:World} {O:Nat->Prop} {st:TS} {L U Z:Nat} {vp vw:Value}
theorem WC {w:World} {g o:Nat} {q:Pr} (h:∀j u,(Fq q)[j]? =some u->w.cell? ⟨g,o+j,none⟩=some u):w.cell? ⟨g,o,none⟩=some (.int .i64 q.1.1)/\w.cell? ⟨g,o+1,none⟩=some (.int .i64 q.1.2)/\w.cell? ⟨g,o+2,none⟩=some (.int .i64 q.2.1)/\w.cell? ⟨g,o+3,none⟩=some (.int .i64 q.2.2):=
 ⟨h 0 _ rfl,h 1 _ rfl,h 2 _ rfl,h 3 _ rfl⟩
theorem jq (h:aS c p t W0 O st L U Z vp vw W) (hlen:st.stk.length<=8388608):Calls prog 74 #[.pointer (some ⟨t,0,none⟩)] W fun e w'=>e= .returned (gK (top st.stk))/\Below W.heap.size W w':=by
 obtain⟨W1,hW1⟩:∃W1,W1=W.alloc (.cells #[.int .i64 0,.int .i64 0,.int .i64 0,.int .i64 0] 129):=⟨_,rfl⟩;have hbl:W1.heap[W.heap.size]? =some (.cells #[.int .i64 0,.int .i64 0,.int .i64 0,.int .i64 0] 129 (0,0)):=by rw[hW1];exact heap_alloc_new W _
 have hb:Below W.heap.size W W1:=by rw[hW1];exact(aae _ _).alloc (aad _) _
 have h1:=h.later hb;obtain⟨-,-,-,x3,-,-,-⟩:=h1.cells;obtain⟨q0,q1,q2,q3,qf⟩:=ah hbl;have hlt:=lt_of_block hbl;have vY:=ζ hbl;have HB:=ζ hb;have HW:=ζ hW1;have ox:=h1.iX;cases hs:st.stk with
 |nil=>
  rw[hs] at ox;obtain⟨ao,cap,rfl,-⟩:=ox.form;rw[List.reverse_nil,acY] at x3;have hacc:=aae W1.heap.size W1;rw[hW1] at x3 hacc;rw[HW.out] at vY HB hlt;clear h h1 ox hbl hb hW1 hs hlen q0 q1 q2 q3 qf HW;go_enter func74,ntmps74;go_wp2_with (go_at_call 90;refine(qB _).mono ?_;rintro e w1 ⟨rfl,hb1⟩;have hacc:=hacc.trans (hb1.mono hacc.size);obtain⟨q0,q1,q2,q3,qf⟩:=ah ((hacc.block _ hlt).trans vY.out);clear hb1);obtain⟨r0,r1,r2,r3,-⟩:=ah (jy ((hacc.block _ hlt).trans vY.out) (.int .i64 (-1)) (.int .i64 (-1)) (.int .i64 (-1)) (.int .i64 (-1)));refine bodyPost_ret (v:=gK dN) (by simp[results,results74,go_sem,r0,r1,r2,r3]) rfl ?_;exact⟨rfl,fO (HB.out.trans (hacc.mono HB.out.size)) (aad _) _ _ _ _⟩
 |cons q ps=>
  rw[hs,ac4] at ox;obtain⟨g,cap,rfl,hc,-,-,-⟩:=ox.snoc LD;rw[acD] at hc x3;obtain⟨d0,d1,d2,d3⟩:=WC hc;obtain⟨k,hk⟩:∃k,ps.length=k:=⟨_,rfl⟩;rw[hk] at d0 d1 d2 d3 x3;rw[hs,abS,hk] at hlen;have e1:((k:Int)+1)-1=(k:Int):=by omega
  have e2:(0:Int)<=(k:Int):=by omega
  have e3:(k:Int)<(k:Int)+1:=by omega
  have e4:((k:Int)+1==0)=false:=by simp only[beq_eq_false_iff_ne,ne_eq];omega
  obtain⟨⟨a,b⟩,a',b'⟩:=q;dsimp only at d0 d1 d2 d3;have anB:g≠W.heap.size:=fun e=>by
   have:=(h.iX.lt (b:=g) rfl).2;omega
  rw[hW1] at x3 d0 d1 d2 d3 q0 q1 q2 q3 qf;rw[HW.out] at vY HB hlt;clear h h1 ox hbl hb hW1 hs hc hk HW;go_enter func74,ntmps74;go_wp2_with fail;go_big_region;go_wp2;obtain⟨r0,r1,r2,r3,-⟩:=ah (w:=(W.alloc (.cells #[.int .i64 a,.int .i64 b,.int .i64 a',.int .i64 b'] 129)).drew) (heap_alloc_new W _);refine bodyPost_ret (v:=gK ((a,b),a',b')) (by simp[results,results74,go_sem,r0,r1,r2,r3]) rfl ?_;exact⟨rfl,((aae _ _).alloc (aad _) _).drew⟩
def aW (c:Wp) (p t:Nat) (W0:World) (O:Nat->Prop) (W:World) (st':TS) (w':World):Prop:=
 az O W w'/\Ts c p t W0 (fun b=>(O b\/W.heap.size<=b)/\b<w'.heap.size) st' w'
theorem aW.next {W1 w':World} {fX st':TS} (h:aW c p t W0 O W fX W1) (h':aW c p t W0 (fun b=>(O b\/W.heap.size<=b)/\b<W1.heap.size) W1 st' w'):aW c p t W0 O W st' w':=by
 refine⟨⟨h'.1.os.trans h.1.os,h'.1.tape.trans h.1.tape,h'.1.output.trans h.1.output,acA h.1.size h'.1.size,fun k hk hn=> ?_⟩,?_⟩
 .have:=h.1.size
  exact(h'.1.block k (by omega) (fun q=>q.1.elim hn fun q=>by omega)).trans (h.1.block k hk hn)
 .obtain⟨L,U,Z,vp,vw,h2⟩:=h'.2
  have hs:=h.1.size;refine⟨L,U,Z,vp,vw,h2.more (fun b hb=>⟨?_,hb.2⟩) (fun b hb=> ?_) (fun b hb=>hb.2)⟩
  .rcases hb.1 with q|q
   .exact q.1
   .exact .inr (by omega)
  .obtain⟨L',U',Z',sZ,vO,h3⟩:=h.2
   by_cases hlt:b<W1.heap.size
   .exact h3.oB b ⟨hb.1,hlt⟩
   .have:=h3.aZ.size
    omega
theorem aW.pre {W1 w':World} {st':TS} (hB:W0.heap.size<=W.heap.size) (hb:Below W.heap.size W W1) (h':aW c p t W0 O W1 st' w'):aW c p t W0 O W st' w':=by
 refine⟨⟨h'.1.os.trans hb.os,h'.1.tape.trans hb.tape,h'.1.output.trans hb.output,acA hb.size h'.1.size,fun k hk hn=> ?_⟩,?_⟩
 .have:=hb.size
  exact(h'.1.block k (by omega) hn).trans (hb.block k hk)
 .obtain⟨L,U,Z,vp,vw,h2⟩:=h'.2
  refine⟨L,U,Z,vp,vw,h2.more (fun b hb'=>⟨?_,hb'.2⟩) (fun b hb'=> ?_) (fun b hb'=>hb'.2)⟩
  .have:=hb.size
   rcases hb'.1 with q|q
   .exact .inl q
   .exact .inr (by omega)
  .rcases hb'.1 with q|q
   .exact h2.oB b ⟨.inl q,hb'.2⟩
   .omega
theorem aS.post {V:World} (hB:W0.heap.size<=W.heap.size) (hw:az O W V) (h':aS c p t W0 O st L U Z vp vw V):aW c p t W0 O W st V:=
 ⟨hw,L,U,Z,vp,vw,h'.more (fun b hb=>⟨.inl hb,h'.oX b hb⟩) (fun b hb=>hb.1.elim (h'.oB b) fun q=>by omega) (fun b hb=>hb.2)⟩
theorem uK (h:aS c p t W0 O st L U Z vp vw W) {q:Pr} {ps:List Pr} (hs:st.stk=q::ps) (hlen:st.stk.length<=8388608):Calls prog 107 #[.pointer (some ⟨t,0,none⟩)] W fun e w'=>e= .returned (.tuple #[])/\aW c p t W0 O W { st with stk:=ps } w':=by
 obtain⟨-,-,-,x3,-,-,xf⟩:=h.cells;have ox:=h.iX;rw[hs,ac4] at ox;obtain⟨g,cap,rfl,-,hcap,-,hown⟩:=ox.snoc LD;rw[acD] at x3 hcap hown;have bX:Hid (∀k,aW c p t W0 O W { st with stk:=ps } ((W.drewN k).setCell ⟨t,3,none⟩ (.slice (some ⟨g,0,none⟩) ps.length cap))):=by
  intro k;refine⟨((az.refl O W).drewN k).setCell h.oT _,L,U,Z,_,vw,(h.PD (W1:=W.drewN k) (below_drewN h.aZ k) (fun b _ _=>rfl) (aad _) hown (.inl rfl)).2.2.2⟩
 obtain⟨k,hk⟩:∃k,ps.length=k:=⟨_,rfl⟩;rw[hk] at x3 hcap bX;rw[hs,abS,hk] at hlen;have e1:((k:Int)+1)-1=(k:Int):=by omega
 have e2:(0:Int)<=(k:Int):=by omega
 have e3:(k:Int)<=(cap:Int):=by omega
 clear h ox hs hk hown;go_enter func107,ntmps107;go_wp2_with fail;go_big_region;go_wp2
 go_end0
 exact⟨rfl,bX.out _⟩
end
end
section
open Go.Proofs.Tryz
open Go.RowKit Lt
noncomputable abbrev Wp.lw (c:Wp):List Int:=upTo (Lo.low c.es c.s) c.es.length
theorem iC {l:List Int} {i a:Int} (h:bF l i=some a):∃k:Nat,i=(k:Int)/\k<l.length/\l[k]? =some a:=by
 unfold bF at h
 split at h
 .rename_i h0
  exact⟨i.toNat,by omega,(aaf.1 h).1,h⟩
 .cases h
theorem lR {l l':List Int} {i z:Int} (h:fE l i z=some l'):∃k:Nat,i=(k:Int)/\k<l.length/\l'=l.set k z:=by
 unfold fE at h
 split at h
 .rename_i h0
  cases h;exact⟨i.toNat,by omega,by omega,rfl⟩
 .cases h
theorem kO {c:Wp} {i a:Int} (h:bF c.lw i=some a):∃k:Nat,i=(k:Int)/\k<c.es.length/\Lo.low c.es c.s k=a:=by
 obtain⟨k,h1,h2,h3⟩:=iC h;rw[gm] at h2;rw[iR h2] at h3;exact⟨k,h1,h2,aal h3⟩
section
variable {c:Wp} {p t:Nat} {W0 W:World} {O:Nat->Prop} {st:TS} {L U Z:Nat} {vp vw:Value}
theorem aS.low (h:aS c p t W0 O st L U Z vp vw W) {x:Nat} (hx:x<c.es.length):∃gl cl,∀V,Below W.heap.size W V->V.cell? ⟨t,0,none⟩=some (.pointer (some ⟨p,0,none⟩))/\V.cell? ⟨p,6,none⟩=some (.slice (some ⟨gl,0,none⟩) c.es.length cl)/\∀y,y<c.es.length->V.cell? ⟨gl,y,none⟩=some (.int .i64 (Lo.low c.es c.s y)):=by
 obtain⟨gl,cl,e,hc⟩:=h.now.aau hx;refine⟨gl,cl,fun V hV=>⟨(h.later hV).cells.1,?_,fun y hy=>hc V hV y hy⟩⟩;rw[<-e];exact(h.now.later hV).c6
theorem Hj (h:aS c p t W0 O st L U Z vp vw W) {i:Iv} {e:Nat} {b:Bool} (hh:gW c.lw i (e:Int)=some b):Calls prog 130 #[.pointer (some ⟨t,0,none⟩),fj i,.int .i64 (e:Int)] W fun r w'=>r= .returned (.bool b)/\Below W.heap.size W w':=by
 obtain⟨a,d⟩:=i;have dH:=h.wk.val.few;obtain⟨W1,hW1⟩:∃W1,W1=W.alloc (.cells #[.int .i64 a,.int .i64 d] 127):=⟨_,rfl⟩;have hbl:W1.heap[W.heap.size]? =some (.cells #[.int .i64 a,.int .i64 d] 127 (0,0)):=by rw[hW1];exact heap_alloc_new W _
 have hb:Below W.heap.size W W1:=by rw[hW1];exact(aae _ _).alloc (aad _) _
 have hlt:=lt_of_block hbl;have h1:=h.later hb;have y0:∀D:LW W1,D.val.cell? ⟨W.heap.size,0,none⟩=some (.int .i64 a):=fun D=>(aj ((D.h.block _ hlt).trans hbl)).1
 have y1:∀D:LW W1,D.val.cell? ⟨W.heap.size,1,none⟩=some (.int .i64 d):=fun D=>(aj ((D.h.block _ hlt).trans hbl)).2.1
 have jA:Hid (∀D:LW W1,Calls prog 108 #[.agg #[.int .i64 a,.int .i64 d]] D.val fun e w'=>e= .returned (.bool (decide ((a,d)=aP)))/\Below D.val.heap.size D.val w'):=fun D=>eZ (a,d) D.val
 have bX:Hid (∀D:LW W1,Below W.heap.size W D.val):=fun D=>hb.trans (D.h.mono hb.size)
 have HW:=ζ hW1;have hne:=LW.any W1;unfold gW at hh;by_cases hn:(a,d)=aP
 .rw[if_pos hn] at hh
  cases hh;have e1:decide ((a,d)=aP)=true:=decide_eq_true hn;rw[e1] at jA;clear h hW1 hbl hb hlt h1 hn e1;go_enter func130,ntmps130;go_wp2_with fail;rw[<-HW.out];refine aG (by kernel_rfl) (by kernel_rfl) ?_
  repeat (go_big_quiet_step ((first|(go_at_call 108;exact Calls.lw (jA.out _)))))
  refine wpQuiet_nil ?_;rintro _ ⟨D,rfl⟩;clear y0 y1;go_wp2;go_ret;exact⟨rfl,bX.out D⟩
 .rw[if_neg hn] at hh
  cases ha:bF c.lw a with
  |none=>rw[ha] at hh;cases hh
  |some x=>
   cases he:bF c.lw (e:Int) with
   |none=>rw[ha,he] at hh;cases hh
   |some y=>
    rw[ha,he] at hh;cases hh;obtain⟨k,rfl,hk,vV⟩:=kO ha;obtain⟨k',hk',zZ,Zd⟩:=kO he;obtain rfl:e=k':=by omega
    obtain⟨gl,cl,hc⟩:=h1.low hk;have e1:decide (((k:Int),d)=aP)=false:=decide_eq_false hn;rw[e1] at jA;have z0:∀D:LW W1,D.val.cell? ⟨t,0,none⟩=some (.pointer (some ⟨p,0,none⟩)):=fun D=>(hc D.val D.h).1
    have z1:∀D:LW W1,D.val.cell? ⟨p,6,none⟩=some (.slice (some ⟨gl,0,none⟩) c.es.length cl):=fun D=>(hc D.val D.h).2.1
    have z2:∀D:LW W1,D.val.cell? ⟨gl,k,none⟩=some (.int .i64 x):=fun D=>by rw[<-vV];exact(hc D.val D.h).2.2 k hk
    have z3:∀D:LW W1,D.val.cell? ⟨gl,e,none⟩=some (.int .i64 y):=fun D=>by rw[<-Zd];exact(hc D.val D.h).2.2 e zZ
    have v0:(0:Int)<=(k:Int):=by omega
    have v1:(k:Int)<(c.es.length:Int):=by omega
    have v2:(0:Int)<=(e:Int):=by omega
    have v3:(e:Int)<(c.es.length:Int):=by omega
    clear h hW1 hbl hb hlt h1 hn e1 ha he vV Zd hc hk' hk zZ;go_enter func130,ntmps130;go_wp2_with fail;rw[<-HW.out];refine aG (by kernel_rfl) (by kernel_rfl) ?_
    repeat (go_big_quiet_step ((first|(go_at_call 108;exact Calls.lw (jA.out _)))))
    refine wpQuiet_nil ?_;rintro _ ⟨D,rfl⟩;clear y0 y1 z0 z1 z2 z3;go_wp2;go_ret;exact⟨rfl,bX.out D⟩
theorem JP (h:aS c p t W0 O st L U Z vp vw W) {q:Pr} {z:Int} (hh:least c.lw q=some z):Calls prog 106 #[.pointer (some ⟨t,0,none⟩),gK q] W fun r w'=>r= .returned (.int .i64 z)/\Below W.heap.size W w':=by
 obtain⟨⟨a,d⟩,a',d'⟩:=q;have dH:=h.wk.val.few;obtain⟨W1,hW1⟩:∃W1,W1=W.alloc (.cells #[.int .i64 a,.int .i64 d,.int .i64 a',.int .i64 d'] 129):=⟨_,rfl⟩;have hbl:W1.heap[W.heap.size]? =some (.cells #[.int .i64 a,.int .i64 d,.int .i64 a',.int .i64 d'] 129 (0,0)):=by rw[hW1];exact heap_alloc_new W _
 have hb:Below W.heap.size W W1:=by rw[hW1];exact(aae _ _).alloc (aad _) _
 have hlt:=lt_of_block hbl;have h1:=h.later hb;have jA:Hid (∀(i:Iv) (w:World),Calls prog 108 #[fj i] w fun e w'=>e= .returned (.bool (decide (i=aP)))/\Below w.heap.size w w'):=eZ;have HB:=ζ hb;have vY:=ζ hbl;obtain⟨q0,q1,q2,q3,-⟩:=ah hbl;have hacc:=aae W1.heap.size W1;unfold least at hh;dsimp only at hh;by_cases hn:(a,d)=aP
 .rw[if_pos hn] at hh
  obtain⟨k,hkk,hk,vV⟩:=kO hh;obtain⟨gl,cl,hc⟩:=h1.low hk;have HC:=ζ hc;have e1:decide ((a,d)=aP)=true:=decide_eq_true hn;have uC:Hid (∀w,Calls prog 108 #[.agg #[.int .i64 a,.int .i64 d]] w fun e w'=>e= .returned (.bool true)/\Below w.heap.size w w'):=fun w=>by rw[<-e1];exact jA.out (a,d) w
  have v0:(0:Int)<=(k:Int):=by omega
  have v1:(k:Int)<(c.es.length:Int):=by omega
  subst hkk;rw[hW1] at q0 q1 q2 q3 hacc;rw[hW1] at HB vY HC hlt;clear h hW1 hbl hb h1 hn e1 hc hh jA;go_enter func106,ntmps106;go_wp2_with (go_at_call 108;refine(uC.out _).mono ?_;rintro e w1 ⟨rfl,hb1⟩;have hacc:=hacc.trans (hb1.mono hacc.size);clear hb1;obtain⟨q0,q1,q2,q3,-⟩:=ah ((hacc.block _ hlt).trans vY.out);obtain⟨z0,z1,z2⟩:=HC.out _ hacc;have z3:=z2 k hk;rw[vV] at z3;clear z2);go_quiet (fail);go_wp2;go_ret;exact⟨rfl,below_drewN (HB.out.trans (hacc.mono HB.out.size)) _⟩
 .rw[if_neg hn] at hh
  have e1:decide ((a,d)=aP)=false:=decide_eq_false hn;by_cases hn2:(a',d')=aP
  .rw[if_pos hn2] at hh
   obtain⟨k,hkk,hk,vV⟩:=kO hh;subst hkk;obtain⟨gl,cl,hc⟩:=h1.low hk;have HC:=ζ hc;have e2:decide ((a',d')=aP)=true:=decide_eq_true hn2;have uC:Hid (∀w,Calls prog 108 #[.agg #[.int .i64 a,.int .i64 (k:Int)]] w fun e w'=>e= .returned (.bool false)/\Below w.heap.size w w'):=fun w=>by rw[<-e1];exact jA.out (a,(k:Int)) w
   have EZ:Hid (∀w,Calls prog 108 #[.agg #[.int .i64 a',.int .i64 d']] w fun e w'=>e= .returned (.bool true)/\Below w.heap.size w w'):=fun w=>by rw[<-e2];exact jA.out (a',d') w
   have hne:d'≠(k:Int):=fun e=>by
    have:=congrArg Prod.snd hn2;dsimp only at this;omega
   have v0:(0:Int)<=(k:Int):=by omega
   have v1:(k:Int)<(c.es.length:Int):=by omega
   rw[hW1] at q0 q1 q2 q3 hacc;rw[hW1] at HB vY HC hlt;have HN:=ζ hne;clear h hW1 hbl hb h1 hn e1 e2 hn2 hc hh jA hne;go_enter func106,ntmps106;go_wp2_with (go_at_call 108;first|(with_reducible refine(uC.out _).mono ?_;rintro e w1 ⟨rfl,hb1⟩;have hacc:=hacc.trans (hb1.mono hacc.size);clear hb1;obtain⟨q0,q1,q2,q3,-⟩:=ah ((hacc.block _ hlt).trans vY.out);obtain⟨z0,z1,z2⟩:=HC.out _ hacc;have z3:=z2 k hk;rw[vV] at z3;clear z2)|(with_reducible refine(EZ.out _).mono ?_;rintro e w1 ⟨rfl,hb1⟩;have hacc:=hacc.trans (hb1.mono hacc.size);clear hb1;obtain⟨q0,q1,q2,q3,-⟩:=ah ((hacc.block _ hlt).trans vY.out);obtain⟨z0,z1,z2⟩:=HC.out _ hacc;have z3:=z2 k hk;rw[vV] at z3;clear z2));go_quiet (fail);go_wp2;go_ret;exact⟨rfl,below_drewN (HB.out.trans (hacc.mono HB.out.size)) _⟩
  .rw[if_neg hn2] at hh
   cases ha:bF c.lw d with
   |none=>rw[ha] at hh;cases hh
   |some x=>
    cases hb':bF c.lw d' with
    |none=>rw[ha,hb'] at hh;cases hh
    |some y=>
     rw[ha,hb'] at hh;cases hh;obtain⟨k,hkk,hk,vV⟩:=kO ha;obtain⟨k',hkk',hk',aaX⟩:=kO hb';subst hkk;subst hkk';obtain⟨gl,cl,hc⟩:=h1.low hk;have HC:=ζ hc;have e2:decide ((a',(k':Int))=aP)=false:=decide_eq_false hn2;have uC:Hid (∀w,Calls prog 108 #[.agg #[.int .i64 a,.int .i64 (k:Int)]] w fun e w'=>e= .returned (.bool false)/\Below w.heap.size w w'):=fun w=>by rw[<-e1];exact jA.out (a,(k:Int)) w
     have EZ:Hid (∀w,Calls prog 108 #[.agg #[.int .i64 a',.int .i64 (k':Int)]] w fun e w'=>e= .returned (.bool false)/\Below w.heap.size w w'):=fun w=>by rw[<-e2];exact jA.out (a',(k':Int)) w
     have v0:(0:Int)<=(k:Int):=by omega
     have v1:(k:Int)<(c.es.length:Int):=by omega
     have v2:(0:Int)<=(k':Int):=by omega
     have v3:(k':Int)<(c.es.length:Int):=by omega
     rw[hW1] at q0 q1 q2 q3 hacc;rw[hW1] at HB vY HC hlt;clear h hW1 hbl hb h1 hn e1 e2 hn2 hc ha hb' jA;go_enter func106,ntmps106;go_wp2_with (go_at_call 108;first|(with_reducible refine(uC.out _).mono ?_;rintro e w1 ⟨rfl,hb1⟩;have hacc:=hacc.trans (hb1.mono hacc.size);clear hb1;obtain⟨q0,q1,q2,q3,-⟩:=ah ((hacc.block _ hlt).trans vY.out);obtain⟨z0,z1,z2⟩:=HC.out _ hacc;have z3:=z2 k hk;have z4:=z2 k' hk';rw[vV] at z3;rw[aaX] at z4;clear z2)|(with_reducible refine(EZ.out _).mono ?_;rintro e w1 ⟨rfl,hb1⟩;have hacc:=hacc.trans (hb1.mono hacc.size);clear hb1;obtain⟨q0,q1,q2,q3,-⟩:=ah ((hacc.block _ hlt).trans vY.out);obtain⟨z0,z1,z2⟩:=HC.out _ hacc;have z3:=z2 k hk;have z4:=z2 k' hk';rw[vV] at z3;rw[aaX] at z4;clear z2));go_quiet (fail);go_wp2
     all_goals(go_ret;exact⟨by first|rfl|(rw[show min x y=y by omega];rfl)|(rw[show min x y=x by omega];rfl),below_drewN (HB.out.trans (hacc.mono HB.out.size)) _⟩)
end
end
section
open Go.Proofs.Tryz
open Go.RowKit Lt
section
variable {c:Wp} {p t:Nat} {W0 W:World} {O:Nat->Prop} {st:TS} {L U Z:Nat} {vp vw:Value}
theorem gQ {S:Nat->Prop} {w V:World} {b i:Nat} (h:az S w V) (hb:w.heap.size<=b) (x:Value):az S w (V.setCell ⟨b,i,none⟩ x):=
 ⟨h.os,h.tape,h.output,by simpa using h.size,fun k hk hn=>(heap_setCell_other V ⟨b,i,none⟩ k x (fun e=>by have e':k=b:=e;omega)).trans (h.block k hk hn)⟩
theorem aS.far (h:aS c p t W0 O st L U Z vp vw W) {b i:Nat} (hb:¬O b) (hB:W0.heap.size<=b) (x:Value):aS c p t W0 O st L U Z vp vw (W.setCell ⟨b,i,none⟩ x):=
 h.same (h.aZ.setCell (p:=⟨b,i,none⟩) hB x) (by simp) fun k hk _=>heap_setCell_other W ⟨b,i,none⟩ k _ (fun e=>hb (by rw[<-show k=b from e];exact hk))
theorem aS.drew (h:aS c p t W0 O st L U Z vp vw W):aS c p t W0 O st L U Z vp vw W.drew:=h.later ((aae _ _).drew)
theorem aW.drew {V:World} {st':TS} (h:aW c p t W0 O W st' V):aW c p t W0 O W st' V.drew:=by
 obtain⟨h1,L',U',Z',sZ,vO,h2⟩:=h;exact⟨h1.drew,L',U',Z',sZ,vO,h2.drew⟩
theorem wM (h:aS c p t W0 O st L U Z vp vw W) {u l i:Iv} {aC:List Int} (hj:join st.like u l=some (aC,i)):Calls prog 129 #[.pointer (some ⟨t,1,none⟩),fj u,fj l] W fun r w'=>r= .returned (fj i)/\aW c p t W0 O W { st with like:=aC } w':=by
 obtain⟨a,b⟩:=u;obtain⟨a',b'⟩:=l;have dH:=h.wk.val.few;have hB0:=h.aZ.size;obtain⟨W1,hW1⟩:∃W1,W1=((W.alloc (.cells #[.int .i64 a,.int .i64 b] 127)).alloc (.cells #[.int .i64 a',.int .i64 b'] 127)).alloc (.cells #[.int .i64 0,.int .i64 0] 127):=⟨_,rfl⟩;have hb:Below W.heap.size W W1:=by rw[hW1];exact(((aae _ _).alloc (aad _) _).alloc (by simp) _).alloc (by simp;omega) _
 have hsz:W1.heap.size=W.heap.size+3:=by rw[hW1];simp
 have hu:W1.heap[W.heap.size]? =some (.cells #[.int .i64 a,.int .i64 b] 127 (0,0)):=by
  rw[hW1,ab2 _ _ _ (by simp;omega),ab2 _ _ _ (by simp)];exact heap_alloc_new W _
 have hl:W1.heap[W.heap.size+1]? =some (.cells #[.int .i64 a',.int .i64 b'] 127 (0,0)):=by
  rw[hW1,ab2 _ _ _ (by simp)];have:=heap_alloc_new (W.alloc (.cells #[.int .i64 a,.int .i64 b] 127)) (.cells #[.int .i64 a',.int .i64 b'] 127);simpa using this
 have hr:W1.heap[W.heap.size+1+1]? =some (.cells #[.int .i64 0,.int .i64 0] 127 (0,0)):=by
  rw[hW1];have:=heap_alloc_new ((W.alloc (.cells #[.int .i64 a,.int .i64 b] 127)).alloc (.cells #[.int .i64 a',.int .i64 b'] 127)) (.cells #[.int .i64 0,.int .i64 0] 127);simpa using this
 have h1:=h.later hb;have jA:Hid (∀(i:Iv) (w:World),Calls prog 108 #[fj i] w fun e w'=>e= .returned (.bool (decide (i=aP)))/\Below w.heap.size w w'):=eZ;have hacc:=aae W1.heap.size W1;have HS:Hid (∀V,Below W1.heap.size W1 V->V.cell? ⟨W.heap.size,0,none⟩=some (.int .i64 a)/\V.cell? ⟨W.heap.size,1,none⟩=some (.int .i64 b)/\V.cell? ⟨W.heap.size+1,0,none⟩=some (.int .i64 a')/\V.cell? ⟨W.heap.size+1,1,none⟩=some (.int .i64 b')/\V.heap[W.heap.size+1+1]? =some (.cells #[.int .i64 0,.int .i64 0] 127 (0,0))/\aS c p t W0 O st L U Z vp vw V):=fun V hV=>by
  obtain⟨x0,x1,-⟩:=aj ((hV.block _ (by omega)).trans hu);obtain⟨x2,x3,-⟩:=aj ((hV.block _ (by omega)).trans hl);exact⟨x0,x1,x2,x3,(hV.block _ (by omega)).trans hr,h1.later hV⟩
 have hwr:∀V,Below W1.heap.size W1 V->az O W V:=fun V hV=>((az.refl O W).later hb).later hV
 have HO:Hid (∀b,O b->b<W.heap.size):=h.oX;have bX:Hid (∀V x y,az O W V->aS c p t W0 O { st with like:=aC } L U Z vp vw V->V.heap[W.heap.size+1+1]? =some (.cells #[.int .i64 0,.int .i64 0] 127 (0,0))->aW c p t W0 O W { st with like:=aC } ((V.setCell ⟨W.heap.size+1+1,0,none⟩ x).setCell ⟨W.heap.size+1+1,1,none⟩ y)/\((V.setCell ⟨W.heap.size+1+1,0,none⟩ x).setCell ⟨W.heap.size+1+1,1,none⟩ y).cell? ⟨W.heap.size+1+1,0,none⟩=some x/\((V.setCell ⟨W.heap.size+1+1,0,none⟩ x).setCell ⟨W.heap.size+1+1,1,none⟩ y).cell? ⟨W.heap.size+1+1,1,none⟩=some y):=fun V x y hw hT hc=>by
  have Vj:¬O (W.heap.size+1+1):=fun q=>by have:=HO.out _ q;omega
  obtain⟨r0,r1,-⟩:=aj (ju hc x y);exact⟨aS.post hB0 (gQ (gQ hw (by omega) x) (by omega) y) ((hT.far Vj (by omega) x).far Vj (by omega) y),r0,r1⟩
 obtain⟨x0,x1,x2,x3,xr,xT⟩:=HS.out _ hacc;obtain⟨zx,zw,zv⟩:=aj xr;have lD:=ζ hwr;unfold join at hj;by_cases hn:(a,b)=aP
 .rw[if_pos hn] at hj
  cases hj;have e1:decide ((a,b)=aP)=true:=decide_eq_true hn;have uC:Hid (∀w,Calls prog 108 #[.agg #[.int .i64 a,.int .i64 b]] w fun e w'=>e= .returned (.bool true)/\Below w.heap.size w w'):=fun w=>by rw[<-e1];exact jA.out (a,b) w
  rw[hW1] at x0 x1 x2 x3 zx zw zv hacc;rw[hW1] at HS lD;clear h hW1 hb hu hl hr h1 hn e1 jA xr xT hsz hwr hB0;go_enter func129,ntmps129;go_wp2_with (go_at_call 108;refine(uC.out _).mono ?_;rintro e w1 ⟨rfl,hb1⟩;have hacc:=hacc.trans (hb1.mono hacc.size);clear hb1;obtain⟨x0,x1,x2,x3,xr,xT⟩:=HS.out _ hacc;obtain⟨zx,zw,zv⟩:=aj xr;have BW:=ζ xr;have pq:=ζ xT;clear xr xT);obtain⟨k1,r0,r1⟩:=bX.out w1 (.int .i64 a') (.int .i64 b') (lD.out _ hacc) pq.out BW.out;refine bodyPost_ret (v:=fj (a',b')) (by simp[results,results129,go_sem,r0,r1]) rfl ?_;exact⟨rfl,k1⟩
 .rw[if_neg hn] at hj
  have e1:decide ((a,b)=aP)=false:=decide_eq_false hn;have uC:Hid (∀w,Calls prog 108 #[.agg #[.int .i64 a,.int .i64 b]] w fun e w'=>e= .returned (.bool false)/\Below w.heap.size w w'):=fun w=>by rw[<-e1];exact jA.out (a,b) w
  by_cases hn2:(a',b')=aP
  .rw[if_pos hn2] at hj
   cases hj;have e2:decide ((a',b')=aP)=true:=decide_eq_true hn2;have EZ:Hid (∀w,Calls prog 108 #[.agg #[.int .i64 a',.int .i64 b']] w fun e w'=>e= .returned (.bool true)/\Below w.heap.size w w'):=fun w=>by rw[<-e2];exact jA.out (a',b') w
   rw[hW1] at x0 x1 x2 x3 zx zw zv hacc;rw[hW1] at HS lD;clear h hW1 hb hu hl hr h1 hn hn2 e1 e2 jA xr xT hsz hwr hB0;go_enter func129,ntmps129;go_wp2_with (go_at_call 108;first|(with_reducible refine(uC.out _).mono ?_;rintro e w1 ⟨rfl,hb1⟩;have hacc:=hacc.trans (hb1.mono hacc.size);clear hb1;obtain⟨x0,x1,x2,x3,xr,xT⟩:=HS.out _ hacc;obtain⟨zx,zw,zv⟩:=aj xr;have BW:=ζ xr;have pq:=ζ xT;clear xr xT)|(with_reducible refine(EZ.out _).mono ?_;rintro e w1 ⟨rfl,hb1⟩;have hacc:=hacc.trans (hb1.mono hacc.size);clear hb1;obtain⟨x0,x1,x2,x3,xr,xT⟩:=HS.out _ hacc;obtain⟨zx,zw,zv⟩:=aj xr;have BW:=ζ xr;have pq:=ζ xT;clear xr xT));obtain⟨k1,r0,r1⟩:=bX.out w1 (.int .i64 a) (.int .i64 b) (lD.out _ hacc) pq.out BW.out;refine bodyPost_ret (v:=fj (a,b)) (by simp[results,results129,go_sem,r0,r1]) rfl ?_;exact⟨rfl,k1⟩
  .rw[if_neg hn2] at hj
   cases hp:fE st.like (a,b).2 (a',b').1 with
   |none=>rw[hp] at hj;cases hj
   |some lk=>
    rw[hp] at hj;cases hj;obtain⟨k,hk,hkl,rfl⟩:=lR hp;dsimp only at hk;subst hk;have hkm:k<c.es.length:=by rw[<-h.ll];exact hkl
    have e2:decide ((a',b')=aP)=false:=decide_eq_false hn2;have EZ:Hid (∀w,Calls prog 108 #[.agg #[.int .i64 a',.int .i64 b']] w fun e w'=>e= .returned (.bool false)/\Below w.heap.size w w'):=fun w=>by rw[<-e2];exact jA.out (a',b') w
    have HL:Hid (∀V,aS c p t W0 O st L U Z vp vw V->V.cell? ⟨t,1,none⟩=some (.slice (some ⟨L,0,none⟩) c.es.length c.es.length)/\(∃z,V.cell? ⟨L,k,none⟩=some (.int .i64 z))/\V.frozen? ⟨L,k,none⟩=false):=fun V hV=>⟨hV.cells.2.1,⟨_,p5 hV.like hkl⟩,hV.like.free k⟩
    have v0:(0:Int)<=(k:Int):=by omega
    have v1:(k:Int)<(c.es.length:Int):=by omega
    have Ph:Hid (O L/\L≠W.heap.size/\L≠W.heap.size+1/\L≠W.heap.size+1+1):=⟨h.oL,by have:=h.oX L h.oL;omega,by have:=h.oX L h.oL;omega,by have:=h.oX L h.oL;omega⟩;have n1:=Ph.out.2.1;have n2:=Ph.out.2.2.1;have n3:=Ph.out.2.2.2;rw[hW1] at x0 x1 x2 x3 zx zw zv hacc;rw[hW1] at HS lD;clear h hW1 hb hu hl hr h1 hn hn2 e1 e2 jA xr xT hsz hwr hB0 hp hkl hkm;go_enter func129,ntmps129;go_wp2_with (go_at_call 108;first|(with_reducible refine(uC.out _).mono ?_;rintro e w1 ⟨rfl,hb1⟩;have hacc:=hacc.trans (hb1.mono hacc.size);clear hb1;obtain⟨x0,x1,x2,x3,xr,xT⟩:=HS.out _ hacc;obtain⟨zx,zw,zv⟩:=aj xr;have BW:=ζ xr;have pq:=ζ xT;obtain⟨l0,⟨lz,l1⟩,l2⟩:=HL.out _ xT;clear xr xT)|(with_reducible refine(EZ.out _).mono ?_;rintro e w1 ⟨rfl,hb1⟩;have hacc:=hacc.trans (hb1.mono hacc.size);clear hb1;obtain⟨x0,x1,x2,x3,xr,xT⟩:=HS.out _ hacc;obtain⟨zx,zw,zv⟩:=aj xr;have BW:=ζ xr;have pq:=ζ xT;obtain⟨l0,⟨lz,l1⟩,l2⟩:=HL.out _ xT;clear xr xT));go_big_region;go_wp2;obtain⟨k1,r0,r1⟩:=bX.out (w1.setCell ⟨L,k,none⟩ (.int .i64 a')) (.int .i64 a) (.int .i64 b') ((lD.out _ hacc).setCell Ph.out.1 _) (pq.out.CX k a') ((heap_setCell_other w1 ⟨L,k,none⟩ _ _ (fun e=>n3 e.symm)).trans BW.out);generalize ((w1.setCell ⟨L,k,none⟩ (.int .i64 a')).setCell ⟨W.heap.size+1+1,0,none⟩ (.int .i64 a)).setCell ⟨W.heap.size+1+1,1,none⟩ (.int .i64 b')=V at*;have k2:=k1.drew;have r2:V.drew.cell? ⟨W.heap.size+1+1,0,none⟩=some (.int .i64 a):=r0;have r3:V.drew.cell? ⟨W.heap.size+1+1,1,none⟩=some (.int .i64 b'):=r1;refine bodyPost_ret (v:=fj (a,b')) (by simp[results,results129,go_sem,r2,r3]) rfl ?_;exact⟨rfl,k2⟩
end
end
section
open Go.Proofs.Tryz
open Go.RowKit Lt
section
variable {c:Wp} {p t:Nat} {W0 W:World} {O:Nat->Prop} {st:TS} {L U Z:Nat} {vp vw:Value}
theorem FM (h:aS c p t W0 O st L U Z vp vw W) {i o j:Iv} {hh:Int} {aC bz:List Int} (hj:cut c.lw hh st.like st.turn i o=some (aC,bz,j)):Calls prog 109 #[.pointer (some ⟨t,0,none⟩),fj i,fj o,.int .i64 hh] W fun r w'=>r= .returned (fj j)/\aW c p t W0 O W { st with like:=aC,turn:=bz } w':=by
 obtain⟨a,b⟩:=i;obtain⟨a',b'⟩:=o;have dH:=h.wk.val.few;have hB0:=h.aZ.size;obtain⟨W1,hW1⟩:∃W1,W1=((W.alloc (.cells #[.int .i64 a,.int .i64 b] 127)).alloc (.cells #[.int .i64 a',.int .i64 b'] 127)).alloc (.cells #[.int .i64 0,.int .i64 0] 127):=⟨_,rfl⟩;have hb:Below W.heap.size W W1:=by rw[hW1];exact(((aae _ _).alloc (aad _) _).alloc (by simp) _).alloc (by simp;omega) _
 have hsz:W1.heap.size=W.heap.size+3:=by rw[hW1];simp
 have hu:W1.heap[W.heap.size]? =some (.cells #[.int .i64 a,.int .i64 b] 127 (0,0)):=by
  rw[hW1,ab2 _ _ _ (by simp;omega),ab2 _ _ _ (by simp)];exact heap_alloc_new W _
 have hl:W1.heap[W.heap.size+1]? =some (.cells #[.int .i64 a',.int .i64 b'] 127 (0,0)):=by
  rw[hW1,ab2 _ _ _ (by simp)];have:=heap_alloc_new (W.alloc (.cells #[.int .i64 a,.int .i64 b] 127)) (.cells #[.int .i64 a',.int .i64 b'] 127);simpa using this
 have hr:W1.heap[W.heap.size+1+1]? =some (.cells #[.int .i64 0,.int .i64 0] 127 (0,0)):=by
  rw[hW1];have:=heap_alloc_new ((W.alloc (.cells #[.int .i64 a,.int .i64 b] 127)).alloc (.cells #[.int .i64 a',.int .i64 b'] 127)) (.cells #[.int .i64 0,.int .i64 0] 127);simpa using this
 have h1:=h.later hb;have jA:Hid (∀(i:Iv) (w:World),Calls prog 108 #[fj i] w fun e w'=>e= .returned (.bool (decide (i=aP)))/\Below w.heap.size w w'):=eZ;have hacc:=aae W1.heap.size W1;have HS:Hid (∀V,Below W1.heap.size W1 V->V.cell? ⟨W.heap.size,0,none⟩=some (.int .i64 a)/\V.cell? ⟨W.heap.size,1,none⟩=some (.int .i64 b)/\V.cell? ⟨W.heap.size+1,0,none⟩=some (.int .i64 a')/\V.cell? ⟨W.heap.size+1,1,none⟩=some (.int .i64 b')/\V.heap[W.heap.size+1+1]? =some (.cells #[.int .i64 0,.int .i64 0] 127 (0,0))/\aS c p t W0 O st L U Z vp vw V):=fun V hV=>by
  obtain⟨x0,x1,-⟩:=aj ((hV.block _ (by omega)).trans hu);obtain⟨x2,x3,-⟩:=aj ((hV.block _ (by omega)).trans hl);exact⟨x0,x1,x2,x3,(hV.block _ (by omega)).trans hr,h1.later hV⟩
 have hwr:∀V,Below W1.heap.size W1 V->az O W V:=fun V hV=>((az.refl O W).later hb).later hV
 have HO:Hid (∀b,O b->b<W.heap.size):=h.oX;have bX:Hid (∀(st':TS) V x y,az O W V->aS c p t W0 O st' L U Z vp vw V->V.heap[W.heap.size+1+1]? =some (.cells #[.int .i64 0,.int .i64 0] 127 (0,0))->aW c p t W0 O W st' ((V.setCell ⟨W.heap.size+1+1,0,none⟩ x).setCell ⟨W.heap.size+1+1,1,none⟩ y)/\((V.setCell ⟨W.heap.size+1+1,0,none⟩ x).setCell ⟨W.heap.size+1+1,1,none⟩ y).cell? ⟨W.heap.size+1+1,0,none⟩=some x/\((V.setCell ⟨W.heap.size+1+1,0,none⟩ x).setCell ⟨W.heap.size+1+1,1,none⟩ y).cell? ⟨W.heap.size+1+1,1,none⟩=some y):=fun st' V x y hw hT hc=>by
  have Vj:¬O (W.heap.size+1+1):=fun q=>by have:=HO.out _ q;omega
  obtain⟨r0,r1,-⟩:=aj (ju hc x y);exact⟨aS.post hB0 (gQ (gQ hw (by omega) x) (by omega) y) ((hT.far Vj (by omega) x).far Vj (by omega) y),r0,r1⟩
 obtain⟨x0,x1,x2,x3,xr,xT⟩:=HS.out _ hacc;obtain⟨zx,zw,zv⟩:=aj xr;have lD:=ζ hwr;unfold cut at hj;by_cases hn:(a,b)=aP
 .rw[if_pos hn] at hj
  cases hj;have e1:decide ((a,b)=aP)=true:=decide_eq_true hn;have uC:Hid (∀w,Calls prog 108 #[.agg #[.int .i64 a,.int .i64 b]] w fun e w'=>e= .returned (.bool true)/\Below w.heap.size w w'):=fun w=>by rw[<-e1];exact jA.out (a,b) w
  rw[hW1] at x0 x1 x2 x3 zx zw zv hacc;rw[hW1] at HS lD;clear h hW1 hb hu hl hr h1 hn e1 jA xr xT hsz hwr hB0;go_enter func109,ntmps109;go_wp2_with (go_at_call 108;refine(uC.out _).mono ?_;rintro e w1 ⟨rfl,hb1⟩;have hacc:=hacc.trans (hb1.mono hacc.size);clear hb1;obtain⟨x0,x1,x2,x3,xr,xT⟩:=HS.out _ hacc;obtain⟨zx,zw,zv⟩:=aj xr;have BW:=ζ xr;have pq:=ζ xT;clear xr xT);obtain⟨k1,r0,r1⟩:=bX.out st w1 (.int .i64 a) (.int .i64 b) (lD.out _ hacc) pq.out BW.out;refine bodyPost_ret (v:=fj (a,b)) (by simp[results,results109,go_sem,r0,r1]) rfl ?_;exact⟨rfl,k1⟩
 .rw[if_neg hn] at hj
  have e1:decide ((a,b)=aP)=false:=decide_eq_false hn;have uC:Hid (∀w,Calls prog 108 #[.agg #[.int .i64 a,.int .i64 b]] w fun e w'=>e= .returned (.bool false)/\Below w.heap.size w w'):=fun w=>by rw[<-e1];exact jA.out (a,b) w
  cases hd:down c.lw st.like hh (st.like.length+1) a with
  |none=>rw[hd] at hj;cases hj
  |some x=>
   rw[hd] at hj;dsimp only at hj;have HD:=ζ hd;have HJ:=ζ hj;have B3:=ζ h.ll;rw[hW1] at x0 x1 x2 x3 zx zw zv hacc;rw[hW1] at HS lD;have HL:Hid (∀V,aS c p t W0 O st L U Z vp vw V->V.cell? ⟨t,0,none⟩=some (.pointer (some ⟨p,0,none⟩))/\V.cell? ⟨t,1,none⟩=some (.slice (some ⟨L,0,none⟩) c.es.length c.es.length)/\V.cell? ⟨t,2,none⟩=some (.slice (some ⟨U,0,none⟩) c.es.length c.es.length)):=fun V hV=>⟨hV.cells.1,hV.cells.2.1,hV.cells.2.2.1⟩
   have HN:Hid ((L≠W.heap.size/\L≠W.heap.size+1/\L≠W.heap.size+1+1)/\(U≠W.heap.size/\U≠W.heap.size+1/\U≠W.heap.size+1+1)/\(t≠L/\t≠U/\L≠U)/\O L/\O U):=by
    have q1:=h.oX L h.oL;have q2:=h.oX U h.oU;exact⟨⟨by omega,by omega,by omega⟩,⟨by omega,by omega,by omega⟩,⟨h.n1.1,h.n1.2.1,h.n1.2.2.2.1⟩,h.oL,h.oU⟩
   clear h hW1 hb hu hl hr h1 hn e1 jA xr xT hsz hwr hB0 hj hd;go_enter func109,ntmps109;go_wp2_with (go_at_call 108;refine(uC.out _).mono ?_;rintro e w1 ⟨rfl,hb1⟩;have hacc:=hacc.trans (hb1.mono hacc.size);clear hb1;obtain⟨x0,x1,x2,x3,xr,xT⟩:=HS.out _ hacc;obtain⟨zx,zw,zv⟩:=aj xr;have BW:=ζ xr;have pq:=ζ xT;obtain⟨l0,l1,l2⟩:=HL.out _ xT;clear xr xT);go_loopw [9] (fun cv wr=>∃z:Int,cv= .int .i64 z/\(∃k,down c.lw st.like hh k z=some x)/\wr=w1) (fun cv _=>leastOf fun k=>down c.lw st.like hh k (intOf cv)=some x)
   case atStart=>exact⟨a,rfl,⟨_,HD.out⟩,rfl⟩
   case round=>
    obtain⟨z,rfl,⟨k,hk⟩,rfl⟩:=hrel;obtain⟨hI,-⟩:=leastOf_spec (P:=fun k=>down c.lw st.like hh k z=some x) hk;obtain⟨k0,hk0⟩:∃k0,leastOf (fun k=>down c.lw st.like hh k z=some x)=k0:=⟨_,rfl⟩;rw[hk0] at hI;clear hk k;cases k0 with
    |zero=>exact absurd hI (by unfold down;simp)
    |succ k=>
     unfold down at hI;by_cases hz:z= -1
     .rw[if_pos hz] at hI
      cases hI;subst hz;have hj:=HJ.out;rw[if_pos rfl] at hj;cases kQ:fE st.like (a,b).2 (a',b').2 with
      |none=>rw[kQ] at hj;cases hj
      |some lk=>
       cases kB:fE st.turn (a,b).2 (-1) with
       |none=>rw[kQ,kB] at hj;cases hj
       |some tn=>
        rw[kQ,kB] at hj;cases hj;obtain⟨kb,hkb,hkl,rfl⟩:=lR kQ;obtain⟨kb',hkb',Y7,rfl⟩:=lR kB;dsimp only at hkb hkb';obtain rfl:kb=kb':=by omega
        subst hkb;have l3:∃q,wr.cell? ⟨L,kb,none⟩=some (.int .i64 q):=⟨_,p5 pq.out.like hkl⟩;have l4:=pq.out.like.free kb;have l5:∃q,wr.cell? ⟨U,kb,none⟩=some (.int .i64 q):=⟨_,p5 pq.out.turn Y7⟩;have l6:=pq.out.turn.free kb;obtain⟨q3,l3⟩:=l3;obtain⟨q5,l5⟩:=l5;have v0:(0:Int)<=(kb:Int):=by omega
        have v1:(kb:Int)<(c.es.length:Int):=by rw[<-B3.out];omega
        obtain⟨⟨n1,n2,n3⟩,⟨n4,n5,n6⟩,⟨n7,n8,n9⟩,hOL,hOU⟩:=HN.out;clear kQ kB hkl Y7 hk0;go_wp2_with fail;go_big_region;go_wp2_with fail;go_big_region;go_wp2_with fail;have hT:=((pq.out.CX kb b').JZ kb (-1)).drew.drew;have Zp:=((((lD.out _ hacc).setCell hOL (i:=kb) (.int .i64 b')).setCell hOU (i:=kb) (.int .i64 (-1))).drew).drew;have hRV:((wr.setCell ⟨L,kb,none⟩ (.int .i64 b')).setCell ⟨U,kb,none⟩ (.int .i64 (-1))).drew.drew.heap[W.heap.size+1+1]? =some (.cells #[.int .i64 0,.int .i64 0] 127 (0,0)):=(heap_setCell_other (wr.setCell ⟨L,kb,none⟩ (.int .i64 b')) ⟨U,kb,none⟩ _ _ (fun e=>n6 e.symm)).trans ((heap_setCell_other wr ⟨L,kb,none⟩ _ _ (fun e=>n3 e.symm)).trans BW.out);generalize ((wr.setCell ⟨L,kb,none⟩ (.int .i64 b')).setCell ⟨U,kb,none⟩ (.int .i64 (-1))).drew.drew=V at*;have HT:=ζ hT;have Jp:=ζ Zp;have Pc:=ζ hRV;clear hT Zp hRV;go_at_call 95;refine(nM _).mono ?_;rintro e w2 ⟨rfl,hb2⟩;have Fx:=ζ ((hb2.block _ (lt_of_block Pc.out)).trans Pc.out);have HT2:=ζ (HT.out.later hb2);have qh:=ζ (Jp.out.later hb2);obtain⟨y0,y1,yf⟩:=aj Fx.out;clear hb2;go_wp2;obtain⟨k1,r0,r1⟩:=bX.out _ w2 (.int .i64 (-1)) (.int .i64 (-1)) qh.out HT2.out Fx.out;refine bodyPost_ret (v:=fj aP) (by simp[results,results109,go_sem,r0,r1]) rfl ?_;exact⟨rfl,k1⟩
     .rw[if_neg hz] at hI
      cases hz2:bF c.lw z with
      |none=>rw[hz2] at hI;cases hI
      |some q=>
       rw[hz2] at hI;dsimp only at hI;obtain⟨kz,rfl,Sx,hqz⟩:=kO hz2;obtain⟨gl,cl,o9⟩:=pq.out.low Sx;obtain⟨-,z1,z2⟩:=o9 wr (aae _ _);have z3:=z2 kz Sx;rw[hqz] at z3;have v0:(0:Int)<=(kz:Int):=by omega
       have v1:(kz:Int)<(c.es.length:Int):=by omega
       have v2:((kz:Int) != -1)=true:=by simp
       by_cases hq:q=hh
       .rw[if_pos hq] at hI
        cases hlk:bF st.like (kz:Int) with
        |none=>rw[hlk] at hI;cases hI
        |some y=>
         rw[hlk] at hI;dsimp only at hI;obtain⟨kz',e',agM,hy⟩:=iC hlk;obtain rfl:kz=kz':=by omega
         have l3:wr.cell? ⟨L,kz,none⟩=some (.int .i64 y):=by
          have:=p5 pq.out.like agM;rw[hy] at this;exact this
         have HI:=ζ hI;have HK:=ζ hk0;subst hq;clear hI hk0 hlk hy hz2 hqz o9 z2 hz;go_wp2;go_roundw
         case rel=>exact⟨y,rfl,⟨_,HI.out⟩,by first|rfl|trivial⟩
         case measure=>
          have h3:=(leastOf_spec (P:=fun k=>down c.lw st.like q k y=some x) HI.out).2;have h4:=HK.out;simp only[intOf];omega
       .rw[if_neg hq] at hI
        cases hI;have hj:=HJ.out;rw[if_neg hz] at hj;cases hj;have v3:(q==hh)=false:=by simp[hq]
        clear hk0 hz2 hqz o9 z2 hz;go_wp2;obtain⟨k1,r0,r1⟩:=bX.out st wr (.int .i64 (kz:Int)) (.int .i64 b) (lD.out _ hacc) pq.out BW.out;refine bodyPost_ret (v:=fj ((kz:Int),b)) (by simp[results,results109,go_sem,r0,r1]) rfl ?_;exact⟨rfl,k1⟩
end
end
end Go.Proofs.YtbhdibflpjhpaaaGreat
