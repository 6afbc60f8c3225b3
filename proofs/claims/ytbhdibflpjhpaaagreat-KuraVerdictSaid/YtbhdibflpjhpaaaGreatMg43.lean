import Derived.Test.YtbhdibflpjhpaaaGreatMg42
import Derived.WalkMore
set_option maxHeartbeats 16000000
set_option maxRecDepth 100000
namespace Go.Proofs.YtbhdibflpjhpaaaGreat
section
open Go.Proofs.Tryz
open Go.RowKit Lt
abbrev qG (q:Iv):Obj:= .cells #[.int .i64 q.1,.int .i64 q.2] 127 (0,0)
section
variable {c:Wp} {p t:Nat} {W0 W:World} {O:Nat->Prop} {st:TS} {L U Z:Nat} {vp vw:Value}
def Xo (c:Wp) (p t:Nat) (W0:World) (O:Nat->Prop) (W:World) (st:TS) (r:Option (List Pr×List Int×Iv)) (e:Ending) (w':World):Prop:=
 match r with
 |none=>∃i st',e= .returned (.tuple #[fj i,.bool false])/\aW c p t W0 O W st' w'
 |some (ps,aC,i)=>e= .returned (.tuple #[fj i,.bool true])/\aW c p t W0 O W { st with stk:=ps,like:=aC } w'
theorem B7 {w:World} {g o:Nat} {q:kC} (h:∀j u,(xq q)[j]? =some u->w.cell? ⟨g,o+j,none⟩=some u):w.cell? ⟨g,o,none⟩=some (.int .i64 q.1)/\w.cell? ⟨g,o+1,none⟩=some (.int .i64 q.2.1)/\w.cell? ⟨g,o+2,none⟩=some (.int .i64 q.2.2.1.1)/\w.cell? ⟨g,o+3,none⟩=some (.int .i64 q.2.2.1.2)/\w.cell? ⟨g,o+4,none⟩=some (.int .i64 q.2.2.2.1)/\w.cell? ⟨g,o+5,none⟩=some (.int .i64 q.2.2.2.2):=
 ⟨h 0 _ rfl,h 1 _ rfl,h 2 _ rfl,h 3 _ rfl,h 4 _ rfl,h 5 _ rfl⟩
def Bk (c:Wp) (p t:Nat) (W0:World) (O:Nat->Prop) (W:World) (b4 b6 b7 b8:Nat) (s:Pr) (st:TS) (o:Iv) (q:Pr) (w:World):Prop:=
 aJ c p t W0 O W (fun b=>(b=b4\/b=b6\/b=b7)\/b=b8) st w/\w.heap[b4]? =some (qG (0,0))/\w.heap[b6]? =some (eT s)/\w.heap[b7]? =some (qG o)/\w.heap[b8]? =some (eT q)
section
variable {b4 b6 b7 b8:Nat} {s q:Pr} {o:Iv} {w w':World}
theorem Bk.same (h:Bk c p t W0 O W b4 b6 b7 b8 s st o q w) {st':TS} (hi:aJ c p t W0 O W (fun b=>(b=b4\/b=b6\/b=b7)\/b=b8) st' w') (hk:∀b,(b=b4\/b=b6\/b=b7)\/b=b8->w'.heap[b]? =w.heap[b]?):Bk c p t W0 O W b4 b6 b7 b8 s st' o q w':=
 ⟨hi,(hk _ (.inl (.inl rfl))).trans h.2.1,(hk _ (.inl (.inr (.inl rfl)))).trans h.2.2.1,(hk _ (.inl (.inr (.inr rfl)))).trans h.2.2.2.1,(hk _ (.inr rfl)).trans h.2.2.2.2⟩
theorem Bk.lt (h:Bk c p t W0 O W b4 b6 b7 b8 s st o q w) (b:Nat) (hb:(b=b4\/b=b6\/b=b7)\/b=b8):b<w.heap.size:=by
 obtain⟨_,h1,h2,h3,h4⟩:=h;rcases hb with (rfl|rfl|rfl)|rfl
 .exact lt_of_block h1
 .exact lt_of_block h2
 .exact lt_of_block h3
 .exact lt_of_block h4
theorem Bk.later (h:Bk c p t W0 O W b4 b6 b7 b8 s st o q w) (hb:Below w.heap.size w w'):Bk c p t W0 O W b4 b6 b7 b8 s st o q w':=
 h.same (h.1.later hb) fun _ hx=>hb.block _ (h.lt _ hx)
theorem Bk.turn (h:Bk c p t W0 O W b4 b6 b7 b8 s st o q w) (hn:b8≠b4/\b8≠b6/\b8≠b7) (x y z u:Int):Bk c p t W0 O W b4 b6 b7 b8 s st o ((x,y),z,u) ((((w.setCell ⟨b8,0,none⟩ (.int .i64 x)).setCell ⟨b8,1,none⟩ (.int .i64 y)).setCell ⟨b8,2,none⟩ (.int .i64 z)).setCell ⟨b8,3,none⟩ (.int .i64 u)):=by
 have ho:∀b,b8≠b->((((w.setCell ⟨b8,0,none⟩ (.int .i64 x)).setCell ⟨b8,1,none⟩ (.int .i64 y)).setCell ⟨b8,2,none⟩ (.int .i64 z)).setCell ⟨b8,3,none⟩ (.int .i64 u)).heap[b]? =w.heap[b]? :=fun b hb=>by
  rw[heap_setCell_other _ ⟨b8,3,none⟩ b _ (aao hb),heap_setCell_other _ ⟨b8,2,none⟩ b _ (aao hb),heap_setCell_other _ ⟨b8,1,none⟩ b _ (aao hb),heap_setCell_other _ ⟨b8,0,none⟩ b _ (aao hb)]
 exact⟨(((h.1.set (.inr rfl) _).set (.inr rfl) _).set (.inr rfl) _).set (.inr rfl) _,(ho _ hn.1).trans h.2.1,(ho _ hn.2.1).trans h.2.2.1,(ho _ hn.2.2).trans h.2.2.2.1,jy h.2.2.2.2 _ _ _ _⟩
end
theorem FE (h:aS c p t W0 O st L U Z vp vw W) {v:kC} {ws:List kC} (bD:st.way=v::ws) {above:Nat} {r:Option (List Pr×List Int×Iv)} (hlen:st.stk.length<=8388607) (hwl:st.way.length<=8388607)
 (ho:Lt.own c.lw st.lowest above v.2.2 st.stk st.like aP=some r):Calls prog 121 #[.pointer (some ⟨t,0,none⟩),.int .i64 (above:Int)] W (Xo c p t W0 O W st r):=by
 have eqP:=WJ;obtain⟨W1,hW1⟩:∃W1,W1=W.alloc (.cells #[.int .i64 0,.int .i64 0] 127):=⟨_,rfl⟩;have hb1:Below W.heap.size W W1:=by rw[hW1];exact(aae _ _).alloc (aad _) _
 have h1:=h.later hb1;obtain⟨x0,-,-,-,x4,-,-⟩:=h1.cells;have hb2:Below W1.heap.size W1 (W1.alloc (.cells #[.int .i64 0,.int .i64 0,.int .i64 0,.int .i64 0] 129)):=(aae _ _).alloc (aad _) _;have h2:=h1.later hb2;obtain⟨-,-,-,-,y4,-,-⟩:=h2.cells;have DL:=h1.way;have UO:=h2.way;rw[bD,ac4] at UO;rw[bD,ac4] at DL;obtain⟨g,cap,rfl,hc,-,-,-⟩:=DL.snoc qO;rw[acD] at hc x4;obtain⟨d0,d1,d2,d3,d4,d5⟩:=B7 hc;obtain⟨g',cap',hgg,hc',-,-,-⟩:=UO.snoc qO;cases hgg;rw[acD] at hc' y4;obtain⟨-,-,f2,f3,f4,f5⟩:=B7 hc';obtain⟨k,hk⟩:∃k,ws.length=k:=⟨_,rfl⟩;rw[hk] at d2 d3 d4 d5 x4 f2 f3 f4 f5 y4;rw[bD,abS,hk] at hwl;have e1:((k:Int)+1)-1=(k:Int):=by omega
 have e2:(0:Int)<=(k:Int):=by omega
 have e3:(k:Int)<(k:Int)+1:=by omega
 obtain⟨vv,vn,⟨va,vb⟩,vc,vd⟩:=v;dsimp only at d2 d3 d4 d5 f2 f3 f4 f5 ho;rw[hW1] at x0 x4 d2 d3 d4 d5 y4 f2 f3 f4 f5;have pT:Hid (aJ c p t W0 O W (fun b=>b=W.heap.size) st W1):=by rw[hW1];exact((aJ.start h).box _).less (fun b hb=> .inr hb)
 rw[hW1] at pT;have HHO:=ζ ho;have HLEN:=ζ hlen;clear h h1 h2 DL UO hc hc' hb1 hb2 hk d0 d1 bD ho hlen hW1;go_enter func121,ntmps121;go_wp2;go_step3;go_wp2_with fail;go_big_region;obtain⟨W2,hW2⟩:∃W2,W2=((W.alloc (.cells #[.int .i64 0,.int .i64 0] 127)).alloc (eT ((va,vb),vc,vd))).drew:=⟨_,rfl⟩;have jf:aJ c p t W0 O W (fun b=>b=W.heap.size\/b=W.heap.size+1) st W2:=by
  rw[hW2];exact((pT.out.box (eT ((va,vb),vc,vd))).less (fun b hb=>hb.elim .inl fun q=> .inr (by rw[q];simp))).drew
 have hb4:W2.heap[W.heap.size]? =some (qG (0,0)):=by
  rw[hW2];show((W.alloc _).alloc _).heap[W.heap.size]? =_;rw[ab2 _ _ _ (by simp)];exact heap_alloc_new W _
 have eC:W2.heap[W.heap.size+1]? =some (eT ((va,vb),vc,vd)):=by
  rw[hW2];have:=heap_alloc_new (W.alloc (.cells #[.int .i64 0,.int .i64 0] 127)) (eT ((va,vb),vc,vd));rw[acC] at this;exact this
 have gJ:=ζ jf;have iE:=ζ hb4;have oN:=ζ eC;change Exit.then _ _ _ _ ((W.alloc (.cells #[.int .i64 0,.int .i64 0] 127)).alloc (eT ((va,vb),vc,vd))).drew
 rw[<-hW2];clear jf hb4 eC hW2 pT x0 x4 y4 d2 d3 d4 d5 f2 f3 f4 f5;go_wp2_with (go_at_call 95;refine(nM _).mono ?_;rintro e w3 ⟨rfl,hb3⟩;have sW:=ζ (gJ.out.later hb3);have Yc:=ζ ((hb3.block _ (lt_of_block iE.out)).trans iE.out);have Yb:=ζ ((hb3.block _ (lt_of_block oN.out)).trans oN.out);clear hb3);go_step3;obtain⟨b4,hb4⟩:∃b4,W.heap.size=b4:=⟨_,rfl⟩;obtain⟨b6,eC⟩:∃b6,W.heap.size+1=b6:=⟨_,rfl⟩;obtain⟨b7,mQ⟩:∃b7,w3.heap.size=b7:=⟨_,rfl⟩;have sU:Hid (aJ c p t W0 O W (fun b=>b=b4\/b=b6\/b=b7) st (w3.alloc (qG (-1,-1)))):=(sW.out.box (qG (-1,-1))).less fun b hb=>by
  rcases hb with q|q|q
  .exact .inl (.inl (by omega))
  .exact .inl (.inr (by omega))
  .exact .inr (by omega)
 have hlt3:=lt_of_block Yc.out;have aaS:=lt_of_block Yb.out;have ajG:Hid ((w3.alloc (qG (-1,-1))).heap[b4]? =some (qG (0,0))):=by
  rw[<-hb4];show(w3.alloc (qG (-1,-1))).heap[W.heap.size]? =_;rw[ab2 _ _ _ hlt3];exact Yc.out
 have ajE:Hid ((w3.alloc (qG (-1,-1))).heap[b6]? =some (eT ((va,vb),vc,vd))):=by
  rw[<-eC];show(w3.alloc (qG (-1,-1))).heap[W.heap.size+1]? =_;rw[ab2 _ _ _ aaS];exact Yb.out
 have ajD:Hid ((w3.alloc (qG (-1,-1))).heap[b7]? =some (qG (-1,-1))):=by
  rw[<-mQ];exact heap_alloc_new w3 _
 have zg:Hid (b4≠b6/\b4≠b7/\b6≠b7):=⟨by omega,by omega,by omega⟩;have VP:b4+1=b6:=by omega
 rw[mQ,hb4,VP];have HQ4:=ζ hb4;have ZZ:=ζ VP;have HQ7:=ζ mQ;clear hb4 eC mQ VP;go_wp2_with fail;clear hlt3 aaS gJ sW iE oN Yc Yb;go_loopw [8] (fun _ wr=>∃ps lk o,aJ c p t W0 O W (fun b=>b=b4\/b=b6\/b=b7) { st with stk:=ps,like:=lk } wr/\wr.heap[b4]? =some (qG (0,0))/\wr.heap[b6]? =some (eT ((va,vb),vc,vd))/\wr.heap[b7]? =some (qG o)/\Lt.own c.lw st.lowest above ((va,vb),vc,vd) ps lk o=some r/\ps.length<=8388607) (fun _ wr=>fY t wr)
 case atStart=>exact⟨st.stk,st.like,aP,sU.out,ajG.out,ajE.out,ajD.out,HHO.out,HLEN.out⟩
 case round=>
  obtain⟨ps,lk,o,jf,hx4,Bz,hx7,ho2,hl2⟩:=hrel;have Ao:Hid (∀D:LW wr,Calls prog 74 #[.pointer (some ⟨t,0,none⟩)] D.val fun e w'=>e= .returned (gK (top ps))/\Below D.val.heap.size D.val w'):=fun D=>by
   obtain⟨-,-,O',-,-,L',U',Z',sZ,vO,hT⟩:=jf.later D.h;exact jq hT (by dsimp only;omega)
  have Gi:=lt_of_block Bz;have y0:∀D:LW wr,D.val.cell? ⟨b6,0,none⟩=some (.int .i64 va):=fun D=>(ah ((D.h.block _ Gi).trans Bz)).1
  have y1:∀D:LW wr,D.val.cell? ⟨b6,1,none⟩=some (.int .i64 vb):=fun D=>(ah ((D.h.block _ Gi).trans Bz)).2.1
  have y2:∀D:LW wr,D.val.cell? ⟨b6,2,none⟩=some (.int .i64 vc):=fun D=>(ah ((D.h.block _ Gi).trans Bz)).2.2.1
  have y3:∀D:LW wr,D.val.cell? ⟨b6,3,none⟩=some (.int .i64 vd):=fun D=>(ah ((D.h.block _ Gi).trans Bz)).2.2.2.1
  have hne:=LW.any wr;have gJ:=ζ jf;have Xv:=ζ hx4;have O8:=ζ Bz;have Xu:=ζ hx7;have nj:=ζ hl2;have HOW:=ζ ho2;by_cases Fk:top ps=((va,vb),vc,vd)
  .have hr:r=some (ps,lk,o):=by
    have h1:=HOW.out;cases ps with
    |nil=>
     unfold Lt.own at h1;rw[if_pos (show dN=((va,vb),vc,vd) from Fk)] at h1;exact(aal h1).symm
    |cons q ps=>
     unfold Lt.own at h1;rw[if_pos (show q=((va,vb),vc,vd) from Fk)] at h1;exact(aal h1).symm
   have HR:=ζ hr;rw[Fk] at Ao;clear jf hx4 Bz hx7 ho2 hl2 Fk hr Gi;go_wp2_with fail;refine aG (by kernel_rfl) (by kernel_rfl) ?_
   repeat (go_big_quiet_step ((first|(go_at_call 74;exact Calls.lw (Ao.out _)))))
   refine wpQuiet_nil ?_;rintro _ ⟨D,rfl⟩;clear y0 y1 y2 y3;have je:=gJ.out.later D.h;have h4:=(D.h.block _ (lt_of_block Xv.out)).trans Xv.out;have h7:=(D.h.block _ (lt_of_block Xu.out)).trans Xu.out;obtain⟨oa,ob⟩:=o;obtain⟨z0,z1,zf⟩:=aj h4;obtain⟨z2,z3,-⟩:=aj h7;obtain⟨r0,r1,-⟩:=aj (ju h4 (.int .i64 oa) (.int .i64 ob));have bX:Hid (aW c p t W0 O W { st with stk:=ps,like:=lk } ((D.val.setCell ⟨b4,0,none⟩ (.int .i64 oa)).setCell ⟨b4,1,none⟩ (.int .i64 ob))):=((je.set (b:=b4) (i:=0) (.inl rfl) (.int .i64 oa)).set (b:=b4) (i:=1) (.inl rfl) (.int .i64 ob)).post;clear je h4 h7;go_wp2;refine bodyPost_ret (v:= .tuple #[fj (oa,ob),.bool true]) (by simp[results,results121,go_sem,r0,r1]) rfl ?_;rw[HR.out];exact⟨rfl,bX.out⟩
  .cases ps with
   |nil=>
    exfalso;have h1:=HOW.out;unfold Lt.own at h1;rw[if_neg (show ¬dN=((va,vb),vc,vd) from Fk)] at h1;cases h1
   |cons q ps=>
    have KU:q≠((va,vb),vc,vd):=Fk;have how:(if (if q.2=aP then q.2 else q.1)≠aP then some none else match bF c.lw (if q.2=aP then q.1 else q.2).2,bF c.lw above with|some a,some b=>if a=b then (match bF st.lowest above with|none=>none|some x=>match fE lk (if q.2=aP then q.1 else q.2).2 x with|none=>none|some aC=>Lt.own c.lw st.lowest above ((va,vb),vc,vd) ps aC o) else (match join lk o (if q.2=aP then q.1 else q.2) with|none=>none|some (aC,o')=>Lt.own c.lw st.lowest above ((va,vb),vc,vd) ps aC o')|_,_=>none)=some r:=by
     have h1:=HOW.out;unfold Lt.own at h1;rw[if_neg KU] at h1;exact h1
    have aiQ:=ζ how;obtain⟨⟨qa,qb⟩,qc,qd⟩:=q;have hdec:(!(qa==va)|| !(qb==vb)||(!(qc==vc)|| !(qd==vd)))=true:=by
     cases hc:(!(qa==va)|| !(qb==vb)||(!(qc==vc)|| !(qd==vd))) with
     |true=>rfl
     |false=>
      simp at hc;exact absurd (by rw[hc.1.1,hc.1.2,hc.2.1,hc.2.2]) KU
    have HNQ:Hid (∀D:LW wr,Calls prog 74 #[.pointer (some ⟨t,0,none⟩)] D.val fun e w'=>e= .returned (gK ((qa,qb),qc,qd))/\Below D.val.heap.size D.val w'):=fun D=>Ao.out D
    clear jf hx4 Bz hx7 ho2 hl2 Fk Gi KU how Ao;go_wp2_with fail;refine aG (by kernel_rfl) (by kernel_rfl) ?_
    repeat (go_big_quiet_step ((first|(go_at_call 74;exact Calls.lw (HNQ.out _)))))
    refine wpQuiet_nil ?_;rintro _ ⟨D,rfl⟩;clear y0 y1 y2 y3 hdec;have tR:=gJ.out.later D.h;have Ef:∀b,b=b4\/b=b6\/b=b7->b<D.val.heap.size:=fun b hb=>by
     have q1:=lt_of_block Xv.out;have q2:=lt_of_block O8.out;have q3:=lt_of_block Xu.out;have q4:=D.h.size;omega
    have HD4:=ζ ((D.h.block _ (lt_of_block Xv.out)).trans Xv.out);have HD6:=ζ ((D.h.block _ (lt_of_block O8.out)).trans O8.out);have HD7:=ζ ((D.h.block _ (lt_of_block Xu.out)).trans Xu.out);have nC:=ζ (aJ.reads tR Ef (f:=74) (args:= #[.pointer (some ⟨t,0,none⟩)]) (R:=fun e=>e= .returned (gK ((qa,qb),qc,qd))) (fun hT=>jq hT (by have:=nj.out;simp at this ⊢;omega)));clear tR Ef;go_wp2_with (go_at_call 74;refine nC.out.mono ?_;rintro e w5 ⟨rfl,mO,hk5,-⟩;have Mq:=ζ mO;have HE4:=ζ ((hk5 b4 (.inl rfl)).trans HD4.out);have Tw:=ζ ((hk5 b6 (.inr (.inl rfl))).trans HD6.out);have HE7:=ζ ((hk5 b7 (.inr (.inr rfl))).trans HD7.out);clear mO hk5);obtain⟨b8,qL⟩:∃b8,w5.heap.size=b8:=⟨_,rfl⟩;obtain⟨W6,Ox⟩:∃W6,W6=w5.alloc (eT ((qa,qb),qc,qd)):=⟨_,rfl⟩;have pY:Bk c p t W0 O W b4 b6 b7 b8 ((va,vb),vc,vd) { st with stk:=((qa,qb),qc,qd)::ps,like:=lk } o ((qa,qb),qc,qd) W6:=by
     rw[Ox];exact⟨(Mq.out.box _).less fun b hb=>hb.imp id fun q=>by omega,by rw[ab2 _ _ _ (lt_of_block HE4.out)];exact HE4.out,by rw[ab2 _ _ _ (lt_of_block Tw.out)];exact Tw.out,by rw[ab2 _ _ _ (lt_of_block HE7.out)];exact HE7.out,by rw[<-qL];exact heap_alloc_new _ _⟩
    have HN8:Hid (b8≠b4/\b8≠b6/\b8≠b7):=by
     have q1:=lt_of_block HE4.out;have q2:=lt_of_block Tw.out;have q3:=lt_of_block HE7.out;exact⟨by omega,by omega,by omega⟩
    have mX:=ζ (aJ.calls pY.1 pY.lt (f:=107) (args:= #[.pointer (some ⟨t,0,none⟩)]) (R:=fun e=>e= .returned (.tuple #[])) (st':={ st with stk:=ps,like:=lk }) (fun hT=>uK hT rfl (by have:=nj.out;simp at this ⊢;omega)));have HK6:=ζ pY;have HW6:=ζ Ox;change Calls _ _ _ (w5.alloc (eT ((qa,qb),qc,qd))) _;rw[<-HW6.out,qL];clear pY Ox qL;go_at_call 107;refine mX.out.mono ?_;rintro e w7 ⟨rfl,K0,hk7⟩;have Fz:=ζ (HK6.out.same K0 hk7);obtain⟨z0,z1,z2,z3,zf⟩:=ah Fz.out.2.2.2.2;clear K0 hk7;obtain⟨bA,yF⟩:∃bA,decide ((qc,qd)=aP)=bA:=⟨_,rfl⟩;have uC:Hid (∀w,Calls prog 108 #[.agg #[.int .i64 qc,.int .i64 qd]] w fun e w'=>e= .returned (.bool bA)/\Below w.heap.size w w'):=fun w=>by rw[<-yF];exact eZ (qc,qd) w
    have zk:=ζ yF;clear yF
    go_upto_if 33 with (go_at_call 108;refine(uC.out _).mono ?_;rintro e w8 ⟨rfl,qL⟩;have HK8:=ζ (Fz.out.later qL);clear qL z0 z1 z2 z3 zf)
    go_cut [33] from 23 to 88 (fun _ wr=>∃p1 p2 p3 p4:Int,((p1,p2),p3,p4)=(if (qc,qd)=aP then ((qc,qd),qa,qb) else ((qa,qb),qc,qd))/\Bk c p t W0 O W b4 b6 b7 b8 ((va,vb),vc,vd) { st with stk:=ps,like:=lk } o ((p1,p2),p3,p4) wr)
    case first=>
     obtain⟨z0,z1,z2,z3,zf⟩:=ah HK8.out.2.2.2.2;cases bA with
     |false=>
      go_wp2
      go_meet
      exact⟨qa,qb,qc,qd,by rw[if_neg (of_decide_eq_false zk.out)],HK8.out⟩
     |true=>
      have HTU:Hid (∀w,Calls prog 128 #[gK ((qa,qb),qc,qd)] w fun e w'=>e= .returned (gK ((qc,qd),qa,qb))/\Below w.heap.size w w'):=fun w=>Ay ((qa,qb),qc,qd) w
      go_wp2_with (go_at_call 128;refine(HTU.out _).mono ?_;rintro e w9 ⟨rfl,rW⟩;have uB:=ζ (HK8.out.later rW);clear rW z0 z1 z2 z3 zf;obtain⟨z0,z1,z2,z3,zf⟩:=ah uB.out.2.2.2.2)
      go_meet
      exact⟨qc,qd,qa,qb,by rw[if_pos (of_decide_eq_true zk.out)],uB.out.turn HN8.out _ _ _ _⟩
    case rest=>
    obtain⟨p1,p2,p3,p4,hp,hk⟩:=hcut;have how':(if (p1,p2)≠aP then some none else match bF c.lw p4,bF c.lw above with|some a,some b=>if a=b then (match bF st.lowest above with|none=>none|some x=>match fE lk p4 x with|none=>none|some aC=>Lt.own c.lw st.lowest above ((va,vb),vc,vd) ps aC o) else (match join lk o (p3,p4) with|none=>none|some (aC,o')=>Lt.own c.lw st.lowest above ((va,vb),vc,vd) ps aC o')|_,_=>none)=some r:=by
     have h1:=aiQ.out;by_cases hA:(qc,qd)=aP
     .rw[if_pos hA] at hp
      cases hp;simpa only[if_pos hA] using h1
     .rw[if_neg hA] at hp
      cases hp;simpa only[if_neg hA] using h1
    have abu:=ζ how';have HK:=ζ hk;obtain⟨z0,z1,z2,z3,zf⟩:=ah hk.2.2.2.2;clear hp hk how' uC zk;by_cases hC:(p1,p2)=aP
    .have KX:decide ((p1,p2)=aP)=true:=decide_eq_true hC
     have EZ:Hid (∀w,Calls prog 108 #[.agg #[.int .i64 p1,.int .i64 p2]] w fun e w'=>e= .returned (.bool true)/\Below w.heap.size w w'):=fun w=>by rw[<-KX];exact eZ (p1,p2) w
     have HC:=ζ hC;clear KX hC;go_wp2_with (go_at_call 108;refine(EZ.out _).mono ?_;rintro e W9 ⟨rfl,rW⟩;have uB:=ζ (HK.out.later rW);clear rW z0 z1 z2 z3 zf;obtain⟨z0,z1,z2,z3,zf⟩:=ah uB.out.2.2.2.2);obtain⟨x,y,hx,hy,aaN⟩:∃x y,bF c.lw p4=some x/\bF c.lw (above:Int)=some y/\(if x=y then (match bF st.lowest above with|none=>none|some z=>match fE lk p4 z with|none=>none|some aC=>Lt.own c.lw st.lowest above ((va,vb),vc,vd) ps aC o) else (match join lk o (p3,p4) with|none=>none|some (aC,o')=>Lt.own c.lw st.lowest above ((va,vb),vc,vd) ps aC o'))=some r:=by
      have h1:=abu.out
      try dsimp only at h1
      rw[if_neg (by simpa using HC.out)] at h1;cases hx:bF c.lw p4 with
      |none=>rw[hx] at h1;cases h1
      |some x=>
       cases hy:bF c.lw (above:Int) with
       |none=>rw[hx,hy] at h1;cases h1
       |some y=>
        rw[hx,hy] at h1;exact⟨x,y,rfl,rfl,h1⟩
     obtain⟨kx,vV,aaV,aaW⟩:=kO hx;obtain⟨ky,BF,agN,aaU⟩:=kO hy;obtain rfl:above=ky:=by omega
     have abw:=ζ aaN;obtain⟨gl,cl,o9⟩:∃gl cl,W9.cell? ⟨t,0,none⟩=some (.pointer (some ⟨p,0,none⟩))/\W9.cell? ⟨p,6,none⟩=some (.slice (some ⟨gl,0,none⟩) c.es.length cl)/\∀y,y<c.es.length->W9.cell? ⟨gl,y,none⟩=some (.int .i64 (Lo.low c.es c.s y)):=by
      obtain⟨-,-,O',-,-,L',U',Z',sZ,vO,hT⟩:=uB.out.1;obtain⟨gl,cl,h1⟩:=hT.low aaV;exact⟨gl,cl,h1 _ (aae _ _)⟩
     obtain⟨l0,l1,l2⟩:=o9;have l3:=l2 kx aaV;have l4:=l2 above agN;rw[aaW] at l3;rw[aaU] at l4;subst vV;have v0:(0:Int)<=(kx:Int):=by omega
     have v1:(kx:Int)<(c.es.length:Int):=by omega
     have v2:(0:Int)<=(above:Int):=by omega
     have v3:(above:Int)<(c.es.length:Int):=by omega
     clear hx hy aaN l2 aaW aaU BF;by_cases hxy:x=y
     .obtain⟨z,ka,Dx,hz,hka,hkl,Mk⟩:∃(z:Int) (ka:Nat) (Dx:List Int),st.lowest[above]?.getD 0=z/\above<st.lowest.length/\kx<lk.length/\Hid (Lt.own c.lw st.lowest above ((va,vb),vc,vd) ps (lk.set kx z) o=some r):=by
       have h1:=abw.out;rw[if_pos hxy] at h1;cases e1:bF st.lowest (above:Int) with
       |none=>rw[e1] at h1;cases h1
       |some z=>
        rw[e1] at h1
        try dsimp only at h1
        cases e2:fE lk (kx:Int) z with
        |none=>rw[e2] at h1;cases h1
        |some Dx=>
         rw[e2] at h1;obtain⟨a1,a2,a3,a4⟩:=iC e1;obtain⟨c1,c2,c3,c4⟩:=lR e2;obtain rfl:above=a1:=by omega
         obtain rfl:kx=c1:=by omega
         exact⟨z,0,[],by rw[a4];rfl,a3,c3,by rw[<-c4];exact h1⟩
      have o8:(x==y)=true:=by simp[hxy]
      go_quiet (fail);go_wp2_with fail;obtain⟨gL,u0,u1,u2,u3,u4,u5,u6⟩:=uB.out.1.YM (k:=kx) hkl;obtain⟨gZ,m0,m1,m2,m3,m4,m5,m6⟩:=uB.out.1.acn (k:=above) hka;rw[hz] at m1;obtain⟨zz,u1⟩:∃zz,W9.cell? ⟨gL,kx,none⟩=some (.int .i64 zz):=⟨_,u1⟩;have n8:gL≠b8:=u3 b8 (.inr rfl);have XV:=ζ (u6 z);have HU3:=ζ u3;clear u3 u6 m3 m6;go_big_region;go_wp2;go_roundw
      case rel=>
       have hk:∀b,(b=b4\/b=b6\/b=b7)->((W9.drewN (nq+1)).setCell ⟨gL,kx,none⟩ (.int .i64 z)).heap[b]? =W9.heap[b]? :=fun b hb=>heap_setCell_other (W9.drewN (nq+1)) ⟨gL,kx,none⟩ b _ (fun e=>HU3.out b (.inl hb) (show b=gL from e).symm)
       exact⟨ps,lk.set kx z,o,(XV.out.less (B':=(fun b=>b=b4\/b=b6\/b=b7)) (fun _ hb=> .inl hb)).drewN (nq+1),(hk b4 (.inl rfl)).trans uB.out.2.1,(hk b6 (.inr (.inl rfl))).trans uB.out.2.2.1,(hk b7 (.inr (.inr rfl))).trans uB.out.2.2.2.1,Mk.out,by have:=nj.out;simp at this;omega⟩
      case measure=>
       have h1:=(XV.out.drewN (nq+1)).fY;have h2:=gJ.out.fY;rw[h2];refine afx (Nat.le_of_eq (show _=ps.length from h1)) ?_;simp
     .obtain⟨Dx,oi,hjn,Mk⟩:∃(Dx:List Int) (oi:Iv),join lk o (p3,(kx:Int))=some (Dx,oi)/\Hid (Lt.own c.lw st.lowest above ((va,vb),vc,vd) ps Dx oi=some r):=by
       have h1:=abw.out;rw[if_neg hxy] at h1;cases e1:join lk o (p3,(kx:Int)) with
       |none=>rw[e1] at h1;cases h1
       |some q=>
        obtain⟨Dx,oi⟩:=q;rw[e1] at h1;exact⟨Dx,oi,rfl,h1⟩
      have o8:(x==y)=false:=by simp[hxy]
      go_quiet (fail);go_wp2_with fail;obtain⟨oa,ob⟩:=o;obtain⟨Nt,Ns⟩:=oi;obtain⟨Wq,Ow⟩:∃Wq,Wq=(W9.drewN nq).drew:=⟨_,rfl⟩;have HKQ:Hid (Bk c p t W0 O W b4 b6 b7 b8 ((va,vb),vc,vd) { st with stk:=ps,like:=lk } (oa,ob) ((p1,p2),p3,(kx:Int)) Wq):=by rw[Ow];exact uB.out.same ((uB.out.1.drewN nq).drew) (fun _ _=>rfl)
      have aeW:=ζ (aJ.calls HKQ.out.1 HKQ.out.lt (f:=129) (args:= #[.pointer (some ⟨t,1,none⟩),fj (oa,ob),fj (p3,(kx:Int))]) (R:=fun e=>e= .returned (fj (Nt,Ns))) (st':={ st with stk:=ps,like:=Dx }) (fun hT=>wM hT hjn));have HWQ:=ζ Ow;clear Ow;refine wp_region_any (by kernel_rfl) ?_;change wpAny _ _ _ _ _ _ _ ((W9.drewN nq).drew);rw[<-HWQ.out];refine aq.W8 (fun j=>match j with|0=> .pointer (some ⟨t,0,none⟩)|1=> .pointer (some ⟨t,0,none⟩)|2=> .pointer (some ⟨t,1,none⟩)|3=> .agg #[.int .i64 oa,.int .i64 ob]|4=> .pointer (some ⟨b8,2,none⟩)|5=> .agg #[.int .i64 p3,.int .i64 (kx:Int)]|6=> .agg #[.int .i64 Nt,.int .i64 Ns]|_=>undef) (Bk c p t W0 O W b4 b6 b7 b8 ((va,vb),vc,vd) { st with stk:=ps,like:=Dx } (oa,ob) ((p1,p2),p3,(kx:Int))) (fun V=>(V.setCell ⟨b7,0,none⟩ (.int .i64 Nt)).setCell ⟨b7,1,none⟩ (.int .i64 Ns)) 90 7 6 rfl (by kernel_rfl) rfl (by decide) (by kernel_rfl) ?_ ?_ ?_ ?_
      .intro j o' V ev ho hj hjc hV aM dw
       obtain⟨st',-,-,-,h7,h8⟩:∃st',Bk c p t W0 O W b4 b6 b7 b8 ((va,vb),vc,vd) st' (oa,ob) ((p1,p2),p3,(kx:Int)) V:=hV.elim (fun e=>⟨_,by rw[e];exact HKQ.out⟩) fun h=>⟨_,h⟩
       obtain⟨k1,k2,-⟩:=aj h7;obtain⟨-,-,k3,k4,-⟩:=ah h8;have hc:j=0\/j=1\/j=2\/j=3\/j=4\/j=5:=by omega
       rcases hc with rfl|rfl|rfl|rfl|rfl|rfl<;>obtain rfl:=aal ho
       .simp[execOp,go_sem,dw 0 (by kernel_rfl)]
       .simp[execOp,go_sem,aM 0 82 (by omega) rfl (by decide)]
       .simp[execOp,go_sem,aM 1 83 (by omega) rfl (by decide)]
       .simp[execOp,go_sem,dw 7 (by kernel_rfl),k1,k2]
       .simp[execOp,go_sem,dw 8 (by kernel_rfl)]
       .simp[execOp,go_sem,aM 4 86 (by omega) rfl (by decide),k3,k4]
      .intro o' ev ho aM dw cQ
       obtain rfl:=aal ho;exact AnyM.pM (v:= .agg #[.int .i64 Nt,.int .i64 Ns]) (by simp[execOp,go_sem,aM 2 84 (by omega) rfl (by decide),aM 3 85 (by omega) rfl (by decide),aM 5 87 (by omega) rfl (by decide),cQ]) aeW.out (fun w2 hw2=>⟨rfl,HKQ.out.same hw2.1 hw2.2⟩)
      .intro o' V ev ho hV aM dw
       obtain rfl:=aal ho;obtain⟨k1,k2,kf⟩:=aj hV.2.2.2.1;exact⟨rfl,by simp[execOp,go_sem,dw 7 (by kernel_rfl),aM 6 88 (by omega) rfl (by decide),k1,k2,kf]⟩
      .intro V6 hV
       simp only[aq.canon,aq.dst,Array.size,abS,acY];simp[Act.put];go_wp2;go_roundw
       case rel=>
        have hk:∀b,b≠b7->((V6.setCell ⟨b7,0,none⟩ (.int .i64 Nt)).setCell ⟨b7,1,none⟩ (.int .i64 Ns)).heap[b]? =V6.heap[b]? :=fun b hb=>jP hb _ _
        obtain⟨n1,n2,n3⟩:=zg.out;exact⟨ps,Dx,(Nt,Ns),((hV.1.less (B':=(fun b=>b=b4\/b=b6\/b=b7)) (fun _ hb=> .inl hb)).set (.inr (.inr rfl)) _).set (.inr (.inr rfl)) _,(hk b4 n2).trans hV.2.1,(hk b6 n3).trans hV.2.2.1,ju hV.2.2.2.1 _ _,Mk.out,by have:=nj.out;simp at this;omega⟩
       case measure=>
        have h1:=((hV.1.set (b:=b7) (i:=0) (.inl (.inr (.inr rfl))) (.int .i64 Nt)).set (b:=b7) (i:=1) (.inl (.inr (.inr rfl))) (.int .i64 Ns)).fY;have h2:=gJ.out.fY;rw[h2];refine afx (Nat.le_of_eq (show _=ps.length from h1)) ?_;simp
    .have KX:decide ((p1,p2)=aP)=false:=decide_eq_false hC
     have EZ:Hid (∀w,Calls prog 108 #[.agg #[.int .i64 p1,.int .i64 p2]] w fun e w'=>e= .returned (.bool false)/\Below w.heap.size w w'):=fun w=>by rw[<-KX];exact eZ (p1,p2) w
     have HR:Hid (r=none):=by
      have h1:=abu.out;rw[if_pos (by simpa using hC)] at h1;exact(aal h1).symm
     clear KX hC;go_wp2_with (go_at_call 108;refine(EZ.out _).mono ?_;rintro e W9 ⟨rfl,rW⟩;have uB:=ζ (HK.out.later rW);clear rW z0 z1 z2 z3 zf;obtain⟨oa,ob⟩:=o;obtain⟨x0,x1,xf⟩:=aj uB.out.2.1;obtain⟨x2,x3,-⟩:=aj uB.out.2.2.2.1);obtain⟨r0,r1,-⟩:=aj (ju uB.out.2.1 (.int .i64 oa) (.int .i64 ob));have bX:Hid (aW c p t W0 O W { st with stk:=ps,like:=lk } ((W9.setCell ⟨b4,0,none⟩ (.int .i64 oa)).setCell ⟨b4,1,none⟩ (.int .i64 ob))):=((uB.out.1.set (b:=b4) (i:=0) (.inl (.inl rfl)) (.int .i64 oa)).set (b:=b4) (i:=1) (.inl (.inl rfl)) (.int .i64 ob)).post;refine bodyPost_ret (v:= .tuple #[fj (oa,ob),.bool false]) (by simp[results,results121,go_sem,r0,r1]) rfl ?_;rw[HR.out];exact⟨_,_,rfl,bX.out⟩
end
end
end Go.Proofs.YtbhdibflpjhpaaaGreat
