import Derived.Test.YtbhdibflpjhpaaaGreatMg43
set_option maxHeartbeats 16000000
set_option maxRecDepth 100000
namespace Go.Proofs.YtbhdibflpjhpaaaGreat
section
open Go.Proofs.Tryz
open Go.RowKit Lt
def Nq (oa ob:Int):Nat->aq.Jn
 |0=>⟨[],fun v _ _ _ _=>v=fj aP⟩
 |1=>⟨[],fun v _ _ _ _=>v= .agg #[.int .i64 oa,.int .i64 ob]⟩
 |2=>⟨[0,1],fun v _ _ _ _=>v= .agg #[.int .i64 (-1),.int .i64 (-1),.int .i64 oa,.int .i64 ob]⟩
 |_=>⟨[],fun v _ lo hi w=>v= .pointer (some ⟨lo,0,none⟩)/\lo<hi/\w.heap[lo]? =some (eT ((0,0),0,0))⟩
section
variable {c:Wp} {p t:Nat} {W0 W:World} {O:Nat->Prop} {st:TS} {L U Z:Nat} {vp vw:Value}
def Xp (c:Wp) (p t:Nat) (W0:World) (O:Nat->Prop) (W:World) (st:TS) (r:Option (List Pr×List Int×Pr)) (e:Ending) (w':World):Prop:=
 match r with
 |none=>∃q st',e= .returned (.tuple #[gK q,.bool false])/\aW c p t W0 O W st' w'
 |some (ps,aC,q)=>e= .returned (.tuple #[gK q,.bool true])/\aW c p t W0 O W { st with stk:=ps,like:=aC } w'
def Bo (c:Wp) (p t:Nat) (W0:World) (O:Nat->Prop) (W:World) (b5 b6 b8 b9:Nat) (st:TS) (x q:Pr) (w:World):Prop:=
 (b5+1=b6/\b6≠b8/\b9≠b6/\b9≠b8)/\aJ c p t W0 O W (fun b=>((b=b5\/b=b6)\/b=b8)\/b=b9) st w/\w.heap[b6]? =some (eT ((0,0),0,0))/\w.heap[b8]? =some (eT x)/\w.heap[b9]? =some (eT q)
section
variable {b5 b6 b8 b9:Nat} {x q:Pr} {w w':World}
theorem Bo.same (h:Bo c p t W0 O W b5 b6 b8 b9 st x q w) {st':TS} (hi:aJ c p t W0 O W (fun b=>((b=b5\/b=b6)\/b=b8)\/b=b9) st' w') (hk:∀b,((b=b5\/b=b6)\/b=b8)\/b=b9->w'.heap[b]? =w.heap[b]?):Bo c p t W0 O W b5 b6 b8 b9 st' x q w':=
 ⟨h.1,hi,(hk _ (.inl (.inl (.inr rfl)))).trans h.2.2.1,(hk _ (.inl (.inr rfl))).trans h.2.2.2.1,(hk _ (.inr rfl)).trans h.2.2.2.2⟩
theorem Bo.lt (h:Bo c p t W0 O W b5 b6 b8 b9 st x q w) (b:Nat) (hb:((b=b5\/b=b6)\/b=b8)\/b=b9):b<w.heap.size:=by
 obtain⟨h0,_,h1,h2,h3⟩:=h;have:=lt_of_block h1;have:=lt_of_block h2;have:=lt_of_block h3;omega
theorem Bo.later (h:Bo c p t W0 O W b5 b6 b8 b9 st x q w) (hb:Below w.heap.size w w'):Bo c p t W0 O W b5 b6 b8 b9 st x q w':=
 h.same (h.2.1.later hb) fun _ hx=>hb.block _ (h.lt _ hx)
theorem Bo.turn (h:Bo c p t W0 O W b5 b6 b8 b9 st x q w) (x1 y z u:Int):Bo c p t W0 O W b5 b6 b8 b9 st x ((x1,y),z,u) ((((w.setCell ⟨b9,0,none⟩ (.int .i64 x1)).setCell ⟨b9,1,none⟩ (.int .i64 y)).setCell ⟨b9,2,none⟩ (.int .i64 z)).setCell ⟨b9,3,none⟩ (.int .i64 u)):=by
 have ho:∀b,b9≠b->((((w.setCell ⟨b9,0,none⟩ (.int .i64 x1)).setCell ⟨b9,1,none⟩ (.int .i64 y)).setCell ⟨b9,2,none⟩ (.int .i64 z)).setCell ⟨b9,3,none⟩ (.int .i64 u)).heap[b]? =w.heap[b]? :=fun b hb=>by
  rw[heap_setCell_other _ ⟨b9,3,none⟩ b _ (aao hb),heap_setCell_other _ ⟨b9,2,none⟩ b _ (aao hb),heap_setCell_other _ ⟨b9,1,none⟩ b _ (aao hb),heap_setCell_other _ ⟨b9,0,none⟩ b _ (aao hb)]
 exact⟨h.1,(((h.2.1.set (.inr rfl) _).set (.inr rfl) _).set (.inr rfl) _).set (.inr rfl) _,(ho _ h.1.2.2.1).trans h.2.2.1,(ho _ h.1.2.2.2).trans h.2.2.2.1,jy h.2.2.2.2 _ _ _ _⟩
theorem Bo.lo {pa pb pc pd:Int} (h:Bo c p t W0 O W b5 b6 b8 b9 st ((pa,pb),pc,pd) q w) (x y:Int):Bo c p t W0 O W b5 b6 b8 b9 st ((x,y),pc,pd) q ((w.setCell ⟨b8,0,none⟩ (.int .i64 x)).setCell ⟨b8,1,none⟩ (.int .i64 y)):=
 ⟨h.1,(h.2.1.set (.inl (.inr rfl)) _).set (.inl (.inr rfl)) _,(jP h.1.2.1 _ _).trans h.2.2.1,LA h.2.2.2.1 _ _,(jP h.1.2.2.2 _ _).trans h.2.2.2.2⟩
theorem Bo.hi {pa pb pc pd:Int} (h:Bo c p t W0 O W b5 b6 b8 b9 st ((pa,pb),pc,pd) q w) (x y:Int):Bo c p t W0 O W b5 b6 b8 b9 st ((pa,pb),x,y) q ((w.setCell ⟨b8,2,none⟩ (.int .i64 x)).setCell ⟨b8,3,none⟩ (.int .i64 y)):=by
 have ho:∀b,b≠b8->((w.setCell ⟨b8,2,none⟩ (.int .i64 x)).setCell ⟨b8,3,none⟩ (.int .i64 y)).heap[b]? =w.heap[b]? :=fun b hb=>by
  rw[heap_setCell_other _ ⟨b8,3,none⟩ b _ hb,heap_setCell_other _ ⟨b8,2,none⟩ b _ hb]
 exact⟨h.1,(h.2.1.set (.inl (.inr rfl)) _).set (.inl (.inr rfl)) _,(ho _ h.1.2.1).trans h.2.2.1,LB h.2.2.2.1 _ _,(ho _ h.1.2.2.2).trans h.2.2.2.2⟩
end
theorem FH (h:aS c p t W0 O st L U Z vp vw W) {e:Nat} (oi:Iv) {r:Option (List Pr×List Int×Pr)} (hlen:st.stk.length<=8388607)
 (ho:others c.lw e st.stk st.like (aP,oi)=some r):Calls prog 122 #[.pointer (some ⟨t,0,none⟩),.int .i64 (e:Int),fj oi] W (Xp c p t W0 O W st r):=by
 obtain⟨oa,ob⟩:=oi;obtain⟨W1,hW1⟩:∃W1,W1=(W.alloc (.cells #[.int .i64 oa,.int .i64 ob] 127)).alloc (.cells #[.int .i64 0,.int .i64 0,.int .i64 0,.int .i64 0] 129):=⟨_,rfl⟩;have oz:aJ c p t W0 O W (fun b=>b=W.heap.size\/b=W.heap.size+1) st W1:=by
  rw[hW1];refine(((aJ.start h).box _).box _).less fun b hb=> ?_
  rcases hb with q|q
  .exact .inl (.inr q)
  .exact .inr (by rw[q];simp)
 have hb5:W1.heap[W.heap.size]? =some (qG (oa,ob)):=by
  rw[hW1,ab2 _ _ _ (by simp)];exact heap_alloc_new W _
 have eC:W1.heap[W.heap.size+1]? =some (eT ((0,0),0,0)):=by
  rw[hW1];have:=heap_alloc_new (W.alloc (.cells #[.int .i64 oa,.int .i64 ob] 127)) (eT ((0,0),0,0));rw[acC] at this;exact this
 have pT:=ζ oz;have jN:=ζ hb5;have oN:=ζ eC;have HW:=ζ hW1;have HHO:=ζ ho;have HLEN:=ζ hlen;obtain⟨x0,x1,-⟩:=aj hb5;clear h oz hb5 eC hW1 ho hlen;go_enter func122,ntmps122;go_wp2;go_step3;go_wp2_with fail;rw[<-HW.out];refine wp_region_any (by kernel_rfl) ?_;have dJ:Below W1.heap.size W1 { W1 with drawn:=W1.drawn+1 }:=(aae _ _).drew;refine aq.air (Nq oa ob) 4 61 (by decide) rfl (by kernel_rfl) ?_ ?_ ?_
 .intro i hi v vs lo hi' V V' h1 h2 h3
  have hc:i=0\/i=1\/i=2\/i=3:=by omega
  rcases hc with rfl|rfl|rfl|rfl
  .exact h3
  .exact h3
  .exact h3
  .exact⟨h3.1,h3.2.1,(h2.block lo (acU h3.2.1 h1)).trans h3.2.2⟩
 .intro i o ρ V ev hi ho hb hd aM dw _ cQ
  have hb':Below W1.heap.size W1 V:=dJ.trans hb;obtain⟨y0,y1,-⟩:=aj ((hb'.block _ (lt_of_block jN.out)).trans jN.out);have hc:i=0\/i=1\/i=2\/i=3:=by omega
  rcases hc with rfl|rfl|rfl|rfl<;>obtain rfl:=aal ho
  .exact AnyM.pM (v:=fj aP) (by simp[execOp,go_sem,cQ]) (nM V) (fun w2 hw2=>⟨hw2,rfl⟩)
  .have e1:ev (.tmp 5)= .pointer (some ⟨W.heap.size,0,none⟩):=dw 5 (by kernel_rfl)
   exact aq.cI (v:= .agg #[.int .i64 oa,.int .i64 ob]) (w':=V) (by simp[execOp,go_sem,e1,y0,y1]) ⟨aae _ _,rfl⟩
  .obtain⟨_,_,_,_,_,r4⟩:=hd 0 (by simp[Nq])
   obtain⟨_,_,_,_,_,r5⟩:=hd 1 (by simp[Nq]);have e0:ev (.tmp 12)= .agg #[.int .i64 (-1),.int .i64 (-1)]:=(aM 0 12 (by omega) rfl (by decide)).trans r4;have e1:ev (.tmp 13)= .agg #[.int .i64 oa,.int .i64 ob]:=(aM 1 13 (by omega) rfl (by decide)).trans r5;exact aq.cI (v:= .agg #[.int .i64 (-1),.int .i64 (-1),.int .i64 oa,.int .i64 ob]) (w':=V) (by simp[execOp,go_sem,e0,e1]) ⟨aae _ _,rfl⟩
  .refine aq.cI (v:= .pointer (some ⟨V.heap.size,0,none⟩)) (w':=V.alloc (eT ((0,0),0,0))) ?_ ⟨(aae _ _).alloc (aad _) _,rfl,by simp,heap_alloc_new _ _⟩
   simp[execOp,go_sem]
 .intro ρ lo hi V a ha La aM dw hb hd D9
  have hfr2:a={ tmps:= #[.pointer (some ⟨t,0,none⟩),.int .i64 (e:Int),fj (oa,ob),undef,undef,.pointer (some ⟨W.heap.size,0,none⟩),.pointer (some ⟨W.heap.size+1,0,none⟩),.bool false,ρ 3,undef,undef,undef,ρ 0,ρ 1,ρ 2,undef,undef,undef,undef,undef,undef,undef,undef,undef,undef,undef,undef,undef,undef,undef,undef,undef,undef,undef,undef,undef,undef,undef,undef,undef,undef,undef,undef,undef,undef,undef,undef,undef,undef,undef,undef,undef,undef,undef,undef,undef,undef,undef,undef,undef,undef],defers:=[] }:=by rw[ha];kernel_rfl
  obtain⟨q1,q2,q3,r1,r2,r3⟩:=hd 3 (by omega);have p0:ρ 0=fj aP:=(hd 0 (by omega)).2.2.2;have p1:ρ 1= .agg #[.int .i64 oa,.int .i64 ob]:=(hd 1 (by omega)).2.2.2;have p2:ρ 2= .agg #[.int .i64 (-1),.int .i64 (-1),.int .i64 oa,.int .i64 ob]:=(hd 2 (by omega)).2.2.2;obtain⟨b8,qL⟩:∃b8,lo 3=b8:=⟨_,rfl⟩;rw[qL] at r1 r3;have hb2:Below W1.heap.size W1 V:=dJ.trans hb;have Yy:W1.heap.size<=b8:=by rw[<-qL];exact q1
  rw[p0,p1,p2,r1] at hfr2;have IJ:=lt_of_block oN.out;have Fh:=lt_of_block jN.out;obtain⟨W2,hW2⟩:∃W2,W2=(((V.setCell ⟨b8,0,none⟩ (.int .i64 (-1))).setCell ⟨b8,1,none⟩ (.int .i64 (-1))).setCell ⟨b8,2,none⟩ (.int .i64 oa)).setCell ⟨b8,3,none⟩ (.int .i64 ob):=⟨_,rfl⟩;have DY:∀b,b≠b8->W2.heap[b]? =V.heap[b]? :=fun b hb=>by
   rw[hW2,heap_setCell_other _ ⟨b8,3,none⟩ b _ hb,heap_setCell_other _ ⟨b8,2,none⟩ b _ hb,heap_setCell_other _ ⟨b8,1,none⟩ b _ hb,heap_setCell_other _ ⟨b8,0,none⟩ b _ hb]
  have gJ:Hid (aJ c p t W0 O W (fun b=>(b=W.heap.size\/b=W.heap.size+1)\/b=b8) st W2):=by
   have h1:=pT.out.YL hb2 Yy;rw[hW2];exact(((h1.set (.inr rfl) _).set (.inr rfl) _).set (.inr rfl) _).set (.inr rfl) _
  have HX5:Hid (W2.heap[W.heap.size]? =some (qG (oa,ob))):=(DY _ (by omega)).trans ((hb2.block _ Fh).trans jN.out);have O8:Hid (W2.heap[W.heap.size+1]? =some (eT ((0,0),0,0))):=(DY _ (by omega)).trans ((hb2.block _ IJ).trans oN.out);have HX8:Hid (W2.heap[b8]? =some (eT ((-1,-1),oa,ob))):=by rw[hW2];exact jy r3 _ _ _ _
  have HN:Hid (W.heap.size≠b8/\W.heap.size+1≠b8):=⟨by omega,by omega⟩;have xL:=ζ r3;have qh:=ζ hW2;subst hfr2;clear ha La aM dw hb hd D9 p0 p1 p2 r1 r2 r3 q1 q2 q3 Yy qL Fh IJ hb2 DY hW2 dJ;refine wpAny_ready (rs:=[4]) (by kernel_rfl) (by simp) ?_;refine AllReady.cons rfl (fun K hK=> ?_) AllReady.nil;rw[if_pos (by rfl)];refine aq.cJ.wp (R:=fun _ w'=>w'=W2) ?_ ?_
  .obtain⟨z0,z1,z2,z3,zf⟩:=ah xL.out
   exact aq.gP (w':=W2) (by rw[qh.out];simp[execOp,go_sem,z0,z1,z2,z3,zf]) rfl
  .rintro v w' rfl
   refine hK _ _ ?_;clear hK K;refine wpAny_done (by kernel_rfl) ?_ _;simp only[Act.put];go_wp2_with fail;go_step3;obtain⟨b5,hb5⟩:∃b5,W.heap.size=b5:=⟨_,rfl⟩;obtain⟨b6,eC⟩:∃b6,b5+1=b6:=⟨_,rfl⟩;rw[hb5] at gJ O8 HN;rw[eC] at gJ O8 HN;rw[hb5,eC];have HQ5:=ζ hb5;have ZZ:=ζ eC;clear hb5 eC x0 x1 HX5 xL qh pT jN oN HW;go_wp2_with fail;go_loopw [9] (fun _ wr=>∃ps lk q,aJ c p t W0 O W (fun b=>(b=b5\/b=b6)\/b=b8) { st with stk:=ps,like:=lk } wr/\wr.heap[b6]? =some (eT ((0,0),0,0))/\wr.heap[b8]? =some (eT q)/\others c.lw e ps lk q=some r/\ps.length<=8388607) (fun _ wr=>fY t wr)
   case atStart=>exact⟨st.stk,st.like,((-1,-1),oa,ob),gJ.out,O8.out,HX8.out,HHO.out,HLEN.out⟩
   case round=>
    obtain⟨ps,lk,q,jf,Bz,hx8,ho2,hl2⟩:=hrel;have ajc:=ζ jf;have aiv:=ζ Bz;have aiu:=ζ hx8;have nj:=ζ hl2;have HOW:=ζ ho2;have hB:∀b,(b=b5\/b=b6)\/b=b8->b<wr.heap.size:=fun b hb=>by
     have q1:=lt_of_block Bz;have q2:=lt_of_block hx8;have q3:=ZZ.out;omega
    obtain⟨q',hq'⟩:∃q',top ps=q':=⟨_,rfl⟩;have nC:=ζ (aJ.reads jf hB (f:=74) (args:= #[.pointer (some ⟨t,0,none⟩)]) (R:=fun e=>e= .returned (gK q')) (fun hT=>by rw[<-hq'];exact jq hT (by dsimp only;omega)));obtain⟨l,hl,rr,hr,how⟩:∃l,gW c.lw q'.1 e=some l/\∃rr,gW c.lw q'.2 e=some rr/\(if l=true/\rr=true then r=none else if l=false/\rr=false then r=some (ps,lk,q) else ∃ps',ps=q'::ps'/\(match join lk q.1 (if l=true then q' else turned q').1 with|none=>none|some (fA,i1)=>match join fA q.2 (if l=true then q' else turned q').2 with|none=>none|some (fy,i2)=>others c.lw e ps' fy (i1,i2))=some r):=by
     have h1:=HOW.out;cases ps with
     |nil=>
      have e1:q'=dN:=hq'.symm;refine⟨false,by rw[e1];rfl,false,by rw[e1];rfl,?_⟩;rw[if_neg (by simp),if_pos ⟨rfl,rfl⟩];exact(aal h1).symm
     |cons q0 ps=>
      have e1:q0=q':=hq';subst e1;unfold others at h1;cases hl:gW c.lw q0.1 e with
      |none=>rw[hl] at h1;cases h1
      |some l=>
       cases hr:gW c.lw q0.2 e with
       |none=>rw[hl,hr] at h1;cases l<;>cases h1
       |some rr=>
        refine⟨l,rfl,rr,rfl,?_⟩;rw[hl,hr] at h1;cases l<;>cases rr
        .rw[if_neg (by simp),if_pos ⟨rfl,rfl⟩]
         exact(aal h1).symm
        .rw[if_neg (by simp),if_neg (by simp)]
         exact⟨ps,rfl,h1⟩
        .rw[if_neg (by simp),if_neg (by simp)]
         exact⟨ps,rfl,h1⟩
        .rw[if_pos ⟨rfl,rfl⟩]
         exact(aal h1).symm
    have HHI:Hid (∀(V:World) (i:Iv) (b:Bool),aJ c p t W0 O W (fun b=>((b=b5\/b=b6)\/b=b8)\/b=0) { st with stk:=ps,like:=lk } V->True):=fun _ _ _ _=>trivial
    have HH:=ζ how;obtain⟨⟨qa,qb⟩,qc,qd⟩:=q';have HQT:=ζ hq';clear HHI how jf Bz hx8 ho2 hl2 hq' hB;go_wp2_with (go_at_call 74;refine nC.out.mono ?_;rintro e w5 ⟨rfl,mO,hk5,-⟩;have Mq:=ζ mO;have Tw:=ζ ((hk5 b6 (.inl (.inr rfl))).trans aiv.out);have HE8:=ζ ((hk5 b8 (.inr rfl)).trans aiu.out);clear mO hk5);obtain⟨b9,rW⟩:∃b9,w5.heap.size=b9:=⟨_,rfl⟩;obtain⟨W6,Ox⟩:∃W6,W6=w5.alloc (eT ((qa,qb),qc,qd)):=⟨_,rfl⟩;have pY:Bo c p t W0 O W b5 b6 b8 b9 { st with stk:=ps,like:=lk } q ((qa,qb),qc,qd) W6:=by
     have q1:=lt_of_block Tw.out;have q2:=lt_of_block HE8.out;rw[Ox];exact⟨⟨ZZ.out,fun e=>HN.out.2 e,by omega,by omega⟩,(Mq.out.box _).less fun b hb=>hb.imp id fun q=>by omega,by rw[ab2 _ _ _ q1];exact Tw.out,by rw[ab2 _ _ _ q2];exact HE8.out,by rw[<-rW];exact heap_alloc_new _ _⟩
    have HHI:Hid (∀(D:LW W6) (ia ib:Int) (b:Bool),gW c.lw (ia,ib) (e:Int)=some b->Calls prog 130 #[.pointer (some ⟨t,0,none⟩),.agg #[.int .i64 ia,.int .i64 ib],.int .i64 (e:Int)] D.val fun r w'=>r= .returned (.bool b)/\Below D.val.heap.size D.val w'):=fun D ia ib b hb=>by
     obtain⟨-,-,O',-,-,L',U',Z',sZ,vO,hT⟩:=pY.2.1.later D.h;exact Hj (i:=(ia,ib)) hT hb
    have y0:∀D:LW W6,D.val.cell? ⟨b9,0,none⟩=some (.int .i64 qa):=fun D=>(ah (pY.later D.h).2.2.2.2).1
    have y1:∀D:LW W6,D.val.cell? ⟨b9,1,none⟩=some (.int .i64 qb):=fun D=>(ah (pY.later D.h).2.2.2.2).2.1
    have y2:∀D:LW W6,D.val.cell? ⟨b9,2,none⟩=some (.int .i64 qc):=fun D=>(ah (pY.later D.h).2.2.2.2).2.2.1
    have y3:∀D:LW W6,D.val.cell? ⟨b9,3,none⟩=some (.int .i64 qd):=fun D=>(ah (pY.later D.h).2.2.2.2).2.2.2.1
    have hne:=LW.any W6;have HK6:=ζ pY;have HW6:=ζ Ox;change Code.wp _ _ _ _ (w5.alloc (eT ((qa,qb),qc,qd)));rw[<-HW6.out,rW];clear pY Ox rW;refine aG (by kernel_rfl) (by kernel_rfl) ?_
    repeat (go_big_quiet_step ((first|(go_at_call 130;exact Calls.lw (HHI.out _ _ _ _ (by assumption))))))
    refine wpQuiet_nil ?_;rintro _ ⟨D,rfl⟩;clear y0 y1 y2 y3 hl hr;have Fz:=ζ (HK6.out.later D.h);obtain⟨⟨pa,pb⟩,pc,pd⟩:=q;have HS:Hid (¬(l=true/\rr=true)->¬(l=false/\rr=false)->∀q:Pr,q=(if l=true then ((qa,qb),qc,qd) else ((qc,qd),qa,qb))->∃ps' nG lX ia ib ja jb,ps=((qa,qb),qc,qd)::ps'/\join lk (pa,pb) q.1=some (nG,(ia,ib))/\join nG (pc,pd) q.2=some (lX,(ja,jb))/\others c.lw e ps' lX ((ia,ib),ja,jb)=some r):=fun g1 g2 q hq=>by
     have h1:=HH.out;rw[if_neg g1,if_neg g2] at h1;obtain⟨ps',h2,h3⟩:=h1;rw[show turned ((qa,qb),qc,qd)=((qc,qd),qa,qb) from rfl,<-hq] at h3;dsimp only at h3;cases e1:join lk (pa,pb) q.1 with
     |none=>rw[e1] at h3;cases h3
     |some r1=>
      obtain⟨nG,ia,ib⟩:=r1;rw[e1] at h3;dsimp only at h3;cases e2:join nG (pc,pd) q.2 with
      |none=>rw[e2] at h3;cases h3
      |some r2=>
       obtain⟨lX,ja,jb⟩:=r2;rw[e2] at h3;exact⟨ps',nG,lX,ia,ib,ja,jb,h2,rfl,e2,h3⟩
    go_upto_block 2 with fail
    go_cut [27] from 15 to 59 (fun _ wr=>∃(q1 q2 q3 q4:Int) (ps':List Pr) (nG lX:List Int) (ia ib ja jb:Int),(ps=((qa,qb),qc,qd)::ps'/\join lk (pa,pb) (q1,q2)=some (nG,(ia,ib))/\join nG (pc,pd) (q3,q4)=some (lX,(ja,jb))/\others c.lw e ps' lX ((ia,ib),ja,jb)=some r)/\Bo c p t W0 O W b5 b6 b8 b9 { st with stk:=ps,like:=lk } ((pa,pb),pc,pd) ((q1,q2),q3,q4) wr)
    case first=>
     obtain⟨x0,x1,x2,x3,xf⟩:=ah Fz.out.2.2.1;obtain⟨z0,z1,z2,z3,-⟩:=ah Fz.out.2.2.2.1;have Q4:Hid (aW c p t W0 O W { st with stk:=ps,like:=lk } ((((D.val.setCell ⟨b6,0,none⟩ (.int .i64 pa)).setCell ⟨b6,1,none⟩ (.int .i64 pb)).setCell ⟨b6,2,none⟩ (.int .i64 pc)).setCell ⟨b6,3,none⟩ (.int .i64 pd))):=((((Fz.out.2.1.set (b:=b6) (i:=0) (.inl (.inl (.inr rfl))) (.int .i64 pa)).set (b:=b6) (i:=1) (.inl (.inl (.inr rfl))) (.int .i64 pb)).set (b:=b6) (i:=2) (.inl (.inl (.inr rfl))) (.int .i64 pc)).set (b:=b6) (i:=3) (.inl (.inl (.inr rfl))) (.int .i64 pd)).post;obtain⟨r0,r1,r2,r3,-⟩:=ah (jy Fz.out.2.2.1 (.int .i64 pa) (.int .i64 pb) (.int .i64 pc) (.int .i64 pd));cases l<;>cases rr
     .have hr:r=some (ps,lk,(pa,pb),pc,pd):=by
       have h1:=HH.out;rw[if_neg (by simp),if_pos ⟨rfl,rfl⟩] at h1;exact h1
      have HR:=ζ hr;clear hr;go_wp2;refine bodyPost_ret (v:= .tuple #[gK ((pa,pb),pc,pd),.bool true]) (by simp[results,results122,go_sem,r0,r1,r2,r3]) rfl ?_;rw[HR.out];exact⟨rfl,Q4.out⟩
     .obtain⟨ps',nG,lX,ia,ib,ja,jb,hs⟩:=HS.out (by simp) (by simp) _ rfl
      have HSS:=ζ hs;have HTU:Hid (∀w,Calls prog 128 #[gK ((qa,qb),qc,qd)] w fun e w'=>e= .returned (gK ((qc,qd),qa,qb))/\Below w.heap.size w w'):=fun w=>Ay ((qa,qb),qc,qd) w
      clear hs x0 x1 x2 x3 xf z0 z1 z2 z3 r0 r1 r2 r3 Q4;obtain⟨z0,z1,z2,z3,-⟩:=ah Fz.out.2.2.2.2;go_wp2_with (go_at_call 128;refine(HTU.out _).mono ?_;rintro e1 wt ⟨rfl,Fk⟩;have HKt:=ζ (Fz.out.later Fk);clear Fk z0 z1 z2 z3;obtain⟨z0,z1,z2,z3,zf⟩:=ah HKt.out.2.2.2.2)
      go_meet
      exact⟨qc,qd,qa,qb,ps',nG,lX,ia,ib,ja,jb,HSS.out,HKt.out.turn _ _ _ _⟩
     .obtain⟨ps',nG,lX,ia,ib,ja,jb,hs⟩:=HS.out (by simp) (by simp) _ rfl
      have HSS:=ζ hs;clear hs x0 x1 x2 x3 xf z0 z1 z2 z3 r0 r1 r2 r3 Q4;go_wp2
      go_meet
      exact⟨qa,qb,qc,qd,ps',nG,lX,ia,ib,ja,jb,HSS.out,Fz.out⟩
     .have hr:r=none:=by
       have h1:=HH.out;rw[if_pos ⟨rfl,rfl⟩] at h1;exact h1
      have HR:=ζ hr;clear hr;go_wp2;refine bodyPost_ret (v:= .tuple #[gK ((pa,pb),pc,pd),.bool false]) (by simp[results,results122,go_sem,r0,r1,r2,r3]) rfl ?_;rw[HR.out];exact⟨_,_,rfl,Q4.out⟩
    case rest=>
    obtain⟨q1,q2,q3,q4,ps',nG,lX,ia,ib,ja,jb,⟨rfl,hj1,hj2,II⟩,hk⟩:=hcut;have mX:=ζ (aJ.calls hk.2.1 hk.lt (f:=107) (args:= #[.pointer (some ⟨t,0,none⟩)]) (R:=fun e=>e= .returned (.tuple #[])) (st':={ st with stk:=ps',like:=lk }) (fun hT=>uK hT rfl (by have:=nj.out;simp at this ⊢;omega)));have HJa:=ζ hj1;have HJb:=ζ hj2;have Mk:=ζ II;have HK:=ζ hk;clear hj1 hj2 II hk;go_wp2_with (go_at_call 107;refine mX.out.mono ?_;rintro e1 wp ⟨rfl,aa2,hkp⟩;have HKp:=ζ (HK.out.same aa2 hkp);clear aa2 hkp);obtain⟨Wq,Ow⟩:∃Wq,Wq=wp.drew:=⟨_,rfl⟩;have ZQ:Hid (Bo c p t W0 O W b5 b6 b8 b9 { st with stk:=ps',like:=lk } ((pa,pb),pc,pd) ((q1,q2),q3,q4) Wq):=by rw[Ow];exact HKp.out.same HKp.out.2.1.drew (fun _ _=>rfl)
    have ai9:=ζ (aJ.calls ZQ.out.2.1 ZQ.out.lt (f:=129) (args:= #[.pointer (some ⟨t,1,none⟩),fj (pa,pb),fj (q1,q2)]) (R:=fun e=>e= .returned (fj (ia,ib))) (st':={ st with stk:=ps',like:=nG }) (fun hT=>wM hT HJa.out));refine wp_region_any (by kernel_rfl) ?_;change wpAny _ _ _ _ _ _ _ wp.drew;rw[<-Ow];clear Ow;refine aq.W8 (fun j=>match j with|0=> .pointer (some ⟨t,0,none⟩)|1=> .pointer (some ⟨t,0,none⟩)|2=> .pointer (some ⟨t,1,none⟩)|3=> .pointer (some ⟨b8,0,none⟩)|4=> .agg #[.int .i64 pa,.int .i64 pb]|5=> .pointer (some ⟨b9,0,none⟩)|6=> .agg #[.int .i64 q1,.int .i64 q2]|7=> .agg #[.int .i64 ia,.int .i64 ib]|8=> .pointer (some ⟨b8,0,none⟩)|_=>undef) (Bo c p t W0 O W b5 b6 b8 b9 { st with stk:=ps',like:=nG } ((pa,pb),pc,pd) ((q1,q2),q3,q4)) (fun V=>(V.setCell ⟨b8,0,none⟩ (.int .i64 ia)).setCell ⟨b8,1,none⟩ (.int .i64 ib)) 61 9 7 rfl (by kernel_rfl) rfl (by decide) (by kernel_rfl) ?_ ?_ ?_ ?_
    .intro j o' V ev ho hj hjc hV aM dw
     obtain⟨st',-,-,-,h8,h9⟩:∃st',Bo c p t W0 O W b5 b6 b8 b9 st' ((pa,pb),pc,pd) ((q1,q2),q3,q4) V:=hV.elim (fun e=>⟨_,by rw[e];exact ZQ.out⟩) fun h=>⟨_,h⟩
     obtain⟨k1,k2,-⟩:=ah h8;obtain⟨k3,k4,-⟩:=ah h9;have hc:j=0\/j=1\/j=2\/j=3\/j=4\/j=5\/j=6\/j=8:=by omega
     rcases hc with rfl|rfl|rfl|rfl|rfl|rfl|rfl|rfl<;>obtain rfl:=aal ho
     .simp[execOp,go_sem,dw 0 (by kernel_rfl)]
     .simp[execOp,go_sem,aM 0 42 (by omega) rfl (by decide)]
     .simp[execOp,go_sem,aM 1 43 (by omega) rfl (by decide)]
     .simp[execOp,go_sem,dw 8 (by kernel_rfl)]
     .simp[execOp,go_sem,aM 3 45 (by omega) rfl (by decide),k1,k2]
     .simp[execOp,go_sem,dw 9 (by kernel_rfl)]
     .simp[execOp,go_sem,aM 5 47 (by omega) rfl (by decide),k3,k4]
     .simp[execOp,go_sem,dw 8 (by kernel_rfl)]
    .intro o' ev ho aM dw cQ
     obtain rfl:=aal ho;exact AnyM.pM (v:= .agg #[.int .i64 ia,.int .i64 ib]) (by simp[execOp,go_sem,aM 2 44 (by omega) rfl (by decide),aM 4 46 (by omega) rfl (by decide),aM 6 48 (by omega) rfl (by decide),cQ]) ai9.out (fun w2 hw2=>⟨rfl,ZQ.out.same hw2.1 hw2.2⟩)
    .intro o' V ev ho hV aM dw
     obtain rfl:=aal ho;obtain⟨k1,k2,-,-,kf⟩:=ah hV.2.2.2.1;exact⟨rfl,by simp[execOp,go_sem,aM 8 50 (by omega) rfl (by decide),aM 7 49 (by omega) rfl (by decide),k1,k2,kf]⟩
    .intro V6 hV
     simp only[aq.canon,aq.dst,Array.size,abS,acY];simp[Act.put];have HKr:=ζ (hV.lo ia ib);generalize (V6.setCell ⟨b8,0,none⟩ (.int .i64 ia)).setCell ⟨b8,1,none⟩ (.int .i64 ib)=V7 at*;clear hV;go_wp2_with fail;obtain⟨Wr,SH⟩:∃Wr,Wr=V7.drew:=⟨_,rfl⟩;have ZP:Hid (Bo c p t W0 O W b5 b6 b8 b9 { st with stk:=ps',like:=nG } ((ia,ib),pc,pd) ((q1,q2),q3,q4) Wr):=by rw[SH];exact HKr.out.same HKr.out.2.1.drew (fun _ _=>rfl)
     have ai8:=ζ (aJ.calls ZP.out.2.1 ZP.out.lt (f:=129) (args:= #[.pointer (some ⟨t,1,none⟩),fj (pc,pd),fj (q3,q4)]) (R:=fun e=>e= .returned (fj (ja,jb))) (st':={ st with stk:=ps',like:=lX }) (fun hT=>wM hT HJb.out));refine wp_region_any (by kernel_rfl) ?_;change wpAny _ _ _ _ _ _ _ V7.drew;rw[<-SH];clear SH;refine aq.W8 (fun j=>match j with|0=> .pointer (some ⟨t,0,none⟩)|1=> .pointer (some ⟨t,0,none⟩)|2=> .pointer (some ⟨t,1,none⟩)|3=> .pointer (some ⟨b8,2,none⟩)|4=> .agg #[.int .i64 pc,.int .i64 pd]|5=> .pointer (some ⟨b9,2,none⟩)|6=> .agg #[.int .i64 q3,.int .i64 q4]|7=> .agg #[.int .i64 ja,.int .i64 jb]|8=> .pointer (some ⟨b8,2,none⟩)|_=>undef) (Bo c p t W0 O W b5 b6 b8 b9 { st with stk:=ps',like:=lX } ((ia,ib),pc,pd) ((q1,q2),q3,q4)) (fun V=>(V.setCell ⟨b8,2,none⟩ (.int .i64 ja)).setCell ⟨b8,3,none⟩ (.int .i64 jb)) 61 9 7 rfl (by kernel_rfl) rfl (by decide) (by kernel_rfl) ?_ ?_ ?_ ?_
     .intro j o' V ev ho hj hjc hV aM dw
      obtain⟨st',-,-,-,h8,h9⟩:∃st',Bo c p t W0 O W b5 b6 b8 b9 st' ((ia,ib),pc,pd) ((q1,q2),q3,q4) V:=hV.elim (fun e=>⟨_,by rw[e];exact ZP.out⟩) fun h=>⟨_,h⟩
      obtain⟨-,-,k1,k2,-⟩:=ah h8;obtain⟨-,-,k3,k4,-⟩:=ah h9;have hc:j=0\/j=1\/j=2\/j=3\/j=4\/j=5\/j=6\/j=8:=by omega
      rcases hc with rfl|rfl|rfl|rfl|rfl|rfl|rfl|rfl<;>obtain rfl:=aal ho
      .simp[execOp,go_sem,dw 0 (by kernel_rfl)]
      .simp[execOp,go_sem,aM 0 51 (by omega) rfl (by decide)]
      .simp[execOp,go_sem,aM 1 52 (by omega) rfl (by decide)]
      .simp[execOp,go_sem,dw 8 (by kernel_rfl)]
      .simp[execOp,go_sem,aM 3 54 (by omega) rfl (by decide),k1,k2]
      .simp[execOp,go_sem,dw 9 (by kernel_rfl)]
      .simp[execOp,go_sem,aM 5 56 (by omega) rfl (by decide),k3,k4]
      .simp[execOp,go_sem,dw 8 (by kernel_rfl)]
     .intro o' ev ho aM dw cQ
      obtain rfl:=aal ho;exact AnyM.pM (v:= .agg #[.int .i64 ja,.int .i64 jb]) (by simp[execOp,go_sem,aM 2 53 (by omega) rfl (by decide),aM 4 55 (by omega) rfl (by decide),aM 6 57 (by omega) rfl (by decide),cQ]) ai8.out (fun w2 hw2=>⟨rfl,ZP.out.same hw2.1 hw2.2⟩)
     .intro o' V ev ho hV aM dw
      obtain rfl:=aal ho;obtain⟨-,-,k1,k2,kf⟩:=ah hV.2.2.2.1;exact⟨rfl,by simp[execOp,go_sem,aM 8 59 (by omega) rfl (by decide),aM 7 58 (by omega) rfl (by decide),k1,k2,kf]⟩
     .intro V6 hV
      simp only[aq.canon,aq.dst,Array.size,abS,acY];simp[Act.put];have Z9:=ζ (hV.hi ja jb);go_wp2;go_roundw
      case rel=>exact⟨ps',lX,((ia,ib),ja,jb),Z9.out.2.1.less (B':=(fun b=>(b=b5\/b=b6)\/b=b8)) (fun _ hb=> .inl hb),Z9.out.2.2.1,Z9.out.2.2.2.1,Mk.out,by have:=nj.out;simp at this;omega⟩
      case measure=>
       rw[ajc.out.fY];refine afx (Nat.le_of_eq (show _=ps'.length from Z9.out.2.1.fY)) ?_;simp
end
end
section
open Go.Proofs.Tryz
open Go.RowKit Lt
theorem Kb {lw lowest:List Int} {above:Int} {bottom:Pr}:∀{ps:List Pr} {like:List Int} {o:Iv} {qs:List Pr} {aC:List Int} {i:Iv},Lt.own lw lowest above bottom ps like o=some (some (qs,aC,i))->qs.length<=ps.length
 |[],like,o,qs,aC,i,h=>by
  unfold Lt.own at h
  split at h
  .cases h;simp
  .cases h
 |q::ps,like,o,qs,aC,i,h=>by
  unfold Lt.own at h;by_cases e1:q=bottom
  .rw[if_pos e1] at h
   cases h;simp
  .rw[if_neg e1] at h
   by_cases e2:(if q.2=aP then q.2 else q.1)≠aP
   .rw[if_pos e2] at h
    cases h
   .rw[if_neg e2] at h
    generalize (if q.2=aP then q.1 else q.2)=X at h;cases e3:bF lw X.2 with
    |none=>rw[e3] at h;cases h
    |some a=>
     cases e4:bF lw above with
     |none=>rw[e3,e4] at h;cases h
     |some b=>
      rw[e3,e4] at h;dsimp only at h;have fin:∀{fy:List Int} {o2:Iv},Lt.own lw lowest above bottom ps fy o2=some (some (qs,aC,i))->qs.length<=(q::ps).length:=fun h2=>by
       have:=Kb h2;rw[abS];omega
      by_cases e5:a=b
      .rw[if_pos e5] at h
       cases e6:bF lowest above with
       |none=>rw[e6] at h;cases h
       |some z=>
        rw[e6] at h;dsimp only at h;cases e7:fE like X.2 z with
        |none=>rw[e7] at h;cases h
        |some l2=>rw[e7] at h;exact fin h
      .rw[if_neg e5] at h
       cases e6:join like o X with
       |none=>rw[e6] at h;cases h
       |some q2=>
        obtain⟨l2,o2⟩:=q2;rw[e6] at h;exact fin h
theorem AP {lw:List Int} {e:Int}:∀{ps:List Pr} {like:List Int} {p:Pr} {qs:List Pr} {aC:List Int} {i:Pr},others lw e ps like p=some (some (qs,aC,i))->qs.length<=ps.length
 |[],like,p,qs,aC,i,h=>by
  cases h;simp
 |q::ps,like,p,qs,aC,i,h=>by
  unfold others at h;cases e1:gW lw q.1 e with
  |none=>rw[e1] at h;cases h
  |some l=>
   cases e2:gW lw q.2 e with
   |none=>rw[e1,e2] at h;cases l<;>cases h
   |some r=>
    rw[e1,e2] at h;have fin:∀{x:Pr},(match join like p.1 x.1 with|none=>none|some (fA,i1)=>match join fA p.2 x.2 with|none=>none|some (fy,i2)=>others lw e ps fy (i1,i2))=some (some (qs,aC,i))->qs.length<=(q::ps).length:=fun {x} h2=>by
     cases e3:join like p.1 x.1 with
     |none=>rw[e3] at h2;cases h2
     |some r1=>
      obtain⟨l1,i1⟩:=r1;rw[e3] at h2;dsimp only at h2;cases e4:join l1 p.2 x.2 with
      |none=>rw[e4] at h2;cases h2
      |some r2=>
       obtain⟨l2,i2⟩:=r2;rw[e4] at h2;have:=AP h2;rw[abS];omega
    cases l<;>cases r
    .cases h;simp
    .exact fin h
    .exact fin h
    .cases h
section
variable {c:Wp} {p t:Nat} {W0 W:World} {O:Nat->Prop} {st:TS} {L U Z:Nat} {vp vw:Value}
def iD (c:Wp) (p t:Nat) (W0:World) (O:Nat->Prop) (W:World) (r:Option TS) (e:Ending) (w':World):Prop:=
 match r with
 |none=>∃st',e= .returned (.bool false)/\aW c p t W0 O W st' w'
 |some st'=>e= .returned (.bool true)/\aW c p t W0 O W st' w'
noncomputable def Wp.env (c:Wp):Env:=⟨c.lw,Lo.bY c.n c.es c.s c.es.length,c.s.par,c.s.ay,c.s.ord,c.s.aT,c.es.map (·.1),c.es.map (·.2)⟩
theorem aW.later {V V':World} {st':TS} (h:aW c p t W0 O W st' V) (hb:Below V.heap.size V V'):aW c p t W0 O W st' V':=by
 obtain⟨h1,L',U',Z',sZ,vO,h2⟩:=h;have h3:=h2.later hb;exact⟨h1.later hb,L',U',Z',sZ,vO,h3.more (fun b hb'=>⟨hb'.1,h3.oX b hb'⟩) (fun b hb'=>by
  by_cases hv:b<V.heap.size
  .exact h2.oB b ⟨hb'.1,hv⟩
  .have:=h2.aZ.size
   omega) (fun b hb'=>hb'.2)⟩
theorem M4 (h:aS c p t W0 O st L U Z vp vw W) {e a:Nat} {r:Option TS} (hlen:st.stk.length<=8388606) (hwl:st.way.length<=8388607) (ho:Lt.mg c.env st e a=some r):
 Calls prog 112 #[.pointer (some ⟨t,0,none⟩),.int .i64 (e:Int),.int .i64 (a:Int)] W (iD c p t W0 O W r):=by
 have eqP:=WJ;unfold Lt.mg at ho;cases bD:st.way with
 |nil=>rw[bD] at ho;cases ho
 |cons v ws=>
  rw[bD] at ho;dsimp only at ho;cases h1:Lt.own c.env.lw st.lowest a v.2.2 st.stk st.like aP with
  |none=>rw[h1] at ho;cases ho
  |some r1=>
   have Ml:=ζ (FE h bD (by omega) hwl h1);rw[h1] at ho;have hB0:=h.aZ.size;cases r1 with
   |none=>
    cases ho;clear h bD h1;go_enter func112,ntmps112;go_wp2_with (go_at_call 121;refine Ml.out.mono ?_;rintro e1 w1 ⟨i,fX,rfl,kQ⟩;have HP1:=ζ kQ;clear kQ);go_ret;exact⟨fX,rfl,HP1.out.later ((aae _ _).alloc (aad _) _)⟩
   |some q1=>
    obtain⟨ps,lk,oa,ob⟩:=q1;dsimp only at ho;have Jr:=ζ (aJ.calls (aJ.start h) (fun b hb=>hb.elim) (f:=121) (args:= #[.pointer (some ⟨t,0,none⟩),.int .i64 (a:Int)]) (R:=fun e=>e= .returned (.tuple #[fj (oa,ob),.bool true])) (st':={ st with stk:=ps,like:=lk }) (fun hT=>FE hT bD (by omega) hwl h1));cases h2:others c.env.lw e ps lk (aP,(oa,ob)) with
    |none=>rw[h2] at ho;cases ho
    |some r2=>
     rw[h2] at ho;have hpl:ps.length<=st.stk.length:=Kb h1;have H2:=ζ h2;have yZ:Hid (ps.length<=8388606):=by show ps.length<=8388606;omega
     have abn:=ζ bD;clear h1 h2 Ml h bD hpl;go_enter func112,ntmps112;go_wp2_with (go_at_call 121;refine Jr.out.mono ?_;rintro e1 w1 ⟨rfl,oz,-⟩;have pT:=ζ oz;clear oz);obtain⟨b7,mQ⟩:∃b7,w1.heap.size=b7:=⟨_,rfl⟩;obtain⟨W2,hW2⟩:∃W2,W2=w1.alloc (qG (oa,ob)):=⟨_,rfl⟩;have jf:aJ c p t W0 O W (fun b=>b=b7) { st with stk:=ps,like:=lk } W2:=by
      rw[hW2];exact(pT.out.box _).less fun b hb=> .inr (by omega)
     have Zc:W2.heap[b7]? =some (qG (oa,ob)):=by rw[hW2,<-mQ];exact heap_alloc_new _ _
     have hB2:∀b,b=b7->b<W2.heap.size:=fun b hb=>by have:=lt_of_block Zc;omega
     have qh:=ζ hW2;have Ya:=ζ mQ;cases r2 with
     |none=>
      cases ho;have HOT:Hid (Calls prog 122 #[.pointer (some ⟨t,0,none⟩),.int .i64 (e:Int),fj (oa,ob)] W2 fun r w'=>∃q st',r= .returned (.tuple #[gK q,.bool false])/\aW c p t W0 O W st' w'):=by
       obtain⟨⟨k0,k00,k01⟩,k1,O',k2,k3,L',U',Z',sZ,vO,hT⟩:=jf;refine(FH hT (oa,ob) (by have:=yZ.out;dsimp only;omega) H2.out).mono fun r w' hr=> ?_
       obtain⟨q,st',e1,e2⟩:=hr;refine⟨q,st',e1,?_⟩;have hx:aJ c p t W0 O W (fun _=>False) st' w':=by
        obtain⟨hw,L2,U2,Z2,vp2,vw2,h5⟩:=e2;refine⟨⟨k0,k00,fun b hb=>hb.elim⟩,?_,_,fun b hb=> ?_,fun b hb=>hb.elim,L2,U2,Z2,vp2,vw2,h5⟩
        .refine⟨hw.os.trans k1.os,hw.tape.trans k1.tape,hw.output.trans k1.output,acA k1.size hw.size,fun k hk hn=> ?_⟩
         have hs:=k1.size;exact(hw.block k (by omega) (fun q=>(k2 k q).elim hn fun q=>by omega)).trans (k1.block k hk hn)
        .have hs:=k1.size
         rcases hb.1 with q|q
         .exact k2 b q
         .exact .inr (by omega)
       exact hx.post
      change Calls _ _ _ (w1.alloc (qG (oa,ob))) _;rw[<-qh.out];clear jf Zc hB2 hW2 mQ;go_at_call 122;refine HOT.out.mono ?_;rintro e1 w3 ⟨q,st',rfl,hp3⟩;have HP3:=ζ hp3;clear hp3;go_wp2_with fail;obtain⟨W4,tj⟩:∃W4,W4=w3.alloc (eT q):=⟨_,rfl⟩;have HP4:Hid (aW c p t W0 O W st' W4):=by rw[tj];exact HP3.out.later ((aae _ _).alloc (aad _) _)
      change Code.wp _ _ _ _ (w3.alloc (eT q));rw[<-tj];have Vi:=LW.any W4;clear tj;refine aG (by kernel_rfl) (by kernel_rfl) ?_
      repeat (go_big_quiet_step (fail))
      refine wpQuiet_nil ?_;rintro _ ⟨D,rfl⟩;go_wp2;go_ret;exact⟨st',rfl,HP4.out.later D.h⟩
     |some q2=>
      obtain⟨qs,lX,⟨pa,pb⟩,pc,pd⟩:=q2;have HOT:=ζ (aJ.calls jf hB2 (f:=122) (args:= #[.pointer (some ⟨t,0,none⟩),.int .i64 (e:Int),fj (oa,ob)]) (R:=fun e=>e= .returned (.tuple #[gK ((pa,pb),pc,pd),.bool true])) (st':={ st with stk:=qs,like:=lX }) (fun hT=>FH hT (oa,ob) (by have:=yZ.out;dsimp only;omega) H2.out));have DV:qs.length<=ps.length:=AP H2.out;have HQL:Hid (qs.length<=8388606):=by show qs.length<=8388606;have:=yZ.out;omega
      have cj:=ζ hB2;obtain⟨z0,z1,-⟩:=aj Zc;change Calls _ _ _ (w1.alloc (qG (oa,ob))) _;rw[<-qh.out];clear jf Zc hB2 hW2 mQ DV z0 z1;go_at_call 122;refine HOT.out.mono ?_;rintro e1 w3 ⟨rfl,je,-⟩;have sW:=ζ je;clear je;go_wp2_with fail;obtain⟨b9,rW⟩:∃b9,w3.heap.size=b9:=⟨_,rfl⟩;obtain⟨W4,tj⟩:∃W4,W4=w3.alloc (eT ((pa,pb),pc,pd)):=⟨_,rfl⟩;have K2:aJ c p t W0 O W (fun b=>b=b9) { st with stk:=qs,like:=lX } W4:=by
       rw[tj];exact(sW.out.box _).less fun b hb=> .inr (by omega)
      have Ok:W4.heap[b9]? =some (eT ((pa,pb),pc,pd)):=by rw[tj,<-rW];exact heap_alloc_new _ _
      have Vs:=lt_of_block Ok;have Ao:Hid (∀D:LW W4,Calls prog 90 #[] D.val fun e w'=>e= .returned (gK dN)/\Below D.val.heap.size D.val w'):=fun D=>qB D.val
      have y0:∀D:LW W4,D.val.cell? ⟨b9,0,none⟩=some (.int .i64 pa):=fun D=>(ah ((D.h.block _ Vs).trans Ok)).1
      have y1:∀D:LW W4,D.val.cell? ⟨b9,1,none⟩=some (.int .i64 pb):=fun D=>(ah ((D.h.block _ Vs).trans Ok)).2.1
      have y2:∀D:LW W4,D.val.cell? ⟨b9,2,none⟩=some (.int .i64 pc):=fun D=>(ah ((D.h.block _ Vs).trans Ok)).2.2.1
      have y3:∀D:LW W4,D.val.cell? ⟨b9,3,none⟩=some (.int .i64 pd):=fun D=>(ah ((D.h.block _ Vs).trans Ok)).2.2.2.1
      have Vi:=LW.any W4;have sU:=ζ K2;have HF9:=ζ Ok;have xJ:=ζ tj;change Code.wp _ _ _ _ (w3.alloc (eT ((pa,pb),pc,pd)));rw[<-xJ.out,rW];clear K2 Ok Vs tj rW;by_cases hn:((pa,pb),pc,pd)=dN
      .rw[if_pos hn] at ho
       cases ho;have q1:pa= -1:=congrArg (fun x:Pr=>x.1.1) hn;have q2:pb= -1:=congrArg (fun x:Pr=>x.1.2) hn;have q3:pc= -1:=congrArg (fun x:Pr=>x.2.1) hn;have q4:pd= -1:=congrArg (fun x:Pr=>x.2.2) hn;subst q1;subst q2;subst q3;subst q4;clear hn;refine aG (by kernel_rfl) (by kernel_rfl) ?_
       repeat (go_big_quiet_step ((first|(go_at_call 90;exact Calls.lw (Ao.out _)))))
       refine wpQuiet_nil ?_;rintro _ ⟨D,rfl⟩;clear y0 y1 y2 y3;go_wp2;go_ret;exact⟨rfl,by rw[<-abn.out];exact(sU.out.later D.h).post⟩
      .rw[if_neg hn] at ho
       cases ho;have hdec:=Kk hn;dsimp only at hdec;clear hn;refine aG (by kernel_rfl) (by kernel_rfl) ?_
       repeat (go_big_quiet_step ((first|(go_at_call 90;exact Calls.lw (Ao.out _)))))
       refine wpQuiet_nil ?_;rintro _ ⟨D,rfl⟩;clear y0 y1 y2 y3;have mO:=sU.out.later D.h;have hb5:D.val.heap[b9]? =some (eT ((pa,pb),pc,pd)):=(D.h.block _ (lt_of_block HF9.out)).trans HF9.out;obtain⟨z0,z1,z2,z3,-⟩:=ah hb5;have Fy:=ζ (aJ.calls mO (fun b hb=>by have:=lt_of_block hb5;omega) (f:=94) (args:= #[.pointer (some ⟨t,0,none⟩),gK ((pa,pb),pc,pd)]) (R:=fun e=>e= .returned (.tuple #[])) (st':={ st with stk:=((pa,pb),pc,pd)::qs,like:=lX }) (fun hT=>wL hT ((pa,pb),pc,pd) (by have:=HQL.out;dsimp only;omega)));clear mO hb5;go_wp2_with (go_at_call 94;refine Fy.out.mono ?_;rintro e1 w6 ⟨rfl,tS,-⟩;have zh:=ζ tS;clear tS);go_ret;exact⟨rfl,by rw[<-abn.out];exact zh.out.post⟩
end
end
end Go.Proofs.YtbhdibflpjhpaaaGreat
