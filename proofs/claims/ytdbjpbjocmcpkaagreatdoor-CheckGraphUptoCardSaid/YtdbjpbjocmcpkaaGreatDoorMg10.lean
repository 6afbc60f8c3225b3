import Derived.Test.YtdbjpbjocmcpkaaGreatDoorMg09
set_option maxHeartbeats 16000000
set_option maxRecDepth 100000
namespace Go.Proofs.YtdbjpbjocmcpkaaGreatDoor
section
open Go.Proofs.Tryz
open Go.RowKit Go.Sort aP
def MT (n:Nat) (ao:Option Addr) (ca:Nat) (es:List (Int×Int)) (w:World) (e:Ending) (w':World):Prop:=
 ∃p gf ga gl F An,e= .returned (.pointer (some ⟨p,0,none⟩))/\fG w' w.heap.size p gf ga gl n ao ca es F An (List.replicate n (-1))/\Ro.Fi n es F An (2*es.length)/\Below w.heap.size w w'
theorem Cc {n lo:Nat} {U:World} {o:Oper} {ev:Operand->Value} (hc:Calls prog 128 #[.slice (some ⟨lo,0,none⟩) 1 1,.int .i64 (n:Int)] U (CJ (-1) n U))
 (h:(execOp ev o).run prog U= .ok (.enter 128 #[.slice (some ⟨lo,0,none⟩) 1 1,.int .i64 (n:Int)]) U):
 dM prog o ev U fun v w'=>Below U.heap.size U w'/\∃g,v= .slice (some ⟨g,0,none⟩) n n/\U.heap.size<=g/\g<w'.heap.size/\ak w' g (List.replicate n (-1)):=by
 unfold dM;rw[h];refine hc.mono ?_;rintro e w' ⟨g,rfl,h1,h2,h3⟩;exact⟨_,rfl,h3,g,rfl,h1,h2.lt,h2⟩
def dS (n M b:Nat) (ao:Option Addr) (m ca:Nat):Nat->GS
 |0=>⟨[],fun v _ _ _ _=>v= .agg #[.int .i64 (n:Int),.slice ao m ca]⟩
 |1=>⟨[],fun v _ lo hi w=>v= .slice (some ⟨lo,0,none⟩) 1 1/\lo<hi/\w.heap[lo]? =some (.cells #[.int .i64 (-1)] 3 (0,0))⟩
 |2=>⟨[],fun v _ _ _ _=>v= .pointer (some ⟨b,0,none⟩)⟩
 |3=>⟨[2],fun v _ _ _ _=>v= .int .i64 (n:Int)⟩
 |4=>⟨[1,3],fun v _ lo hi w=>∃g,v= .slice (some ⟨g,0,none⟩) n n/\lo<=g/\g<hi/\ak w g (List.replicate n (-1))⟩
 |5=>⟨[],fun v _ _ _ _=>v= .pointer (some ⟨b,1,none⟩)⟩
 |6=>⟨[5],fun v _ _ _ _=>v= .slice ao m ca⟩
 |7=>⟨[6],fun v _ _ _ _=>v= .int .i64 (m:Int)⟩
 |8=>⟨[7],fun v _ _ _ _=>v= .int .i64 (M:Int)⟩
 |9=>⟨[8],fun v _ lo hi w=>v= .slice (some ⟨lo,0,none⟩) M M/\lo<hi/\ak w lo (List.replicate M 0)⟩
 |10=>⟨[],fun v _ lo hi w=>v= .slice (some ⟨lo,0,none⟩) 1 1/\lo<hi/\w.heap[lo]? =some (.cells #[.int .i64 (-1)] 3 (0,0))⟩
 |11=>⟨[],fun v _ _ _ _=>v= .pointer (some ⟨b,0,none⟩)⟩
 |12=>⟨[11],fun v _ _ _ _=>v= .int .i64 (n:Int)⟩
 |13=>⟨[10,12],fun v _ lo hi w=>∃g,v= .slice (some ⟨g,0,none⟩) n n/\lo<=g/\g<hi/\ak w g (List.replicate n (-1))⟩
 |14=>⟨[0,4,9,13],fun v vs _ _ _=>∃x1 x2 x3 x4,vs=[x1,x2,x3,x4]/\v= .agg #[.int .i64 (n:Int),.slice ao m ca,x2,x3,x4]⟩
 |15=>⟨[14],fun v vs lo hi w=>∃x2 x3 x4,vs=[.agg #[.int .i64 (n:Int),.slice ao m ca,x2,x3,x4]]/\v= .pointer (some ⟨lo,0,none⟩)/\lo<hi/\w.heap[lo]? =some (.cells #[.int .i64 (n:Int),.slice ao m ca,x2,x3,x4] 353 (0,0))⟩
 |_=>⟨[15],fun v vs _ _ _=>vs=[v]⟩
theorem Bg (n:Nat) (ao:Option Addr) (ca:Nat) (es:List (Int×Int)) (w:World) (he:ah w ao es) (hv:Si.Val n es):
 Calls prog 202 #[.agg #[.int .i64 (n:Int),.slice ao es.length ca]] w (MT n ao ca es w):=by
 obtain⟨i0,hi,hz0,hz1,hz2⟩:=info_parts Tryz.b7;obtain⟨w0,hw0⟩:∃w0,w0=w.alloc (.cells #[.int .i64 (n:Int),.slice ao es.length ca] 24):=⟨_,rfl⟩;have hb0:Below w.heap.size w w0:=by rw[hw0];exact(aae _ _).alloc (aad _) _
 have oQ:w0.heap[w.heap.size]? =some (.cells #[.int .i64 (n:Int),.slice ao es.length ca] 24 (0,0)):=by rw[hw0];exact heap_alloc_new w _
 have hs0:=lt_of_block oQ;obtain⟨g0,g1,-⟩:=af oQ;have hhi:=hv.hi;have bQ:=hv.few;obtain⟨M,hM⟩:∃M,M=2*es.length:=⟨_,rfl⟩;have hmul:IntKind.i64.wrap (2*(es.length:Int))=(M:Int):=by rw[aam];omega
 have Gl:2*(es.length:Int)=(M:Int):=by omega
 have hwM:IntKind.i64.wrap (M:Int)=(M:Int):=by rw[aam];omega
 have Yx:M<=8388608:=by omega
 have PA:¬(M:Int)<0:=by omega
 have hmk:∀W,(Instr.makeSlice 55 (.int .i64 (M:Int)) (.int .i64 (M:Int))).run prog W= .ok (.slice (some ⟨W.heap.size,0,none⟩) M M) (W.alloc (.cells (madeCells #[.int .i64 0] M) 3)):=fun W=>by
  have:=run_make (P:=prog) W 55 3 i0 (.int .i64 0) Tryz.underlying55 hi hz0 .i64 .i64 (M:Int) (M:Int) (by omega) (by omega) (by rw[hz2];omega) (by omega);rw[this,hz1];simp[Value.cells]
 have WA:Hid (∀(b:Nat) (V:World),V.cell? ⟨b,0,none⟩=some (.int .i64 (-1))->Calls prog 128 #[.slice (some ⟨b,0,none⟩) 1 1,.int .i64 (n:Int)] V (CJ (-1) n V)):=fun b V h=>Ig (-1) b n V h (by omega)
 have Zl:=ζ hmk;have HS:Hid (∀V,Below w0.heap.size w0 V->V.cell? ⟨w.heap.size,0,none⟩=some (.int .i64 (n:Int))/\V.cell? ⟨w.heap.size,1,none⟩=some (.slice ao es.length ca)/\Below w0.heap.size w0 V):=fun V hV=>⟨(hV.cell (p:=⟨w.heap.size,0,none⟩) hs0).trans g0,(hV.cell (p:=⟨w.heap.size,1,none⟩) hs0).trans g1,hV⟩
 have HD:Hid (Below w0.heap.size w0 w0.drew):=(aae _ _).drew;have pJ:=ζ hM;have HW0:=ζ hw0;have HE:=ζ he;have HV:=ζ hv;have aH:=ζ hb0;have j4:=ζ oQ;clear hM hi hz0 hz1 hz2 he hv hb0 oQ;clear hmk Gl hmul;obtain⟨m,hm⟩:∃m,m=es.length:=⟨_,rfl⟩;have RO:IntKind.i64.wrap (2*(m:Int))=(M:Int):=by rw[aam];have:=pJ.out;omega
 rw[<-hm] at g1 HS ⊢;rw[<-hm] at HW0;have Zk:=ζ hm;clear hm;go_enter func202,ntmps202;go_wp2_with fail;rw[<-HW0.out];clear hw0;refine wp_region_any (by kernel_rfl) ?_;have hbW:Below w0.heap.size w0 { w0 with drawn:=w0.drawn+1 }:=(aae _ _).drew;refine aP.ace (dS n M w.heap.size ao m ca) 17 55 (by decide) rfl (by kernel_rfl) ?_ ?_ ?_
 .intro i hi v vs lo hi' U U' h1 h2 h3
  have hc:i=0\/i=1\/i=2\/i=3\/i=4\/i=5\/i=6\/i=7\/i=8\/i=9\/i=10\/i=11\/i=12\/i=13\/i=14\/i=15\/i=16:=by omega
  rcases hc with rfl|rfl|rfl|rfl|rfl|rfl|rfl|rfl|rfl|rfl|rfl|rfl|rfl|rfl|rfl|rfl|rfl
  all_goals first|exact h3|skip
  .exact⟨h3.1,h3.2.1,(h2.block lo (aa5 h3.2.1 h1)).trans h3.2.2⟩
  .obtain⟨g,q1,q2,q3,q4⟩:=h3
   exact⟨g,q1,q2,q3,q4.later h2⟩
  .exact⟨h3.1,h3.2.1,h3.2.2.later h2⟩
  .exact⟨h3.1,h3.2.1,(h2.block lo (aa5 h3.2.1 h1)).trans h3.2.2⟩
  .obtain⟨g,q1,q2,q3,q4⟩:=h3
   exact⟨g,q1,q2,q3,q4.later h2⟩
  .obtain⟨x2,x3,x4,q1,q2,q3,q4⟩:=h3
   exact⟨x2,x3,x4,q1,q2,q3,(h2.block lo (aa5 q3 h1)).trans q4⟩
 .intro i o ρ U ev hi ho hb hd dL wj Jz UU
  obtain⟨c0,c1,-⟩:=HS.out U (hbW.trans hb);have hc:i=0\/i=1\/i=2\/i=3\/i=4\/i=5\/i=6\/i=7\/i=8\/i=9\/i=10\/i=11\/i=12\/i=13\/i=14\/i=15\/i=16:=by omega
  rcases hc with rfl|rfl|rfl|rfl|rfl|rfl|rfl|rfl|rfl|rfl|rfl|rfl|rfl|rfl|rfl|rfl|rfl<;>obtain rfl:=aaG ho
  .have e1:ev (.tmp 1)= .pointer (some ⟨w.heap.size,0,none⟩):=wj 1 (by kernel_rfl)
   exact aD (v:= .agg #[.int .i64 (n:Int),.slice ao m ca]) (w':=U) (by simp[execOp,go_sem,e1,c0,c1]) ⟨aae _ _,rfl⟩
  .refine aD (v:= .slice (some ⟨U.heap.size,0,none⟩) 1 1) (w':=U.alloc (.cells #[.int .i64 (-1)] 3)) ?_ ⟨(aae _ _).alloc (aad _) _,rfl,by simp,heap_alloc_new _ _⟩
   simp[execOp,go_sem,Jz]
  .have e1:ev (.tmp 1)= .pointer (some ⟨w.heap.size,0,none⟩):=wj 1 (by kernel_rfl)
   exact aD (v:= .pointer (some ⟨w.heap.size,0,none⟩)) (w':=U) (by simp[execOp,go_sem,e1]) ⟨aae _ _,rfl⟩
  .obtain⟨_,_,_,_,_,r4⟩:=hd 2 (by simp[dS])
   have r5:ρ 2= .pointer (some ⟨w.heap.size,0,none⟩):=r4;exact aD (v:= .int .i64 (n:Int)) (w':=U) (by simp[execOp,go_sem,dL 2 8 (by omega) rfl (by decide),r5,c0]) ⟨aae _ _,rfl⟩
  .obtain⟨lo,hi',q1,q2,q3,r1,r2,r3⟩:=hd 1 (by simp[dS])
   obtain⟨_,_,_,_,_,r4⟩:=hd 3 (by simp[dS]);have r5:ρ 3= .int .i64 (n:Int):=r4;have OL:ρ 1= .slice (some ⟨lo,0,none⟩) 1 1:=r1;exact Cc (WA.out lo U (cell_of_one r3)) (by simp[execOp,go_sem,UU,dL 1 7 (by omega) rfl (by decide),dL 3 9 (by omega) rfl (by decide),OL,r5])
  .have e1:ev (.tmp 1)= .pointer (some ⟨w.heap.size,0,none⟩):=wj 1 (by kernel_rfl)
   exact aD (v:= .pointer (some ⟨w.heap.size,1,none⟩)) (w':=U) (by simp[execOp,go_sem,e1]) ⟨aae _ _,rfl⟩
  .obtain⟨_,_,_,_,_,r4⟩:=hd 5 (by simp[dS])
   have r5:ρ 5= .pointer (some ⟨w.heap.size,1,none⟩):=r4;exact aD (v:= .slice ao m ca) (w':=U) (by simp[execOp,go_sem,dL 5 11 (by omega) rfl (by decide),r5,c1]) ⟨aae _ _,rfl⟩
  .obtain⟨_,_,_,_,_,r4⟩:=hd 6 (by simp[dS])
   have r5:ρ 6= .slice ao m ca:=r4;exact aD (v:= .int .i64 (m:Int)) (w':=U) (by simp[execOp,go_sem,dL 6 12 (by omega) rfl (by decide),r5]) ⟨aae _ _,rfl⟩
  .obtain⟨_,_,_,_,_,r4⟩:=hd 7 (by simp[dS])
   have r5:ρ 7= .int .i64 (m:Int):=r4;exact aD (v:= .int .i64 (M:Int)) (w':=U) (by simp[execOp,go_sem,Jz,dL 7 13 (by omega) rfl (by decide),r5,RO]) ⟨aae _ _,rfl⟩
  .obtain⟨_,_,_,_,_,r4⟩:=hd 8 (by simp[dS])
   have r5:ρ 8= .int .i64 (M:Int):=r4;refine aD (v:= .slice (some ⟨U.heap.size,0,none⟩) M M) (w':=U.alloc (.cells (madeCells #[.int .i64 0] M) 3)) ?_ ⟨(aae _ _).alloc (aad _) _,rfl,by simp,OZ rfl⟩;simp[execOp,dL 8 14 (by omega) rfl (by decide),r5,Zl.out U]
  .refine aD (v:= .slice (some ⟨U.heap.size,0,none⟩) 1 1) (w':=U.alloc (.cells #[.int .i64 (-1)] 3)) ?_ ⟨(aae _ _).alloc (aad _) _,rfl,by simp,heap_alloc_new _ _⟩
   simp[execOp,go_sem,Jz]
  .have e1:ev (.tmp 1)= .pointer (some ⟨w.heap.size,0,none⟩):=wj 1 (by kernel_rfl)
   exact aD (v:= .pointer (some ⟨w.heap.size,0,none⟩)) (w':=U) (by simp[execOp,go_sem,e1]) ⟨aae _ _,rfl⟩
  .obtain⟨_,_,_,_,_,r4⟩:=hd 11 (by simp[dS])
   have r5:ρ 11= .pointer (some ⟨w.heap.size,0,none⟩):=r4;exact aD (v:= .int .i64 (n:Int)) (w':=U) (by simp[execOp,go_sem,dL 11 17 (by omega) rfl (by decide),r5,c0]) ⟨aae _ _,rfl⟩
  .obtain⟨lo,hi',q1,q2,q3,r1,r2,r3⟩:=hd 10 (by simp[dS])
   obtain⟨_,_,_,_,_,r4⟩:=hd 12 (by simp[dS]);have r5:ρ 12= .int .i64 (n:Int):=r4;have OL:ρ 10= .slice (some ⟨lo,0,none⟩) 1 1:=r1;exact Cc (WA.out lo U (cell_of_one r3)) (by simp[execOp,go_sem,UU,dL 10 16 (by omega) rfl (by decide),dL 12 18 (by omega) rfl (by decide),OL,r5])
  .obtain⟨_,_,_,_,_,r0⟩:=hd 0 (by simp[dS])
   obtain⟨_,_,_,_,_,ga,ra,_⟩:=hd 4 (by simp[dS]);obtain⟨_,_,_,_,_,rb,_⟩:=hd 9 (by simp[dS]);obtain⟨_,_,_,_,_,gc,rc,_⟩:=hd 13 (by simp[dS]);have r0':ρ 0= .agg #[.int .i64 (n:Int),.slice ao m ca]:=r0;exact aD (v:= .agg #[.int .i64 (n:Int),.slice ao m ca,ρ 4,ρ 9,ρ 13]) (w':=U) (by simp[execOp,go_sem,dL 0 6 (by omega) rfl (by decide),dL 4 10 (by omega) rfl (by decide),dL 9 15 (by omega) rfl (by decide),dL 13 19 (by omega) rfl (by decide),r0',ra,rb,rc]) ⟨aae _ _,_,_,_,_,rfl,rfl⟩
  .obtain⟨_,_,_,_,_,x1,x2,x3,x4,q1,q2⟩:=hd 14 (by simp[dS])
   have Z7:ρ 14= .agg #[.int .i64 (n:Int),.slice ao m ca,x2,x3,x4]:=q2;refine aD (v:= .pointer (some ⟨U.heap.size,0,none⟩)) (w':=U.alloc (.cells #[.int .i64 (n:Int),.slice ao m ca,x2,x3,x4] 353)) ?_ ⟨(aae _ _).alloc (aad _) _,x2,x3,x4,by show [ρ 14]=_;rw[Z7],rfl,by simp,heap_alloc_new _ _⟩;simp[execOp,go_sem,dL 14 20 (by omega) rfl (by decide),Z7]
  .obtain⟨_,_,_,_,_,x2,x3,x4,_,rp,_⟩:=hd 15 (by simp[dS])
   exact aD (v:=ρ 15) (w':=U) (by simp[execOp,go_sem,dL 15 21 (by omega) rfl (by decide)]) ⟨aae _ _,rfl⟩
 .intro ρ lo hi V a ha abv dL wj hb hd qI
  have hfr2:a={ tmps:= #[.agg #[.int .i64 (n:Int),.slice ao m ca],.pointer (some ⟨w.heap.size,0,none⟩),.pointer none,ρ 16,undef,undef,ρ 0,ρ 1,ρ 2,ρ 3,ρ 4,ρ 5,ρ 6,ρ 7,ρ 8,ρ 9,ρ 10,ρ 11,ρ 12,ρ 13,ρ 14,ρ 15,undef,undef,undef,undef,undef,undef,undef,undef,undef,undef,undef,undef,undef,undef,undef,undef,undef,undef,undef,undef,undef,undef,undef,undef,undef,undef,undef,undef,undef,undef,undef,undef,undef],defers:=[] }:=by rw[ha];kernel_rfl
  have hb2:Below w0.heap.size w0 V:=hbW.trans hb;have r0:ρ 0= .agg #[.int .i64 (n:Int),.slice ao m ca]:=(hd 0 (by omega)).2.2.2;obtain⟨a1,a2,a3,r1,_,_⟩:=hd 1 (by omega);have OL:ρ 1= .slice (some ⟨lo 1,0,none⟩) 1 1:=r1;have r2:ρ 2= .pointer (some ⟨w.heap.size,0,none⟩):=(hd 2 (by omega)).2.2.2;have r3:ρ 3= .int .i64 (n:Int):=(hd 3 (by omega)).2.2.2;obtain⟨p4,p5,p6,gf,r4,f1,f2,f3⟩:=hd 4 (by omega);have Xc:ρ 4= .slice (some ⟨gf,0,none⟩) n n:=r4;have r5:ρ 5= .pointer (some ⟨w.heap.size,1,none⟩):=(hd 5 (by omega)).2.2.2;have r6:ρ 6= .slice ao m ca:=(hd 6 (by omega)).2.2.2;have r7:ρ 7= .int .i64 (m:Int):=(hd 7 (by omega)).2.2.2;have r8:ρ 8= .int .i64 (M:Int):=(hd 8 (by omega)).2.2.2;obtain⟨p7,p8,p9,r9,b1,b2⟩:=hd 9 (by omega);have Ui:ρ 9= .slice (some ⟨lo 9,0,none⟩) M M:=r9;obtain⟨_,_,_,Z6,_,_⟩:=hd 10 (by omega);have VG:ρ 10= .slice (some ⟨lo 10,0,none⟩) 1 1:=Z6;have Z5:ρ 11= .pointer (some ⟨w.heap.size,0,none⟩):=(hd 11 (by omega)).2.2.2;have Z4:ρ 12= .int .i64 (n:Int):=(hd 12 (by omega)).2.2.2;obtain⟨p10,p11,p12,gl,Z3,l1,l2,l3⟩:=hd 13 (by omega);have QM:ρ 13= .slice (some ⟨gl,0,none⟩) n n:=Z3;obtain⟨_,_,_,x1,x2,x3,x4,y1,y2⟩:=hd 14 (by omega);have ZN:[ρ 0,ρ 4,ρ 9,ρ 13]=[x1,x2,x3,x4]:=y1;simp only[ac0] at ZN;obtain⟨_,e2,e3,e4,_⟩:=ZN;have Uj:ρ 14= .agg #[.int .i64 (n:Int),.slice ao m ca,.slice (some ⟨gf,0,none⟩) n n,.slice (some ⟨lo 9,0,none⟩) M M,.slice (some ⟨gl,0,none⟩) n n]:=by
   rw[<-Xc,<-Ui,<-QM,e2,e3,e4];exact y2
  obtain⟨p13,p14,p15,z2,z3,z4,u1,Z2,u2,u3⟩:=hd 15 (by omega);have Nn:ρ 15= .pointer (some ⟨lo 15,0,none⟩):=Z2;have W9:[ρ 14]=[.agg #[.int .i64 (n:Int),.slice ao m ca,z2,z3,z4]]:=u1;rw[Uj] at W9;simp only[ac0,Value.agg.injEq,Array.mk.injEq,and_true,true_and] at W9;obtain⟨d2,d3,d4⟩:=W9;subst d2;subst d3;subst d4;have r16:ρ 16= .pointer (some ⟨lo 15,0,none⟩):=by
   have:[ρ 15]=[ρ 16]:=(hd 16 (by omega)).2.2.2;simp only[ac0,and_true] at this;rw[<-this];exact Nn
  have D49:=qI 4 9 (by omega) (by omega) (by omega);have adW:=qI 4 13 (by omega) (by omega) (by omega);have adV:=qI 4 15 (by omega) (by omega) (by omega);have adU:=qI 9 13 (by omega) (by omega) (by omega);have adT:=qI 9 15 (by omega) (by omega) (by omega);have ZK:=qI 13 15 (by omega) (by omega) (by omega);have p4':w0.heap.size<=lo 4:=p4;have p7':w0.heap.size<=lo 9:=p7;have agm:w0.heap.size<=lo 13:=p10;have agl:w0.heap.size<=lo 15:=p13;obtain⟨gA,Yb⟩:∃g,lo 9=g:=⟨_,rfl⟩;obtain⟨p,hp⟩:∃g,lo 15=g:=⟨_,rfl⟩;have SD:fG V w0.heap.size p gf gA gl n ao ca es (List.replicate n (-1)) (List.replicate M 0) (List.replicate n (-1)):=by
   have hm:=Zk.out;have hM:=pJ.out;refine⟨?_,f3,by rw[<-Yb];exact b2,l3,⟨by omega,by omega,by omega,by omega⟩,⟨by omega,by omega,by omega,by omega,by omega,by omega⟩⟩;rw[<-hM,<-hm,<-hp,<-Yb];exact u3
  rw[Yb] at Ui Uj;rw[hp] at Nn r16;rw[r0,OL,r2,r3,Xc,r5,r6,r7,r8,Ui,VG,Z5,Z4,QM,Uj,Nn,r16] at hfr2;have uZ:=ζ SD;have He:=ζ hb2;have WN:Hid (Ro.Fi n es (List.replicate n (-1)) (List.replicate M 0) 0):=by
   have:=Ro.Fi.start n es;rw[<-pJ.out] at this;exact this
  have hsp:w0.heap.size<=p:=by omega
  clear r0 r1 OL r2 r3 r4 Xc r5 r6 r7 r8 r9 Ui Z6 VG Z5 Z4 Z3 QM Uj Z2 Nn r16 y1 y2 u1 u3 D49 adW adV adU adT ZK hd qI dL wj ha abv f3 b2 l3 e2 e3 e4 SD hb2 hb hbW;refine wpAny_done (by kernel_rfl) ?_ _;rw[hfr2];clear hfr2;dsimp only;obtain⟨c0,c1,c2,c3,c4⟩:=fR uZ.out.blk;have ag9:2*(m:Int)=(M:Int):=by have:=pJ.out;have:=Zk.out;omega
  have Js:2*es.length=M:=pJ.out.symm;rw[Js] at c3;clear RO Js;go_wp2;clear c0 c1 c2 c3 c4;go_loopw [27] (fun c wr=>∃(k:Nat) (F An:List Int),k<=M/\c= .int .i64 (k:Int)/\Ro.Fi n es F An k/\fG wr w0.heap.size p gf gA gl n ao ca es F An (List.replicate n (-1))/\Below w0.heap.size w0 wr) (fun c _=>M-(intOf c).toNat)
  case atStart=>exact⟨0,_,_,aax _,rfl,WN.out,uZ.out,He.out⟩
  case round=>
   clear uZ WN He;obtain⟨k,F,An,hk,rfl,mZ,hf,hb⟩:=hrel;have uZ:=ζ mZ;have HF:=ζ hf;have HB:=ζ hb;obtain⟨s0,s1,-⟩:=HS.out wr hb;clear mZ hf hb;by_cases hlt:k<M
   .have aQ:(k:Int)<(M:Int):=by omega
    have hkm:k<2*es.length:=by have:=pJ.out;omega
    have hfr:=(Cs.dX HV.out hkm).1;have Nb:=tP n ao ca es k wr (HE.out.later (aH.out.trans (HB.out.mono aH.out.size))) HV.out hkm;rw[<-Zk.out] at Nb;have Nb:=ζ Nb;have HST:=ζ (uZ.out.step HV.out hkm);obtain⟨fr,VY⟩:∃fr,fr=Cs.fr es k:=⟨_,rfl⟩;rw[<-VY] at hfr Nb HST;have Gq:=uZ.out.first fr hfr
    obtain⟨lv,hlv⟩:∃lv,lv=Ro.lo es fr k:=⟨_,rfl⟩;rw[<-hlv] at Gq HST;have HFS:=ζ Gq;have hfr2:(fr:Int)<(n:Int):=by omega
    clear VY hlv Gq;go_wp2_with (go_at_call 256;refine Nb.out.mono ?_;rintro e w2 ⟨rfl,hb2⟩;refine aaj ?_);refine ζ ?_;have hF2:=HF.out.later hb2;have aB:=ζ (HB.out.trans (hb2.mono HB.out.size));clear hb2 s0 s1;obtain⟨c0,c1,c2,c3,c4⟩:=fR hF2.blk;have Js:2*es.length=M:=pJ.out.symm;rw[Js] at c3;clear Js;have cfv:=hF2.first.cell HFS.out
    obtain⟨y,hy⟩:∃y,An[k]? =some y:=⟨_,aac (by rw[uZ.out.la];exact hkm)⟩;have cak:=hF2.another.cell hy;have fak:=hF2.another.free k;have SE:=hF2.Z0 k lv;obtain⟨d0,d1,d2,d3,d4⟩:=fR SE.blk;have dfv:=SE.first.cell HFS.out
    have ffv:=SE.first.free fr
    have ZB:=ζ (SE.ZZ fr (k:Int));have hBg:=hF2.lo;have WW:=ζ hBg;clear hF2 SE hy hBg;go_wp2_with fail;go_big_region;go_wp2;refine⟨⟨k+1,F.set fr (k:Int),An.set k lv,by omega,by simp,HST.out,ZB.out.later (aae _ _).drew,?_⟩,by simp[intOf];omega⟩;exact((aB.out.trans (dF (g:=gA) (j:=k) (.int .i64 lv) (by have:=WW.out;omega))).trans (dF (g:=gf) (j:=fr) (.int .i64 (k:Int)) (by have:=WW.out;omega))).drew
   .have aQ:¬(k:Int)<(M:Int):=by omega
    obtain rfl:k=M:=by omega
    go_wp2;go_ret;have h1:=uZ.out;rw[pJ.out] at h1;have hlw:=aH.out.size;exact⟨p,gf,gA,gl,F,An,rfl,⟨HF.out.blk,HF.out.first,HF.out.another,HF.out.leading,⟨by have:=HF.out.lo;omega,by have:=HF.out.lo;omega,by have:=HF.out.lo;omega,by have:=HF.out.lo;omega⟩,HF.out.ne⟩,h1,aH.out.trans (HB.out.mono hlw)⟩
end
section
open Go.RowKit Go.Sort
def fV (v:Nat) (c:Int) (hs:List (List Int)) (w:World) (e:Ending) (w':World):Prop:=
 Below w.heap.size w w'/\((c=0/\∃r rs,e= .returned r/\ay w' w.heap.size r rs hs)\/(c≠0/\e= .panicked [{ v:=dQ v c,recovered:=false }]))
structure VS (W:World) (w:World) (B1 B2 p gd gs q gf ga gl N:Nat) (ao:Option Addr) (ca:Nat) (es:List (Int×Int)) (f:Nat->Bool) (F An D:List Int) (vs:List Value) (rs:List (List Int)):Prop where
 rd:iV W w.heap.size p gd gs N ao ca es f
 fi:fG W B1 q gf ga gl N ao ca es F An D
 rw:ay W B2 (.slice (some ⟨B2,0,none⟩) N N) vs rs
 low:Below w.heap.size w W
 r1:p<B1/\gd<B1/\gs<B1
 r2:q<B2/\gf<B2/\ga<B2/\gl<B2
 r3:w.heap.size<=B1/\B1<=B2
section
variable {W W' w:World} {B1 B2 p gd gs q gf ga gl N:Nat} {ao:Option Addr} {ca:Nat} {es:List (Int×Int)} {f:Nat->Bool} {F An D:List Int} {vs:List Value} {rs:List (List Int)}
theorem VS.later (h:VS W w B1 B2 p gd gs q gf ga gl N ao ca es f F An D vs rs) (hb:Below W.heap.size W W'):VS W' w B1 B2 p gd gs q gf ga gl N ao ca es f F An D vs rs:=
 ⟨h.rd.later hb,h.fi.later hb,h.rw.later hb,h.low.trans (hb.mono h.low.size),h.r1,h.r2,h.r3⟩
theorem VS.Xn (h:VS W w B1 B2 p gd gs q gf ga gl N ao ca es f F An D vs rs):B2<W.heap.size:=(aap h.rw.outer B2 rfl).2
theorem VS.below {B:Nat} (h:VS W w B1 B2 p gd gs q gf ga gl N ao ca es f F An D vs rs) (hb:Below B W W') (hB:B2<B) (dB:∀(a:Nat) (y:Value) (b:Nat),vs[a]? =some y->y.ownBlock=some b->b<B):VS W' w B1 B2 p gd gs q gf ga gl N ao ca es f F An D vs rs:=by
 have h1:=h.r1;have h2:=h.r2;have h3:=h.r3;have h4:=h.low.size;refine⟨h.rd.keep fun b hq=>hb.block b (by omega),h.fi.keep fun b hq=>hb.block b (by omega),?_,h.low.trans (hb.mono (by omega)),h.r1,h.r2,h.r3⟩;refine h.rw.kept fun b hq _=> ?_
 rcases hq with hq|⟨u,x,hx,hxb⟩
 .obtain rfl:B2=b:=by simpa[Value.ownBlock] using hq
  exact hb.block _ hB
 .exact hb.block b (dB u x b hx hxb)
theorem VS.marked {f':Nat->Bool} (h:VS W w B1 B2 p gd gs q gf ga gl N ao ca es f F An D vs rs) (hw:aq (fun b=>b=gs) W W') (hr:iV W' w.heap.size p gd gs N ao ca es f'):VS W' w B1 B2 p gd gs q gf ga gl N ao ca es f' F An D vs rs:=by
 have h1:=h.r1;have h2:=h.r2;have h3:=h.r3;have h4:=h.fi.lo;have hb:=hw.below h.low.size (B:=w.heap.size) (fun k hk=>by rw[hk];exact h.rd.lo.2.2);have hl:=h.Xn;refine⟨hr,h.fi.keep fun b hq=>hw.block b ?_ ?_,h.rw.kept fun b hq hb2=>hw.block b hb2 ?_,h.low.trans hb,h.r1,h.r2,h.r3⟩
 .omega
 .show ¬b=gs
  omega
 .show ¬b=gs
  rcases hq with hq|⟨u,x,hx,hxb⟩
  .obtain rfl:B2=b:=by simpa[Value.ownBlock] using hq
   omega
  .obtain⟨k,hk⟩:=h.rw.at hx
   have:=(aap (h.rw.row u x k hx hk) b hxb).1;omega
theorem VS.told {D':List Int} (h:VS W w B1 B2 p gd gs q gf ga gl N ao ca es f F An D vs rs) (hw:aq (fun b=>b=gl) W W') (hf:fG W' B1 q gf ga gl N ao ca es F An D'):VS W' w B1 B2 p gd gs q gf ga gl N ao ca es f F An D' vs rs:=by
 have h1:=h.r1;have h2:=h.r2;have h3:=h.r3;have h4:=h.fi.lo;have hb:=hw.below h.low.size (B:=w.heap.size) (fun k hk=>by rw[hk];omega);have hl:=h.Xn;refine⟨h.rd.keep fun b hq=>hw.block b ?_ ?_,hf,h.rw.kept fun b hq hb2=>hw.block b hb2 ?_,h.low.trans hb,h.r1,h.r2,h.r3⟩
 .omega
 .show ¬b=gl
  omega
 .show ¬b=gl
  rcases hq with hq|⟨u,x,hx,hxb⟩
  .obtain rfl:B2=b:=by simpa[Value.ownBlock] using hq
   omega
  .obtain⟨k,hk⟩:=h.rw.at hx
   have:=(aap (h.rw.row u x k hx hk) b hxb).1;omega
end
theorem fV.bad {n:Int} {es:List (Int×Int)} {hs:List (List Int)} {w w':World} {v:Nat} {c:Int} (hb:Below w.heap.size w w') (h:Ro.check n es hs=(v,c)) (hc:c≠0):fV (Ro.check n es hs).1 (Ro.check n es hs).2 hs w (.panicked [{ v:=dQ v c,recovered:=false }]) w':=by
 refine⟨hb,.inr ?_⟩;rw[h];exact⟨hc,rfl⟩
theorem vD (n:Int) (ao:Option Addr) (ca:Nat) (es:List (Int×Int)) (xo:Option Addr) (xc:Nat) (ls:List (List Int)) (w:World) (he:ah w ao es) (hl:es.length<=4611686018427387904) (hx:bA w xo ls):
 Calls Tryz.prog 139 #[az n ao es.length ca,.slice xo ls.length xc] w (fV (Ro.check n es (Ro.hls es 0 ls)).1 (Ro.check n es (Ro.hls es 0 ls)).2 (Ro.hls es 0 ls) w):=by
 obtain⟨i0,hi,hz0,hz1,hz2⟩:=info_parts Tryz.lK;obtain⟨i1,hi1,hy0,hy1,hy2⟩:=info_parts Tryz.b7;have hb0:Below w.heap.size w (w.alloc (.cells #[.int .i64 n,.slice ao es.length ca] 24)):=(aae _ _).alloc (aad _) _;have HN:=ζ (qz n ao ca es ls.length _ (he.later hb0) hl);have aH:=ζ hb0;have HE:=ζ he;have HX:=ζ hx;have uX:=ζ (Ro.BJ es 0 ls);unfold az at HN ⊢;clear he hb0 hx;go_enter Tryz.func139,Tryz.ntmps139;go_wp2_with (go_at_call 197;refine HN.out.mono ?_;refine aaj ?_);refine ζ ?_;rintro e w1 ⟨hb1,hp⟩;have aI:=ζ (aH.out.trans (hb1.mono aH.out.size));have hs1:=hb1.size;rw[abk] at hs1;have uy:w1.heap[w.heap.size]? =some (.cells #[.int .i64 n,.slice ao es.length ca] 24 (0,0)):=(hb1.block _ (by simp)).trans (heap_alloc_new w _);have gL:=ζ uy;clear hb1 uy;rcases hp with ⟨hv,rfl⟩|⟨hv,hk,rfl⟩|⟨hv,rfl,p,gd,gs,rfl,hr⟩
 .exact⟨rfl,fV.bad aI.out (by simp[Ro.check,hv]) (by decide)⟩
 .exact⟨rfl,fV.bad aI.out (by simp[Ro.check,hv,uX.out,hk]) (by decide)⟩
 have hck:Ro.check (ls.length:Int) es (Ro.hls es 0 ls)=Ro.fU es 0 (Ro.hls es 0 ls):=by simp[Ro.check,hv,uX.out]
 have hval:=Si.aK.1 hv;have dI:=ζ hck;have bY:=ζ hval;have hlb:=hval.hi;have bQ:=hval.few;have hrd:iV w1 w.heap.size p gd gs ls.length ao ca es (fun _=>false):=⟨hr.blk,hr.gG,hr.Hx,⟨by have:=hr.lo.1;simp at this;omega,by have:=hr.lo.2.1;simp at this;omega,by have:=hr.lo.2.2;simp at this;omega⟩,hr.ne⟩;have HR:=ζ hrd;have hr1:p<w1.heap.size/\gd<w1.heap.size/\gs<w1.heap.size:=⟨lt_of_block hrd.blk,hrd.gG.lt,hrd.Hx.lt⟩;have pH:=ζ hr1;have HNF:=ζ (Bg ls.length ao ca es w1 (HE.out.later aI.out) hval);obtain⟨g0,g1,-⟩:=af gL.out;clear hr hv hck hval hrd hr1;go_wp2_with (go_at_call 202;refine HNF.out.mono ?_;refine aaj ?_);refine ζ ?_;rintro e w2 ⟨q,gf,ga,gl,F,An,rfl,mZ,SD,hb2⟩;have uZ:=ζ SD;have hF2:=mZ;have aB:=ζ (aI.out.trans (hb2.mono aI.out.size));have hr2:q<w2.heap.size/\gf<w2.heap.size/\ga<w2.heap.size/\gl<w2.heap.size:=⟨lt_of_block mZ.blk,mZ.first.lt,mZ.another.lt,mZ.leading.lt⟩;have oh:=ζ hr2;have wN:=ζ (HR.out.later hb2);have WM:=ζ mZ;have hs2:=hb2.size;clear mZ SD hb2 hF2 hr2 g0 g1 HR HNF HN;go_wp2_with (at_make;refine wpList_make_full _ rfl _ _ 50 rfl w2.heap.size 55 i0 (.slice none 0 0) 1 Tryz.underlying50 hi hz0 hz1 _ _ _ _ ls.length rfl rfl rfl rfl (by rw[hz2];omega) (by unfold maxLen;omega) (aad _) ?_;refine aaj ?_);refine ζ ?_;intro w3 hrow hg3;have BH:=ay.made hrow;have hb3:Below w2.heap.size w2 w3:=(aae _ _).grown hg3 (aad _) (fun j hj=>by cases hj);have wK:Hid (VS w3 w w1.heap.size w2.heap.size p gd gs q gf ga gl ls.length ao ca es (fun _=>false) F An (List.replicate ls.length (-1)) (List.replicate ls.length (.slice none 0 0)) (Ro.fill id (Ro.hls es 0 ls) 0)):=by
  refine⟨wN.out.later hb3,WM.out.later hb3,?_,aB.out.trans (hb3.mono aB.out.size),pH.out,oh.out,⟨by omega,hs2⟩⟩;rw[Ro.Mv,uX.out];exact BH
 have WI:=ζ (Ro.Ld.start ls.length es);clear hrow hg3 hb3 BH wN WM aB pH oh gL;go_wp2;go_loopw [25] (fun c wr=>∃(k:Nat) (f:Nat->Bool) (DD D:List Int) (vs:List Value),k<=ls.length/\c= .int .i64 (k:Int)/\Ro.fU es 0 (Ro.hls es 0 ls)=Ro.fU es k ((Ro.hls es 0 ls).drop k)/\Ro.Sd es f k DD []/\Ro.Ld ls.length es k (2*es.length) D/\VS wr w w1.heap.size w2.heap.size p gd gs q gf ga gl ls.length ao ca es f F An D vs (Ro.fill id (Ro.hls es 0 ls) k)) (fun c _=>ls.length-(intOf c).toNat)
 case atStart=>exact⟨0,_,[],_,_,aax _,rfl,rfl,Ro.Sd.start es,WI.out,wK.out⟩
 case round=>
  clear wK WI;obtain⟨k,f,DD,D,vs,hk,rfl,hch,BF,DG,hvs⟩:=hrel;obtain⟨W0,rfl⟩:∃W0,W0=wr:=⟨_,rfl⟩;have iz:=ζ hch;have gJ:=ζ BF;have Ea:=ζ DG;have wK:=ζ hvs;clear hch BF DG hvs;by_cases hlt:k<ls.length
  .have aQ:(k:Int)<(ls.length:Int):=by omega
   have hk0:(0:Int)<=(k:Int):=by omega
   obtain⟨l,hlk⟩:∃l,ls[k]? =some l:=⟨_,aac hlt⟩;obtain⟨b,o,A,C,rfl,hc,hL,lN,-⟩:=HX.out k l hlk;have hbl:b<w.heap.size:=block_lt_of_cell hc;have hcr:=(wK.out.low.cell (p:=⟨b,o+k,none⟩) hbl).trans hc;have HL:=ζ hL;have Ca:=Ro.Gm (es:=es) (k:=0) hlk;rw[abI] at Ca;have ew:=ζ Ca;obtain⟨p1,oJ⟩:∃p1,l.length=p1:=⟨_,rfl⟩;rw[oJ] at hcr lN;have pI:=ζ oJ;obtain⟨c0,c1,c2,c3,-⟩:=mH wK.out.rd.blk;have sJ:(Si.aS (ls.length:Int) es)[k]? =some (Ro.gG es k:Int):=by
    have:=Cs.nX bY.out es.length (aad _) k hlt;rw[abW] at this;exact this
   have cdg:=wK.out.rd.gG.cell sJ;have hdb:Ro.gG es k<=8388608:=by
    have:=Cs.qx (es:=es) (v:=k) (2*es.length);unfold Ro.gG;omega
   obtain⟨dg,Sh⟩:∃dg,dg=Ro.gG es k:=⟨_,rfl⟩;rw[<-Sh] at cdg hdb;have pO:=ζ Sh;have hin:=wK.out.Xn;have dB:∀(a:Nat) (y:Value) (b:Nat),vs[a]? =some y->y.ownBlock=some b->b<W0.heap.size:=fun a y b hy hb=>by
    obtain⟨kk,hkk⟩:=wK.out.rw.at hy;exact(aap (wK.out.rw.row a y kk hy hkk) b hb).2
   have iE:=ζ dB;clear hc hL hlk Ca oJ sJ Sh dB;go_wp2_with (at_make;refine wpList_make_own _ rfl _ _ 55 rfl W0.heap.size 3 i1 (.int .i64 0) 1 Tryz.underlying55 hi1 hy0 hy1 _ _ _ dg rfl rfl rfl (by rw[hy2];omega) (by unfold maxLen;omega) (aad _) ?_;refine aaj ?_);refine ζ ?_;intro w4 zL hg4;have hb4:Below W0.heap.size W0 w4:=(aae _ _).grown hg4 (aad _) (fun j hj=>by cases hj);have tK:=wK.out.later hb4;have aa1:=tK.fi.lo;have aaK:=tK.r3;have ym:=ζ (SL w.heap.size q gf ga gl ls.length ao ca es F An D k w w4 ⟨tK.fi.blk,tK.fi.first,tK.fi.another,tK.fi.leading,⟨by omega,by omega,by omega,by omega⟩,tK.fi.ne⟩ uZ.out Ea.out HE.out rfl tK.low bY.out hlt);have Tb:=ζ tK;have Vu:Hid (aj w4 W0.heap.size (.slice (some ⟨W0.heap.size,0,none⟩) 0 dg) []):=zL;have dy:=ζ hb4;clear zL hg4 hb4 tK aa1 aaK c0 c1 c2 c3 cdg;go_wp2_with (go_at_call 203;refine ym.out.mono ?_;refine aaj ?_);refine ζ ?_;rintro e w5 ⟨rfl,Pk,D5,Pt,VU⟩;have Mg:gl<W0.heap.size:=by have:=wK.out.r2;omega
   have VJ:=Tb.out.told Pk ⟨Pt.blk,Pt.first,Pt.another,Pt.leading,Tb.out.fi.lo,Pt.ne⟩;have Tt:Hid (aj w5 W0.heap.size (.slice (some ⟨W0.heap.size,0,none⟩) 0 dg) []):=Vu.out.same fun g hg hg2=>Pk.block g hg2 (by
    show ¬g=gl;obtain rfl:W0.heap.size=g:=by simpa[Value.ownBlock] using hg
    omega)
   have Tz:=ζ VU;have Ws:=ζ VJ;have hs5:W0.heap.size<=w5.heap.size:=aaD dy.out.size Pk.size;clear Pk Pt VU VJ ym Tb Vu dy hcr;go_wp2;go_loopw [10,43] (fun c5 c6 wr=>∃(i:Nat) (f:Nat->Bool),i<=p1/\c6= .int .i64 (i:Int)/\Ro.fA es k [] (l.map (Ro.hl es k))=Ro.fA es k ((l.map (Ro.hl es k)).take i) ((l.map (Ro.hl es k)).drop i)/\Ro.Sd es f k DD ((l.map (Ro.hl es k)).take i)/\aj wr W0.heap.size c5 ((l.map (Ro.hl es k)).take i)/\VS wr w w1.heap.size w2.heap.size p gd gs q gf ga gl ls.length ao ca es f F An D5 vs (Ro.fill id (Ro.hls es 0 ls) k)/\W0.heap.size<=wr.heap.size) (fun _ c6 _=>p1-(intOf c6).toNat)
   case atStart=>exact⟨0,f,aax _,rfl,rfl,gJ.out,Tt.out,Ws.out,hs5⟩
   case round=>
    clear Tt Ws gJ hs5;obtain⟨i,f,hi,rfl,hel,BF,ho,hvs,hsw⟩:=hrel;have pN:=ζ hel;have gJ:=ζ BF;have HO:=ζ ho;have pF:=ζ hvs;obtain⟨ro,rc,SM,-,-⟩:=ho.form;subst SM;generalize hrl:((l.map (Ro.hl es k)).take i).length=rl at*;have KH:Hid (rl=i):=by show _=_;rw[<-hrl,abu,aaE,pI.out];omega
    have Y7:=ζ hrl;clear hel BF ho hvs hrl;by_cases hil:i<p1
    .have BN:(i:Int)<(p1:Int):=by omega
     have mj:(0:Int)<=(i:Int):=by omega
     obtain⟨x,eP⟩:∃x,l[i]? =some x:=⟨_,aac (by have:=pI.out;omega)⟩;obtain⟨lb,lo',rfl,lc⟩:=(HL.out.later pF.out.low).elem eP;have fj:(l.map (Ro.hl es k))[i]? =some (Ro.hl es k x):=by rw[aaP,eP];rfl
     have pK:=ζ fj;have Td:=ζ (SI w1.heap.size q gf ga gl ls.length ao ca es F An D5 x wr pF.out.fi Tz.out.len);obtain⟨h,hh⟩:∃h,h=Ro.toF ls.length D5 x:=⟨_,rfl⟩;have cI:=Tz.out.to bY.out x;rw[<-hh] at Td cI;have G7:=ζ cI;have HST:=ζ (AG w.heap.size p gd gs ls.length ao ca es f k h wr pF.out.rd (HE.out.later pF.out.low) bY.out);clear eP fj hh cI;go_wp2_with (go_at_call 204;refine Td.out.mono ?_;rintro e w6 ⟨rfl,Xu⟩;obtain rfl:=Xu.symm;refine aaj ?_);refine ζ ?_;clear Td;go_wp2_with (go_at_call 198;refine HST.out.mono ?_;refine aaj ?_);refine ζ ?_;rintro e w7 ⟨Rk,hp⟩;have zP:=Rk.below pF.out.low.size (B:=w.heap.size) (fun k hk=>by rw[hk];exact pF.out.rd.lo.2.2);have z8:=ζ (pF.out.low.trans zP);rcases hp with ⟨hlv,rfl⟩|⟨hlv,hf,rfl⟩|⟨hlv,hf,rfl,XI⟩
     .refine⟨rfl,fV.bad z8.out ?_ (by decide)⟩
      rcases G7.out with ⟨h1,-⟩|⟨-,h2⟩
      .rw[hlv] at h1;cases h1
      .rw[dI.out,iz.out,Ro.drop_cons ew.out]
       exact Ro.eU (Ro.jN (by rw[pN.out,Ro.drop_cons pK.out,Ro.nW h2]) (by decide)) (by decide)
     .refine⟨rfl,fV.bad z8.out ?_ (by decide)⟩
      rcases G7.out with ⟨-,h2,j,-,h3⟩|⟨h1,-⟩
      .rw[<-h2,h3] at pK
       rw[h3] at hlv hf;rw[abz] at hf;rw[dI.out,iz.out,Ro.drop_cons ew.out];exact Ro.eU (Ro.jN (by rw[pN.out,Ro.drop_cons pK.out,Ro.lV hlv ((gJ.out.twice hlv).1 hf)]) (by decide)) (by decide)
      .rw[hlv] at h1;cases h1
     .rcases G7.out with ⟨-,h2,j,-,h3⟩|⟨h1,-⟩
      case inr=>rw[hlv] at h1;cases h1
      rw[<-h2,h3] at pK;subst h3;rw[abz] at hf XI;have C5:=ζ (show Ro.fA es k [] (l.map (Ro.hl es k))=Ro.fA es k ((l.map (Ro.hl es k)).take (i+1)) ((l.map (Ro.hl es k)).drop (i+1)) by
       rw[pN.out,Ro.drop_cons pK.out,Ro.rX hlv (fun hm=>by have h5:=(gJ.out.twice hlv).2 hm;rw[h5] at hf;cases hf),Ro.dw pK.out])
      have KF:=ζ (show Ro.Sd es (Co.bS f j true) k DD ((l.map (Ro.hl es k)).take (i+1)) by rw[Ro.dw pK.out];exact gJ.out.put hlv);have ack:=ζ (pF.out.marked Rk XI);have HO7:Hid (aj w7 W0.heap.size (.slice ro rl rc) ((l.map (Ro.hl es k)).take i)):=HO.out.same fun g hg hg2=>Rk.block g hg2 (by
       show ¬g=gs;have h6:=(aap HO.out g hg).1;have h7:=pF.out.r1;have h8:=pF.out.r3;omega)
      have hs7:W0.heap.size<=w7.heap.size:=aaD hsw Rk.size;have uS:=ζ (Ro.dw pK.out);clear hlv hf XI Rk zP h2 G7 HST;go_wp2_with (at_builtin;refine bB rfl _ _ rfl w7 W0.heap.size _ ((l.map (Ro.hl es k)).take i) (j:Int) HO7.out hs7 (by rw[Y7.out,KH.out];omega) rfl rfl ?_;refine aaj ?_);refine ζ ?_;intro v' w' ho' _ _ hb';have Zf:=ζ (show aj w' W0.heap.size v' ((l.map (Ro.hl es k)).take (i+1)) by rw[uS.out];exact ho');have HV':=ζ (ack.out.below hb' hin iE.out);have hs':W0.heap.size<=w'.heap.size:=aaD hs7 hb'.size;clear ho' hb';go_wp2;go_roundw
      case rel=>exact⟨i+1,_,by omega,by go_num,C5.out,KF.out,Zf.out,HV'.out,hs'⟩
      case measure=>simp[intOf];omega
    .have BN:¬(i:Int)<(p1:Int):=by omega
     obtain rfl:i=p1:=by omega
     have Gv:(l.map (Ro.hl es k)).length=i:=by rw[aaE];exact pI.out
     have rA:=ζ (show Ro.fA es k [] (l.map (Ro.hl es k))=0 by rw[pN.out,abZ (by omega)];rfl);have D8:Hid (aj wr W0.heap.size (.slice ro rl rc) (l.map (Ro.hl es k))):=by
      have:=HO.out;rw[aaX (by omega)] at this;exact this
     have acu:Hid (Ro.Sd es f (k+1) (DD++(l.map (Ro.hl es k)).take i) []):=gJ.out.next
     have om:=ζ Gv;have TM:=ζ (Ey w.heap.size p gd gs ls.length ao ca es f k i wr pF.out.rd bY.out hlt);have hfl:(Ro.fill id (Ro.hls es 0 ls) k).length=ls.length:=by rw[Ro.PJ _ _ (by rw[uX.out];omega),uX.out]
     obtain⟨⟨y,hy⟩,hfr,hst,fP⟩:=pF.out.rw.Ue hfl hlt hin iE.out D8.out (by omega);rw[show(Ro.fill id (Ro.hls es 0 ls) k).set k (l.map (Ro.hl es k))=Ro.fill id (Ro.hls es 0 ls) (k+1) from Ro.PI (f:=id) ew.out] at hst;have HST:=ζ hst;have TQ:=ζ fP;clear Gv hst fP hfl;go_wp2_with (go_at_call 199;refine TM.out.mono ?_;refine aaj ?_);refine ζ ?_;rintro e w6 ⟨Xu,hp⟩;obtain rfl:=Xu.symm;rcases hp with ⟨hd,rfl⟩|⟨hd,rfl⟩
     .refine⟨rfl,fV.bad pF.out.low ?_ (by decide)⟩
      rw[dI.out,iz.out,Ro.drop_cons ew.out];exact Ro.eU (Ro.kE rA.out (by rw[om.out];exact hd)) (by decide)
     .have C6:=ζ (show Ro.fU es 0 (Ro.hls es 0 ls)=Ro.fU es (k+1) ((Ro.hls es 0 ls).drop (k+1)) by
       rw[iz.out,Ro.drop_cons ew.out,Ro.wF (Ro.vp rA.out (by rw[om.out];exact hd))])
      have HV8:Hid (VS (wr.setCell ⟨w2.heap.size,k,none⟩ (.slice ro rl rc)) w w1.heap.size w2.heap.size p gd gs q gf ga gl ls.length ao ca es f F An D5 (vs.set k (.slice ro rl rc)) (Ro.fill id (Ro.hls es 0 ls) (k+1))):=by
       have h1:=pF.out.r1;have h2:=pF.out.r2;have h3:=pF.out.r3;exact⟨pF.out.rd.keep fun b hq=>TQ.out.block b (by omega),pF.out.fi.keep fun b hq=>TQ.out.block b (by omega),HST.out,pF.out.low.trans (TQ.out.mono (by omega)),h1,h2,h3⟩
      have ac1:=ζ Tz.out.next
      clear hd;go_wp2;go_roundw
      case rel=>exact⟨k+1,f,_,D5,_,by omega,by go_num,C6.out,acu.out,ac1.out,HV8.out⟩
      case measure=>simp[intOf];omega
  .have aQ:¬(k:Int)<(ls.length:Int):=by omega
   obtain rfl:k=ls.length:=by omega
   have yl:Hid ((Ro.check (ls.length:Int) es (Ro.hls es 0 ls)).2=0):=by
    show _=_;rw[dI.out,iz.out,abZ (by rw[uX.out];exact aad _)];rfl
   have pH:Hid (ay W0 w.heap.size (.slice (some ⟨w2.heap.size,0,none⟩) ls.length ls.length) vs (Ro.hls es 0 ls)):=by
    have h1:=wK.out.rw;have h2:=wK.out.r3;have e1:Ro.fill id (Ro.hls es 0 ls) ls.length=Ro.hls es 0 ls:=by
     rw[<-uX.out,Ro.PL];simp
    rw[e1] at h1;exact h1.lower (by omega)
   go_wp2;go_ret;exact⟨wK.out.low,.inl ⟨yl.out,_,vs,rfl,pH.out⟩⟩
end
section
open Go.RowKit Go.Sort
def TW (v:Nat) (c:Int) (hs:List (List Int)) (w:World) (e:Ending) (w':World):Prop:=
 Below w.heap.size w w'/\((c≠0/\e= .returned (.tuple #[.slice none 0 0,.int .i64 (v:Int),.int .i64 c]))\/(c=0/\∃r rs,e= .returned (.tuple #[r,.int .i64 0,.int .i64 0])/\ay w' w.heap.size r rs hs))
def ke (n:Int) (es:List (Int×Int)) (ls:List (List Int)) (w:World) (e:Ending) (w':World):Prop:=
 TW (Ro.check n es (Ro.hls es 0 ls)).1 (Ro.check n es (Ro.hls es 0 ls)).2 (Ro.hls es 0 ls) w e w'
theorem ke.bad {n:Int} {es:List (Int×Int)} {ls:List (List Int)} {w w':World} {v:Nat} {c:Int} (hb:Below w.heap.size w w') (h:Ro.check n es (Ro.hls es 0 ls)=(v,c)) (hc:c≠0):ke n es ls w (.returned (.tuple #[.slice none 0 0,.int .i64 (v:Int),.int .i64 c])) w':=by
 refine⟨hb,.inl ?_⟩;rw[h];exact⟨hc,rfl⟩
end
section
open Go.Proofs.Tryz
open Go.RowKit Go.Sort
def TX (n:Int) (es:List (Int×Int)) (ls:List (List Int)) (b:Nat) (w:World) (e:Ending) (w':World):Prop:=
 aq (fun k=>k=b) w w'/\(((Ro.check n es (Ro.hls es 0 ls)).2=0/\e= .returned (.tuple #[])/\∃r rs,w'.heap[b]? =some (.cells #[r] 50 (0,0))/\ay w' w.heap.size r rs (Ro.hls es 0 ls))\/
  ((Ro.check n es (Ro.hls es 0 ls)).2≠0/\e= .panicked [{ v:=dQ (Ro.check n es (Ro.hls es 0 ls)).1 (Ro.check n es (Ro.hls es 0 ls)).2,recovered:=false }]/\w'.heap[b]? =some (.cells #[.slice none 0 0] 50 (0,0))))
theorem Mr (n:Int) (ao:Option Addr) (ca:Nat) (es:List (Int×Int)) (xo:Option Addr) (xc:Nat) (ls:List (List Int)) (b:Nat) (w:World) (he:ah w ao es) (hl:es.length<=4611686018427387904) (hx:bA w xo ls)
 (hg:w.heap[b]? =some (.cells #[.int .i64 n,.slice ao es.length ca] 24 (0,0))) (hr:w.heap[b+1]? =some (.cells #[.slice xo ls.length xc] 25 (0,0))) (ck:w.heap[b+2]? =some (.cells #[.slice none 0 0] 50 (0,0))):
 Calls prog 138 #[.pointer (some ⟨b,0,none⟩),.pointer (some ⟨b+1,0,none⟩),.pointer (some ⟨b+2,0,none⟩)] w (TX n es ls (b+2) w):=by
 obtain⟨g0,g1,-⟩:=af hg;have r0:=cell_of_one hr;have HH:=ζ (vD n ao ca es xo xc ls w he hl hx);have iI:=ζ ck;unfold az at HH;clear he hx hg hr ck;go_enter func138,ntmps138;go_wp2_with (go_at_call 139;refine HH.out.mono ?_;refine aaj ?_);refine ζ ?_;rintro e w1 ⟨hb,hp⟩;have hB1:=(hb.block _ (lt_of_block iI.out)).trans iI.out;rcases hp with ⟨hc,r,rs,rfl,iY⟩|⟨hc,rfl⟩
 .obtain⟨ro,rc,rfl⟩:=bG iY
  have k0:=cell_of_one hB1;have f0:=free_of_one hB1;have HB:=ζ hb;have HC:=ζ hc;have nr:=ζ iY;have aI:=ζ hB1;have l5:=ζ (lt_of_block iI.out);generalize hq:(Ro.hls es 0 ls).length=ql at*;clear hb hc iY hB1;go_wp2
  go_end0
  refine⟨((aq.refl (fun k=>k=b+2) w).later HB.out).setCell (b:=b+2) rfl _,.inl ⟨HC.out,rfl,_,rs,one_setCell aI.out,?_⟩⟩;refine nr.out.kept fun g hg hg2=>eV ?_ _
  have h1:=l5.out;rcases hg with hg|⟨u,x,hx,hxb⟩
  .have:=(aap nr.out.outer g hg).1
   omega
  .obtain⟨k,hk⟩:=nr.out.at hx
   have:=(aap (nr.out.row u x k hx hk) g hxb).1;omega
 .exact⟨rfl,(aq.refl _ _).later hb,.inr ⟨hc,rfl,hB1⟩⟩
theorem JR:∀(args:Array Value) (w:World),(callFunc 138 args).run prog w= .ok (.enter 138 args) w:=enters_of func138 (by kernel_rfl) rfl
theorem JP (n:Int) (ao:Option Addr) (ca:Nat) (es:List (Int×Int)) (xo:Option Addr) (xc:Nat) (ls:List (List Int)) (w:World) (he:ah w ao es) (hl:es.length<=4611686018427387904) (hx:bA w xo ls):
 Calls prog 94 #[az n ao es.length ca,.slice xo ls.length xc] w (ke n es ls w):=by
 have XR:∀(fn:Fn) (first cap:Array Value) (w:World),(Instr.makeFunc fn first cap).run prog w= .ok (.func fn first cap) w:=fun _ _ _ _=>rfl
 obtain⟨W0,hW0⟩:∃W,W=((w.alloc (.cells #[.int .i64 n,.slice ao es.length ca] 24)).alloc (.cells #[.slice xo ls.length xc] 25)).alloc (.cells #[.slice none 0 0] 50):=⟨_,rfl⟩;have hb0:Below w.heap.size w W0:=by rw[hW0];exact(((aae _ _).alloc (aad _) _).alloc (by simp) _).alloc (by simp;omega) _
 have hs0:W0.heap.size=w.heap.size+3:=by rw[hW0];simp
 have hg:W0.heap[w.heap.size]? =some (.cells #[.int .i64 n,.slice ao es.length ca] 24 (0,0)):=by
  rw[hW0,aaF _ _ _ (by simp;omega),aaF _ _ _ (by simp)];exact heap_alloc_new w _
 have hr:W0.heap[w.heap.size+1]? =some (.cells #[.slice xo ls.length xc] 25 (0,0)):=by
  rw[hW0,aaF _ _ _ (by simp)];exact alloc_at (by simp)
 have ck:W0.heap[w.heap.size+2]? =some (.cells #[.slice none 0 0] 50 (0,0)):=by
  rw[hW0];exact alloc_at (by simp)
 obtain⟨Wc,Sv⟩:∃Wc,Wc=W0.alloc (.cells #[.int .i64 0,.int .i64 0] 233):=⟨_,rfl⟩;have hb1:Below W0.heap.size W0 Wc:=by rw[Sv];exact(aae _ _).alloc (aad _) _
 have hsc:Wc.heap.size=w.heap.size+4:=by rw[Sv];simp[hs0]
 have VZ:nw Wc W0.heap.size 0 0:=by rw[Sv];exact heap_alloc_new W0 _
 have hc1:=Mr n ao ca es xo xc ls w.heap.size Wc ((he.later hb0).later hb1) hl ((hx.later hb0).later hb1) ((hb1.block _ (by omega)).trans hg) ((hb1.block _ (by omega)).trans hr) ((hb1.block _ (by omega)).trans ck)
 have hca:=zh 138 #[.pointer (some ⟨w.heap.size,0,none⟩),.pointer (some ⟨w.heap.size+1,0,none⟩),.pointer (some ⟨w.heap.size+2,0,none⟩)]
  (fun W=>(Ro.check n es (Ro.hls es 0 ls)).2=0/\Below w.heap.size w W/\w.heap.size+3<W.heap.size/\∃r rs,W.heap[w.heap.size+2]? =some (.cells #[r] 50 (0,0))/\ay W (w.heap.size+4) r rs (Ro.hls es 0 ls))
  (fun v c W=>v=(Ro.check n es (Ro.hls es 0 ls)).1/\c=(Ro.check n es (Ro.hls es 0 ls)).2/\c≠0/\Below w.heap.size w W/\w.heap.size+3<W.heap.size/\W.heap[w.heap.size+2]? =some (.cells #[.slice none 0 0] 50 (0,0))) W0 JR
  (by
    rw[<-Sv];refine hc1.mono ?_;rintro e w2 ⟨hw2,hp⟩;have cm:Below w.heap.size w w2:=by
     have h1:=hb0.trans (hb1.mono hb0.size);exact h1.trans (hw2.below h1.size fun k hk=>by rw[hk];omega)
    have hsz:w.heap.size+3<w2.heap.size:=by have:=hw2.size;omega
    refine⟨(hw2.block W0.heap.size (by omega) (by show ¬W0.heap.size=w.heap.size+2;omega)).trans VZ,?_⟩;rcases hp with ⟨h0,rfl,r,rs,h1,h2⟩|⟨h0,rfl,h1⟩
    .rw[hsc] at h2
     exact .inl ⟨rfl,h0,cm,hsz,r,rs,h1,h2⟩
    .exact .inr ⟨_,_,rfl,rfl,rfl,h0,cm,hsz,h1⟩)
 have sR:=ζ hca;have D7:=ζ hs0;unfold az;clear he hx hg hr ck hb1 hc1 hca hb0 hs0 Sv hsc VZ;rw[hW0] at sR;have HW:=ζ hW0;clear hW0;go_enter func94,ntmps94;go_wp2_with (go_at_call 132;refine sR.out.mono ?_;refine aaj ?_);refine ζ ?_;rintro e w1 ⟨W1,hp,hw⟩;have Py:=HW.out;rw[<-Py] at hw;rw[D7.out] at hw;rcases hp with ⟨⟨h0,hb,hsz,r,rs,h1,h2⟩,rfl⟩|⟨v,c,⟨hv,hc,h0,hb,hsz,h1⟩,rfl⟩
 .have hb2:Below w.heap.size w w1:=hb.trans (hw.below hb.size fun k hk=>by rw[hk];omega)
  have mG:=(hw.block (w.heap.size+2) (by omega) (by show ¬w.heap.size+2=w.heap.size+3;omega)).trans h1;have jX:ay w1 (w.heap.size+4) r rs (Ro.hls es 0 ls):=h2.kept fun g hg hg2=>hw.block g hg2 (by
   show ¬g=w.heap.size+3;rcases hg with hg|⟨u,x,hx,hxb⟩
   .have:=(aap h2.outer g hg).1
    omega
   .obtain⟨k,hk⟩:=h2.at hx
    have:=(aap (h2.row u x k hx hk) g hxb).1;omega)
  obtain⟨ro,rc,rfl⟩:=bG jX;have k0:=cell_of_one mG;have nr:=ζ jX;have aB:=ζ hb2;have H0:=ζ h0;generalize hq:(Ro.hls es 0 ls).length=ql at*;have VR:=lt_of_block mG;clear hw hb hsz h1 h2 h0 hb2 mG jX Py hq;go_wp2
  go_region
  go_wp2
  go_ret3
  refine⟨(aB.out.alloc aB.out.size _).drew,.inr ⟨H0.out,_,rs,rfl,?_⟩⟩;exact((nr.out.later ((aae _ _).alloc (aad _) _)).later (aae _ _).drew).lower (by omega)
 .have hb2:Below w.heap.size w w1:=hb.trans (hw.below hb.size fun k hk=>by rw[hk];omega)
  have mG:=(hw.block (w.heap.size+2) (by omega) (by show ¬w.heap.size+2=w.heap.size+3;omega)).trans h1;have k0:=cell_of_one mG;have aB:=ζ hb2;have H0:=ζ h0;have HV:=ζ hv;have HC:=ζ hc;have VR:=lt_of_block mG;clear hw hb hsz h1 h0 hb2 mG Py hv hc;go_wp2
  go_region
  go_wp2
  go_ret3
  have hv:=HV.out;have hc:=HC.out;subst hv;refine⟨(aB.out.alloc aB.out.size _).drew,.inl ⟨by rw[<-hc];exact H0.out,?_⟩⟩;rw[<-hc];rfl
end
end Go.Proofs.YtdbjpbjocmcpkaaGreatDoor
