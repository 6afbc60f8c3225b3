import Derived.Test.YtdbjpbjocmcpkaaGreatDoorMj10
set_option maxHeartbeats 16000000
set_option maxRecDepth 100000
namespace Go.Proofs.YtdbjpbjocmcpkaaGreatDoor
section
open Go.Proofs.Tryz
open Go.RowKit Go.Sort gJ
def PA (n:Nat) (ao:Option Addr) (ca:Nat) (es:List (Int×Int)) (w:World) (e:Ending) (w':World):Prop:=
 ∃p gf ga gl F An,e= .returned (.pointer (some ⟨p,0,none⟩))/\gH w' w.heap.size p gf ga gl n ao ca es F An (List.replicate n (-1))/\Ro.Fi n es F An (2*es.length)/\Below w.heap.size w w'
theorem Ea {n lo:Nat} {U:World} {o:Oper} {ev:Operand->Value} (hc:Calls prog 128 #[.slice (some ⟨lo,0,none⟩) 1 1,.int .i64 (n:Int)] U (EH (-1) n U))
 (h:(execOp ev o).run prog U= .ok (.enter 128 #[.slice (some ⟨lo,0,none⟩) 1 1,.int .i64 (n:Int)]) U):
 jS prog o ev U fun v w'=>Below U.heap.size U w'/\∃g,v= .slice (some ⟨g,0,none⟩) n n/\U.heap.size<=g/\g<w'.heap.size/\aq w' g (List.replicate n (-1)):=by
 unfold jS;rw[h];refine hc.mono ?_;rintro e w' ⟨g,rfl,h1,h2,h3⟩;exact⟨_,rfl,h3,g,rfl,h1,h2.lt,h2⟩
def eO (n M b:Nat) (ao:Option Addr) (m ca:Nat):Nat->JD
 |0=>⟨[],fun v _ _ _ _=>v= .agg #[.int .i64 (n:Int),.slice ao m ca]⟩
 |1=>⟨[],fun v _ lo hi w=>v= .slice (some ⟨lo,0,none⟩) 1 1/\lo<hi/\w.heap[lo]? =some (.cells #[.int .i64 (-1)] 3 (0,0))⟩
 |2=>⟨[],fun v _ _ _ _=>v= .pointer (some ⟨b,0,none⟩)⟩
 |3=>⟨[2],fun v _ _ _ _=>v= .int .i64 (n:Int)⟩
 |4=>⟨[1,3],fun v _ lo hi w=>∃g,v= .slice (some ⟨g,0,none⟩) n n/\lo<=g/\g<hi/\aq w g (List.replicate n (-1))⟩
 |5=>⟨[],fun v _ _ _ _=>v= .pointer (some ⟨b,1,none⟩)⟩
 |6=>⟨[5],fun v _ _ _ _=>v= .slice ao m ca⟩
 |7=>⟨[6],fun v _ _ _ _=>v= .int .i64 (m:Int)⟩
 |8=>⟨[7],fun v _ _ _ _=>v= .int .i64 (M:Int)⟩
 |9=>⟨[8],fun v _ lo hi w=>v= .slice (some ⟨lo,0,none⟩) M M/\lo<hi/\aq w lo (List.replicate M 0)⟩
 |10=>⟨[],fun v _ lo hi w=>v= .slice (some ⟨lo,0,none⟩) 1 1/\lo<hi/\w.heap[lo]? =some (.cells #[.int .i64 (-1)] 3 (0,0))⟩
 |11=>⟨[],fun v _ _ _ _=>v= .pointer (some ⟨b,0,none⟩)⟩
 |12=>⟨[11],fun v _ _ _ _=>v= .int .i64 (n:Int)⟩
 |13=>⟨[10,12],fun v _ lo hi w=>∃g,v= .slice (some ⟨g,0,none⟩) n n/\lo<=g/\g<hi/\aq w g (List.replicate n (-1))⟩
 |14=>⟨[0,4,9,13],fun v vs _ _ _=>∃x1 x2 x3 x4,vs=[x1,x2,x3,x4]/\v= .agg #[.int .i64 (n:Int),.slice ao m ca,x2,x3,x4]⟩
 |15=>⟨[14],fun v vs lo hi w=>∃x2 x3 x4,vs=[.agg #[.int .i64 (n:Int),.slice ao m ca,x2,x3,x4]]/\v= .pointer (some ⟨lo,0,none⟩)/\lo<hi/\w.heap[lo]? =some (.cells #[.int .i64 (n:Int),.slice ao m ca,x2,x3,x4] 353 (0,0))⟩
 |_=>⟨[15],fun v vs _ _ _=>vs=[v]⟩
theorem Db (n:Nat) (ao:Option Addr) (ca:Nat) (es:List (Int×Int)) (w:World) (he:ah w ao es) (hv:Si.Val n es):
 Calls prog 202 #[.agg #[.int .i64 (n:Int),.slice ao es.length ca]] w (PA n ao ca es w):=by
 obtain⟨i0,hi,hz0,hz1,hz2⟩:=info_parts Tryz.cL;obtain⟨w0,hw0⟩:∃w0,w0=w.alloc (.cells #[.int .i64 (n:Int),.slice ao es.length ca] 24):=⟨_,rfl⟩;have hb0:Below w.heap.size w w0:=by rw[hw0];exact(aaG _ _).alloc (aaF _) _
 have qL:w0.heap[w.heap.size]? =some (.cells #[.int .i64 (n:Int),.slice ao es.length ca] 24 (0,0)):=by rw[hw0];exact heap_alloc_new w _
 have hs0:=lt_of_block qL;obtain⟨g0,g1,-⟩:=af qL;have hhi:=hv.hi;have bV:=hv.few;obtain⟨M,hM⟩:∃M,M=2*es.length:=⟨_,rfl⟩;have hmul:IntKind.i64.wrap (2*(es.length:Int))=(M:Int):=by rw[aaK];omega
 have Jd:2*(es.length:Int)=(M:Int):=by omega
 have hwM:IntKind.i64.wrap (M:Int)=(M:Int):=by rw[aaK];omega
 have hMb:M<=8388608:=by omega
 have SL:¬(M:Int)<0:=by omega
 have hmk:∀W,(Instr.makeSlice 55 (.int .i64 (M:Int)) (.int .i64 (M:Int))).run prog W= .ok (.slice (some ⟨W.heap.size,0,none⟩) M M) (W.alloc (.cells (madeCells #[.int .i64 0] M) 3)):=fun W=>by
  have:=run_make (P:=prog) W 55 3 i0 (.int .i64 0) Tryz.underlying55 hi hz0 .i64 .i64 (M:Int) (M:Int) (by omega) (by omega) (by rw[hz2];omega) (by omega);rw[this,hz1];simp[Value.cells]
 have aad:Hid (∀(b:Nat) (V:World),V.cell? ⟨b,0,none⟩=some (.int .i64 (-1))->Calls prog 128 #[.slice (some ⟨b,0,none⟩) 1 1,.int .i64 (n:Int)] V (EH (-1) n V)):=fun b V h=>Kr (-1) b n V h (by omega)
 have Nk:=ζ hmk;have HS:Hid (∀V,Below w0.heap.size w0 V->V.cell? ⟨w.heap.size,0,none⟩=some (.int .i64 (n:Int))/\V.cell? ⟨w.heap.size,1,none⟩=some (.slice ao es.length ca)/\Below w0.heap.size w0 V):=fun V hV=>⟨(hV.cell (p:=⟨w.heap.size,0,none⟩) hs0).trans g0,(hV.cell (p:=⟨w.heap.size,1,none⟩) hs0).trans g1,hV⟩
 have HD:Hid (Below w0.heap.size w0 w0.drew):=(aaG _ _).drew;have q9:=ζ hM;have HW0:=ζ hw0;have HE:=ζ he;have HV:=ζ hv;have aI:=ζ hb0;have jR:=ζ qL;clear hM hi hz0 hz1 hz2 he hv hb0 qL;clear hmk Jd hmul;obtain⟨m,hm⟩:∃m,m=es.length:=⟨_,rfl⟩;have Va:IntKind.i64.wrap (2*(m:Int))=(M:Int):=by rw[aaK];have:=q9.out;omega
 rw[<-hm] at g1 HS ⊢;rw[<-hm] at HW0;have HMS:=ζ hm;clear hm;go_enter func202,ntmps202;go_wp2_with fail;rw[<-HW0.out];clear hw0;refine wp_region_any (by kernel_rfl) ?_;have hbW:Below w0.heap.size w0 { w0 with drawn:=w0.drawn+1 }:=(aaG _ _).drew;refine gJ.afZ (eO n M w.heap.size ao m ca) 17 55 (by decide) rfl (by kernel_rfl) ?_ ?_ ?_
 .intro i hi v vs lo hi' U U' h1 h2 h3
  have hc:i=0\/i=1\/i=2\/i=3\/i=4\/i=5\/i=6\/i=7\/i=8\/i=9\/i=10\/i=11\/i=12\/i=13\/i=14\/i=15\/i=16:=by omega
  rcases hc with rfl|rfl|rfl|rfl|rfl|rfl|rfl|rfl|rfl|rfl|rfl|rfl|rfl|rfl|rfl|rfl|rfl
  all_goals first|exact h3|skip
  .exact⟨h3.1,h3.2.1,(h2.block lo (abd h3.2.1 h1)).trans h3.2.2⟩
  .obtain⟨g,q1,q2,q3,q4⟩:=h3
   exact⟨g,q1,q2,q3,q4.later h2⟩
  .exact⟨h3.1,h3.2.1,h3.2.2.later h2⟩
  .exact⟨h3.1,h3.2.1,(h2.block lo (abd h3.2.1 h1)).trans h3.2.2⟩
  .obtain⟨g,q1,q2,q3,q4⟩:=h3
   exact⟨g,q1,q2,q3,q4.later h2⟩
  .obtain⟨x2,x3,x4,q1,q2,q3,q4⟩:=h3
   exact⟨x2,x3,x4,q1,q2,q3,(h2.block lo (abd q3 h1)).trans q4⟩
 .intro i o ρ U ev hi ho hb hd jI SC Sy hef
  obtain⟨c0,c1,-⟩:=HS.out U (hbW.trans hb);have hc:i=0\/i=1\/i=2\/i=3\/i=4\/i=5\/i=6\/i=7\/i=8\/i=9\/i=10\/i=11\/i=12\/i=13\/i=14\/i=15\/i=16:=by omega
  rcases hc with rfl|rfl|rfl|rfl|rfl|rfl|rfl|rfl|rfl|rfl|rfl|rfl|rfl|rfl|rfl|rfl|rfl<;>obtain rfl:=aa9 ho
  .have e1:ev (.tmp 1)= .pointer (some ⟨w.heap.size,0,none⟩):=SC 1 (by kernel_rfl)
   exact bI (v:= .agg #[.int .i64 (n:Int),.slice ao m ca]) (w':=U) (by simp[execOp,go_sem,e1,c0,c1]) ⟨aaG _ _,rfl⟩
  .refine bI (v:= .slice (some ⟨U.heap.size,0,none⟩) 1 1) (w':=U.alloc (.cells #[.int .i64 (-1)] 3)) ?_ ⟨(aaG _ _).alloc (aaF _) _,rfl,by simp,heap_alloc_new _ _⟩
   simp[execOp,go_sem,Sy]
  .have e1:ev (.tmp 1)= .pointer (some ⟨w.heap.size,0,none⟩):=SC 1 (by kernel_rfl)
   exact bI (v:= .pointer (some ⟨w.heap.size,0,none⟩)) (w':=U) (by simp[execOp,go_sem,e1]) ⟨aaG _ _,rfl⟩
  .obtain⟨_,_,_,_,_,r4⟩:=hd 2 (by simp[eO])
   have r5:ρ 2= .pointer (some ⟨w.heap.size,0,none⟩):=r4;exact bI (v:= .int .i64 (n:Int)) (w':=U) (by simp[execOp,go_sem,jI 2 8 (by omega) rfl (by decide),r5,c0]) ⟨aaG _ _,rfl⟩
  .obtain⟨lo,hi',q1,q2,q3,r1,r2,r3⟩:=hd 1 (by simp[eO])
   obtain⟨_,_,_,_,_,r4⟩:=hd 3 (by simp[eO]);have r5:ρ 3= .int .i64 (n:Int):=r4;have RG:ρ 1= .slice (some ⟨lo,0,none⟩) 1 1:=r1;exact Ea (aad.out lo U (cell_of_one r3)) (by simp[execOp,go_sem,hef,jI 1 7 (by omega) rfl (by decide),jI 3 9 (by omega) rfl (by decide),RG,r5])
  .have e1:ev (.tmp 1)= .pointer (some ⟨w.heap.size,0,none⟩):=SC 1 (by kernel_rfl)
   exact bI (v:= .pointer (some ⟨w.heap.size,1,none⟩)) (w':=U) (by simp[execOp,go_sem,e1]) ⟨aaG _ _,rfl⟩
  .obtain⟨_,_,_,_,_,r4⟩:=hd 5 (by simp[eO])
   have r5:ρ 5= .pointer (some ⟨w.heap.size,1,none⟩):=r4;exact bI (v:= .slice ao m ca) (w':=U) (by simp[execOp,go_sem,jI 5 11 (by omega) rfl (by decide),r5,c1]) ⟨aaG _ _,rfl⟩
  .obtain⟨_,_,_,_,_,r4⟩:=hd 6 (by simp[eO])
   have r5:ρ 6= .slice ao m ca:=r4;exact bI (v:= .int .i64 (m:Int)) (w':=U) (by simp[execOp,go_sem,jI 6 12 (by omega) rfl (by decide),r5]) ⟨aaG _ _,rfl⟩
  .obtain⟨_,_,_,_,_,r4⟩:=hd 7 (by simp[eO])
   have r5:ρ 7= .int .i64 (m:Int):=r4;exact bI (v:= .int .i64 (M:Int)) (w':=U) (by simp[execOp,go_sem,Sy,jI 7 13 (by omega) rfl (by decide),r5,Va]) ⟨aaG _ _,rfl⟩
  .obtain⟨_,_,_,_,_,r4⟩:=hd 8 (by simp[eO])
   have r5:ρ 8= .int .i64 (M:Int):=r4;refine bI (v:= .slice (some ⟨U.heap.size,0,none⟩) M M) (w':=U.alloc (.cells (madeCells #[.int .i64 0] M) 3)) ?_ ⟨(aaG _ _).alloc (aaF _) _,rfl,by simp,RV rfl⟩;simp[execOp,jI 8 14 (by omega) rfl (by decide),r5,Nk.out U]
  .refine bI (v:= .slice (some ⟨U.heap.size,0,none⟩) 1 1) (w':=U.alloc (.cells #[.int .i64 (-1)] 3)) ?_ ⟨(aaG _ _).alloc (aaF _) _,rfl,by simp,heap_alloc_new _ _⟩
   simp[execOp,go_sem,Sy]
  .have e1:ev (.tmp 1)= .pointer (some ⟨w.heap.size,0,none⟩):=SC 1 (by kernel_rfl)
   exact bI (v:= .pointer (some ⟨w.heap.size,0,none⟩)) (w':=U) (by simp[execOp,go_sem,e1]) ⟨aaG _ _,rfl⟩
  .obtain⟨_,_,_,_,_,r4⟩:=hd 11 (by simp[eO])
   have r5:ρ 11= .pointer (some ⟨w.heap.size,0,none⟩):=r4;exact bI (v:= .int .i64 (n:Int)) (w':=U) (by simp[execOp,go_sem,jI 11 17 (by omega) rfl (by decide),r5,c0]) ⟨aaG _ _,rfl⟩
  .obtain⟨lo,hi',q1,q2,q3,r1,r2,r3⟩:=hd 10 (by simp[eO])
   obtain⟨_,_,_,_,_,r4⟩:=hd 12 (by simp[eO]);have r5:ρ 12= .int .i64 (n:Int):=r4;have RG:ρ 10= .slice (some ⟨lo,0,none⟩) 1 1:=r1;exact Ea (aad.out lo U (cell_of_one r3)) (by simp[execOp,go_sem,hef,jI 10 16 (by omega) rfl (by decide),jI 12 18 (by omega) rfl (by decide),RG,r5])
  .obtain⟨_,_,_,_,_,r0⟩:=hd 0 (by simp[eO])
   obtain⟨_,_,_,_,_,ga,ra,_⟩:=hd 4 (by simp[eO]);obtain⟨_,_,_,_,_,rb,_⟩:=hd 9 (by simp[eO]);obtain⟨_,_,_,_,_,gc,rc,_⟩:=hd 13 (by simp[eO]);have r0':ρ 0= .agg #[.int .i64 (n:Int),.slice ao m ca]:=r0;exact bI (v:= .agg #[.int .i64 (n:Int),.slice ao m ca,ρ 4,ρ 9,ρ 13]) (w':=U) (by simp[execOp,go_sem,jI 0 6 (by omega) rfl (by decide),jI 4 10 (by omega) rfl (by decide),jI 9 15 (by omega) rfl (by decide),jI 13 19 (by omega) rfl (by decide),r0',ra,rb,rc]) ⟨aaG _ _,_,_,_,_,rfl,rfl⟩
  .obtain⟨_,_,_,_,_,x1,x2,x3,x4,q1,q2⟩:=hd 14 (by simp[eO])
   have q2':ρ 14= .agg #[.int .i64 (n:Int),.slice ao m ca,x2,x3,x4]:=q2;refine bI (v:= .pointer (some ⟨U.heap.size,0,none⟩)) (w':=U.alloc (.cells #[.int .i64 (n:Int),.slice ao m ca,x2,x3,x4] 353)) ?_ ⟨(aaG _ _).alloc (aaF _) _,x2,x3,x4,by show [ρ 14]=_;rw[q2'],rfl,by simp,heap_alloc_new _ _⟩;simp[execOp,go_sem,jI 14 20 (by omega) rfl (by decide),q2']
  .obtain⟨_,_,_,_,_,x2,x3,x4,_,rp,_⟩:=hd 15 (by simp[eO])
   exact bI (v:=ρ 15) (w':=U) (by simp[execOp,go_sem,jI 15 21 (by omega) rfl (by decide)]) ⟨aaG _ _,rfl⟩
 .intro ρ lo hi V a ha afg jI SC hb hd sI
  have hfr2:a={ tmps:= #[.agg #[.int .i64 (n:Int),.slice ao m ca],.pointer (some ⟨w.heap.size,0,none⟩),.pointer none,ρ 16,undef,undef,ρ 0,ρ 1,ρ 2,ρ 3,ρ 4,ρ 5,ρ 6,ρ 7,ρ 8,ρ 9,ρ 10,ρ 11,ρ 12,ρ 13,ρ 14,ρ 15,undef,undef,undef,undef,undef,undef,undef,undef,undef,undef,undef,undef,undef,undef,undef,undef,undef,undef,undef,undef,undef,undef,undef,undef,undef,undef,undef,undef,undef,undef,undef,undef,undef],defers:=[] }:=by rw[ha];kernel_rfl
  have hb2:Below w0.heap.size w0 V:=hbW.trans hb;have r0:ρ 0= .agg #[.int .i64 (n:Int),.slice ao m ca]:=(hd 0 (by omega)).2.2.2;obtain⟨a1,a2,a3,r1,_,_⟩:=hd 1 (by omega);have RG:ρ 1= .slice (some ⟨lo 1,0,none⟩) 1 1:=r1;have r2:ρ 2= .pointer (some ⟨w.heap.size,0,none⟩):=(hd 2 (by omega)).2.2.2;have r3:ρ 3= .int .i64 (n:Int):=(hd 3 (by omega)).2.2.2;obtain⟨p4,p5,p6,gf,r4,f1,f2,f3⟩:=hd 4 (by omega);have r4':ρ 4= .slice (some ⟨gf,0,none⟩) n n:=r4;have r5:ρ 5= .pointer (some ⟨w.heap.size,1,none⟩):=(hd 5 (by omega)).2.2.2;have r6:ρ 6= .slice ao m ca:=(hd 6 (by omega)).2.2.2;have r7:ρ 7= .int .i64 (m:Int):=(hd 7 (by omega)).2.2.2;have r8:ρ 8= .int .i64 (M:Int):=(hd 8 (by omega)).2.2.2;obtain⟨p7,p8,p9,r9,b1,b2⟩:=hd 9 (by omega);have XH:ρ 9= .slice (some ⟨lo 9,0,none⟩) M M:=r9;obtain⟨_,_,_,r10,_,_⟩:=hd 10 (by omega);have Zj:ρ 10= .slice (some ⟨lo 10,0,none⟩) 1 1:=r10;have r11:ρ 11= .pointer (some ⟨w.heap.size,0,none⟩):=(hd 11 (by omega)).2.2.2;have r12:ρ 12= .int .i64 (n:Int):=(hd 12 (by omega)).2.2.2;obtain⟨p10,p11,p12,gl,r13,l1,l2,l3⟩:=hd 13 (by omega);have Ua:ρ 13= .slice (some ⟨gl,0,none⟩) n n:=r13;obtain⟨_,_,_,x1,x2,x3,x4,y1,y2⟩:=hd 14 (by omega);have y1':[ρ 0,ρ 4,ρ 9,ρ 13]=[x1,x2,x3,x4]:=y1;simp only[acK] at y1';obtain⟨_,e2,e3,e4,_⟩:=y1';have XI:ρ 14= .agg #[.int .i64 (n:Int),.slice ao m ca,.slice (some ⟨gf,0,none⟩) n n,.slice (some ⟨lo 9,0,none⟩) M M,.slice (some ⟨gl,0,none⟩) n n]:=by
   rw[<-r4',<-XH,<-Ua,e2,e3,e4];exact y2
  obtain⟨p13,p14,p15,z2,z3,z4,u1,r15,u2,u3⟩:=hd 15 (by omega);have Qb:ρ 15= .pointer (some ⟨lo 15,0,none⟩):=r15;have u1':[ρ 14]=[.agg #[.int .i64 (n:Int),.slice ao m ca,z2,z3,z4]]:=u1;rw[XI] at u1';simp only[acK,Value.agg.injEq,Array.mk.injEq,and_true,true_and] at u1';obtain⟨d2,d3,d4⟩:=u1';subst d2;subst d3;subst d4;have r16:ρ 16= .pointer (some ⟨lo 15,0,none⟩):=by
   have:[ρ 15]=[ρ 16]:=(hd 16 (by omega)).2.2.2;simp only[acK,and_true] at this;rw[<-this];exact Qb
  have D49:=sI 4 9 (by omega) (by omega) (by omega);have ahx:=sI 4 13 (by omega) (by omega) (by omega);have ahw:=sI 4 15 (by omega) (by omega) (by omega);have ahv:=sI 9 13 (by omega) (by omega) (by omega);have ahu:=sI 9 15 (by omega) (by omega) (by omega);have adE:=sI 13 15 (by omega) (by omega) (by omega);have p4':w0.heap.size<=lo 4:=p4;have p7':w0.heap.size<=lo 9:=p7;have ajL:w0.heap.size<=lo 13:=p10;have ajK:w0.heap.size<=lo 15:=p13;obtain⟨gA,hgA⟩:∃g,lo 9=g:=⟨_,rfl⟩;obtain⟨p,hp⟩:∃g,lo 15=g:=⟨_,rfl⟩;have VL:gH V w0.heap.size p gf gA gl n ao ca es (List.replicate n (-1)) (List.replicate M 0) (List.replicate n (-1)):=by
   have hm:=HMS.out;have hM:=q9.out;refine⟨?_,f3,by rw[<-hgA];exact b2,l3,⟨by omega,by omega,by omega,by omega⟩,⟨by omega,by omega,by omega,by omega,by omega,by omega⟩⟩;rw[<-hM,<-hm,<-hp,<-hgA];exact u3
  rw[hgA] at XH XI;rw[hp] at Qb r16;rw[r0,RG,r2,r3,r4',r5,r6,r7,r8,XH,Zj,r11,r12,Ua,XI,Qb,r16] at hfr2;have wS:=ζ VL;have JV:=ζ hb2;have aao:Hid (Ro.Fi n es (List.replicate n (-1)) (List.replicate M 0) 0):=by
   have:=Ro.Fi.start n es;rw[<-q9.out] at this;exact this
  have hsp:w0.heap.size<=p:=by omega
  clear r0 r1 RG r2 r3 r4 r4' r5 r6 r7 r8 r9 XH r10 Zj r11 r12 r13 Ua XI r15 Qb r16 y1 y2 u1 u3 D49 ahx ahw ahv ahu adE hd sI jI SC ha afg f3 b2 l3 e2 e3 e4 VL hb2 hb hbW;refine wpAny_done (by kernel_rfl) ?_ _;rw[hfr2];clear hfr2;dsimp only;obtain⟨c0,c1,c2,c3,c4⟩:=gY wS.out.blk;have akz:2*(m:Int)=(M:Int):=by have:=q9.out;have:=HMS.out;omega
  have LL:2*es.length=M:=q9.out.symm;rw[LL] at c3;clear Va LL;go_wp2;clear c0 c1 c2 c3 c4;go_loopw [27] (fun c wr=>∃(k:Nat) (F An:List Int),k<=M/\c= .int .i64 (k:Int)/\Ro.Fi n es F An k/\gH wr w0.heap.size p gf gA gl n ao ca es F An (List.replicate n (-1))/\Below w0.heap.size w0 wr) (fun c _=>M-(intOf c).toNat)
  case atStart=>exact⟨0,_,_,aaR _,rfl,aao.out,wS.out,JV.out⟩
  case round=>
   clear wS aao JV;obtain⟨k,F,An,hk,rfl,oN,hf,hb⟩:=hrel;have wS:=ζ oN;have HF:=ζ hf;have HB:=ζ hb;obtain⟨s0,s1,-⟩:=HS.out wr hb;clear oN hf hb;by_cases hlt:k<M
   .have aP:(k:Int)<(M:Int):=by omega
    have hkm:k<2*es.length:=by have:=q9.out;omega
    have hfr:=(Cs.eU HV.out hkm).1;have PV:=vJ n ao ca es k wr (HE.out.later (aI.out.trans (HB.out.mono aI.out.size))) HV.out hkm;rw[<-HMS.out] at PV;have PV:=ζ PV;have HST:=ζ (wS.out.step HV.out hkm);obtain⟨fr,ZG⟩:∃fr,fr=Cs.fr es k:=⟨_,rfl⟩;rw[<-ZG] at hfr PV HST;have Jj:=wS.out.first fr hfr
    obtain⟨lv,hlv⟩:∃lv,lv=Ro.lo es fr k:=⟨_,rfl⟩;rw[<-hlv] at Jj HST;have HFS:=ζ Jj;have hfr2:(fr:Int)<(n:Int):=by omega
    clear ZG hlv Jj;go_wp2_with (go_at_call 256;refine PV.out.mono ?_;rintro e w2 ⟨rfl,hb2⟩;refine aaI ?_);refine ζ ?_;have hF2:=HF.out.later hb2;have aA:=ζ (HB.out.trans (hb2.mono HB.out.size));clear hb2 s0 s1;obtain⟨c0,c1,c2,c3,c4⟩:=gY hF2.blk;have LL:2*es.length=M:=q9.out.symm;rw[LL] at c3;clear LL;have cfv:=hF2.first.cell HFS.out
    obtain⟨y,hy⟩:∃y,An[k]? =some y:=⟨_,aaE (by rw[wS.out.la];exact hkm)⟩;have cak:=hF2.another.cell hy;have fak:=hF2.another.free k;have VM:=hF2.adV k lv;obtain⟨d0,d1,d2,d3,d4⟩:=gY VM.blk;have dfv:=VM.first.cell HFS.out
    have ffv:=VM.first.free fr
    have HF4:=ζ (VM.adU fr (k:Int));have hBg:=hF2.lo;have aaw:=ζ hBg;clear hF2 VM hy hBg;go_wp2_with fail;go_big_region;go_wp2;refine⟨⟨k+1,F.set fr (k:Int),An.set k lv,by omega,by simp,HST.out,HF4.out.later (aaG _ _).drew,?_⟩,by simp[intOf];omega⟩;exact((aA.out.trans (ep (g:=gA) (j:=k) (.int .i64 lv) (by have:=aaw.out;omega))).trans (ep (g:=gf) (j:=fr) (.int .i64 (k:Int)) (by have:=aaw.out;omega))).drew
   .have aP:¬(k:Int)<(M:Int):=by omega
    obtain rfl:k=M:=by omega
    go_wp2;go_ret;have h1:=wS.out;rw[q9.out] at h1;have hlw:=aI.out.size;exact⟨p,gf,gA,gl,F,An,rfl,⟨HF.out.blk,HF.out.first,HF.out.another,HF.out.leading,⟨by have:=HF.out.lo;omega,by have:=HF.out.lo;omega,by have:=HF.out.lo;omega,by have:=HF.out.lo;omega⟩,HF.out.ne⟩,h1,aI.out.trans (HB.out.mono hlw)⟩
end
section
open Go.RowKit Go.Sort
def iw (v:Nat) (c:Int) (hs:List (List Int)) (w:World) (e:Ending) (w':World):Prop:=
 Below w.heap.size w w'/\((c=0/\∃r rs,e= .returned r/\ay w' w.heap.size r rs hs)\/(c≠0/\e= .panicked [{ v:=eH v c,recovered:=false }]))
structure VS (W:World) (w:World) (B1 B2 p gd gs q gf ga gl N:Nat) (ao:Option Addr) (ca:Nat) (es:List (Int×Int)) (f:Nat->Bool) (F An D:List Int) (vs:List Value) (rs:List (List Int)):Prop where
 rd:jN W w.heap.size p gd gs N ao ca es f
 fi:gH W B1 q gf ga gl N ao ca es F An D
 rw:ay W B2 (.slice (some ⟨B2,0,none⟩) N N) vs rs
 low:Below w.heap.size w W
 r1:p<B1/\gd<B1/\gs<B1
 r2:q<B2/\gf<B2/\ga<B2/\gl<B2
 r3:w.heap.size<=B1/\B1<=B2
section
variable {W W' w:World} {B1 B2 p gd gs q gf ga gl N:Nat} {ao:Option Addr} {ca:Nat} {es:List (Int×Int)} {f:Nat->Bool} {F An D:List Int} {vs:List Value} {rs:List (List Int)}
theorem VS.later (h:VS W w B1 B2 p gd gs q gf ga gl N ao ca es f F An D vs rs) (hb:Below W.heap.size W W'):VS W' w B1 B2 p gd gs q gf ga gl N ao ca es f F An D vs rs:=
 ⟨h.rd.later hb,h.fi.later hb,h.rw.later hb,h.low.trans (hb.mono h.low.size),h.r1,h.r2,h.r3⟩
theorem VS.in2 (h:VS W w B1 B2 p gd gs q gf ga gl N ao ca es f F An D vs rs):B2<W.heap.size:=(aaO h.rw.outer B2 rfl).2
theorem VS.below {B:Nat} (h:VS W w B1 B2 p gd gs q gf ga gl N ao ca es f F An D vs rs) (hb:Below B W W') (hB:B2<B) (eT:∀(a:Nat) (y:Value) (b:Nat),vs[a]? =some y->y.ownBlock=some b->b<B):VS W' w B1 B2 p gd gs q gf ga gl N ao ca es f F An D vs rs:=by
 have h1:=h.r1;have h2:=h.r2;have h3:=h.r3;have h4:=h.low.size;refine⟨h.rd.keep fun b hq=>hb.block b (by omega),h.fi.keep fun b hq=>hb.block b (by omega),?_,h.low.trans (hb.mono (by omega)),h.r1,h.r2,h.r3⟩;refine h.rw.kept fun b hq _=> ?_
 rcases hq with hq|⟨u,x,hx,hxb⟩
 .obtain rfl:B2=b:=by simpa[Value.ownBlock] using hq
  exact hb.block _ hB
 .exact hb.block b (eT u x b hx hxb)
theorem VS.marked {f':Nat->Bool} (h:VS W w B1 B2 p gd gs q gf ga gl N ao ca es f F An D vs rs) (hw:av (fun b=>b=gs) W W') (hr:jN W' w.heap.size p gd gs N ao ca es f'):VS W' w B1 B2 p gd gs q gf ga gl N ao ca es f' F An D vs rs:=by
 have h1:=h.r1;have h2:=h.r2;have h3:=h.r3;have h4:=h.fi.lo;have hb:=hw.below h.low.size (B:=w.heap.size) (fun k hk=>by rw[hk];exact h.rd.lo.2.2);have hl:=h.in2;refine⟨hr,h.fi.keep fun b hq=>hw.block b ?_ ?_,h.rw.kept fun b hq hb2=>hw.block b hb2 ?_,h.low.trans hb,h.r1,h.r2,h.r3⟩
 .omega
 .show ¬b=gs
  omega
 .show ¬b=gs
  rcases hq with hq|⟨u,x,hx,hxb⟩
  .obtain rfl:B2=b:=by simpa[Value.ownBlock] using hq
   omega
  .obtain⟨k,hk⟩:=h.rw.at hx
   have:=(aaO (h.rw.row u x k hx hk) b hxb).1;omega
theorem VS.told {D':List Int} (h:VS W w B1 B2 p gd gs q gf ga gl N ao ca es f F An D vs rs) (hw:av (fun b=>b=gl) W W') (hf:gH W' B1 q gf ga gl N ao ca es F An D'):VS W' w B1 B2 p gd gs q gf ga gl N ao ca es f F An D' vs rs:=by
 have h1:=h.r1;have h2:=h.r2;have h3:=h.r3;have h4:=h.fi.lo;have hb:=hw.below h.low.size (B:=w.heap.size) (fun k hk=>by rw[hk];omega);have hl:=h.in2;refine⟨h.rd.keep fun b hq=>hw.block b ?_ ?_,hf,h.rw.kept fun b hq hb2=>hw.block b hb2 ?_,h.low.trans hb,h.r1,h.r2,h.r3⟩
 .omega
 .show ¬b=gl
  omega
 .show ¬b=gl
  rcases hq with hq|⟨u,x,hx,hxb⟩
  .obtain rfl:B2=b:=by simpa[Value.ownBlock] using hq
   omega
  .obtain⟨k,hk⟩:=h.rw.at hx
   have:=(aaO (h.rw.row u x k hx hk) b hxb).1;omega
end
theorem iw.bad {n:Int} {es:List (Int×Int)} {hs:List (List Int)} {w w':World} {v:Nat} {c:Int} (hb:Below w.heap.size w w') (h:Ro.check n es hs=(v,c)) (hc:c≠0):iw (Ro.check n es hs).1 (Ro.check n es hs).2 hs w (.panicked [{ v:=eH v c,recovered:=false }]) w':=by
 refine⟨hb,.inr ?_⟩;rw[h];exact⟨hc,rfl⟩
theorem xq (n:Int) (ao:Option Addr) (ca:Nat) (es:List (Int×Int)) (xo:Option Addr) (xc:Nat) (ls:List (List Int)) (w:World) (he:ah w ao es) (hl:es.length<=4611686018427387904) (hx:bH w xo ls):
 Calls Tryz.prog 139 #[aB n ao es.length ca,.slice xo ls.length xc] w (iw (Ro.check n es (Ro.hls es 0 ls)).1 (Ro.check n es (Ro.hls es 0 ls)).2 (Ro.hls es 0 ls) w):=by
 obtain⟨i0,hi,hz0,hz1,hz2⟩:=info_parts Tryz.nu;obtain⟨i1,hi1,hy0,hy1,hy2⟩:=info_parts Tryz.cL;have hb0:Below w.heap.size w (w.alloc (.cells #[.int .i64 n,.slice ao es.length ca] 24)):=(aaG _ _).alloc (aaF _) _;have HN:=ζ (su n ao ca es ls.length _ (he.later hb0) hl);have aI:=ζ hb0;have HE:=ζ he;have HX:=ζ hx;have wQ:=ζ (Ro.DG es 0 ls);unfold aB at HN ⊢;clear he hb0 hx;go_enter Tryz.func139,Tryz.ntmps139;go_wp2_with (go_at_call 197;refine HN.out.mono ?_;refine aaI ?_);refine ζ ?_;rintro e w1 ⟨hb1,hp⟩;have aD:=ζ (aI.out.trans (hb1.mono aI.out.size));have hs1:=hb1.size;rw[aa7] at hs1;have pT:w1.heap[w.heap.size]? =some (.cells #[.int .i64 n,.slice ao es.length ca] 24 (0,0)):=(hb1.block _ (by simp)).trans (heap_alloc_new w _);have dB:=ζ pT;clear hb1 pT;rcases hp with ⟨hv,rfl⟩|⟨hv,hk,rfl⟩|⟨hv,rfl,p,gd,gs,rfl,hr⟩
 .exact⟨rfl,iw.bad aD.out (by simp[Ro.check,hv]) (by decide)⟩
 .exact⟨rfl,iw.bad aD.out (by simp[Ro.check,hv,wQ.out,hk]) (by decide)⟩
 have hck:Ro.check (ls.length:Int) es (Ro.hls es 0 ls)=Ro.ig es 0 (Ro.hls es 0 ls):=by simp[Ro.check,hv,wQ.out]
 have hval:=Si.aL.1 hv;have ew:=ζ hck;have cC:=ζ hval;have hlb:=hval.hi;have bV:=hval.few;have hrd:jN w1 w.heap.size p gd gs ls.length ao ca es (fun _=>false):=⟨hr.blk,hr.iM,hr.Kf,⟨by have:=hr.lo.1;simp at this;omega,by have:=hr.lo.2.1;simp at this;omega,by have:=hr.lo.2.2;simp at this;omega⟩,hr.ne⟩;have HR:=ζ hrd;have hr1:p<w1.heap.size/\gd<w1.heap.size/\gs<w1.heap.size:=⟨lt_of_block hrd.blk,hrd.iM.lt,hrd.Kf.lt⟩;have jF:=ζ hr1;have HNF:=ζ (Db ls.length ao ca es w1 (HE.out.later aD.out) hval);obtain⟨g0,g1,-⟩:=af dB.out;clear hr hv hck hval hrd hr1;go_wp2_with (go_at_call 202;refine HNF.out.mono ?_;refine aaI ?_);refine ζ ?_;rintro e w2 ⟨q,gf,ga,gl,F,An,rfl,oN,VL,hb2⟩;have wS:=ζ VL;have hF2:=oN;have aA:=ζ (aD.out.trans (hb2.mono aD.out.size));have hr2:q<w2.heap.size/\gf<w2.heap.size/\ga<w2.heap.size/\gl<w2.heap.size:=⟨lt_of_block oN.blk,oN.first.lt,oN.another.lt,oN.leading.lt⟩;have nT:=ζ hr2;have yQ:=ζ (HR.out.later hb2);have aan:=ζ oN;have hs2:=hb2.size;clear oN VL hb2 hF2 hr2 g0 g1 HR HNF HN;go_wp2_with (at_make;refine wpList_make_full _ rfl _ _ 50 rfl w2.heap.size 55 i0 (.slice none 0 0) 1 Tryz.underlying50 hi hz0 hz1 _ _ _ _ ls.length rfl rfl rfl rfl (by rw[hz2];omega) (by unfold maxLen;omega) (aaF _) ?_;refine aaI ?_);refine ζ ?_;intro w3 hrow hg3;have DC:=ay.made hrow;have hb3:Below w2.heap.size w2 w3:=(aaG _ _).grown hg3 (aaF _) (fun j hj=>by cases hj);have yN:Hid (VS w3 w w1.heap.size w2.heap.size p gd gs q gf ga gl ls.length ao ca es (fun _=>false) F An (List.replicate ls.length (-1)) (List.replicate ls.length (.slice none 0 0)) (Ro.fill id (Ro.hls es 0 ls) 0)):=by
  refine⟨yQ.out.later hb3,aan.out.later hb3,?_,aA.out.trans (hb3.mono aA.out.size),jF.out,nT.out,⟨by omega,hs2⟩⟩;rw[Ro.O9,wQ.out];exact DC
 have aaj:=ζ (Ro.Ld.start ls.length es);clear hrow hg3 hb3 DC yQ aan aA jF nT dB;go_wp2;go_loopw [25] (fun c wr=>∃(k:Nat) (f:Nat->Bool) (DD D:List Int) (vs:List Value),k<=ls.length/\c= .int .i64 (k:Int)/\Ro.ig es 0 (Ro.hls es 0 ls)=Ro.ig es k ((Ro.hls es 0 ls).drop k)/\Ro.Sd es f k DD []/\Ro.Ld ls.length es k (2*es.length) D/\VS wr w w1.heap.size w2.heap.size p gd gs q gf ga gl ls.length ao ca es f F An D vs (Ro.fill id (Ro.hls es 0 ls) k)) (fun c _=>ls.length-(intOf c).toNat)
 case atStart=>exact⟨0,_,[],_,_,aaR _,rfl,rfl,Ro.Sd.start es,aaj.out,yN.out⟩
 case round=>
  clear yN aaj;obtain⟨k,f,DD,D,vs,hk,rfl,hch,qE,FD,hvs⟩:=hrel;obtain⟨W0,rfl⟩:∃W0,W0=wr:=⟨_,rfl⟩;have jq:=ζ hch;have iA:=ζ qE;have F7:=ζ FD;have yN:=ζ hvs;clear hch qE FD hvs;by_cases hlt:k<ls.length
  .have aP:(k:Int)<(ls.length:Int):=by omega
   have hk0:(0:Int)<=(k:Int):=by omega
   obtain⟨l,hlk⟩:∃l,ls[k]? =some l:=⟨_,aaE hlt⟩;obtain⟨b,o,A,C,rfl,hc,hL,ny,-⟩:=HX.out k l hlk;have hbl:b<w.heap.size:=block_lt_of_cell hc;have hcr:=(yN.out.low.cell (p:=⟨b,o+k,none⟩) hbl).trans hc;have HL:=ζ hL;have D9:=Ro.Je (es:=es) (k:=0) hlk;rw[abK] at D9;have fL:=ζ D9;obtain⟨p1,hp1⟩:∃p1,l.length=p1:=⟨_,rfl⟩;rw[hp1] at hcr ny;have q7:=ζ hp1;obtain⟨c0,c1,c2,c3,-⟩:=oy yN.out.rd.blk;have uO:(Si.aS (ls.length:Int) es)[k]? =some (Ro.iM es k:Int):=by
    have:=Cs.pX cC.out es.length (aaF _) k hlt;rw[abQ] at this;exact this
   have cdg:=yN.out.rd.iM.cell uO;have hdb:Ro.iM es k<=8388608:=by
    have:=Cs.sq (es:=es) (v:=k) (2*es.length);unfold Ro.iM;omega
   obtain⟨dg,Vs⟩:∃dg,dg=Ro.iM es k:=⟨_,rfl⟩;rw[<-Vs] at cdg hdb;have ry:=ζ Vs;have hin:=yN.out.in2;have eT:∀(a:Nat) (y:Value) (b:Nat),vs[a]? =some y->y.ownBlock=some b->b<W0.heap.size:=fun a y b hy hb=>by
    obtain⟨kk,hkk⟩:=yN.out.rw.at hy;exact(aaO (yN.out.rw.row a y kk hy hkk) b hb).2
   have jE:=ζ eT;clear hc hL hlk D9 hp1 uO Vs eT;go_wp2_with (at_make;refine wpList_make_own _ rfl _ _ 55 rfl W0.heap.size 3 i1 (.int .i64 0) 1 Tryz.underlying55 hi1 hy0 hy1 _ _ _ dg rfl rfl rfl (by rw[hy2];omega) (by unfold maxLen;omega) (aaF _) ?_;refine aaI ?_);refine ζ ?_;intro w4 U7 hg4;have hb4:Below W0.heap.size W0 w4:=(aaG _ _).grown hg4 (aaF _) (fun j hj=>by cases hj);have vE:=yN.out.later hb4;have aeT:=vE.fi.lo;have aeE:=vE.r3;have Am:=ζ (VU w.heap.size q gf ga gl ls.length ao ca es F An D k w w4 ⟨vE.fi.blk,vE.fi.first,vE.fi.another,vE.fi.leading,⟨by omega,by omega,by omega,by omega⟩,vE.fi.ne⟩ wS.out F7.out HE.out rfl vE.low cC.out hlt);have Wl:=ζ vE;have Nj:Hid (ak w4 W0.heap.size (.slice (some ⟨W0.heap.size,0,none⟩) 0 dg) []):=U7;have cZ:=ζ hb4;clear U7 hg4 hb4 vE aeT aeE c0 c1 c2 c3 cdg;go_wp2_with (go_at_call 203;refine Am.out.mono ?_;refine aaI ?_);refine ζ ?_;rintro e w5 ⟨rfl,Sq,D5,Sx,ZA⟩;have Ji:gl<W0.heap.size:=by have:=yN.out.r2;omega
   have Zk:=Wl.out.told Sq ⟨Sx.blk,Sx.first,Sx.another,Sx.leading,Wl.out.fi.lo,Sx.ne⟩;have PK:Hid (ak w5 W0.heap.size (.slice (some ⟨W0.heap.size,0,none⟩) 0 dg) []):=Nj.out.same fun g hg hg2=>Sq.block g hg2 (by
    show ¬g=gl;obtain rfl:W0.heap.size=g:=by simpa[Value.ownBlock] using hg
    omega)
   have WR:=ζ ZA;have Z5:=ζ Zk;have hs5:W0.heap.size<=w5.heap.size:=aa1 cZ.out.size Sq.size;clear Sq Sx ZA Zk Am Wl Nj cZ hcr;go_wp2;go_loopw [10,43] (fun c5 c6 wr=>∃(i:Nat) (f:Nat->Bool),i<=p1/\c6= .int .i64 (i:Int)/\Ro.gm es k [] (l.map (Ro.hl es k))=Ro.gm es k ((l.map (Ro.hl es k)).take i) ((l.map (Ro.hl es k)).drop i)/\Ro.Sd es f k DD ((l.map (Ro.hl es k)).take i)/\ak wr W0.heap.size c5 ((l.map (Ro.hl es k)).take i)/\VS wr w w1.heap.size w2.heap.size p gd gs q gf ga gl ls.length ao ca es f F An D5 vs (Ro.fill id (Ro.hls es 0 ls) k)/\W0.heap.size<=wr.heap.size) (fun _ c6 _=>p1-(intOf c6).toNat)
   case atStart=>exact⟨0,f,aaR _,rfl,rfl,iA.out,PK.out,Z5.out,hs5⟩
   case round=>
    clear PK Z5 iA hs5;obtain⟨i,f,hi,rfl,hel,qE,ho,hvs,hsw⟩:=hrel;have ru:=ζ hel;have iA:=ζ qE;have HO:=ζ ho;have qZ:=ζ hvs;obtain⟨ro,rc,VV,-,-⟩:=ho.form;subst VV;generalize hrl:((l.map (Ro.hl es k)).take i).length=rl at*;have Nf:Hid (rl=i):=by show _=_;rw[<-hrl,abL,aa3,q7.out];omega
    have HRL:=ζ hrl;clear hel qE ho hvs hrl;by_cases hil:i<p1
    .have DJ:(i:Int)<(p1:Int):=by omega
     have nS:(0:Int)<=(i:Int):=by omega
     obtain⟨x,fE⟩:∃x,l[i]? =some x:=⟨_,aaE (by have:=q7.out;omega)⟩;obtain⟨lb,lo',rfl,lc⟩:=(HL.out.later qZ.out.low).elem fE;have pS:(l.map (Ro.hl es k))[i]? =some (Ro.hl es k x):=by rw[abj,fE];rfl
     have rj:=ζ pS;have Wn:=ζ (VP w1.heap.size q gf ga gl ls.length ao ca es F An D5 x wr qZ.out.fi WR.out.len);obtain⟨h,hh⟩:∃h,h=Ro.toF ls.length D5 x:=⟨_,rfl⟩;have dh:=WR.out.to cC.out x;rw[<-hh] at Wn dh;have JS:=ζ dh;have HST:=ζ (CD w.heap.size p gd gs ls.length ao ca es f k h wr qZ.out.rd (HE.out.later qZ.out.low) cC.out);clear fE pS hh dh;go_wp2_with (go_at_call 204;refine Wn.out.mono ?_;rintro e w6 ⟨rfl,hw6⟩;obtain rfl:=hw6.symm;refine aaI ?_);refine ζ ?_;clear Wn;go_wp2_with (go_at_call 198;refine HST.out.mono ?_;refine aaI ?_);refine ζ ?_;rintro e w7 ⟨UF,hp⟩;have wo:=UF.below qZ.out.low.size (B:=w.heap.size) (fun k hk=>by rw[hk];exact qZ.out.rd.lo.2.2);have za:=ζ (qZ.out.low.trans wo);rcases hp with ⟨hlv,rfl⟩|⟨hlv,hf,rfl⟩|⟨hlv,hf,rfl,hr7⟩
     .refine⟨rfl,iw.bad za.out ?_ (by decide)⟩
      rcases JS.out with ⟨h1,-⟩|⟨-,h2⟩
      .rw[hlv] at h1;cases h1
      .rw[ew.out,jq.out,Ro.drop_cons fL.out]
       exact Ro.fH (Ro.kV (by rw[ru.out,Ro.drop_cons rj.out,Ro.pW h2]) (by decide)) (by decide)
     .refine⟨rfl,iw.bad za.out ?_ (by decide)⟩
      rcases JS.out with ⟨-,h2,j,-,h3⟩|⟨h1,-⟩
      .rw[<-h2,h3] at rj
       rw[h3] at hlv hf;rw[abu] at hf;rw[ew.out,jq.out,Ro.drop_cons fL.out];exact Ro.fH (Ro.kV (by rw[ru.out,Ro.drop_cons rj.out,Ro.nG hlv ((iA.out.twice hlv).1 hf)]) (by decide)) (by decide)
      .rw[hlv] at h1;cases h1
     .rcases JS.out with ⟨-,h2,j,-,h3⟩|⟨h1,-⟩
      case inr=>rw[hlv] at h1;cases h1
      rw[<-h2,h3] at rj;subst h3;rw[abu] at hf hr7;have E1:=ζ (show Ro.gm es k [] (l.map (Ro.hl es k))=Ro.gm es k ((l.map (Ro.hl es k)).take (i+1)) ((l.map (Ro.hl es k)).drop (i+1)) by
       rw[ru.out,Ro.drop_cons rj.out,Ro.ur hlv (fun hm=>by have h5:=(iA.out.twice hlv).2 hm;rw[h5] at hf;cases hf),Ro.dU rj.out])
      have Nd:=ζ (show Ro.Sd es (Co.fZ f j true) k DD ((l.map (Ro.hl es k)).take (i+1)) by rw[Ro.dU rj.out];exact iA.out.put hlv);have af6:=ζ (qZ.out.marked UF hr7);have HO7:Hid (ak w7 W0.heap.size (.slice ro rl rc) ((l.map (Ro.hl es k)).take i)):=HO.out.same fun g hg hg2=>UF.block g hg2 (by
       show ¬g=gs;have h6:=(aaO HO.out g hg).1;have h7:=qZ.out.r1;have h8:=qZ.out.r3;omega)
      have hs7:W0.heap.size<=w7.heap.size:=aa1 hsw UF.size;have wM:=ζ (Ro.dU rj.out);clear hlv hf hr7 UF wo h2 JS HST;go_wp2_with (at_builtin;refine bu rfl _ _ rfl w7 W0.heap.size _ ((l.map (Ro.hl es k)).take i) (j:Int) HO7.out hs7 (by rw[HRL.out,Nf.out];omega) rfl rfl ?_;refine aaI ?_);refine ζ ?_;intro v' w' ho' _ _ hb';have HO':=ζ (show ak w' W0.heap.size v' ((l.map (Ro.hl es k)).take (i+1)) by rw[wM.out];exact ho');have HV':=ζ (af6.out.below hb' hin jE.out);have hs':W0.heap.size<=w'.heap.size:=aa1 hs7 hb'.size;clear ho' hb';go_wp2;go_roundw
      case rel=>exact⟨i+1,_,by omega,by go_num,E1.out,Nd.out,HO'.out,HV'.out,hs'⟩
      case measure=>simp[intOf];omega
    .have DJ:¬(i:Int)<(p1:Int):=by omega
     obtain rfl:i=p1:=by omega
     have SM:(l.map (Ro.hl es k)).length=i:=by rw[aa3];exact q7.out
     have tM:=ζ (show Ro.gm es k [] (l.map (Ro.hl es k))=0 by rw[ru.out,ab2 (by omega)];rfl);have F5:Hid (ak wr W0.heap.size (.slice ro rl rc) (l.map (Ro.hl es k))):=by
      have:=HO.out;rw[abn (by omega)] at this;exact this
     have age:Hid (Ro.Sd es f (k+1) (DD++(l.map (Ro.hl es k)).take i) []):=iA.out.next
     have tJ:=ζ SM;have Xd:=ζ (Gy w.heap.size p gd gs ls.length ao ca es f k i wr qZ.out.rd cC.out hlt);have hfl:(Ro.fill id (Ro.hls es 0 ls) k).length=ls.length:=by rw[Ro.SY _ _ (by rw[wQ.out];omega),wQ.out]
     obtain⟨⟨y,hy⟩,hfr,hst,dO⟩:=qZ.out.rw.XD hfl hlt hin jE.out F5.out (by omega);rw[show(Ro.fill id (Ro.hls es 0 ls) k).set k (l.map (Ro.hl es k))=Ro.fill id (Ro.hls es 0 ls) (k+1) from Ro.SX (f:=id) fL.out] at hst;have HST:=ζ hst;have Xj:=ζ dO;clear SM hst dO hfl;go_wp2_with (go_at_call 199;refine Xd.out.mono ?_;refine aaI ?_);refine ζ ?_;rintro e w6 ⟨hw6,hp⟩;obtain rfl:=hw6.symm;rcases hp with ⟨hd,rfl⟩|⟨hd,rfl⟩
     .refine⟨rfl,iw.bad qZ.out.low ?_ (by decide)⟩
      rw[ew.out,jq.out,Ro.drop_cons fL.out];exact Ro.fH (Ro.l8 tM.out (by rw[tJ.out];exact hd)) (by decide)
     .have E2:=ζ (show Ro.ig es 0 (Ro.hls es 0 ls)=Ro.ig es (k+1) ((Ro.hls es 0 ls).drop (k+1)) by
       rw[jq.out,Ro.drop_cons fL.out,Ro.yF (Ro.wX tM.out (by rw[tJ.out];exact hd))])
      have HV8:Hid (VS (wr.setCell ⟨w2.heap.size,k,none⟩ (.slice ro rl rc)) w w1.heap.size w2.heap.size p gd gs q gf ga gl ls.length ao ca es f F An D5 (vs.set k (.slice ro rl rc)) (Ro.fill id (Ro.hls es 0 ls) (k+1))):=by
       have h1:=qZ.out.r1;have h2:=qZ.out.r2;have h3:=qZ.out.r3;exact⟨qZ.out.rd.keep fun b hq=>Xj.out.block b (by omega),qZ.out.fi.keep fun b hq=>Xj.out.block b (by omega),HST.out,qZ.out.low.trans (Xj.out.mono (by omega)),h1,h2,h3⟩
      have agJ:=ζ WR.out.next
      clear hd;go_wp2;go_roundw
      case rel=>exact⟨k+1,f,_,D5,_,by omega,by go_num,E2.out,age.out,agJ.out,HV8.out⟩
      case measure=>simp[intOf];omega
  .have aP:¬(k:Int)<(ls.length:Int):=by omega
   obtain rfl:k=ls.length:=by omega
   have Al:Hid ((Ro.check (ls.length:Int) es (Ro.hls es 0 ls)).2=0):=by
    show _=_;rw[ew.out,jq.out,ab2 (by rw[wQ.out];exact aaF _)];rfl
   have jF:Hid (ay W0 w.heap.size (.slice (some ⟨w2.heap.size,0,none⟩) ls.length ls.length) vs (Ro.hls es 0 ls)):=by
    have h1:=yN.out.rw;have h2:=yN.out.r3;have e1:Ro.fill id (Ro.hls es 0 ls) ls.length=Ro.hls es 0 ls:=by
     rw[<-wQ.out,Ro.S0];simp
    rw[e1] at h1;exact h1.lower (by omega)
   go_wp2;go_ret;exact⟨yN.out.low,.inl ⟨Al.out,_,vs,rfl,jF.out⟩⟩
end
end Go.Proofs.YtdbjpbjocmcpkaaGreatDoor
