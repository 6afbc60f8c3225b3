import Derived.Test.YtdbjpbjocmcpkaaGreatDoorMg40
import Derived.Test.YtdbjpbjocmcpkaaGreatDoorCards
import Derived.Test.YtdbjpbjocmcpkaaGreatDoorTie
import Derived.Test.YtdbjpbjocmcpkaaGreatDoorMg12
set_option maxHeartbeats 8000000
set_option maxRecDepth 100000
namespace Go.Proofs.YtdbjpbjocmcpkaaGreatDoor
section
open Go.Proofs.Tryz
open Go.RowKit
structure Beside (w wr:World):Prop where
 iZ:Below w.heap.size w wr
 res:wr.heap[w.heap.size]? =some (.cells #[.int .i64 0,.slice none 0 0] 86 (0,0))
 zD:wr.heap[w.heap.size+1]? =some (.cells #[.int .i64 0,.int .i64 0] 39 (0,0))
 JS:wr.heap[w.heap.size+3]? =some (.cells #[.int .i64 0,.int .i64 0] 39 (0,0))
theorem Beside.alloc {w wr:World} (h:Beside w wr) (o:Obj):Beside w (wr.alloc o):=
 ⟨h.iZ.alloc h.iZ.size o,(aaF wr o _ (lt_of_block h.res)).trans h.res,(aaF wr o _ (lt_of_block h.zD)).trans h.zD,(aaF wr o _ (lt_of_block h.JS)).trans h.JS⟩
theorem Beside.size {w wr:World} (h:Beside w wr):w.heap.size+4<=wr.heap.size:=lt_of_block h.JS
theorem Beside.kept {w wr w':World} {v:Value} {ps:List (Int×Int)} (h:Beside w wr) (hk:Kept (w.heap.size+2) v wr w') (hp:aM wr (w.heap.size+4) v ps):Beside w w':=by
 have hs:=h.size;have hne:∀k,k<w.heap.size+4->some k≠v.ownBlock:=fun k hk=>(hp.far hk).symm
 exact⟨⟨hk.os.trans h.iZ.os,hk.tape.trans h.iZ.tape,hk.output.trans h.iZ.output,by have:=hk.size;omega,fun k hk1=>(hk.block k (by omega) (by omega) (hne k (by omega))).trans (h.iZ.block k hk1)⟩,
  (hk.block _ (by omega) (by omega) (hne _ (by omega))).trans h.res,(hk.block _ (by omega) (by omega) (hne _ (by omega))).trans h.zD,(hk.block _ (by omega) (by omega) (hne _ (by omega))).trans h.JS⟩
theorem Beside.below {w wr w':World} (h:Beside w wr) (hb:Below wr.heap.size wr w'):Beside w w':=
 ⟨h.iZ.trans (hb.mono (by have:=h.size;omega)),(hb.block _ (lt_of_block h.res)).trans h.res,(hb.block _ (lt_of_block h.zD)).trans h.zD,(hb.block _ (lt_of_block h.JS)).trans h.JS⟩
theorem Beside.zero {w wr:World} (h:Beside w wr):Beside w ((wr.setCell ⟨w.heap.size+3,0,none⟩ (.int .i64 0)).setCell ⟨w.heap.size+3,1,none⟩ (.int .i64 0)):=by
 have ho:∀k,k≠w.heap.size+3->((wr.setCell ⟨w.heap.size+3,0,none⟩ (.int .i64 0)).setCell ⟨w.heap.size+3,1,none⟩ (.int .i64 0)).heap[k]? =wr.heap[k]? :=fun k hk=>by
  rw[heap_setCell_other _ ⟨w.heap.size+3,1,none⟩ k _ hk,heap_setCell_other _ ⟨w.heap.size+3,0,none⟩ k _ hk]
 refine⟨⟨h.iZ.os,h.iZ.tape,h.iZ.output,by simpa using h.iZ.size,fun k hk=>(ho k (by omega)).trans (h.iZ.block k hk)⟩,(ho _ (by omega)).trans h.res,(ho _ (by omega)).trans h.zD,?_⟩;have h1:=heap_setCell_same wr (w.heap.size+3) 0 _ _ (.int .i64 0) h.JS;have h2:=heap_setCell_same _ (w.heap.size+3) 1 _ _ (.int .i64 0) h1;simpa using h2
theorem Beside.cells {w wr:World} (h:Beside w wr):(wr.cell? ⟨w.heap.size,0,none⟩=some (.int .i64 0)/\wr.cell? ⟨w.heap.size,1,none⟩=some (.slice none 0 0)/\∀i,wr.frozen? ⟨w.heap.size,i,none⟩=false)/\
 (wr.cell? ⟨w.heap.size+1,0,none⟩=some (.int .i64 0)/\wr.cell? ⟨w.heap.size+1,1,none⟩=some (.int .i64 0)/\∀i,wr.frozen? ⟨w.heap.size+1,i,none⟩=false)/\
 (wr.cell? ⟨w.heap.size+1+1+1,0,none⟩=some (.int .i64 0)/\wr.cell? ⟨w.heap.size+1+1+1,1,none⟩=some (.int .i64 0)/\∀i,wr.frozen? ⟨w.heap.size+1+1+1,i,none⟩=false):=⟨fK h.res,fK h.zD,fK h.JS⟩
def rawVal (n:Int) (v:Value):Value:= .agg #[.int .i64 n,v]
def Kz (r:Except (Int×Int) Pa.St) (w:World) (e:Ending) (w':World):Prop:=
 Below w.heap.size w w'/\
 ((∃x,r= .error x/\e= .returned (.tuple #[rawVal 0 (.slice none 0 0),aN x]))\/
  (∃s v,r= .ok s/\e= .returned (.tuple #[rawVal s.n v,aN (0,0)])/\aM w' w.heap.size v s.pairs))
theorem wZ {w wr w':World} {v:Value} {ps:List (Int×Int)} {t:Nu.Tok} (hs:w.heap.size+4<=wr.heap.size) (hk:Kept (w.heap.size+2) v (wr.alloc (.cells #[.int .i64 t.kind,.int .i64 t.at',.int .i64 t.fin,.int .i64 t.num] 186)) w') (hp:aM wr (w.heap.size+4) v ps):
 w'.cell? ⟨wr.heap.size,0,none⟩=some (.int .i64 t.kind)/\w'.cell? ⟨wr.heap.size,1,none⟩=some (.int .i64 t.at')/\w'.cell? ⟨wr.heap.size,2,none⟩=some (.int .i64 t.fin)/\w'.cell? ⟨wr.heap.size,3,none⟩=some (.int .i64 t.num)/\wr.heap.size<w'.heap.size:=by
 have hne:some wr.heap.size≠v.ownBlock:=fun h=>by
  obtain⟨ao,cap,rfl,_,hx⟩:=hp.form;cases ao with
  |none=>simp[Value.ownBlock] at h
  |some x=>have:=hx x rfl;simp[Value.ownBlock] at h;omega
 have hb:w'.heap[wr.heap.size]? =some (.cells #[.int .i64 t.kind,.int .i64 t.at',.int .i64 t.fin,.int .i64 t.num] 186 (0,0)):=(hk.block wr.heap.size (by simp) (by omega) hne).trans (heap_alloc_new wr _);refine⟨?_,?_,?_,?_,lt_of_block hb⟩<;>simp[World.cell?,hb]
theorem aM.alloc {w:World} {B:Nat} {v:Value} {ps:List (Int×Int)} (h:aM w B v ps) (o:Obj):aM (w.alloc o) B v ps:=abH h o
theorem cJ.two {w wr:World} {s:Pa.St} {v:Value} (h:cJ wr (w.heap.size+2) s v):wr.cell? ⟨w.heap.size+1+1,1,none⟩=some (.int .i64 s.n)/\wr.cell? ⟨w.heap.size+1+1,3,none⟩=some v:=⟨h.c1,h.c3⟩
theorem cJ.far {w:World} {b k:Nat} {s:Pa.St} {v:Value} (h:cJ w b s v) (hk:b≠k) (i:Nat) (a:Value):cJ (w.setCell ⟨k,i,none⟩ a) b s v:=(heap_setCell_other w ⟨k,i,none⟩ b a hk).trans h
theorem yz (w:World):Beside w ((((w.alloc (.cells #[.int .i64 0,.slice none 0 0] 86)).alloc (.cells #[.int .i64 0,.int .i64 0] 39)).alloc (.cells #[.bool false,.int .i64 0,.int .i64 0,.slice none 0 0] 183)).alloc (.cells #[.int .i64 0,.int .i64 0] 39))/\
 cJ ((((w.alloc (.cells #[.int .i64 0,.slice none 0 0] 86)).alloc (.cells #[.int .i64 0,.int .i64 0] 39)).alloc (.cells #[.bool false,.int .i64 0,.int .i64 0,.slice none 0 0] 183)).alloc (.cells #[.int .i64 0,.int .i64 0] 39)) (w.heap.size+2) Pa.s0 (.slice none 0 0):=by
 generalize hw1:w.alloc (.cells #[.int .i64 0,.slice none 0 0] 86)=w1;generalize hw2:w1.alloc (.cells #[.int .i64 0,.int .i64 0] 39)=w2;generalize hw3:w2.alloc (.cells #[.bool false,.int .i64 0,.int .i64 0,.slice none 0 0] 183)=w3;have s1:w1.heap.size=w.heap.size+1:=by rw[<-hw1];simp
 have s2:w2.heap.size=w.heap.size+2:=by rw[<-hw2];simp[s1]
 have s3:w3.heap.size=w.heap.size+3:=by rw[<-hw3];simp[s2]
 have e1:w1.heap[w.heap.size]? =some (.cells #[.int .i64 0,.slice none 0 0] 86 (0,0)):=by rw[<-hw1];exact heap_alloc_new w _
 have e2:w2.heap[w.heap.size+1]? =some (.cells #[.int .i64 0,.int .i64 0] 39 (0,0)):=by rw[<-hw2,<-s1];exact heap_alloc_new w1 _
 have e3:w3.heap[w.heap.size+2]? =some (.cells #[.bool false,.int .i64 0,.int .i64 0,.slice none 0 0] 183 (0,0)):=by rw[<-hw3,<-s2];exact heap_alloc_new w2 _
 have e4:(w3.alloc (.cells #[.int .i64 0,.int .i64 0] 39)).heap[w.heap.size+3]? =some (.cells #[.int .i64 0,.int .i64 0] 39 (0,0)):=by rw[<-s3];exact heap_alloc_new w3 _
 have m2:∀k,k<w.heap.size+1->w2.heap[k]? =w1.heap[k]? :=fun k hk=>by rw[<-hw2];exact aaF _ _ _ (by omega)
 have m3:∀k,k<w.heap.size+2->w3.heap[k]? =w2.heap[k]? :=fun k hk=>by rw[<-hw3];exact aaF _ _ _ (by omega)
 have m4:∀k,k<w.heap.size+3->(w3.alloc (.cells #[.int .i64 0,.int .i64 0] 39)).heap[k]? =w3.heap[k]? :=fun k hk=>aaF _ _ _ (by omega)
 have hb:Below w.heap.size w (w3.alloc (.cells #[.int .i64 0,.int .i64 0] 39)):=by
  rw[<-hw3,<-hw2,<-hw1];exact((((aae _ _).alloc (aad _) _).alloc (by simp) _).alloc (by simp;omega) _).alloc (by simp;omega) _
 exact⟨⟨hb,by rw[m4 _ (by omega),m3 _ (by omega),m2 _ (by omega)];exact e1,by rw[m4 _ (by omega),m3 _ (by omega)];exact e2,e4⟩,(m4 _ (by omega)).trans e3⟩
theorem OJ (T cap n:Nat) (ts Ot:List Nu.Tok) (w:World) (ht:cO w T 0 ts) (hT:T<w.heap.size) (hlen:ts.length<=16777217) (hcap:ts.length<=cap) (hts:ts=Ot++[⟨3,n,n,0⟩]) (hk:∀t∈Ot,t.kind=1\/t.kind=2):
 Calls prog 68 #[.slice (some ⟨T,0,none⟩) ts.length cap] w (Kz (Pa.go Pa.s0 (Pa.pT [] ts) n) w):=by
 have HT:=ζ ht;have uS:=ζ hts;have HK:=ζ hk;clear ht hts hk;have B0:=ζ (yz w).1;have R0:=ζ (yz w).2;go_enter func68,ntmps68;go_wp2;go_step3;go_wp2;go_step3;go_wp2
 go_loopw [12,6] (fun c bg wr=>∃(us vs:List Nu.Tok) (k:Nat) (s:Pa.St) (v:Value),Ot=us++vs/\k<=us.length/\c= .int .i64 us.length/\bg= .int .i64 k/\
  Pa.go Pa.s0 (Pa.pT [] ts) n=Pa.go s (Pa.pT (us.drop k) (vs++[⟨3,n,n,0⟩])) n/\s.pairs.length<=us.length/\Beside w wr/\cJ wr (w.heap.size+2) s v/\aM wr (w.heap.size+4) v s.pairs) (fun c _ _=>ts.length-(intOf c).toNat)
 case atStart=>exact⟨[],Ot,0,Pa.s0,.slice none 0 0,rfl,aad _,rfl,rfl,by rw[uS.out];rfl,aad _,B0.out,R0.out,acO _ _ _ _⟩
 case round=>
  obtain⟨us,vs,k,s,v,Dx,hku,rfl,rfl,hgo,hps,iN,hrd,hop⟩:=hrel;have hl:ts.length=us.length+vs.length+1:=by rw[uS.out,Dx];simp;omega
  have hlt:(us.length:Int)<(ts.length:Int):=by omega
  have ip:(0:Int)<=(us.length:Int):=by omega
  have kp:(0:Int)<=(k:Int):=by omega
  have ku:(k:Int)<=(us.length:Int):=by omega
  have uc:(us.length:Int)<=(cap:Int):=by omega
  have kc:¬(cap=k):=by omega
  have hlm:us.length<=16777216:=by omega
  have om:=ζ hl;clear hl;have oN:us.length-k=(us.drop k).length:=by simp
  have zZ:=ζ oN;clear oN;have zU:=ζ Dx;have pL:=ζ hgo;clear Dx hgo;have RN:T≠w.heap.size+2:=by omega
  have V3:cO (wr) T (k*4) (us.drop k):=cO.drop (vs:=vs++[⟨3,n,n,0⟩]) (by have:=HT.out.below iN.iZ hT;rw[uS.out,zU.out,aaR] at this;exact this) k;have KT:=ζ V3;clear V3;cases vs with
  |nil=>
   have Gh:nk wr T (us.length*4) ⟨3,n,n,0⟩:=by
    have:=(HT.out.below iN.iZ hT) us.length ⟨3,n,n,0⟩ (by rw[uS.out,zU.out];simp);rwa[abI] at this
   obtain⟨a0,a1,a2,a3⟩:=Gh;dsimp only at a0 a1 a2 a3;have nh:T<wr.heap.size:=block_lt_of_cell a0;have hsz:=iN.size;have q0:w.heap.size<wr.heap.size:=by omega
   have q1:w.heap.size+1<wr.heap.size:=by omega
   have q2:w.heap.size+1+1<wr.heap.size:=by omega
   have q3:w.heap.size+1+1+1<wr.heap.size:=by omega
   have bT:=ζ iN;have uU:=ζ hrd;have kP:=ζ hop;clear iN hrd hop;obtain⟨⟨r0,r1,r2⟩,⟨s0,s1,s2⟩,⟨f0,f1,f2⟩⟩:=bT.out.cells;by_cases XW:k=us.length
   .subst XW
    have e0:us.drop us.length=[]:=by simp
    have E0:=ζ e0;clear e0;cases hf:Pa.fin s n with
    |error x=>
     have HF:=ζ hf;clear hf;have jx:(x.1 != 0)=true:=by have:=Pa.EY HF.out;simp;omega
     go_wp2_with ((go_at_call 109;refine(J2 (w.heap.size+4) (w.heap.size+2) s v ⟨3,n,n,0⟩ _ x HF.out (uU.out.alloc _) (kP.out.alloc _)).mono ?_;rintro e w3 ⟨rfl,hb3⟩;have lO:=(bT.out.alloc _).below hb3;obtain⟨⟨r0,r1,r2⟩,⟨s0,s1,s2⟩,⟨f0,f1,f2⟩⟩:=lO.cells;have C9:=ζ lO;unfold aN;clear hb3 lO))
     go_region
     go_wp2;rw[ade];refine bodyPost_ret (v:= .tuple #[rawVal 0 (.slice none 0 0),aN x]) (by simp[results,results68,go_sem,rawVal,aN, *]) rfl ⟨?_,.inl ⟨x,?_,rfl⟩⟩
     .exact((((((C9.out.iZ.setCell (by simp;omega) _).setCell (by simp;omega) _).setCell (by simp) _).setCell (by simp) _).setCell (by simp) _).setCell (by simp) _).drew
     .rw[pL.out,E0.out,abi,Pa.uf (by simp)]
      exact HF.out
    |ok s'=>
     have HF:=ζ hf;clear hf;have hs3:=Pa.NS HF.out;subst hs3;obtain⟨ao,vc,rfl,_⟩:=kP.out.form;go_wp2_with ((go_at_call 109;refine(NU (w.heap.size+4) (w.heap.size+2) s' s' _ ⟨3,n,n,0⟩ _ HF.out (uU.out.alloc _) (kP.out.alloc _)).mono ?_;rintro e w3 ⟨rfl,hb3⟩;have lO:=(bT.out.alloc _).below hb3;have Jk:=(uU.out.alloc _).below hb3 (by simp;omega);have Jp:=(kP.out.alloc _).below hb3 (aad _);obtain⟨⟨r0,r1,r2⟩,⟨s0,s1,s2⟩,⟨f0,f1,f2⟩⟩:=lO.cells;obtain⟨d1,d3⟩:=Jk.two;have C9:=ζ lO;have Ts:=ζ Jp;unfold aN;clear hb3 lO Jk Jp))
     go_region
     go_wp2;rw[ade];refine bodyPost_ret (v:= .tuple #[rawVal s'.n (.slice ao s'.pairs.length vc),aN (0,0)]) (by simp[results,results68,go_sem,rawVal,aN, *]) rfl ⟨?_,.inr ⟨s',_,?_,rfl,?_⟩⟩
     .exact((((((C9.out.iZ.setCell (by simp;omega) _).setCell (by simp;omega) _).setCell (by simp) _).setCell (by simp) _).setCell (by simp) _).setCell (by simp) _).drew
     .rw[pL.out,E0.out,abi,Pa.uf (by simp)]
      exact HF.out
     .exact((((((((Ts.out.low (by omega) 0 _).low (by omega) 1 _).low (by omega) 0 _).low (by omega) 1 _).low (by omega) 0 _).low (by omega) 1 _).drew).base (by omega))
   .have hkl:k<us.length:=by omega
    have aa4:(k:Int)<(us.length:Int):=by omega
    have hne:us.drop k≠[]:=fun h=>by have:=congrArg List.length h;simp at this;omega
    have zM:(us.drop k).length<=33554433:=by rw[ada];omega
    have kd:0<us.length-k:=by omega
    have hpos:(0:Int)<((us.length-k:Nat):Int):=by omega
    cases lN:Pa.line s (us.drop k) with
    |error x=>
     have l6:=ζ lN;clear lN;have jx:(x.1 != 0)=true:=by have:=Pa.Bp l6.out;simp;omega
     go_wp2_with (go_at_call 108;refine(EK (w.heap.size+4) (w.heap.size+2) s v T (k*4) _ _ (us.drop k) _ x l6.out (uU.out.alloc _) (kP.out.alloc _) (KT.out.below ((aae _ _).alloc (aad _) _) nh) zZ.out hne zM RN (by omega) (by omega) (by simp;omega) (by omega)).mono ?_;rintro e w2 ⟨rfl,hk2⟩;have gO:=(bT.out.alloc _).kept hk2 (kP.out.alloc _);obtain⟨⟨r0,r1,r2⟩,⟨s0,s1,s2⟩,⟨f0,f1,f2⟩⟩:=gO.cells;have wT:=ζ gO;unfold aN;clear hk2 gO)
     go_region
     go_wp2;rw[ade];refine bodyPost_ret (v:= .tuple #[rawVal 0 (.slice none 0 0),aN x]) (by simp[results,results68,go_sem,rawVal,aN, *]) rfl ⟨?_,.inl ⟨x,?_,rfl⟩⟩
     .exact((((((wT.out.iZ.setCell (by simp;omega) _).setCell (by simp;omega) _).setCell (by simp) _).setCell (by simp) _).setCell (by simp) _).setCell (by simp) _).drew
     .rw[pL.out,abi,Pa.nO (by simp) hne]
      exact Pa.ET l6.out
    |ok s'=>
     have l6:=ζ lN;clear lN;have hgrow:=Pa.yJ l6.out;cases hf:Pa.fin s' n with
     |error x=>
      have HF:=ζ hf;clear hf;have jx:(x.1 != 0)=true:=by have:=Pa.EY HF.out;simp;omega
      go_wp2_with (first|(go_at_call 108;refine(Bo (w.heap.size+4) (w.heap.size+2) s v T (k*4) _ _ (us.drop k) _ s' l6.out (uU.out.alloc _) (kP.out.alloc _) (KT.out.below ((aae _ _).alloc (aad _) _) nh) zZ.out hne zM RN (by omega) (by omega) (by simp;omega) (by omega)).mono ?_;rintro e w2 ⟨rfl,hk2,v',yN,vZ⟩;have gO:=(bT.out.alloc _).kept hk2 (kP.out.alloc _);obtain⟨⟨r0,r1,r2⟩,⟨s0,s1,s2⟩,⟨f0,f1,f2⟩⟩:=gO.cells;obtain⟨y0,y1,y2,y3,y4⟩:=wZ (t:=⟨3,n,n,0⟩) hsz hk2 kP.out;have hsz2:=gO.size;have wT:=ζ gO;have wN:=ζ yN;have Fb:=ζ vZ;unfold aN;clear hk2 gO yN vZ)|(go_at_call 109;refine(J2 (w.heap.size+4) (w.heap.size+2) s' v' ⟨3,n,n,0⟩ _ x HF.out ((wN.out.far (by simp) 0 _).far (by simp) 1 _) ((Fb.out.low (by omega) 0 _).low (by omega) 1 _)).mono ?_;rintro e w3 ⟨rfl,hb3⟩;have lO:=wT.out.zero.below hb3;obtain⟨⟨r0,r1,r2⟩,⟨s0,s1,s2⟩,⟨f0,f1,f2⟩⟩:=lO.cells;have C9:=ζ lO;unfold aN;clear hb3 lO))
      go_region
      go_wp2;rw[ade];refine bodyPost_ret (v:= .tuple #[rawVal 0 (.slice none 0 0),aN x]) (by simp[results,results68,go_sem,rawVal,aN, *]) rfl ⟨?_,.inl ⟨x,?_,rfl⟩⟩
      .exact((((((C9.out.iZ.setCell (by simp;omega) _).setCell (by simp;omega) _).setCell (by simp) _).setCell (by simp) _).setCell (by simp) _).setCell (by simp) _).drew
      .rw[pL.out,abi,Pa.nO (by simp) hne,Pa.go_ok l6.out]
       exact HF.out
     |ok s3=>
      have HF:=ζ hf;clear hf;have hs3:=Pa.NS HF.out;subst hs3;go_wp2_with (first|(go_at_call 108;refine(Bo (w.heap.size+4) (w.heap.size+2) s v T (k*4) _ _ (us.drop k) _ s3 l6.out (uU.out.alloc _) (kP.out.alloc _) (KT.out.below ((aae _ _).alloc (aad _) _) nh) zZ.out hne zM RN (by omega) (by omega) (by simp;omega) (by omega)).mono ?_;rintro e w2 ⟨rfl,hk2,v',yN,vZ⟩;have gO:=(bT.out.alloc _).kept hk2 (kP.out.alloc _);obtain⟨⟨r0,r1,r2⟩,⟨s0,s1,s2⟩,⟨f0,f1,f2⟩⟩:=gO.cells;obtain⟨y0,y1,y2,y3,y4⟩:=wZ (t:=⟨3,n,n,0⟩) hsz hk2 kP.out;have hsz2:=gO.size;obtain⟨ao,vc,rfl,_⟩:=vZ.form;have wT:=ζ gO;have wN:=ζ yN;have Fb:=ζ vZ;unfold aN;clear hk2 gO yN vZ)|(go_at_call 109;refine(NU (w.heap.size+4) (w.heap.size+2) s3 s3 _ ⟨3,n,n,0⟩ _ HF.out ((wN.out.far (by simp) 0 _).far (by simp) 1 _) ((Fb.out.low (by omega) 0 _).low (by omega) 1 _)).mono ?_;rintro e w3 ⟨rfl,hb3⟩;have lO:=wT.out.zero.below hb3;have Jk:=((wN.out.far (by simp) 0 _).far (by simp) 1 _).below hb3 (by simp;omega);have Jp:=((Fb.out.low (by omega) 0 _).low (by omega) 1 _).below hb3 (aad _);obtain⟨⟨r0,r1,r2⟩,⟨s0,s1,s2⟩,⟨f0,f1,f2⟩⟩:=lO.cells;obtain⟨d1,d3⟩:=Jk.two;have C9:=ζ lO;have Ts:=ζ Jp;unfold aN;clear hb3 lO Jk Jp))
      go_region
      go_wp2;rw[ade];refine bodyPost_ret (v:= .tuple #[rawVal s3.n (.slice ao s3.pairs.length vc),aN (0,0)]) (by simp[results,results68,go_sem,rawVal,aN, *]) rfl ⟨?_,.inr ⟨s3,_,?_,rfl,?_⟩⟩
      .exact((((((C9.out.iZ.setCell (by simp;omega) _).setCell (by simp;omega) _).setCell (by simp) _).setCell (by simp) _).setCell (by simp) _).setCell (by simp) _).drew
      .rw[pL.out,abi,Pa.nO (by simp) hne,Pa.go_ok l6.out]
       exact HF.out
      .exact((((((((Ts.out.low (by omega) 0 _).low (by omega) 1 _).low (by omega) 0 _).low (by omega) 1 _).low (by omega) 0 _).low (by omega) 1 _).drew).base (by omega))
  |cons t vs=>
   have Gh:nk wr T (us.length*4) t:=by
    have:=(HT.out.below iN.iZ hT) us.length t (by rw[uS.out,zU.out];simp);rwa[abI] at this
   obtain⟨a0,a1,a2,a3⟩:=Gh;have nh:T<wr.heap.size:=block_lt_of_cell a0;have hsz:=iN.size;have q0:w.heap.size<wr.heap.size:=by omega
   have q1:w.heap.size+1<wr.heap.size:=by omega
   have q2:w.heap.size+1+1<wr.heap.size:=by omega
   have q3:w.heap.size+1+1+1<wr.heap.size:=by omega
   have RZ:=HK.out t (by rw[zU.out];simp);have bT:=ζ iN;have uU:=ζ hrd;have kP:=ζ hop;clear iN hrd hop;by_cases h1:t.kind=1
   .have j1:(t.kind==1)=true:=by simp[h1]
    have H1:=ζ h1;clear RZ h1;go_wp2_with fail;go_roundw
    case rel=>
     refine⟨us++[t],vs,k,s,v,by rw[zU.out];simp,by rw[aar];omega,by simp,rfl,?_,by rw[aar];omega,bT.out.alloc _,uU.out.alloc _,kP.out.alloc _⟩;rw[pL.out,abm,Pa.Q4 H1.out,aej hku]
    case measure=>(have:=om.out;simp[intOf];omega)
   .have j1:(t.kind==1)=false:=by simp[h1]
    have j3:(t.kind==3)=false:=by simp;omega
    have H1:=ζ h1;clear RZ h1;by_cases XW:k=us.length
    .subst XW
     have e0:us.drop us.length=[]:=by simp
     obtain⟨⟨r0,r1,r2⟩,⟨s0,s1,s2⟩,⟨f0,f1,f2⟩⟩:=bT.out.cells;have E0:=ζ e0;clear e0;go_wp2_with fail;go_roundw
     case rel=>
      refine⟨us++[t],vs,us.length+1,s,v,by rw[zU.out];simp,by simp,by simp,by go_num,?_,by rw[aar];omega,bT.out.alloc _,uU.out.alloc _,kP.out.alloc _⟩;rw[pL.out,E0.out,abm,Pa.uf H1.out,abZ (by simp)]
     case measure=>(have:=om.out;simp[intOf];omega)
    .have hkl:k<us.length:=by omega
     have aa4:(k:Int)<(us.length:Int):=by omega
     have hne:us.drop k≠[]:=fun h=>by have:=congrArg List.length h;simp at this;omega
     have zM:(us.drop k).length<=33554433:=by rw[ada];omega
     have kd:0<us.length-k:=by omega
     have hpos:(0:Int)<((us.length-k:Nat):Int):=by omega
     obtain⟨⟨r0,r1,r2⟩,⟨s0,s1,s2⟩,⟨f0,f1,f2⟩⟩:=bT.out.cells;cases lN:Pa.line s (us.drop k) with
     |error x=>
      have l6:=ζ lN;clear lN;have jx:(x.1 != 0)=true:=by have:=Pa.Bp l6.out;simp;omega
      go_wp2_with (go_at_call 108;refine(EK (w.heap.size+4) (w.heap.size+2) s v T (k*4) _ _ (us.drop k) _ x l6.out (uU.out.alloc _) (kP.out.alloc _) (KT.out.below ((aae _ _).alloc (aad _) _) nh) zZ.out hne zM RN (by omega) (by omega) (by simp;omega) (by omega)).mono ?_;rintro e w2 ⟨rfl,hk2⟩;have gO:=(bT.out.alloc _).kept hk2 (kP.out.alloc _);obtain⟨⟨r0,r1,r2⟩,⟨s0,s1,s2⟩,⟨f0,f1,f2⟩⟩:=gO.cells;have wT:=ζ gO;unfold aN;clear hk2 gO)
      go_region
      go_wp2;rw[ade];refine bodyPost_ret (v:= .tuple #[rawVal 0 (.slice none 0 0),aN x]) (by simp[results,results68,go_sem,rawVal,aN, *]) rfl ⟨?_,.inl ⟨x,?_,rfl⟩⟩
      .exact((((((wT.out.iZ.setCell (by simp;omega) _).setCell (by simp;omega) _).setCell (by simp) _).setCell (by simp) _).setCell (by simp) _).setCell (by simp) _).drew
      .rw[pL.out,abm,Pa.nO H1.out hne]
       exact Pa.ET l6.out
     |ok s'=>
      have l6:=ζ lN;clear lN;go_wp2_with (go_at_call 108;refine(Bo (w.heap.size+4) (w.heap.size+2) s v T (k*4) _ _ (us.drop k) _ s' l6.out (uU.out.alloc _) (kP.out.alloc _) (KT.out.below ((aae _ _).alloc (aad _) _) nh) zZ.out hne zM RN (by omega) (by omega) (by simp;omega) (by omega)).mono ?_;rintro e w2 ⟨rfl,hk2,v',yN,vZ⟩;have gO:=(bT.out.alloc _).kept hk2 (kP.out.alloc _);obtain⟨⟨r0,r1,r2⟩,⟨s0,s1,s2⟩,⟨f0,f1,f2⟩⟩:=gO.cells;obtain⟨y0,y1,y2,y3,y4⟩:=wZ hsz hk2 kP.out;have wT:=ζ gO;have wN:=ζ yN;have Fb:=ζ vZ;unfold aN;clear hk2 gO yN vZ);go_roundw
      case rel=>
       refine⟨us++[t],vs,us.length+1,s',v',by rw[zU.out];simp,by simp,by simp,by go_num,?_,by have:=Pa.yJ l6.out;rw[aar];simp;omega,wT.out.zero,(wN.out.far (by simp) 0 _).far (by simp) 1 _,(Fb.out.low (by omega) 0 _).low (by omega) 1 _⟩;rw[pL.out,abm,Pa.nO H1.out hne,Pa.go_ok l6.out,abZ (by simp)]
      case measure=>(have:=om.out;simp[intOf];omega)
end
section
open Go.Proofs.Tryz
open Go.RowKit
theorem gR.line {w:World} {T m:Nat} {us:List Nu.Tok} (h:gR w T m us):cO w T 0 us:=fun j t hj=>by
 obtain⟨arr,har,_,hac⟩:=h;obtain⟨h0,h1,h2,h3⟩:=hac j t hj;rw[abI];exact⟨(cell_of_row w T _ _ _ _ har).trans h0,(cell_of_row w T _ _ _ _ har).trans h1,(cell_of_row w T _ _ _ _ har).trans h2,(cell_of_row w T _ _ _ _ har).trans h3⟩
structure Two (w w1:World):Prop where
 iZ:Below w.heap.size w w1
 res:w1.heap[w.heap.size]? =some (.cells #[.int .i64 0,.slice none 0 0] 86 (0,0))
 zD:w1.heap[w.heap.size+1]? =some (.cells #[.int .i64 0,.int .i64 0] 39 (0,0))
theorem Two.new (w:World):Two w ((w.alloc (.cells #[.int .i64 0,.slice none 0 0] 86)).alloc (.cells #[.int .i64 0,.int .i64 0] 39)):=by
 refine⟨((aae _ _).alloc (aad _) _).alloc (by simp) _,?_,?_⟩
 .rw[aaF _ _ _ (by simp)]
  exact heap_alloc_new w _
 .have:=heap_alloc_new (w.alloc (.cells #[.int .i64 0,.slice none 0 0] 86)) (.cells #[.int .i64 0,.int .i64 0] 39)
  simpa using this
theorem Two.size {w w1:World} (h:Two w w1):w.heap.size+2<=w1.heap.size:=lt_of_block h.zD
theorem Two.below {w w1 w2:World} (h:Two w w1) (hb:Below w1.heap.size w1 w2):Two w w2:=
 ⟨h.iZ.trans (hb.mono (by have:=h.size;omega)),(hb.block _ (lt_of_block h.res)).trans h.res,(hb.block _ (lt_of_block h.zD)).trans h.zD⟩
theorem Two.cells {w wr:World} (h:Two w wr):(wr.cell? ⟨w.heap.size,0,none⟩=some (.int .i64 0)/\wr.cell? ⟨w.heap.size,1,none⟩=some (.slice none 0 0)/\∀i,wr.frozen? ⟨w.heap.size,i,none⟩=false)/\
 (wr.cell? ⟨w.heap.size+1,0,none⟩=some (.int .i64 0)/\wr.cell? ⟨w.heap.size+1,1,none⟩=some (.int .i64 0)/\∀i,wr.frozen? ⟨w.heap.size+1,i,none⟩=false):=⟨fK h.res,fK h.zD⟩
theorem QL (ao:Option Addr) (n cap:Nat) (g:Nat->Int) (w:World) (ht:aY w ao n g) (hao:∀x,ao=some x->x.block<w.heap.size) (hn:n<=maxLen) (hcap:n<=cap):
 Calls prog 34 #[.slice ao n cap] w (Kz (Pa.raw g n) w):=by
 have hn':=hn;unfold maxLen at hn';by_cases hA:16777216<n
 .have j0:(16777216:Int)<(n:Int):=by omega
  have yO:Pa.raw g n= .error (10,16777216):=by unfold Pa.raw;rw[if_pos hA]
  have E9:=ζ yO;clear yO;go_enter func34,ntmps34;go_wp2;refine bodyPost_ret (v:= .tuple #[rawVal 0 (.slice none 0 0),aN (10,16777216)]) (by simp[results,results34,go_sem,rawVal,aN]) rfl ⟨?_,.inl ⟨(10,16777216),E9.out,rfl⟩⟩;exact((aae _ _).alloc (aad _) _).alloc (by simp) _
 .have j0:¬((16777216:Int)<(n:Int)):=by omega
  have hb0:Below w.heap.size w ((w.alloc (.cells #[.int .i64 0,.slice none 0 0] 86)).alloc (.cells #[.int .i64 0,.int .i64 0] 39)):=((aae _ _).alloc (aad _) _).alloc (by simp) _;have Vr:=ζ (ht.below hb0 hao);have aH:=ζ hb0;clear ht hb0;go_enter func34,ntmps34;go_wp2_with (go_at_call 67;refine(Oz ao n cap g _ Vr.out (fun x hx=>by have:=hao x hx;simp;omega) hn hcap).mono ?_;refine aaj ?_);refine ζ ?_;rintro e w1 ⟨hb1,hx⟩;have Hr:=(Two.new w).below hb1;have V6:=Hr.iZ;obtain⟨⟨r0,r1,r2⟩,⟨s0,s1,s2⟩⟩:=Hr.cells;have hz:=Hr.size;have acf:=ζ Hr;clear Hr;have q0:w.heap.size<w1.heap.size:=by omega
  have q1:w.heap.size+1<w1.heap.size:=by omega
  have kB:=ζ V6;clear V6 hb1;rcases hx with ⟨h,_⟩|⟨_,x,hs,rfl⟩|⟨_,ts,T,hs,rfl,hT,hrow⟩
  .omega
  .have yO:Pa.raw g n= .error (x.2,x.1):=by unfold Pa.raw;rw[if_neg hA,hs]
   have Yi:=Nu.AR hs;have jx:(x.2 != 0)=true:=by simp;omega
   have E9:=ζ yO;clear yO hs Yi;go_wp2;refine bodyPost_ret (v:= .tuple #[rawVal 0 (.slice none 0 0),aN (x.2,x.1)]) (by simp[results,results34,go_sem,rawVal,aN, *]) rfl ⟨?_,.inl ⟨(x.2,x.1),E9.out,rfl⟩⟩;exact(((kB.out.setCell (by simp) _).setCell (by simp) _).setCell (by simp) _).setCell (by simp) _
  .have yO:Pa.raw g n=Pa.go Pa.s0 (Pa.pT [] ts) n:=by unfold Pa.raw;rw[if_neg hA,hs];rfl
   obtain⟨Ot,Dx,hk⟩:=Pa.Hz hs;have hlen:=Nu.vv hs;have HL:=ζ hrow.line;have nh:T<w1.heap.size:=by obtain⟨arr,har,_⟩:=hrow;exact lt_of_block har
   have E9:=ζ yO;have zU:=ζ Dx;have HK:=ζ hk;clear yO hs hrow Dx hk;go_wp2_with (go_at_call 68;refine(OJ T _ n ts Ot _ HL.out nh (by omega) (aad _) zU.out HK.out).mono ?_;refine aaj ?_);refine ζ ?_;rintro e w2 ⟨hb2,hx⟩;obtain⟨⟨r0,r1,r2⟩,⟨s0,s1,s2⟩⟩:=(acf.out.below hb2).cells;have tR:=ζ (kB.out.trans (hb2.mono (by omega)));clear hb2;unfold rawVal aN at hx;rcases hx with ⟨x,hr,rfl⟩|⟨s,v,hr,rfl,hop⟩
   .have HR:=ζ hr
    clear hr;go_wp2;refine bodyPost_ret (v:= .tuple #[rawVal 0 (.slice none 0 0),aN x]) (by simp[results,results34,go_sem,rawVal,aN, *]) rfl ⟨?_,.inl ⟨x,E9.out.trans HR.out,rfl⟩⟩;exact(((tR.out.setCell (by simp) _).setCell (by simp) _).setCell (by simp) _).setCell (by simp) _
   .have HR:=ζ hr
    clear hr;obtain⟨va,vc,rfl,_⟩:=hop.form;have kP:=ζ hop;clear hop;go_wp2;refine bodyPost_ret (v:= .tuple #[rawVal s.n (.slice va s.pairs.length vc),aN (0,0)]) (by simp[results,results34,go_sem,rawVal,aN, *]) rfl ⟨?_,.inr ⟨s,_,E9.out.trans HR.out,rfl,?_⟩⟩
    .exact(((tR.out.setCell (by simp) _).setCell (by simp) _).setCell (by simp) _).setCell (by simp) _
    .exact((((kP.out.low (by omega) 0 _).low (by omega) 1 _).low (by omega) 0 _).low (by omega) 1 _).base (by omega)
end
section
open Go.RowKit Go.Sort
theorem Az {w:World} {G R:Nat} (hne:G≠R) {a b c d:Value} {t t':TypeId} (hG:w.heap[G]? =some (.cells #[a,b] t (0,0))) (hR:w.heap[R]? =some (.cells #[c,d] t' (0,0))) (a' b' c' d':Value):
 ((((w.setCell ⟨G,0,none⟩ a').setCell ⟨G,1,none⟩ b').setCell ⟨R,0,none⟩ c').setCell ⟨R,1,none⟩ d').heap[G]? =some (.cells #[a',b'] t (0,0))/\((((w.setCell ⟨G,0,none⟩ a').setCell ⟨G,1,none⟩ b').setCell ⟨R,0,none⟩ c').setCell ⟨R,1,none⟩ d').heap[R]? =some (.cells #[c',d'] t' (0,0)):=
 ⟨(fy hne _ _).trans (kW hG a' b'),kW ((fy hne.symm _ _).trans hR) c' d'⟩
end
section
open Go.Proofs.Tryz
open Go.RowKit Go.Sort
theorem Ij (ao:Option Addr) (n cap:Nat) (g:Nat->Int) (w:World) (ht:aY w ao n g) (hao:∀x,ao=some x->x.block<w.heap.size) (hn:n<=maxLen) (hcap:n<=cap) {x0:Int×Int} (hx0:Pa.raw g n= .error x0):
 Calls prog 16 #[.slice ao n cap] w fun e w'=>Below w.heap.size w w'/\e= .returned (.tuple #[.agg #[.int .i64 0,.slice none 0 0],.agg #[.int .i64 x0.1,.int .i64 x0.2]]):=by
 have wm:Below w.heap.size w ((w.alloc (.cells #[.int .i64 0,.slice none 0 0] 24)).alloc (.cells #[.int .i64 0,.int .i64 0] 39)):=((aae _ _).alloc (aad _) _).alloc (by simp) _;have Rz:=QL ao n cap g _ (ht.later wm) (fun x hx=>by have:=hao x hx;simp;omega) hn hcap;rw[hx0] at Rz;have hcx:=Pa.Ez hx0;have Hg:=ζ wm;have HRA:=ζ Rz;have ga:((w.alloc (.cells #[.int .i64 0,.slice none 0 0] 24)).alloc (.cells #[.int .i64 0,.int .i64 0] 39)).heap[w.heap.size]? =some (.cells #[.int .i64 0,.slice none 0 0] 24 (0,0)):=by
  rw[aaF _ _ _ (by simp)];exact heap_alloc_new w _
 have gb:((w.alloc (.cells #[.int .i64 0,.slice none 0 0] 24)).alloc (.cells #[.int .i64 0,.int .i64 0] 39)).heap[w.heap.size+1]? =some (.cells #[.int .i64 0,.int .i64 0] 39 (0,0)):=by
  have:=heap_alloc_new (w.alloc (.cells #[.int .i64 0,.slice none 0 0] 24)) (.cells #[.int .i64 0,.int .i64 0] 39);simpa using this
 have b9:=ζ ga;have pM:=ζ gb;clear ht hao wm Rz ga gb hx0;go_enter func16,ntmps16;go_wp2_with (go_at_call 34;refine HRA.out.mono ?_;refine aaj ?_);refine ζ ?_;rintro e w1 ⟨hb1,xJ⟩;have uy:=(hb1.block _ (by simp;omega)).trans b9.out;have hR1:=(hb1.block _ (by simp)).trans pM.out;have sG:=lt_of_block uy;have hsR:=lt_of_block hR1;obtain⟨g0,g1,gf⟩:=af uy;obtain⟨r0,r1,rf⟩:=af hR1;have gL:=ζ uy;have pH:=ζ hR1;have aI:=ζ (Hg.out.trans (hb1.mono Hg.out.size));clear hb1 uy hR1;rcases xJ with ⟨x,hr,rfl⟩|⟨s,v,hr,rfl,hop⟩
 .cases hr
  have j0:(x0.1 != 0)=true:=by simpa using hcx
  unfold rawVal aN;clear hcx;go_wp2_with fail
  go_region
  all_goals
   go_wp2
   first
    |(obtain⟨k1,k2⟩:=Az (by omega) gL.out pH.out (.int .i64 0) (.slice none 0 0) (.int .i64 x0.1) (.int .i64 x0.2)
      obtain⟨p0,p1,-⟩:=af k1;obtain⟨q0,q1,-⟩:=af k2;refine bodyPost_ret (v:= .tuple #[.agg #[.int .i64 0,.slice none 0 0],.agg #[.int .i64 x0.1,.int .i64 x0.2]]) (by simp[results,results16,go_sem,p0,p1,q0,q1,sG,hsR]) rfl ?_;exact⟨((((((aI.out.setCell (by simp) _).setCell (by simp) _).setCell (by simp) _).setCell (by simp) _).alloc (by simp;omega) _).alloc (by simp;omega) _).drew,rfl⟩)
    |(obtain⟨k2,k1⟩:=Az (by omega) pH.out gL.out (.int .i64 x0.1) (.int .i64 x0.2) (.int .i64 0) (.slice none 0 0)
      obtain⟨p0,p1,-⟩:=af k1;obtain⟨q0,q1,-⟩:=af k2;refine bodyPost_ret (v:= .tuple #[.agg #[.int .i64 0,.slice none 0 0],.agg #[.int .i64 x0.1,.int .i64 x0.2]]) (by simp[results,results16,go_sem,p0,p1,q0,q1,sG,hsR]) rfl ?_;exact⟨((((((aI.out.setCell (by simp) _).setCell (by simp) _).setCell (by simp) _).setCell (by simp) _).alloc (by simp;omega) _).alloc (by simp;omega) _).drew,rfl⟩)
 .cases hr
def Ck.e4:List (Int×Int):=[(0,1),(0,2),(0,3),(1,2),(1,3),(2,3)]
theorem qN (w:World):Calls prog 28 #[] w fun e w'=>∃b,e= .returned (.agg #[.int .i64 4,.slice (some ⟨b,0,none⟩) 6 6])/\ah w' (some ⟨b,0,none⟩) Ck.e4/\Below w.heap.size w w':=by
 go_enter func28,ntmps28;go_wp2;refine bodyPost_ret (v:= .agg #[.int .i64 4,.slice (some ⟨w.heap.size+1,0,none⟩) 6 6]) (by simp[results,results28,go_sem]) rfl ?_;refine⟨w.heap.size+1,rfl,pP.at ?_,((aae _ _).alloc (aad _) _).alloc (by simp) _⟩;have:=heap_alloc_new (w.alloc (.cells #[.int .i64 4,.slice (some ⟨w.heap.size+1,0,none⟩) 6 6] 24)) (.cells (gF Ck.e4).toArray 66);rw[abk] at this;exact this
theorem GM {ao bo:Option Addr} {n m ca cb:Nat} {g:Nat->Int} {w:World} (hg:aY w ao n g) (ha:∀x,ao=some x->x.block<w.heap.size/\x.spot=none) (hn:n<=maxLen) (hca:n<=ca) {x:Int×Int} (hx:Pa.raw g n= .error x):
 Calls prog 14 #[.slice ao n ca,.slice bo m cb] w fun e w'=>e= .returned (.int .i64 180)/\Below w.heap.size w w':=by
 have uU:=ζ (Ij ao n ca g w hg (fun x hx=>(ha x hx).1) hn hca hx);have hx0:(x.1 != 0)=true:=by simpa using Pa.Ez hx
 clear hg ha hx;go_enter func14,ntmps14;go_wp2_with (go_at_call 16;refine uU.out.mono ?_;refine aaj ?_);refine ζ ?_;rintro e w1 ⟨hb1,rfl⟩;have aI:=ζ hb1;have hs1:=hb1.size;clear hb1;go_wp2;go_ret;exact⟨rfl,(aI.out.alloc hs1 _).alloc (by simp;omega) _⟩
end
section
open Go.Proofs.Tryz
open Go.ChangeShapes Go.WideShapes Go.ChangeAt Go.RowKit
theorem Kk:prog.cellsOf 24=2:=by kernel_rfl
section
variable {H:Type} {enc:TypeId×Value->H} {W:World} {base:Nat} {sp:Nat->Bool} {held:Bool}
theorem OW {e:TypeId} {f0 f1:Field} (he:prog.underlying e=some (.struct #[f0,f1])) (o0:f0.offset=0) (o1:f1.offset=1) (t0:f0.type=3) (t1:f1.type=22) (c1:prog.cellsOf 22=1)
 {fuel:Nat} {u v:Value} {x:DataW H×List MemPlace} (h:DataW.trod enc prog W base sp held fuel e [u,v]=some x):
 ∃(m:Nat) (y0 y1:DataW H×List MemPlace),DataW.trod enc prog W base sp held m 3 [u]=some y0/\DataW.trod enc prog W base sp held m 22 [v]=some y1/\x.1= .agg [y0.1,y1.1]:=by
 obtain⟨xs,m,_,zK,hl,hx,hf⟩:=aer he h
 match xs,hx with
 |[y0,y1],_=>
  have g0:=hf 0 f0 rfl;have g1:=hf 1 f1 rfl;simp only[o0,o1,t0,t1,uJ,c1] at g0 g1;exact⟨m,y0,y1,by simpa using g0,by simpa using g1,by rw[zK];rfl⟩
end
theorem Cb {H:Type} {enc:TypeId×Value->H} {W:World} {base:Nat} {v:Value} {d:DataW H} {p:List MemPlace} {ts:List TypeId} {ds:List (DataW H)} {j:Nat} (hval:Value.okWide prog W .any base 24 v)
 (h:DataW.Trod enc prog W 0 (fun _=>true) true 24 v d p) (hsz:(DataW.weightsEach prog ts ds).all (·<=reachBytes)=true) (hts:ts[j]? =some 24) (hds:ds[j]? =some d):
 ∃(n:Int) (a:Option Addr) (cap:Nat) (qs:List (Int×Int)),v= .agg #[.int .i64 n,.slice a qs.length cap]/\(-9223372036854775808<=n/\n<=9223372036854775807)/\CM W a qs.length cap qs/\qs.length*16<=140737488351232:=by
 obtain⟨cs,rfl,hcs⟩:=okWide_struct Tryz.underlying24 hval;rw[Kk] at hcs;obtain⟨fuel,hf⟩:=h;obtain⟨cl⟩:=cs
 match cl,hcs with
 |[u,v],_=>
  obtain⟨m,y0,y1,g0,g1,zK⟩:=OW Tryz.underlying24 rfl rfl rfl rfl ze hf;obtain⟨n,e0,hy0,w0⟩:=DataW.trod_int Tryz.underlying3 g0;simp at e0;subst e0;have Pm:∃a len cap,v= .slice a len cap:=by
   rcases aeH Tryz.underlying22 g1 with ⟨hc,_⟩|⟨ad,l,c,_,_,_,_,hc,_⟩
   .simp at hc;exact⟨_,_,_,hc⟩
   .simp at hc;exact⟨_,_,_,hc⟩
  obtain⟨a,len,cap,rfl⟩:=Pm;obtain⟨qs,hq,hd⟩:=EB Tryz.underlying22 uK (fun n cs y hy=>Eh hy) g1;have pV:=hq.hlen;subst pV;refine⟨n,a,cap,qs,rfl,bounds_i64 w0,hq,?_⟩;rcases hd with ⟨_,rfl⟩|⟨es,rest,hd,hle⟩
  .simp
  .have hde:d= .agg [y0.1,.slice es rest]:=by
    rw[hd] at zK;exact zK
   subst hde;have hw:=aaW.1 hsz _ (DataW.weights_mem_each hts hds ((es.length+rest.length)*prog.bytesOf 66) (by simp[DataW.weights,DataW.weightsEach,Tryz.underlying24,Tryz.underlying22]));rw[MJ] at hw;have hw2:(es.length+rest.length)*16<=reachBytes:=of_decide_eq_true hw;simp only[reachBytes] at hw2;omega
end
section
open Go.Proofs.Tryz
open Go.ChangeShapes Go.WideShapes Go.ChangeAt Go.RowKit
theorem ab2:prog.globalNamed "internal/strconv.uint64pow10"=some 0:=by kernel_rfl
theorem PE:(prog.globals[0]?).map (·.type)=some 363:=by kernel_rfl
theorem PZ:prog.cellsOf 363=20:=by kernel_rfl
theorem PY:prog.cellsOf 269=1:=by kernel_rfl
theorem PT:(Rows.laid_internal_strconv_uint64pow10:DataW Unit)=Lib.tabData .u64 Lib.pow10Tab:=by kernel_rfl
def listed:List (String×DataW Unit):=[("math/bits.deBruijn32tab",Rows.laid_math_bits_deBruijn32tab),("math/bits.deBruijn64tab",Rows.laid_math_bits_deBruijn64tab),("internal/strconv.uint64pow10",Rows.laid_internal_strconv_uint64pow10)]
theorem table {W:World} (h:laidMet prog listed W):kO W:=by
 obtain⟨ps,⟨_,_,_,_,_,_,_,_,_,_,⟨_,_,_,_,_,_,_,_,_,_,⟨g,t,cs,fuel,p,q,hg,ht,aas,hd,_,_⟩,_⟩,_⟩,_⟩:=h;obtain rfl:=aaG (ab2.symm.trans hg);obtain rfl:=aaG (PE.symm.trans ht);rw[PT] at hd;unfold kO Lib.TabIs;rw[aas,<-Lib.cells_of_tab Tryz.underlying363 Tryz.underlying269 PY PZ hd]
def xB:DataW Unit->Array Value
 | .agg l=>(l.map fun
   | .lit (.int k n)=>Value.int k n
   |_=> .bool false).toArray
 |_=> #[]
def qm (c:Array Value):Obj->Obj
 | .cells _ t frozen=> .cells c t frozen
 |o=>o
noncomputable def ug (os:Os):World:=
 { World.holding prog os ⟨#[],#[],[]⟩ with heap:=(((World.holding prog os ⟨#[],#[],[]⟩).heap.modify 0 (qm (xB Rows.laid_internal_strconv_uint64pow10))).modify 1 (qm (xB Rows.laid_math_bits_deBruijn32tab))).modify 2 (qm (xB Rows.laid_math_bits_deBruijn64tab)) }
end
section
open Go.RowKit Go.Sort
theorem Si.jY.first {n:Int} {es:List (Int×Int)} {l p:Int×Int} (h:Si.jY n es 0 l) (ho:Si.ok n p):Si.lt l p:=by
 rcases h.2.2 with ⟨_,rfl⟩|⟨k',hk,_⟩
 .unfold Si.ok at ho
  unfold Si.lt;dsimp only;omega
 .omega
theorem Si.jY.last {n:Int} {es:List (Int×Int)} {k:Nat} {l:Int×Int} (h:Si.jY n es (k+1) l):es[k]? =some l:=by
 rcases h.2.2 with ⟨h0,_⟩|⟨k',hk,hl⟩
 .omega
 .obtain rfl:k=k':=by omega
  exact hl
end
section
open Go.Proofs.Tryz
open Go.RowKit Go.Sort
theorem O2 (a b:Int×Int) (w:World):Calls prog 48 #[fT a,fT b] w fun e w'=>e= .returned (.bool (decide (Si.lt a b)))/\∃q os',w'=grow (w.drewN q) os':=by
 unfold fT;by_cases h1:a.1<b.1
 .have hd:decide (Si.lt a b)=true:=by simp[Si.lt,h1]
  rw[hd];go_enter func48,ntmps48;go_wp2;go_ret;exact⟨rfl,0,_,by rw[alloc_eq_grow,alloc_eq_grow,grow_grow];rfl⟩
 .by_cases h2:a.1=b.1
  .by_cases h3:a.2<b.2
   .have hd:decide (Si.lt a b)=true:=by simp[Si.lt,h2,h3]
    rw[hd];go_enter func48,ntmps48;go_wp2;go_ret;exact⟨rfl,0,_,by rw[alloc_eq_grow,alloc_eq_grow,grow_grow];rfl⟩
   .have hd:decide (Si.lt a b)=false:=by simp[Si.lt,h1,h3]
    rw[hd];go_enter func48,ntmps48;go_wp2;go_ret;exact⟨rfl,0,_,by rw[alloc_eq_grow,alloc_eq_grow,grow_grow];rfl⟩
  .have hd:decide (Si.lt a b)=false:=by simp[Si.lt,h1,h2]
   rw[hd];go_enter func48,ntmps48;go_wp2;go_ret;exact⟨rfl,0,_,by rw[alloc_eq_grow,alloc_eq_grow,grow_grow];rfl⟩
theorem qL {w w':World} (h:∃(q:Nat) (os':Array Obj),w'=grow (w.drewN q) os'):Below w.heap.size w w':=by
 obtain⟨q,os',rfl⟩:=h;exact qM w q os'
end
end Go.Proofs.YtdbjpbjocmcpkaaGreatDoor
