import Derived.Test.YtdbjpbjocmcpkaaGreatDoorMk21
import Derived.Test.YtdbjpbjocmcpkaaGreatDoorMk19
set_option maxHeartbeats 8000000
set_option maxRecDepth 100000
namespace Go.Proofs.YtdbjpbjocmcpkaaGreatDoor
section
open Go.Proofs.Tryz
open Go.RowKit
structure Beside (w wr:World):Prop where
 fK:Below w.heap.size w wr
 res:wr.heap[w.heap.size]? =some (.cells #[.int .i64 0,.slice none 0 0] 86 (0,0))
 uV:wr.heap[w.heap.size+1]? =some (.cells #[.int .i64 0,.int .i64 0] 39 (0,0))
 EM:wr.heap[w.heap.size+3]? =some (.cells #[.int .i64 0,.int .i64 0] 39 (0,0))
theorem Beside.alloc {w wr:World} (h:Beside w wr) (o:Obj):Beside w (wr.alloc o):=
 ⟨h.fK.alloc h.fK.size o,(aaO wr o _ (lt_of_block h.res)).trans h.res,(aaO wr o _ (lt_of_block h.uV)).trans h.uV,(aaO wr o _ (lt_of_block h.EM)).trans h.EM⟩
theorem Beside.size {w wr:World} (h:Beside w wr):w.heap.size+4<=wr.heap.size:=lt_of_block h.EM
theorem Beside.kept {w wr w':World} {v:Value} {ps:List (Int×Int)} (h:Beside w wr) (hk:Kept (w.heap.size+2) v wr w') (hp:aF wr (w.heap.size+4) v ps):Beside w w':=by
 have hs:=h.size;have hne:∀k,k<w.heap.size+4->some k≠v.ownBlock:=fun k hk=>(hp.far hk).symm
 exact⟨⟨hk.os.trans h.fK.os,hk.tape.trans h.fK.tape,hk.output.trans h.fK.output,by have:=hk.size;omega,fun k hk1=>(hk.block k (by omega) (by omega) (hne k (by omega))).trans (h.fK.block k hk1)⟩,
  (hk.block _ (by omega) (by omega) (hne _ (by omega))).trans h.res,(hk.block _ (by omega) (by omega) (hne _ (by omega))).trans h.uV,(hk.block _ (by omega) (by omega) (hne _ (by omega))).trans h.EM⟩
theorem Beside.below {w wr w':World} (h:Beside w wr) (hb:Below wr.heap.size wr w'):Beside w w':=
 ⟨h.fK.trans (hb.mono (by have:=h.size;omega)),(hb.block _ (lt_of_block h.res)).trans h.res,(hb.block _ (lt_of_block h.uV)).trans h.uV,(hb.block _ (lt_of_block h.EM)).trans h.EM⟩
theorem Beside.zero {w wr:World} (h:Beside w wr):Beside w ((wr.setCell ⟨w.heap.size+3,0,none⟩ (.int .i64 0)).setCell ⟨w.heap.size+3,1,none⟩ (.int .i64 0)):=by
 have ho:∀k,k≠w.heap.size+3->((wr.setCell ⟨w.heap.size+3,0,none⟩ (.int .i64 0)).setCell ⟨w.heap.size+3,1,none⟩ (.int .i64 0)).heap[k]? =wr.heap[k]? :=fun k hk=>by
  rw[heap_setCell_other _ ⟨w.heap.size+3,1,none⟩ k _ hk,heap_setCell_other _ ⟨w.heap.size+3,0,none⟩ k _ hk]
 refine⟨⟨h.fK.os,h.fK.tape,h.fK.output,by simpa using h.fK.size,fun k hk=>(ho k (by omega)).trans (h.fK.block k hk)⟩,(ho _ (by omega)).trans h.res,(ho _ (by omega)).trans h.uV,?_⟩;have h1:=heap_setCell_same wr (w.heap.size+3) 0 _ _ (.int .i64 0) h.EM;have h2:=heap_setCell_same _ (w.heap.size+3) 1 _ _ (.int .i64 0) h1;simpa using h2
theorem Beside.cells {w wr:World} (h:Beside w wr):(wr.cell? ⟨w.heap.size,0,none⟩=some (.int .i64 0)/\wr.cell? ⟨w.heap.size,1,none⟩=some (.slice none 0 0)/\∀i,wr.frozen? ⟨w.heap.size,i,none⟩=false)/\
 (wr.cell? ⟨w.heap.size+1,0,none⟩=some (.int .i64 0)/\wr.cell? ⟨w.heap.size+1,1,none⟩=some (.int .i64 0)/\∀i,wr.frozen? ⟨w.heap.size+1,i,none⟩=false)/\
 (wr.cell? ⟨w.heap.size+1+1+1,0,none⟩=some (.int .i64 0)/\wr.cell? ⟨w.heap.size+1+1+1,1,none⟩=some (.int .i64 0)/\∀i,wr.frozen? ⟨w.heap.size+1+1+1,i,none⟩=false):=⟨dU h.res,dU h.uV,dU h.EM⟩
def rawVal (n:Int) (v:Value):Value:= .agg #[.int .i64 n,v]
def Fu (r:Except (Int×Int) Pa.St) (w:World) (e:Ending) (w':World):Prop:=
 Below w.heap.size w w'/\
 ((∃x,r= .error x/\e= .returned (.tuple #[rawVal 0 (.slice none 0 0),aH x]))\/
  (∃s v,r= .ok s/\e= .returned (.tuple #[rawVal s.n v,aH (0,0)])/\aF w' w.heap.size v s.pairs))
theorem sj {w wr w':World} {v:Value} {ps:List (Int×Int)} {t:Nu.Tok} (hs:w.heap.size+4<=wr.heap.size) (hk:Kept (w.heap.size+2) v (wr.alloc (.cells #[.int .i64 t.kind,.int .i64 t.at',.int .i64 t.fin,.int .i64 t.num] 186)) w') (hp:aF wr (w.heap.size+4) v ps):
 w'.cell? ⟨wr.heap.size,0,none⟩=some (.int .i64 t.kind)/\w'.cell? ⟨wr.heap.size,1,none⟩=some (.int .i64 t.at')/\w'.cell? ⟨wr.heap.size,2,none⟩=some (.int .i64 t.fin)/\w'.cell? ⟨wr.heap.size,3,none⟩=some (.int .i64 t.num)/\wr.heap.size<w'.heap.size:=by
 have hne:some wr.heap.size≠v.ownBlock:=fun h=>by
  obtain⟨ao,cap,rfl,_,hx⟩:=hp.form;cases ao with
  |none=>simp[Value.ownBlock] at h
  |some x=>have:=hx x rfl;simp[Value.ownBlock] at h;omega
 have hb:w'.heap[wr.heap.size]? =some (.cells #[.int .i64 t.kind,.int .i64 t.at',.int .i64 t.fin,.int .i64 t.num] 186 (0,0)):=(hk.block wr.heap.size (by simp) (by omega) hne).trans (heap_alloc_new wr _);refine⟨?_,?_,?_,?_,lt_of_block hb⟩<;>simp[World.cell?,hb]
theorem aF.alloc {w:World} {B:Nat} {v:Value} {ps:List (Int×Int)} (h:aF w B v ps) (o:Obj):aF (w.alloc o) B v ps:=abe h o
theorem bO.two {w wr:World} {s:Pa.St} {v:Value} (h:bO wr (w.heap.size+2) s v):wr.cell? ⟨w.heap.size+1+1,1,none⟩=some (.int .i64 s.n)/\wr.cell? ⟨w.heap.size+1+1,3,none⟩=some v:=⟨h.c1,h.c3⟩
theorem bO.far {w:World} {b k:Nat} {s:Pa.St} {v:Value} (h:bO w b s v) (hk:b≠k) (i:Nat) (a:Value):bO (w.setCell ⟨k,i,none⟩ a) b s v:=(heap_setCell_other w ⟨k,i,none⟩ b a hk).trans h
theorem tS (w:World):Beside w ((((w.alloc (.cells #[.int .i64 0,.slice none 0 0] 86)).alloc (.cells #[.int .i64 0,.int .i64 0] 39)).alloc (.cells #[.bool false,.int .i64 0,.int .i64 0,.slice none 0 0] 183)).alloc (.cells #[.int .i64 0,.int .i64 0] 39))/\
 bO ((((w.alloc (.cells #[.int .i64 0,.slice none 0 0] 86)).alloc (.cells #[.int .i64 0,.int .i64 0] 39)).alloc (.cells #[.bool false,.int .i64 0,.int .i64 0,.slice none 0 0] 183)).alloc (.cells #[.int .i64 0,.int .i64 0] 39)) (w.heap.size+2) Pa.s0 (.slice none 0 0):=by
 generalize hw1:w.alloc (.cells #[.int .i64 0,.slice none 0 0] 86)=w1;generalize hw2:w1.alloc (.cells #[.int .i64 0,.int .i64 0] 39)=w2;generalize hw3:w2.alloc (.cells #[.bool false,.int .i64 0,.int .i64 0,.slice none 0 0] 183)=w3;have s1:w1.heap.size=w.heap.size+1:=by rw[<-hw1];simp
 have s2:w2.heap.size=w.heap.size+2:=by rw[<-hw2];simp[s1]
 have s3:w3.heap.size=w.heap.size+3:=by rw[<-hw3];simp[s2]
 have e1:w1.heap[w.heap.size]? =some (.cells #[.int .i64 0,.slice none 0 0] 86 (0,0)):=by rw[<-hw1];exact heap_alloc_new w _
 have e2:w2.heap[w.heap.size+1]? =some (.cells #[.int .i64 0,.int .i64 0] 39 (0,0)):=by rw[<-hw2,<-s1];exact heap_alloc_new w1 _
 have e3:w3.heap[w.heap.size+2]? =some (.cells #[.bool false,.int .i64 0,.int .i64 0,.slice none 0 0] 183 (0,0)):=by rw[<-hw3,<-s2];exact heap_alloc_new w2 _
 have e4:(w3.alloc (.cells #[.int .i64 0,.int .i64 0] 39)).heap[w.heap.size+3]? =some (.cells #[.int .i64 0,.int .i64 0] 39 (0,0)):=by rw[<-s3];exact heap_alloc_new w3 _
 have m2:∀k,k<w.heap.size+1->w2.heap[k]? =w1.heap[k]? :=fun k hk=>by rw[<-hw2];exact aaO _ _ _ (by omega)
 have m3:∀k,k<w.heap.size+2->w3.heap[k]? =w2.heap[k]? :=fun k hk=>by rw[<-hw3];exact aaO _ _ _ (by omega)
 have m4:∀k,k<w.heap.size+3->(w3.alloc (.cells #[.int .i64 0,.int .i64 0] 39)).heap[k]? =w3.heap[k]? :=fun k hk=>aaO _ _ _ (by omega)
 have hb:Below w.heap.size w (w3.alloc (.cells #[.int .i64 0,.int .i64 0] 39)):=by
  rw[<-hw3,<-hw2,<-hw1];exact((((aaE _ _).alloc (aaD _) _).alloc (by simp) _).alloc (by simp;omega) _).alloc (by simp;omega) _
 exact⟨⟨hb,by rw[m4 _ (by omega),m3 _ (by omega),m2 _ (by omega)];exact e1,by rw[m4 _ (by omega),m3 _ (by omega)];exact e2,e4⟩,(m4 _ (by omega)).trans e3⟩
theorem J1 (T cap n:Nat) (ts JN:List Nu.Tok) (w:World) (ht:bT w T 0 ts) (hT:T<w.heap.size) (hlen:ts.length<=16777217) (hcap:ts.length<=cap) (hts:ts=JN++[⟨3,n,n,0⟩]) (hk:∀t∈JN,t.kind=1\/t.kind=2):
 Calls prog 68 #[.slice (some ⟨T,0,none⟩) ts.length cap] w (Fu (Pa.go Pa.s0 (Pa.mG [] ts) n) w):=by
 have HT:=ζ ht;have yQ:=ζ hts;have HK:=ζ hk;clear ht hts hk;have B0:=ζ (tS w).1;have R0:=ζ (tS w).2;go_enter func68,ntmps68;go_wp2;go_step3;go_wp2;go_step3;go_wp2
 go_loopw [12,6] (fun c bg wr=>∃(us vs:List Nu.Tok) (k:Nat) (s:Pa.St) (v:Value),JN=us++vs/\k<=us.length/\c= .int .i64 us.length/\bg= .int .i64 k/\
  Pa.go Pa.s0 (Pa.mG [] ts) n=Pa.go s (Pa.mG (us.drop k) (vs++[⟨3,n,n,0⟩])) n/\s.pairs.length<=us.length/\Beside w wr/\bO wr (w.heap.size+2) s v/\aF wr (w.heap.size+4) v s.pairs) (fun c _ _=>ts.length-(intOf c).toNat)
 case atStart=>exact⟨[],JN,0,Pa.s0,.slice none 0 0,rfl,aaD _,rfl,rfl,by rw[yQ.out];rfl,aaD _,B0.out,R0.out,abX _ _ _ _⟩
 case round=>
  obtain⟨us,vs,k,s,v,Kw,Yn,rfl,rfl,hgo,hps,gQ,hrd,hop⟩:=hrel;have hl:ts.length=us.length+vs.length+1:=by rw[yQ.out,Kw];simp;omega
  have hlt:(us.length:Int)<(ts.length:Int):=by omega
  have ip:(0:Int)<=(us.length:Int):=by omega
  have kp:(0:Int)<=(k:Int):=by omega
  have ku:(k:Int)<=(us.length:Int):=by omega
  have uc:(us.length:Int)<=(cap:Int):=by omega
  have kc:¬(cap=k):=by omega
  have UW:us.length<=16777216:=by omega
  have jI:=ζ hl;clear hl;have rB:us.length-k=(us.drop k).length:=by simp
  have Og:=ζ rB;clear rB;have CD:=ζ Kw;have tJ:=ζ hgo;clear Kw hgo;have MK:T≠w.heap.size+2:=by omega
  have Qt:bT (wr) T (k*4) (us.drop k):=bT.drop (vs:=vs++[⟨3,n,n,0⟩]) (by have:=HT.out.below gQ.fK hT;rw[yQ.out,CD.out,abr] at this;exact this) k;have FQ:=ζ Qt;clear Qt;cases vs with
  |nil=>
   have Mt:j9 wr T (us.length*4) ⟨3,n,n,0⟩:=by
    have:=(HT.out.below gQ.fK hT) us.length ⟨3,n,n,0⟩ (by rw[yQ.out,CD.out];simp);rwa[aa7] at this
   obtain⟨a0,a1,a2,a3⟩:=Mt;dsimp only at a0 a1 a2 a3;have vq:T<wr.heap.size:=block_lt_of_cell a0;have hsz:=gQ.size;have q0:w.heap.size<wr.heap.size:=by omega
   have q1:w.heap.size+1<wr.heap.size:=by omega
   have q2:w.heap.size+1+1<wr.heap.size:=by omega
   have q3:w.heap.size+1+1+1<wr.heap.size:=by omega
   have gw:=ζ gQ;have tG:=ζ hrd;have jH:=ζ hop;clear gQ hrd hop;obtain⟨⟨r0,r1,r2⟩,⟨s0,s1,s2⟩,⟨f0,f1,f2⟩⟩:=gw.out.cells;by_cases R2:k=us.length
   .subst R2
    have e0:us.drop us.length=[]:=by simp
    have E0:=ζ e0;clear e0;cases hf:Pa.fin s n with
    |error x=>
     have HF:=ζ hf;clear hf;have jx:(x.1 != 0)=true:=by have:=Pa.AY HF.out;simp;omega
     go_wp2_with ((go_at_call 109;refine(EX (w.heap.size+4) (w.heap.size+2) s v ⟨3,n,n,0⟩ _ x HF.out (tG.out.alloc _) (jH.out.alloc _)).mono ?_;rintro e w3 ⟨rfl,hb3⟩;have ji:=(gw.out.alloc _).below hb3;obtain⟨⟨r0,r1,r2⟩,⟨s0,s1,s2⟩,⟨f0,f1,f2⟩⟩:=ji.cells;have zj:=ζ ji;unfold aH;clear hb3 ji))
     go_region
     go_wp2;rw[acf];refine bodyPost_ret (v:= .tuple #[rawVal 0 (.slice none 0 0),aH x]) (by simp[results,results68,go_sem,rawVal,aH, *]) rfl ⟨?_,.inl ⟨x,?_,rfl⟩⟩
     .exact((((((zj.out.fK.setCell (by simp;omega) _).setCell (by simp;omega) _).setCell (by simp) _).setCell (by simp) _).setCell (by simp) _).setCell (by simp) _).drew
     .rw[tJ.out,E0.out,abA,Pa.pT (by simp)]
      exact HF.out
    |ok s'=>
     have HF:=ζ hf;clear hf;have hs3:=Pa.Jo HF.out;subst hs3;obtain⟨ao,vc,rfl,_⟩:=jH.out.form;go_wp2_with ((go_at_call 109;refine(Jp (w.heap.size+4) (w.heap.size+2) s' s' _ ⟨3,n,n,0⟩ _ HF.out (tG.out.alloc _) (jH.out.alloc _)).mono ?_;rintro e w3 ⟨rfl,hb3⟩;have ji:=(gw.out.alloc _).below hb3;have Ec:=(tG.out.alloc _).below hb3 (by simp;omega);have Ef:=(jH.out.alloc _).below hb3 (aaD _);obtain⟨⟨r0,r1,r2⟩,⟨s0,s1,s2⟩,⟨f0,f1,f2⟩⟩:=ji.cells;obtain⟨d1,d3⟩:=Ec.two;have zj:=ζ ji;have NW:=ζ Ef;unfold aH;clear hb3 ji Ec Ef))
     go_region
     go_wp2;rw[acf];refine bodyPost_ret (v:= .tuple #[rawVal s'.n (.slice ao s'.pairs.length vc),aH (0,0)]) (by simp[results,results68,go_sem,rawVal,aH, *]) rfl ⟨?_,.inr ⟨s',_,?_,rfl,?_⟩⟩
     .exact((((((zj.out.fK.setCell (by simp;omega) _).setCell (by simp;omega) _).setCell (by simp) _).setCell (by simp) _).setCell (by simp) _).setCell (by simp) _).drew
     .rw[tJ.out,E0.out,abA,Pa.pT (by simp)]
      exact HF.out
     .exact((((((((NW.out.low (by omega) 0 _).low (by omega) 1 _).low (by omega) 0 _).low (by omega) 1 _).low (by omega) 0 _).low (by omega) 1 _).drew).base (by omega))
   .have hkl:k<us.length:=by omega
    have En:(k:Int)<(us.length:Int):=by omega
    have hne:us.drop k≠[]:=fun h=>by have:=congrArg List.length h;simp at this;omega
    have vh:(us.drop k).length<=33554433:=by rw[acC];omega
    have kd:0<us.length-k:=by omega
    have hpos:(0:Int)<((us.length-k:Nat):Int):=by omega
    cases lO:Pa.line s (us.drop k) with
    |error x=>
     have nO:=ζ lO;clear lO;have jx:(x.1 != 0)=true:=by have:=Pa.xx nO.out;simp;omega
     go_wp2_with (go_at_call 108;refine(AE (w.heap.size+4) (w.heap.size+2) s v T (k*4) _ _ (us.drop k) _ x nO.out (tG.out.alloc _) (jH.out.alloc _) (FQ.out.below ((aaE _ _).alloc (aaD _) _) vq) Og.out hne vh MK (by omega) (by omega) (by simp;omega) (by omega)).mono ?_;rintro e w2 ⟨rfl,hk2⟩;have eU:=(gw.out.alloc _).kept hk2 (jH.out.alloc _);obtain⟨⟨r0,r1,r2⟩,⟨s0,s1,s2⟩,⟨f0,f1,f2⟩⟩:=eU.cells;have rT:=ζ eU;unfold aH;clear hk2 eU)
     go_region
     go_wp2;rw[acf];refine bodyPost_ret (v:= .tuple #[rawVal 0 (.slice none 0 0),aH x]) (by simp[results,results68,go_sem,rawVal,aH, *]) rfl ⟨?_,.inl ⟨x,?_,rfl⟩⟩
     .exact((((((rT.out.fK.setCell (by simp;omega) _).setCell (by simp;omega) _).setCell (by simp) _).setCell (by simp) _).setCell (by simp) _).setCell (by simp) _).drew
     .rw[tJ.out,abA,Pa.kV (by simp) hne]
      exact Pa.AV nO.out
    |ok s'=>
     have nO:=ζ lO;clear lO;have hgrow:=Pa.uh nO.out;cases hf:Pa.fin s' n with
     |error x=>
      have HF:=ζ hf;clear hf;have jx:(x.1 != 0)=true:=by have:=Pa.AY HF.out;simp;omega
      go_wp2_with (first|(go_at_call 108;refine(xw (w.heap.size+4) (w.heap.size+2) s v T (k*4) _ _ (us.drop k) _ s' nO.out (tG.out.alloc _) (jH.out.alloc _) (FQ.out.below ((aaE _ _).alloc (aaD _) _) vq) Og.out hne vh MK (by omega) (by omega) (by simp;omega) (by omega)).mono ?_;rintro e w2 ⟨rfl,hk2,v',uw,ry⟩;have eU:=(gw.out.alloc _).kept hk2 (jH.out.alloc _);obtain⟨⟨r0,r1,r2⟩,⟨s0,s1,s2⟩,⟨f0,f1,f2⟩⟩:=eU.cells;obtain⟨y0,y1,y2,y3,y4⟩:=sj (t:=⟨3,n,n,0⟩) hsz hk2 jH.out;have hsz2:=eU.size;have rT:=ζ eU;have rP:=ζ uw;have Bc:=ζ ry;unfold aH;clear hk2 eU uw ry)|(go_at_call 109;refine(EX (w.heap.size+4) (w.heap.size+2) s' v' ⟨3,n,n,0⟩ _ x HF.out ((rP.out.far (by simp) 0 _).far (by simp) 1 _) ((Bc.out.low (by omega) 0 _).low (by omega) 1 _)).mono ?_;rintro e w3 ⟨rfl,hb3⟩;have ji:=rT.out.zero.below hb3;obtain⟨⟨r0,r1,r2⟩,⟨s0,s1,s2⟩,⟨f0,f1,f2⟩⟩:=ji.cells;have zj:=ζ ji;unfold aH;clear hb3 ji))
      go_region
      go_wp2;rw[acf];refine bodyPost_ret (v:= .tuple #[rawVal 0 (.slice none 0 0),aH x]) (by simp[results,results68,go_sem,rawVal,aH, *]) rfl ⟨?_,.inl ⟨x,?_,rfl⟩⟩
      .exact((((((zj.out.fK.setCell (by simp;omega) _).setCell (by simp;omega) _).setCell (by simp) _).setCell (by simp) _).setCell (by simp) _).setCell (by simp) _).drew
      .rw[tJ.out,abA,Pa.kV (by simp) hne,Pa.go_ok nO.out]
       exact HF.out
     |ok s3=>
      have HF:=ζ hf;clear hf;have hs3:=Pa.Jo HF.out;subst hs3;go_wp2_with (first|(go_at_call 108;refine(xw (w.heap.size+4) (w.heap.size+2) s v T (k*4) _ _ (us.drop k) _ s3 nO.out (tG.out.alloc _) (jH.out.alloc _) (FQ.out.below ((aaE _ _).alloc (aaD _) _) vq) Og.out hne vh MK (by omega) (by omega) (by simp;omega) (by omega)).mono ?_;rintro e w2 ⟨rfl,hk2,v',uw,ry⟩;have eU:=(gw.out.alloc _).kept hk2 (jH.out.alloc _);obtain⟨⟨r0,r1,r2⟩,⟨s0,s1,s2⟩,⟨f0,f1,f2⟩⟩:=eU.cells;obtain⟨y0,y1,y2,y3,y4⟩:=sj (t:=⟨3,n,n,0⟩) hsz hk2 jH.out;have hsz2:=eU.size;obtain⟨ao,vc,rfl,_⟩:=ry.form;have rT:=ζ eU;have rP:=ζ uw;have Bc:=ζ ry;unfold aH;clear hk2 eU uw ry)|(go_at_call 109;refine(Jp (w.heap.size+4) (w.heap.size+2) s3 s3 _ ⟨3,n,n,0⟩ _ HF.out ((rP.out.far (by simp) 0 _).far (by simp) 1 _) ((Bc.out.low (by omega) 0 _).low (by omega) 1 _)).mono ?_;rintro e w3 ⟨rfl,hb3⟩;have ji:=rT.out.zero.below hb3;have Ec:=((rP.out.far (by simp) 0 _).far (by simp) 1 _).below hb3 (by simp;omega);have Ef:=((Bc.out.low (by omega) 0 _).low (by omega) 1 _).below hb3 (aaD _);obtain⟨⟨r0,r1,r2⟩,⟨s0,s1,s2⟩,⟨f0,f1,f2⟩⟩:=ji.cells;obtain⟨d1,d3⟩:=Ec.two;have zj:=ζ ji;have NW:=ζ Ef;unfold aH;clear hb3 ji Ec Ef))
      go_region
      go_wp2;rw[acf];refine bodyPost_ret (v:= .tuple #[rawVal s3.n (.slice ao s3.pairs.length vc),aH (0,0)]) (by simp[results,results68,go_sem,rawVal,aH, *]) rfl ⟨?_,.inr ⟨s3,_,?_,rfl,?_⟩⟩
      .exact((((((zj.out.fK.setCell (by simp;omega) _).setCell (by simp;omega) _).setCell (by simp) _).setCell (by simp) _).setCell (by simp) _).setCell (by simp) _).drew
      .rw[tJ.out,abA,Pa.kV (by simp) hne,Pa.go_ok nO.out]
       exact HF.out
      .exact((((((((NW.out.low (by omega) 0 _).low (by omega) 1 _).low (by omega) 0 _).low (by omega) 1 _).low (by omega) 0 _).low (by omega) 1 _).drew).base (by omega))
  |cons t vs=>
   have Mt:j9 wr T (us.length*4) t:=by
    have:=(HT.out.below gQ.fK hT) us.length t (by rw[yQ.out,CD.out];simp);rwa[aa7] at this
   obtain⟨a0,a1,a2,a3⟩:=Mt;have vq:T<wr.heap.size:=block_lt_of_cell a0;have hsz:=gQ.size;have q0:w.heap.size<wr.heap.size:=by omega
   have q1:w.heap.size+1<wr.heap.size:=by omega
   have q2:w.heap.size+1+1<wr.heap.size:=by omega
   have q3:w.heap.size+1+1+1<wr.heap.size:=by omega
   have U0:=HK.out t (by rw[CD.out];simp);have gw:=ζ gQ;have tG:=ζ hrd;have jH:=ζ hop;clear gQ hrd hop;by_cases h1:t.kind=1
   .have j1:(t.kind==1)=true:=by simp[h1]
    have H1:=ζ h1;clear U0 h1;go_wp2_with fail;go_roundw
    case rel=>
     refine⟨us++[t],vs,k,s,v,by rw[CD.out];simp,by rw[aaN];omega,by simp,rfl,?_,by rw[aaN];omega,gw.out.alloc _,tG.out.alloc _,jH.out.alloc _⟩;rw[tJ.out,abC,Pa.Mg H1.out,List.drop_append_of_le_length Yn]
    case measure=>(have:=jI.out;simp[intOf];omega)
   .have j1:(t.kind==1)=false:=by simp[h1]
    have j3:(t.kind==3)=false:=by simp;omega
    have H1:=ζ h1;clear U0 h1;by_cases R2:k=us.length
    .subst R2
     have e0:us.drop us.length=[]:=by simp
     obtain⟨⟨r0,r1,r2⟩,⟨s0,s1,s2⟩,⟨f0,f1,f2⟩⟩:=gw.out.cells;have E0:=ζ e0;clear e0;go_wp2_with fail;go_roundw
     case rel=>
      refine⟨us++[t],vs,us.length+1,s,v,by rw[CD.out];simp,by simp,by simp,by go_num,?_,by rw[aaN];omega,gw.out.alloc _,tG.out.alloc _,jH.out.alloc _⟩;rw[tJ.out,E0.out,abC,Pa.pT H1.out,abZ (by simp)]
     case measure=>(have:=jI.out;simp[intOf];omega)
    .have hkl:k<us.length:=by omega
     have En:(k:Int)<(us.length:Int):=by omega
     have hne:us.drop k≠[]:=fun h=>by have:=congrArg List.length h;simp at this;omega
     have vh:(us.drop k).length<=33554433:=by rw[acC];omega
     have kd:0<us.length-k:=by omega
     have hpos:(0:Int)<((us.length-k:Nat):Int):=by omega
     obtain⟨⟨r0,r1,r2⟩,⟨s0,s1,s2⟩,⟨f0,f1,f2⟩⟩:=gw.out.cells;cases lO:Pa.line s (us.drop k) with
     |error x=>
      have nO:=ζ lO;clear lO;have jx:(x.1 != 0)=true:=by have:=Pa.xx nO.out;simp;omega
      go_wp2_with (go_at_call 108;refine(AE (w.heap.size+4) (w.heap.size+2) s v T (k*4) _ _ (us.drop k) _ x nO.out (tG.out.alloc _) (jH.out.alloc _) (FQ.out.below ((aaE _ _).alloc (aaD _) _) vq) Og.out hne vh MK (by omega) (by omega) (by simp;omega) (by omega)).mono ?_;rintro e w2 ⟨rfl,hk2⟩;have eU:=(gw.out.alloc _).kept hk2 (jH.out.alloc _);obtain⟨⟨r0,r1,r2⟩,⟨s0,s1,s2⟩,⟨f0,f1,f2⟩⟩:=eU.cells;have rT:=ζ eU;unfold aH;clear hk2 eU)
      go_region
      go_wp2;rw[acf];refine bodyPost_ret (v:= .tuple #[rawVal 0 (.slice none 0 0),aH x]) (by simp[results,results68,go_sem,rawVal,aH, *]) rfl ⟨?_,.inl ⟨x,?_,rfl⟩⟩
      .exact((((((rT.out.fK.setCell (by simp;omega) _).setCell (by simp;omega) _).setCell (by simp) _).setCell (by simp) _).setCell (by simp) _).setCell (by simp) _).drew
      .rw[tJ.out,abC,Pa.kV H1.out hne]
       exact Pa.AV nO.out
     |ok s'=>
      have nO:=ζ lO;clear lO;go_wp2_with (go_at_call 108;refine(xw (w.heap.size+4) (w.heap.size+2) s v T (k*4) _ _ (us.drop k) _ s' nO.out (tG.out.alloc _) (jH.out.alloc _) (FQ.out.below ((aaE _ _).alloc (aaD _) _) vq) Og.out hne vh MK (by omega) (by omega) (by simp;omega) (by omega)).mono ?_;rintro e w2 ⟨rfl,hk2,v',uw,ry⟩;have eU:=(gw.out.alloc _).kept hk2 (jH.out.alloc _);obtain⟨⟨r0,r1,r2⟩,⟨s0,s1,s2⟩,⟨f0,f1,f2⟩⟩:=eU.cells;obtain⟨y0,y1,y2,y3,y4⟩:=sj hsz hk2 jH.out;have rT:=ζ eU;have rP:=ζ uw;have Bc:=ζ ry;unfold aH;clear hk2 eU uw ry);go_roundw
      case rel=>
       refine⟨us++[t],vs,us.length+1,s',v',by rw[CD.out];simp,by simp,by simp,by go_num,?_,by have:=Pa.uh nO.out;rw[aaN];simp;omega,rT.out.zero,(rP.out.far (by simp) 0 _).far (by simp) 1 _,(Bc.out.low (by omega) 0 _).low (by omega) 1 _⟩;rw[tJ.out,abC,Pa.kV H1.out hne,Pa.go_ok nO.out,abZ (by simp)]
      case measure=>(have:=jI.out;simp[intOf];omega)
end
section
open Go.Proofs.Tryz
open Go.RowKit
theorem eX.line {w:World} {T m:Nat} {us:List Nu.Tok} (h:eX w T m us):bT w T 0 us:=fun j t hj=>by
 obtain⟨arr,har,_,hac⟩:=h;obtain⟨h0,h1,h2,h3⟩:=hac j t hj;rw[aa7];exact⟨(cell_of_row w T _ _ _ _ har).trans h0,(cell_of_row w T _ _ _ _ har).trans h1,(cell_of_row w T _ _ _ _ har).trans h2,(cell_of_row w T _ _ _ _ har).trans h3⟩
structure Two (w w1:World):Prop where
 fK:Below w.heap.size w w1
 res:w1.heap[w.heap.size]? =some (.cells #[.int .i64 0,.slice none 0 0] 86 (0,0))
 uV:w1.heap[w.heap.size+1]? =some (.cells #[.int .i64 0,.int .i64 0] 39 (0,0))
theorem Two.new (w:World):Two w ((w.alloc (.cells #[.int .i64 0,.slice none 0 0] 86)).alloc (.cells #[.int .i64 0,.int .i64 0] 39)):=by
 refine⟨((aaE _ _).alloc (aaD _) _).alloc (by simp) _,?_,?_⟩
 .rw[aaO _ _ _ (by simp)]
  exact heap_alloc_new w _
 .have:=heap_alloc_new (w.alloc (.cells #[.int .i64 0,.slice none 0 0] 86)) (.cells #[.int .i64 0,.int .i64 0] 39)
  simpa using this
theorem Two.size {w w1:World} (h:Two w w1):w.heap.size+2<=w1.heap.size:=lt_of_block h.uV
theorem Two.below {w w1 w2:World} (h:Two w w1) (hb:Below w1.heap.size w1 w2):Two w w2:=
 ⟨h.fK.trans (hb.mono (by have:=h.size;omega)),(hb.block _ (lt_of_block h.res)).trans h.res,(hb.block _ (lt_of_block h.uV)).trans h.uV⟩
theorem Two.cells {w wr:World} (h:Two w wr):(wr.cell? ⟨w.heap.size,0,none⟩=some (.int .i64 0)/\wr.cell? ⟨w.heap.size,1,none⟩=some (.slice none 0 0)/\∀i,wr.frozen? ⟨w.heap.size,i,none⟩=false)/\
 (wr.cell? ⟨w.heap.size+1,0,none⟩=some (.int .i64 0)/\wr.cell? ⟨w.heap.size+1,1,none⟩=some (.int .i64 0)/\∀i,wr.frozen? ⟨w.heap.size+1,i,none⟩=false):=⟨dU h.res,dU h.uV⟩
theorem LN (ao:Option Addr) (n cap:Nat) (g:Nat->Int) (w:World) (ht:aM w ao n g) (hao:∀x,ao=some x->x.block<w.heap.size) (hn:n<=maxLen) (hcap:n<=cap):
 Calls prog 34 #[.slice ao n cap] w (Fu (Pa.raw g n) w):=by
 have hn':=hn;unfold maxLen at hn';by_cases hA:16777216<n
 .have j0:(16777216:Int)<(n:Int):=by omega
  have ux:Pa.raw g n= .error (10,16777216):=by unfold Pa.raw;rw[if_pos hA]
  have Bb:=ζ ux;clear ux;go_enter func34,ntmps34;go_wp2;refine bodyPost_ret (v:= .tuple #[rawVal 0 (.slice none 0 0),aH (10,16777216)]) (by simp[results,results34,go_sem,rawVal,aH]) rfl ⟨?_,.inl ⟨(10,16777216),Bb.out,rfl⟩⟩;exact((aaE _ _).alloc (aaD _) _).alloc (by simp) _
 .have j0:¬((16777216:Int)<(n:Int)):=by omega
  have hb0:Below w.heap.size w ((w.alloc (.cells #[.int .i64 0,.slice none 0 0] 86)).alloc (.cells #[.int .i64 0,.int .i64 0] 39)):=((aaE _ _).alloc (aaD _) _).alloc (by simp) _;have PN:=ζ (ht.below hb0 hao);have aW:=ζ hb0;clear ht hb0;go_enter func34,ntmps34;go_wp2_with (go_at_call 67;refine(JV ao n cap g _ PN.out (fun x hx=>by have:=hao x hx;simp;omega) hn hcap).mono ?_;refine aaH ?_);refine ζ ?_;rintro e w1 ⟨hb1,hx⟩;have C5:=(Two.new w).below hb1;have Qy:=C5.fK;obtain⟨⟨r0,r1,r2⟩,⟨s0,s1,s2⟩⟩:=C5.cells;have hz:=C5.size;have V5:=ζ C5;clear C5;have q0:w.heap.size<w1.heap.size:=by omega
  have q1:w.heap.size+1<w1.heap.size:=by omega
  have zi:=ζ Qy;clear Qy hb1;rcases hx with ⟨h,_⟩|⟨_,x,hs,rfl⟩|⟨_,ts,T,hs,rfl,hT,hrow⟩
  .omega
  .have ux:Pa.raw g n= .error (x.2,x.1):=by unfold Pa.raw;rw[if_neg hA,hs]
   have Sl:=Nu.wH hs;have jx:(x.2 != 0)=true:=by simp;omega
   have Bb:=ζ ux;clear ux hs Sl;go_wp2;refine bodyPost_ret (v:= .tuple #[rawVal 0 (.slice none 0 0),aH (x.2,x.1)]) (by simp[results,results34,go_sem,rawVal,aH, *]) rfl ⟨?_,.inl ⟨(x.2,x.1),Bb.out,rfl⟩⟩;exact(((zi.out.setCell (by simp) _).setCell (by simp) _).setCell (by simp) _).setCell (by simp) _
  .have ux:Pa.raw g n=Pa.go Pa.s0 (Pa.mG [] ts) n:=by unfold Pa.raw;rw[if_neg hA,hs];rfl
   obtain⟨JN,Kw,hk⟩:=Pa.Dc hs;have hlen:=Nu.qK hs;have HL:=ζ hrow.line;have vq:T<w1.heap.size:=by obtain⟨arr,har,_⟩:=hrow;exact lt_of_block har
   have Bb:=ζ ux;have CD:=ζ Kw;have HK:=ζ hk;clear ux hs hrow Kw hk;go_wp2_with (go_at_call 68;refine(J1 T _ n ts JN _ HL.out vq (by omega) (aaD _) CD.out HK.out).mono ?_;refine aaH ?_);refine ζ ?_;rintro e w2 ⟨hb2,hx⟩;obtain⟨⟨r0,r1,r2⟩,⟨s0,s1,s2⟩⟩:=(V5.out.below hb2).cells;have FU:=ζ (zi.out.trans (hb2.mono (by omega)));clear hb2;unfold rawVal aH at hx;rcases hx with ⟨x,hr,rfl⟩|⟨s,v,hr,rfl,hop⟩
   .have HR:=ζ hr
    clear hr;go_wp2;refine bodyPost_ret (v:= .tuple #[rawVal 0 (.slice none 0 0),aH x]) (by simp[results,results34,go_sem,rawVal,aH, *]) rfl ⟨?_,.inl ⟨x,Bb.out.trans HR.out,rfl⟩⟩;exact(((FU.out.setCell (by simp) _).setCell (by simp) _).setCell (by simp) _).setCell (by simp) _
   .have HR:=ζ hr
    clear hr;obtain⟨va,vc,rfl,_⟩:=hop.form;have jH:=ζ hop;clear hop;go_wp2;refine bodyPost_ret (v:= .tuple #[rawVal s.n (.slice va s.pairs.length vc),aH (0,0)]) (by simp[results,results34,go_sem,rawVal,aH, *]) rfl ⟨?_,.inr ⟨s,_,Bb.out.trans HR.out,rfl,?_⟩⟩
    .exact(((FU.out.setCell (by simp) _).setCell (by simp) _).setCell (by simp) _).setCell (by simp) _
    .exact((((jH.out.low (by omega) 0 _).low (by omega) 1 _).low (by omega) 0 _).low (by omega) 1 _).base (by omega)
end
section
open Go.Proofs.Tryz
open Go.RowKit Go.Sort
theorem Dq (ao:Option Addr) (n cap:Nat) (g:Nat->Int) (w:World) (ht:aM w ao n g) (hao:∀x,ao=some x->x.block<w.heap.size) (hn:n<=maxLen) (hcap:n<=cap) {x0:Int×Int} (hx0:Pa.raw g n= .error x0):
 Calls prog 16 #[.slice ao n cap] w fun e w'=>Below w.heap.size w w'/\e= .returned (.tuple #[.agg #[.int .i64 0,.slice none 0 0],.agg #[.int .i64 x0.1,.int .i64 x0.2]]):=by
 have mJ:Below w.heap.size w ((w.alloc (.cells #[.int .i64 0,.slice none 0 0] 24)).alloc (.cells #[.int .i64 0,.int .i64 0] 39)):=((aaE _ _).alloc (aaD _) _).alloc (by simp) _;have MB:=LN ao n cap g _ (ht.later mJ) (fun x hx=>by have:=hao x hx;simp;omega) hn hcap;rw[hx0] at MB;have hcx:=Pa.Au hx0;have CT:=ζ mJ;have Zc:=ζ MB;have ga:((w.alloc (.cells #[.int .i64 0,.slice none 0 0] 24)).alloc (.cells #[.int .i64 0,.int .i64 0] 39)).heap[w.heap.size]? =some (.cells #[.int .i64 0,.slice none 0 0] 24 (0,0)):=by
  rw[aaO _ _ _ (by simp)];exact heap_alloc_new w _
 have gb:((w.alloc (.cells #[.int .i64 0,.slice none 0 0] 24)).alloc (.cells #[.int .i64 0,.int .i64 0] 39)).heap[w.heap.size+1]? =some (.cells #[.int .i64 0,.int .i64 0] 39 (0,0)):=by
  have:=heap_alloc_new (w.alloc (.cells #[.int .i64 0,.slice none 0 0] 24)) (.cells #[.int .i64 0,.int .i64 0] 39);simpa using this
 have bG:=ζ ga;have zY:=ζ gb;clear ht hao mJ MB ga gb hx0;go_enter func16,ntmps16;go_wp2_with (go_at_call 34;refine Zc.out.mono ?_;refine aaH ?_);refine ζ ?_;rintro e w1 ⟨hb1,zI⟩;have qd:=(hb1.block _ (by simp;omega)).trans bG.out;have hR1:=(hb1.block _ (by simp)).trans zY.out;have GI:=lt_of_block qd;have Uw:=lt_of_block hR1;obtain⟨g0,g1,gf⟩:=af qd;obtain⟨r0,r1,rf⟩:=af hR1;have gu:=ζ qd;have yT:=ζ hR1;have aN:=ζ (CT.out.trans (hb1.mono CT.out.size));clear hb1 qd hR1;rcases zI with ⟨x,hr,rfl⟩|⟨s,v,hr,rfl,hop⟩
 .cases hr
  have j0:(x0.1 != 0)=true:=by simpa using hcx
  unfold rawVal aH;clear hcx;go_wp2_with fail
  go_region
  all_goals
   go_wp2
   first
    |(obtain⟨k1,k2⟩:=wh (by omega) gu.out yT.out (.int .i64 0) (.slice none 0 0) (.int .i64 x0.1) (.int .i64 x0.2)
      obtain⟨p0,p1,-⟩:=af k1;obtain⟨q0,q1,-⟩:=af k2;refine bodyPost_ret (v:= .tuple #[.agg #[.int .i64 0,.slice none 0 0],.agg #[.int .i64 x0.1,.int .i64 x0.2]]) (by simp[results,results16,go_sem,p0,p1,q0,q1,GI,Uw]) rfl ?_;exact⟨((((((aN.out.setCell (by simp) _).setCell (by simp) _).setCell (by simp) _).setCell (by simp) _).alloc (by simp;omega) _).alloc (by simp;omega) _).drew,rfl⟩)
    |(obtain⟨k2,k1⟩:=wh (by omega) yT.out gu.out (.int .i64 x0.1) (.int .i64 x0.2) (.int .i64 0) (.slice none 0 0)
      obtain⟨p0,p1,-⟩:=af k1;obtain⟨q0,q1,-⟩:=af k2;refine bodyPost_ret (v:= .tuple #[.agg #[.int .i64 0,.slice none 0 0],.agg #[.int .i64 x0.1,.int .i64 x0.2]]) (by simp[results,results16,go_sem,p0,p1,q0,q1,GI,Uw]) rfl ?_;exact⟨((((((aN.out.setCell (by simp) _).setCell (by simp) _).setCell (by simp) _).setCell (by simp) _).alloc (by simp;omega) _).alloc (by simp;omega) _).drew,rfl⟩)
 .cases hr
def Ck.e4:List (Int×Int):=[(0,1),(0,2),(0,3),(1,2),(1,3),(2,3)]
theorem ny (w:World):Calls prog 28 #[] w fun e w'=>∃b,e= .returned (.agg #[.int .i64 4,.slice (some ⟨b,0,none⟩) 6 6])/\ah w' (some ⟨b,0,none⟩) Ck.e4/\Below w.heap.size w w':=by
 go_enter func28,ntmps28;go_wp2;refine bodyPost_ret (v:= .agg #[.int .i64 4,.slice (some ⟨w.heap.size+1,0,none⟩) 6 6]) (by simp[results,results28,go_sem]) rfl ?_;refine⟨w.heap.size+1,rfl,mD.at ?_,((aaE _ _).alloc (aaD _) _).alloc (by simp) _⟩;have:=heap_alloc_new (w.alloc (.cells #[.int .i64 4,.slice (some ⟨w.heap.size+1,0,none⟩) 6 6] 24)) (.cells (dD Ck.e4).toArray 66);rw[aa1] at this;exact this
theorem Cw {ao bo:Option Addr} {n m ca cb:Nat} {g:Nat->Int} {w:World} (hg:aM w ao n g) (ha:∀x,ao=some x->x.block<w.heap.size/\x.spot=none) (hn:n<=maxLen) (hca:n<=ca) {x:Int×Int} (hx:Pa.raw g n= .error x):
 Calls prog 14 #[.slice ao n ca,.slice bo m cb] w fun e w'=>e= .returned (.int .i64 180)/\Below w.heap.size w w':=by
 have tG:=ζ (Dq ao n ca g w hg (fun x hx=>(ha x hx).1) hn hca hx);have hx0:(x.1 != 0)=true:=by simpa using Pa.Au hx
 clear hg ha hx;go_enter func14,ntmps14;go_wp2_with (go_at_call 16;refine tG.out.mono ?_;refine aaH ?_);refine ζ ?_;rintro e w1 ⟨hb1,rfl⟩;have aN:=ζ hb1;have hs1:=hb1.size;clear hb1;go_wp2;go_ret;exact⟨rfl,(aN.out.alloc hs1 _).alloc (by simp;omega) _⟩
end
end Go.Proofs.YtdbjpbjocmcpkaaGreatDoor
