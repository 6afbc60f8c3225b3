import Derived.Test.YtbhdibflpjhpaaaGreatMg27
import Derived.Laws.EntriesVeiled
set_option maxHeartbeats 16000000
set_option maxRecDepth 100000
namespace Go.Proofs.YtbhdibflpjhpaaaGreat
section
open Go.Proofs.Tryz
open Go.RowKit Go.Shelf
attribute [local go_sem] Oper.semAt_some
namespace Lo
def M8 (A1 A2:List Int) (p:Int×Int) (x:Int):Int×Int:=iV (iV p (A1.getD (x.toNat/2) 0)) (A2.getD (x.toNat/2) 0)
def gT (A1 A2:List Int) (m:Int) (l:List Int):Int×Int:=l.foldl (M8 A1 A2) (m,m)
theorem Hr (A1 A2:List Int) (m:Int) (l:List Int) (x:Int):gT A1 A2 m (l++[x])=M8 A1 A2 (gT A1 A2 m l) x:=by
 unfold gT;rw[afF];rfl
def lead (n:Nat) (es:List (Int×Int)) (s:Df.St) (A1 A2:List Int) (i:Nat):Int×Int:=
 if Df.at_ s.par (Cs.to es i)=(i:Int) then gT A1 A2 (Df.at_ s.ay (Cs.fr es i)) (I2 n es s (Cs.to es i)) else iV (Df.at_ s.ay (Cs.fr es i),Df.at_ s.ay (Cs.fr es i)) (Df.at_ s.ay (Cs.to es i))
end Lo
def L8 (m:Int) (w:World) (e:Ending) (w':World):Prop:=
 ∃Bl B2,e= .returned (.func (.func 119) #[] #[.pointer (some ⟨Bl,0,none⟩),.pointer (some ⟨B2,0,none⟩)])/\w.heap.size<=Bl/\w.heap.size<=B2/\Bl≠B2/\Boxed w' Bl 3 (.int .i64 m)/\Boxed w' B2 3 (.int .i64 m)/\Below w.heap.size w w'
theorem CH (m:Int) (w:World):Calls prog 101 #[.int .i64 m] w (L8 m w):=by
 go_enter func101,ntmps101;go_wp2;go_ret;refine⟨w.heap.size,w.heap.size+1,rfl,aad _,by omega,by omega,?_,?_,?_⟩
 .exact(aer w _ _).alloc _
 .have:=aer (w.alloc (.cells #[.int .i64 m] 3)) 3 (.int .i64 m)
  rwa[acC] at this
 .exact((aae _ _).alloc (aad _) _).alloc (by simp) _
theorem uJ (k:Nat) (h:k<=4194304*4194304):IntKind.i64.wrap (k:Int)=(k:Int):=by
 simp[IntKind.wrap,IntKind.bits,IntKind.signed];omega
theorem wH {S:Nat->Prop} {n₀:Nat} {A V:World} (h:az S A V) (hn:n₀<=A.heap.size) (hS:∀k,S k->n₀<=k):dc n₀ S A V:=
 ⟨h.below hn hS,fun b _ hb _ hs=>(h.block b (abR.1 hb).1 hs).trans hb⟩
theorem nE {S:Nat->Prop} {B:Nat} {A V:World} (h:az S A V) (hS:∀k,S k->k<B):KeepsFrom B A V:=
 ⟨h.size,fun k _ hk h0 _=>(h.block k (abR.1 h0).1 (fun hs=>by have:=hS k hs;omega)).trans h0⟩
def kP (Bl B2 R g1 g2 m X j jh:Nat) (a1 a2:Int) (q:Int×Int):Nat->Value
 |0=> .func (.func 119) #[] #[.pointer (some ⟨Bl,0,none⟩),.pointer (some ⟨B2,0,none⟩)]
 |1=> .pointer (some ⟨R,0,none⟩)
 |2=> .slice (some ⟨g1,0,none⟩) m m
 |3=> .int .i64 (j:Int)
 |4=> .int .i64 (jh:Int)
 |5=> .pointer (some ⟨g1,jh,none⟩)
 |6=> .int .i64 a1
 |7=> .pointer (some ⟨R,1,none⟩)
 |8=> .slice (some ⟨g2,0,none⟩) m m
 |9=> .int .i64 (j:Int)
 |10=> .int .i64 (jh:Int)
 |11=> .pointer (some ⟨g2,jh,none⟩)
 |12=> .int .i64 a2
 |13=> .slice (some ⟨X,0,none⟩) 2 2
 |14=> .tuple #[.int .i64 q.1,.int .i64 q.2]
 |_=>undef
def zS (Bl B2:Nat) (a1 a2:Int) (q:Int×Int) (A:World) (L:Nat->Bool) (V:World):Prop:=
 if L 14=true then Boxed V Bl 3 (.int .i64 q.1)/\Boxed V B2 3 (.int .i64 q.2)/\az (fun k=>k=Bl\/k=B2) A V
 else if L 13=true then V=A.drew.alloc (.cells #[.int .i64 a1,.int .i64 a2] 3) else V=A.drew
theorem zS.wrote {Bl B2:Nat} {a1 a2:Int} {q:Int×Int} {A:World} {L:Nat->Bool} {V:World} (h:zS Bl B2 a1 a2 q A L V):az (fun k=>k=Bl\/k=B2) A V:=by
 unfold zS at h
 split at h
 .exact h.2.2
 .split at h
  .rw[h]
   exact(az.refl _ A).drew.alloc _
  .rw[h]
   exact(az.refl _ A).drew
theorem zS.other {Bl B2:Nat} {a1 a2:Int} {q:Int×Int} {A:World} {L:Nat->Bool} {V:World} (h:zS Bl B2 a1 a2 q A L V) {i:Nat} (h1:i≠13) (h2:i≠14):zS Bl B2 a1 a2 q A (aq.bM L i) V:=by
 have e1:aq.bM L i 13=L 13:=if_neg (fun e=>h1 e.symm);have e2:aq.bM L i 14=L 14:=if_neg (fun e=>h2 e.symm);unfold zS at h ⊢;rw[e1,e2];exact h
section
variable {p:Nat} {av:Value} {n:Nat} {es:List (Int×Int)} {f:For} {s:Df.St}
def Te (q:Int×Int) (w:World) (e:Ending) (w':World):Prop:=e= .returned (.tuple #[.int .i64 q.1,.int .i64 q.2])/\Below w.heap.size w w'
theorem NJ (i:Nat) (g1 g2:Nat) (A1 A2:List Int) (w:World) (hd:Wd w p av n es f s) (hi:i<2*es.length) (h1:aF w g1 A1) (h2:aF w g2 A2) (l1:A1.length=es.length) (l2:A2.length=es.length):
 Calls prog 84 #[.pointer (some ⟨p,0,none⟩),.int .i64 (i:Int),.agg #[.slice (some ⟨g1,0,none⟩) es.length es.length,.slice (some ⟨g2,0,none⟩) es.length es.length,.slice none 0 0,.slice none 0 0]] w (Te (Lo.lead n es s A1 A2 i) w):=by
 have cG:=Cs.bI hd.val hi;have dH:=hd.val.few;obtain⟨W,hW⟩:∃W,W=w.alloc (.cells #[.slice (some ⟨g1,0,none⟩) es.length es.length,.slice (some ⟨g2,0,none⟩) es.length es.length,.slice none 0 0,.slice none 0 0] 102):=⟨_,rfl⟩;have dJ:Below w.heap.size w W:=by rw[hW];exact(aae _ _).alloc (aad _) _
 have abj:W.heap.size=w.heap.size+1:=by rw[hW];simp
 have Zn:W.heap[w.heap.size]? =some (.cells #[.slice (some ⟨g1,0,none⟩) es.length es.length,.slice (some ⟨g2,0,none⟩) es.length es.length,.slice none 0 0,.slice none 0 0] 102 (0,0)):=by rw[hW];exact heap_alloc_new w _
 obtain⟨m,hm⟩:∃m,Df.at_ s.ay (Cs.fr es i)=m:=⟨_,rfl⟩;have X9:Hid (Calls prog 85 #[.pointer (some ⟨p,0,none⟩),.int .i64 (i:Int)] W fun e w'=>e= .returned (.int .i64 m)/\Below W.heap.size W w'):=by
  have:=Be i hi (hd.later dJ);rw[hm] at this;exact this
 have HTW:Hid (∀V,Calls prog 101 #[.int .i64 m] V (L8 m V)):=fun V=>CH m V
 have Ar:Hid (∀V,Below w.heap.size w V->Calls prog 102 #[.pointer (some ⟨p,0,none⟩),.int .i64 (i:Int)] V fun e w'=>e= .returned (.bool (Df.at_ s.par (Cs.to es i) != (i:Int)))/\Below V.heap.size V w'):=fun V hV=>O0 i hi (hd.later hV)
 have FA:Hid (∀V,Below w.heap.size w V->Calls prog 103 #[.pointer (some ⟨p,0,none⟩),.int .i64 (i:Int)] V fun e w'=>e= .returned (.int .i64 (Df.at_ s.ay (Cs.to es i)))/\Below V.heap.size V w'):=fun V hV=>SR i hi (hd.later hV)
 have pF:Hid (∀V,Below w.heap.size w V->Calls prog 44 #[av,.int .i64 (i:Int)] V fun e w'=>e= .returned (.int .i64 (Cs.to es i:Int))/\w'=V):=fun V hV=>(jO av n es (i:Int) V (hd.later hV).Fv).mono fun e w' ⟨he,hw⟩=>⟨by rw[he,Cs.toI_in hi],hw⟩
 have lA:Hid (∀V,Calls prog 83 #[.pointer (some ⟨p,0,none⟩),.int .i64 (Cs.to es i:Int)] V (Au p (Cs.to es i:Int) V)):=fun V=>Cu p _ V
 have O9:Hid (∀V,Below w.heap.size w V->Wd V p av n es f s):=fun V hV=>hd.later hV
 have qZ:Hid (∀V,Below w.heap.size w V->aF V g1 A1/\aF V g2 A2):=fun V hV=>⟨h1.later hV,h2.later hV⟩
 have qg:=ζ hW;have HD:=ζ hd;have HL:Hid (Lo.lead n es s A1 A2 i=if Df.at_ s.par (Cs.to es i)=(i:Int) then Lo.gT A1 A2 m (Lo.I2 n es s (Cs.to es i)) else Lo.iV (m,m) (Df.at_ s.ay (Cs.to es i))):=by
  show _=_;unfold Lo.lead;rw[hm]
 have HG:Hid (g1<w.heap.size/\g2<w.heap.size):=⟨h1.lt,h2.lt⟩;obtain⟨t,ht⟩:∃t,Cs.to es i=t:=⟨_,rfl⟩;rw[ht] at Ar FA pF lA HL;have htn:t<n:=by rw[<-ht];exact cG.2
 obtain⟨pt,hpt⟩:∃pt,Df.at_ s.par t=pt:=⟨_,rfl⟩;obtain⟨z,hz⟩:∃z,Df.at_ s.ay t=z:=⟨_,rfl⟩;rw[hpt] at Ar HL;rw[hz] at FA HL;clear hW hd h1 h2 hm ht cG hpt hz;refine(callsIn_wide (n:=9)).1 ?_;refine callsIn_of_wp_marks func84 rfl trivial ?_ rfl;simp only[ntmps84,adO,abS,acY,Nat.reduceAdd,Nat.reduceSub,adB,adC,adP,adF,acs,acZ];refine wpIn_wide.2 ?_;go_wp2_with (first|(go_at_call 85;rw[<-qg.out];refine X9.out.mono ?_;rintro e w1 ⟨rfl,hb1⟩)|(go_at_call 101;refine(HTW.out _).mono ?_;rintro e w2 ⟨Bl,B2,rfl,qI,hl2,hne,bl,b2,hb2⟩;refine abQ ?_));refine ζ ?_;have Ea:Below w.heap.size w w1:=dJ.trans (hb1.mono dJ.size);have QB:Below w.heap.size w w2:=Ea.trans (hb2.mono Ea.size);have Vn:w2.heap[w.heap.size]? =some (.cells #[.slice (some ⟨g1,0,none⟩) es.length es.length,.slice (some ⟨g2,0,none⟩) es.length es.length,.slice none 0 0,.slice none 0 0] 102 (0,0)):=(hb2.block _ (by have:=hb1.size;omega)).trans ((hb1.block _ (by omega)).trans Zn);have hs1:=hb1.size;have hs2:=hb2.size;obtain⟨w3,hw3⟩:∃w3,w3=w2.alloc (.cells #[.func (.func 119) #[] #[.pointer (some ⟨Bl,0,none⟩),.pointer (some ⟨B2,0,none⟩)]] 161):=⟨_,rfl⟩;have qX:=ζ hw3;have Gv:Below w2.heap.size w2 w3:=by rw[hw3];exact(aae _ _).alloc (aad _) _
 have hk3:Boxed w3 w2.heap.size 161 (.func (.func 119) #[] #[.pointer (some ⟨Bl,0,none⟩),.pointer (some ⟨B2,0,none⟩)]):=by rw[hw3];exact aer _ _ _
 have hs3:w3.heap.size=w2.heap.size+1:=by rw[hw3];simp
 have SZ:Boxed w3 Bl 3 (.int .i64 m):=(Gv.block _ bl.lt).trans bl;have S3:Boxed w3 B2 3 (.int .i64 m):=(Gv.block _ b2.lt).trans b2;have hbl:=bl.lt;have anK:=b2.lt;have Ef:Below w.heap.size w w3:=QB.trans (Gv.mono QB.size);have cz:=ζ Ef;have abJ:=ζ (Ar.out w3 Ef);clear hw3 hb1 hb2 bl b2;by_cases hback:pt=(i:Int)
 .rw[if_pos hback] at HL
  go_wp2_with (go_at_call 102;rw[<-qX.out];refine abJ.out.mono ?_;rintro e w4 ⟨rfl,hb4⟩;refine abQ ?_);refine ζ ?_;have Fp:Below w.heap.size w w4:=Ef.trans (hb4.mono Ef.size);have SY:Boxed w4 Bl 3 (.int .i64 m):=(hb4.block _ SZ.lt).trans SZ;have S2:Boxed w4 B2 3 (.int .i64 m):=(hb4.block _ S3.lt).trans S3;have hk4:Boxed w4 w2.heap.size 161 (.func (.func 119) #[] #[.pointer (some ⟨Bl,0,none⟩),.pointer (some ⟨B2,0,none⟩)]):=(hb4.block _ hk3.lt).trans hk3;have agJ:=(hb4.block _ (by omega)).trans ((Gv.block _ (by omega)).trans Vn);have c0:=(O9.out w4 Fp).c0;have aiB:=ζ (pF.out w4 Fp);have Y0:=hb4.size;have iE:=ζ Fp;clear hb4 Ea QB Vn Gv SZ S3 hk3 Ef;go_wp2_with (first|(go_at_call 44;refine aiB.out.mono ?_;rintro e w5 ⟨rfl,rfl⟩)|(go_at_call 83;refine(lA.out _).mono ?_;rintro e w5 ⟨Bw,Bv,rfl,hBw,hBv,bw,bv,hb5⟩));refine(wpIn_wide (n:=9)).1 ?_;have OD:Below w.heap.size w w5:=Fp.trans (hb5.mono Fp.size);have hs5:=hb5.size;have bl5:Boxed w5 Bl 3 (.int .i64 m):=(hb5.block _ SY.lt).trans SY;have b25:Boxed w5 B2 3 (.int .i64 m):=(hb5.block _ S2.lt).trans S2;have hk5:Boxed w5 w2.heap.size 161 (.func (.func 119) #[] #[.pointer (some ⟨Bl,0,none⟩),.pointer (some ⟨B2,0,none⟩)]):=(hb5.block _ hk4.lt).trans hk4;have agI:=(hb5.block _ (by omega)).trans agJ;have ahF:∀b,(b=Bl\/b=B2)->b<w5.heap.size:=fun b hb=>by rcases hb with rfl|rfl<;>omega
  have BJ:=HG.out
  refine Cf (n:=9) (gf:=99) (lb:= #[.pointer (some ⟨Bw,0,none⟩),.pointer (some ⟨Bv,0,none⟩)]) (by rfl) (enters_of func99 (by kernel_rfl) rfl)
   (Lz t Bw Bv (fun b=>b=Bl\/b=B2) w w5 HD.out OD htn bw bv (by omega) (fun b hb=> .inl (ahF b hb))) OD.size (fun _=>rfl)
   (fun pre X=>(Boxed X Bl 3 (.int .i64 (Lo.gT A1 A2 m pre).1)/\Boxed X B2 3 (.int .i64 (Lo.gT A1 A2 m pre).2))/\dc w.heap.size (fun b=>b=Bl\/b=B2) w5 X) (fun _ _ _=>False)
   (aeN (aeN (Own.from (boxed_own _ _ _) _) (Own.from (boxed_own _ _ _) _)) (dc.own OD.size OD.size)) (fun _ _ _ _ _ hs _ _=>hs) ⟨⟨bl5,b25⟩,dc.refl _ _ _⟩
   (fun x a' _=>a'.tmps.size=53/\a'.eval (.tmp 5)= .pointer (some ⟨w.heap.size,0,none⟩)/\a'.eval (.tmp 8)= .pointer (some ⟨w2.heap.size,0,none⟩)/\a'.eval (.tmp 9)= .int .i64 x)
   (fun x a'=>ownFrom_pure _ _) ?assign ?body ?done ?stop
  case assign=>
   intro l2 pre x X K _ hi hK
   gi_wp2
   exact hK _ _ (aeC _ _) (dc.refl _ _ _) hi ⟨rfl,rfl,rfl,rfl⟩
  case body=>
   rintro l2 pre x a' A ⟨hl2,-⟩ _ hpx ⟨⟨c1,c2⟩,hkp⟩ ⟨asz,a5,a8,a9⟩;have hx:=hpx.subset (acd pre (aan.2 rfl));unfold Lo.I2 at hx;obtain⟨j,rfl,hj,-⟩:=(zP htn).1 (acK.1 hx).1;obtain⟨jh,mM⟩:∃jh,j/2=jh:=⟨_,rfl⟩;have hAw:Below w.heap.size w A:=OD.trans hkp.1;obtain⟨q1,q2⟩:=qZ.out A hAw;obtain⟨a1,ha1⟩:∃a1,A1[jh]? =some a1:=⟨_,aac (by omega)⟩;obtain⟨a2,ha2⟩:∃a2,A2[jh]? =some a2:=⟨_,aac (by omega)⟩;have hst:Lo.gT A1 A2 m (pre++[(j:Int)])=Lo.iV (Lo.iV (Lo.gT A1 A2 m pre) a1) a2:=by
    rw[Lo.Hr];unfold Lo.M8;rw[ach,mM,aag,ha1,aag,ha2];rfl
   have hcl:A.heap[w.heap.size]? =some (.cells #[.slice (some ⟨g1,0,none⟩) es.length es.length,.slice (some ⟨g2,0,none⟩) es.length es.length,.slice none 0 0,.slice none 0 0] 102 (0,0)):=hkp.2 _ _ agI rfl (by omega);have hck:Boxed A w2.heap.size 161 (.func (.func 119) #[] #[.pointer (some ⟨Bl,0,none⟩),.pointer (some ⟨B2,0,none⟩)]):=hkp.boxed hk5 (by omega);have hAs:w5.heap.size<=A.heap.size:=hkp.1.size
   gi_wp2
   refine wpIn_region_any (by kernel_rfl) ?_;refine aq.abm (kP Bl B2 w.heap.size g1 g2 es.length A.heap.size j jh a1 a2 (Lo.gT A1 A2 m (pre++[(j:Int)]))) (zS Bl B2 a1 a2 (Lo.gT A1 A2 m (pre++[(j:Int)])) A) 53 asz (by kernel_rfl) (by kernel_rfl) rfl ?_ ?_
   .intro i o L V ev ho dQ hC dY hdc aM dw IM _
    have hW:=hC.wrote;have k0:=aeZ ((hW.block w2.heap.size hck.lt (by omega)).trans hck);have r0:V.cell? ⟨w.heap.size,0,none⟩=some (.slice (some ⟨g1,0,none⟩) es.length es.length):=by simp[World.cell?,(hW.block w.heap.size (lt_of_block hcl) (by omega)).trans hcl]
    have r1:V.cell? ⟨w.heap.size,1,none⟩=some (.slice (some ⟨g2,0,none⟩) es.length es.length):=by simp[World.cell?,(hW.block w.heap.size (lt_of_block hcl) (by omega)).trans hcl]
    have d1:=(hW.ints q1 (by omega)).cell ha1;have d2:=(hW.ints q2 (by omega)).cell ha2;have DT:(j:Int).tdiv 2=(jh:Int):=by rw[acG (by omega)];omega
    have j0:(0:Int)<=(jh:Int):=by omega
    have j1:(jh:Int)<(es.length:Int):=by omega
    have hc:i=0\/i=1\/i=2\/i=3\/i=4\/i=5\/i=6\/i=7\/i=8\/i=9\/i=10\/i=11\/i=12\/i=13\/i=14:=by
     have:i<15:=(abR.1 ho).1;omega
    rcases hc with rfl|rfl|rfl|rfl|rfl|rfl|rfl|rfl|rfl|rfl|rfl|rfl|rfl|rfl|rfl<;>obtain rfl:=aal ho
    .exact aq.gr (hC.other (by decide) (by decide)) (by simp[execOp,go_sem,kP,(dw 8 (by kernel_rfl)).trans a8,k0])
    .exact aq.gr (hC.other (by decide) (by decide)) (by simp[execOp,go_sem,kP,(dw 5 (by kernel_rfl)).trans a5])
    .exact aq.gr (hC.other (by decide) (by decide)) (by simp[execOp,go_sem,kP,aM 1 35 (by omega) rfl (by decide),r0])
    .exact aq.gr (hC.other (by decide) (by decide)) (by simp[execOp,go_sem,kP,(dw 9 (by kernel_rfl)).trans a9])
    .exact aq.gr (hC.other (by decide) (by decide)) (by simp[execOp,go_sem,kP,aM 3 37 (by omega) rfl (by decide),DT,IM];exact uJ jh (by omega))
    .exact aq.gr (hC.other (by decide) (by decide)) (by simp[execOp,go_sem,kP,aM 2 36 (by omega) rfl (by decide),aM 4 38 (by omega) rfl (by decide),j0,j1])
    .exact aq.gr (hC.other (by decide) (by decide)) (by simp[execOp,go_sem,kP,aM 5 39 (by omega) rfl (by decide),d1])
    .exact aq.gr (hC.other (by decide) (by decide)) (by simp[execOp,go_sem,kP,(dw 5 (by kernel_rfl)).trans a5])
    .exact aq.gr (hC.other (by decide) (by decide)) (by simp[execOp,go_sem,kP,aM 7 41 (by omega) rfl (by decide),r1])
    .exact aq.gr (hC.other (by decide) (by decide)) (by simp[execOp,go_sem,kP,(dw 9 (by kernel_rfl)).trans a9])
    .exact aq.gr (hC.other (by decide) (by decide)) (by simp[execOp,go_sem,kP,aM 9 43 (by omega) rfl (by decide),DT,IM];exact uJ jh (by omega))
    .exact aq.gr (hC.other (by decide) (by decide)) (by simp[execOp,go_sem,kP,aM 8 42 (by omega) rfl (by decide),aM 10 44 (by omega) rfl (by decide),j0,j1])
    .exact aq.gr (hC.other (by decide) (by decide)) (by simp[execOp,go_sem,kP,aM 11 45 (by omega) rfl (by decide),d2])
    .have e1:ev (.tmp 40)= .int .i64 a1:=aM 6 40 (by omega) rfl (by decide)
     have e2:ev (.tmp 46)= .int .i64 a2:=aM 12 46 (by omega) rfl (by decide);have h14:L 14=false:=by
      cases h:L 14 with
      |false=>rfl
      |true=>
       have:=hdc 14 _ rfl h ⟨13,.data⟩ (by simp) rfl;rw[dQ] at this;cases this
     have hV:V=A.drew:=by
      unfold zS at hC;rw[h14,dQ] at hC;exact hC
     refine aq.cI (v:= .slice (some ⟨A.heap.size,0,none⟩) 2 2) (w':=V.alloc (.cells #[.int .i64 a1,.int .i64 a2] 3)) (by rw[hV];simp[execOp,go_sem,e1,e2]) ⟨rfl,?_⟩;unfold zS;rw[show aq.bM L 13 14=false from h14,show aq.bM L 13 13=true from rfl,hV];rfl
    .have e1:ev (.tmp 34)= .func (.func 119) #[] #[.pointer (some ⟨Bl,0,none⟩),.pointer (some ⟨B2,0,none⟩)]:=aM 0 34 (by omega) rfl (by decide)
     have e2:ev (.tmp 47)= .slice (some ⟨A.heap.size,0,none⟩) 2 2:=aM 13 47 (by omega) rfl (by decide);have h13:L 13=true:=dY ⟨13,.data⟩ (by simp) rfl;have hV:V=A.drew.alloc (.cells #[.int .i64 a1,.int .i64 a2] 3):=by
      unfold zS at hC;rw[dQ,h13] at hC;exact hC
     have hen:∀args w,(callFunc 119 args).run prog w= .ok (.enter 119 args) w:=enters_of func119 (by kernel_rfl) rfl;have hrun:∀o:Oper,o.op= .call { callee:= .value (.tmp 34),args:= #[.tmp 47],argTypes:= #[27] }->(execOp ev o).run prog V= .ok (.enter 119 #[.slice (some ⟨A.heap.size,0,none⟩) 2 2,.pointer (some ⟨Bl,0,none⟩),.pointer (some ⟨B2,0,none⟩)]) V:=fun o ho=>by
      simp[execOp,ho,go_sem,e1,e2,hen]
     unfold aq.cJ;rw[hrun _ rfl];have hib:aF V A.heap.size [a1,a2]:=⟨[],by rw[hV];exact heap_alloc_new A.drew _⟩;have eO:=c1.lt;have agL:=c2.lt;refine(zU Bl B2 (Lo.gT A1 A2 m pre) (some ⟨A.heap.size,0,none⟩) 2 [a1,a2] V hne ?_ ?_ (by simp) (fun X hX' k x hk=> ?_)).mono fun e V' hk=>⟨_,hk.1,?_,?_⟩
     .rw[hV];exact Boxed.alloc (W:=A.drew) c1 _
     .rw[hV];exact Boxed.alloc (W:=A.drew) c2 _
     .refine⟨A.heap.size,0,rfl,?_⟩
      rw[ac7];exact(hX'.ints hib (by omega)).cell hk
     .show Value.tuple _=Value.tuple _
      rw[hst];rfl
     .unfold zS
      rw[show aq.bM L 14 14=true from rfl,if_pos rfl,hst];exact⟨hk.2.1,hk.2.2.1,hW.trans hk.2.2.2⟩
   .intro L V a3 hall hC
    unfold zS at hC;rw[if_pos (hall 14 (by decide))] at hC;obtain⟨z1,z2,hw⟩:=hC;have hk:=wH (n₀:=w.heap.size) hw (by omega) (fun k hk=>by rcases hk with rfl|rfl<;>omega);exact⟨nE hw (fun k hk=>by rcases hk with rfl|rfl<;>omega),hk,⟨z1,z2⟩,hkp.trans hk⟩
  case done=>
   rintro D X hD ⟨⟨c1,c2⟩,Sx⟩ hK;have hck:=(Sx.boxed hk5 (by omega)).cell;have Aq:=ζ (zU Bl B2 _ none 0 [] X hne c1 c2 (by simp) (fun _ _ j x hj=>by simp at hj));have hKX:Below w.heap.size w X:=OD.trans Sx.1;have Pk:=ζ hKX;have HK:=ζ hK;go_wp2_with (go_at_call 119;refine Aq.out.mono ?_;rintro e X2 ⟨rfl,x1,x2,hw⟩);have hb2:Below w.heap.size w X2:=Pk.out.trans (hw.below Pk.out.size (fun k hk'=>by rcases hk' with rfl|rfl<;>omega));have hK2:X2.heap[D]? =some (.deferred (some [])):=(hw.block D (lt_of_block HK.out) (by omega)).trans HK.out;refine⟨by simp,.inl ⟨_,_,rfl,run_takeDeferred hK2,?_⟩⟩;refine⟨_,results_tmp2 rfl _ _ _,?_⟩;rw[HL.out];exact⟨rfl,hb2.trans (belowK_b (w:=w) (aad _) X2 D _ _ (by have:=OD.size;omega) hK2 rfl rfl)⟩
  case stop=>
   rintro D c pre X _ _ hx _;exact hx.elim
 .rw[if_neg hback] at HL
  go_wp2_with (go_at_call 102;rw[<-qX.out];refine abJ.out.mono ?_;rintro e w4 ⟨rfl,hb4⟩;refine abQ ?_);refine ζ ?_;have Fp:Below w.heap.size w w4:=Ef.trans (hb4.mono Ef.size);have SY:Boxed w4 Bl 3 (.int .i64 m):=(hb4.block _ SZ.lt).trans SZ;have S2:Boxed w4 B2 3 (.int .i64 m):=(hb4.block _ S3.lt).trans S3;have hk4:Boxed w4 w2.heap.size 161 (.func (.func 119) #[] #[.pointer (some ⟨Bl,0,none⟩),.pointer (some ⟨B2,0,none⟩)]):=(hb4.block _ hk3.lt).trans hk3;have hbd:Below w4.heap.size w4 w4.drew:=(aae _ _).drew;have ajx:Hid (∀V,Below w4.heap.size w4 V->Calls prog 103 #[.pointer (some ⟨p,0,none⟩),.int .i64 (i:Int)] V fun e w'=>e= .returned (.int .i64 z)/\Below V.heap.size V w'):=fun V hV=>FA.out V (Fp.trans (hV.mono Fp.size))
  have Aq:Hid (∀V,Below w4.heap.size w4 V->Calls prog 119 #[.slice (some ⟨V.heap.size,0,none⟩) 1 1,.pointer (some ⟨Bl,0,none⟩),.pointer (some ⟨B2,0,none⟩)] (V.alloc (.cells #[.int .i64 z] 3)) fun e V'=>e= .returned (.tuple #[.int .i64 (Lo.iV (m,m) z).1,.int .i64 (Lo.iV (m,m) z).2])/\V'.cell? ⟨w2.heap.size,0,none⟩=some (.func (.func 119) #[] #[.pointer (some ⟨Bl,0,none⟩),.pointer (some ⟨B2,0,none⟩)])/\Below w.heap.size w V'):=fun V hV=>by
   have Fg:=hV.size;have hlk:=hk4.lt;have eO:=SY.lt;have agL:=S2.lt;have hX:Below V.heap.size V (V.alloc (.cells #[.int .i64 z] 3)):=(aae _ _).alloc (aad _) _;have Zl:Below w4.heap.size w4 (V.alloc (.cells #[.int .i64 z] 3)):=hV.trans (hX.mono hV.size);have hib:aF (V.alloc (.cells #[.int .i64 z] 3)) V.heap.size [z]:=⟨[],heap_alloc_new V _⟩;refine(zU Bl B2 (m,m) (some ⟨V.heap.size,0,none⟩) 1 [z] _ hne ((Zl.block _ SY.lt).trans SY) ((Zl.block _ S2.lt).trans S2) (by simp) (fun X hX' j x hj=> ?_)).mono fun e V' hk=> ?_
   .refine⟨V.heap.size,0,rfl,?_⟩
    rw[ac7];exact(hX'.ints hib (by omega)).cell hj
   .refine⟨hk.1,aeZ ((hk.2.2.2.block w2.heap.size (by simp;omega) (by omega)).trans ((Zl.block _ hk4.lt).trans hk4)),?_⟩
    have h1:Below w.heap.size w (V.alloc (.cells #[.int .i64 z] 3)):=Fp.trans (Zl.mono Fp.size);exact h1.trans (hk.2.2.2.below h1.size (fun k hk'=>by rcases hk' with rfl|rfl<;>omega))
  have HS:Hid (∀V,Below w4.heap.size w4 V->V.cell? ⟨w2.heap.size,0,none⟩=some (.func (.func 119) #[] #[.pointer (some ⟨Bl,0,none⟩),.pointer (some ⟨B2,0,none⟩)])):=fun V hV=>aeZ ((hV.block _ hk4.lt).trans hk4)
  clear hb4 Ea QB Vn Gv SZ S3 hk3 Ef;go_wp2_with fail
  go_region_held3 (fun V=>V.cell? ⟨w2.heap.size,0,none⟩=some (.func (.func 119) #[] #[.pointer (some ⟨Bl,0,none⟩),.pointer (some ⟨B2,0,none⟩)]))
   (first|assumption|exact HS.out _ (by first|assumption|exact hbd)|exact HS.out _ (Below.alloc (by first|assumption|exact hbd) (ad9 (by first|assumption|exact hbd)) _))
   ((first|(go_at_call 103;refine(ajx.out _ (by first|assumption|exact hbd)).mono ?_;rintro e V1 ⟨rfl,td⟩;have hb1:Below w4.heap.size w4 V1:=aeh (by first|assumption|exact hbd) (td.mono (ad9 (by first|assumption|exact hbd))))|(go_at_call 119;refine(Aq.out _ (by first|assumption|exact hbd)).mono ?_;rintro e V2 ⟨rfl,hc2,rV⟩)))
  all_goals
   go_wp2;exact⟨_,results_tmp2 rfl _ _ _,by rw[HL.out];exact⟨rfl,rV⟩⟩
end
end
section
namespace Lo
open Df
theorem Hq (A1 A2:List Int) (m:Int) (l:List Int):gT A1 A2 m l=pG (m,m) (l.flatMap fun x=>[A1.getD (x.toNat/2) 0,A2.getD (x.toNat/2) 0]):=by
 unfold gT pG;rw[List.foldl_flatMap];rfl
section
variable {n:Nat} {es:List (Int×Int)} {s:St}
theorem yj (pZ:VF n es s) {v:Nat} (hv:v<n) {x:Int}:x∈I2 n es s v↔∃k,k<es.length/\fr es s k=v/\x=(oh s k:Int):=by
 unfold I2;rw[acK,zP hv];constructor
 .rintro⟨⟨i,rfl,hi,hf⟩,hw⟩
  have hw':at_ s.aT (i/2)=(i:Int):=by
   unfold wb at hw;rw[ach] at hw;exact of_decide_eq_true hw
  have ho:oh s (i/2)=i:=by unfold oh;rw[hw'];simp
  exact⟨i/2,by omega,by unfold fr;rw[ho];exact hf,by rw[ho]⟩
 .rintro⟨k,hk,hf,rfl⟩
  obtain⟨h1,_,h3,h4⟩:=fQ pZ hk;refine⟨⟨oh s k,rfl,h3,hf⟩,?_⟩;unfold wb;rw[ach,h4];exact decide_eq_true h1
theorem AW {m:Int} {X Y:List Int} (h1:∀x∈X,least m Y<=x) (h2:∀y∈Y,least m X<=y):least m X=least m Y:=by
 have a1:=least_le m X;have a2:=least_le m Y;rcases eK m X with e1|e1<;>rcases eK m Y with e2|e2
 .omega
 .have:=h2 _ e2;have:=a2.1;omega
 .have:=h1 _ e1;have:=a1.1;omega
 .have:=h2 _ e2;have:=h1 _ e1;omega
variable {e:Nat}
theorem vg {x:Int}:x∈hs es s e↔∃b∈wz es s e,ht es s b=x:=by
 unfold hs;rw[abT]
theorem acV (hv:Si.Val n es) (h:VF n es s) (he:e<es.length) (ht':tree es s e=true) {x:Int} (hx:x∈hs es s e):∃k,k<es.length/\fr es s k=fB es s e/\x∈hs es s k:=by
 obtain⟨b,hb,rfl⟩:=vg.1 hx;obtain⟨b1,b2,b3,b4⟩:=(cZ ht').1 hb;have cG:=ct hv h he;have yE:=ct hv h b1;by_cases hne:fB es s e=fr es s b
 .refine⟨b,b1,hne.symm,vg.2 ⟨b,?_,rfl⟩⟩
  rw[jT b2];exact aan.2 rfl
 .obtain⟨k,k1,k2,k3,k4⟩:=Ag h yE.1 b4 hne
  refine⟨k,k1,k3,vg.2 ⟨b,(cZ k2).2 ⟨b1,b2,?_,k4⟩,rfl⟩⟩;have:=(kH hv h he ht').2;unfold hf;rw[k3];show ht es s b<ht es s e;omega
theorem U0 (hv:Si.Val n es) (h:VF n es s) (he:e<es.length) (ht':tree es s e=true) {k:Nat} (hk:k<es.length) (hf':fr es s k=fB es s e) {x:Int} (hx:x∈hs es s k) (hlt:x<hf es s e):x∈hs es s e:=by
 obtain⟨b,hb,rfl⟩:=vg.1 hx;refine vg.2 ⟨b,(cZ ht').2 ?_,rfl⟩;have cG:=ct hv h he;have KZ:=ct hv h hk;cases vT:tree es s k with
 |true=>
  obtain⟨b1,b2,b3,b4⟩:=(cZ vT).1 hb;refine⟨b1,b2,hlt,xG ?_ b4⟩;have dV:=(kH hv h hk vT).1;rw[hf'] at dV;obtain⟨⟨W,B⟩,hs'⟩:=h.side;obtain⟨Y,hw,_,_⟩:=kF (es:=es) h.once hs' KZ.2;exact sD hw aai dV (by omega)
 |false=>
  rw[jT vT] at hb;obtain rfl:=aan.1 hb;exact⟨hk,vT,hlt,by rw[hf'];exact vK h cG.2⟩
theorem Kq (k:Nat):low es s k=hf es s k\/low es s k∈hs es s k:=eK _ _
theorem qE (k:Nat):cK es s k=hf es s k\/(cK es s k∈hs es s k/\low es s k<cK es s k):=by
 rcases eK (hf es s k) ((hs es s k).filter fun x=>decide (low es s k<x)) with h|h
 .exact .inl h
 .obtain⟨h1,h2⟩:=acK.1 h
  exact .inr ⟨h1,of_decide_eq_true h2⟩
theorem Sb (hv:Si.Val n es) (h:VF n es s) (he:e<es.length) {A1 A2:List Int} (hA:tree es s e=true->∀k,k<es.length->fr es s k=fB es s e->A1.getD k 0=low es s k/\A2.getD k 0=cK es s k):
 lead n es s A1 A2 (oh s e)=(low es s e,cK es s e):=by
 have cG:=ct hv h he;unfold lead;cases ht':tree es s e with
 |false=>
  have hn:¬at_ s.par (Cs.to es (oh s e))=(oh s e:Int):=fun hp=>by
   have:=(lO h he).2 hp;rw[ht'] at this;cases this
  rw[if_neg hn];have dV:=EF hv h he ht';have h1:=vr hv h he ht';have h2:cK es s e=hf es s e:=by
   rcases qE (es:=es) (s:=s) e with h2|⟨h2,h3⟩
   .exact h2
   .obtain⟨b,hb,hb2⟩:=vg.1 h2
    rw[jT ht'] at hb;obtain rfl:=aan.1 hb;omega
  unfold iV;dsimp only;rw[h1,h2];exact if_pos dV
 |true=>
  have hp:at_ s.par (Cs.to es (oh s e))=(oh s e:Int):=(lO h he).1 ht';rw[if_pos hp];replace hA:=hA ht';obtain⟨X,hX⟩:∃X,X=(I2 n es s (Cs.to es (oh s e))).flatMap fun x=>[A1.getD (x.toNat/2) 0,A2.getD (x.toNat/2) 0]:=⟨_,rfl⟩
  have hmem:∀y,y∈X↔∃k,k<es.length/\fr es s k=fB es s e/\(y=low es s k\/y=cK es s k):=fun y=>by
   rw[hX,adz];constructor
   .rintro⟨x,hx,hy⟩
    obtain⟨k,hk,hf',rfl⟩:=(yj h cG.2).1 hx;rw[ach,(fQ h hk).2.2.2,(hA k hk hf').1,(hA k hk hf').2] at hy;refine⟨k,hk,hf',?_⟩;simpa using hy
   .rintro⟨k,hk,hf',hy⟩
    refine⟨(oh s k:Int),(yj h cG.2).2 ⟨k,hk,hf',rfl⟩,?_⟩;rw[ach,(fQ h hk).2.2.2,(hA k hk hf').1,(hA k hk hf').2];simpa using hy
  have Ql:=oI.many X [] (hf es s e,hf es s e) (oI.start _);rw[acs] at Ql;have hq:gT A1 A2 (at_ s.ay (Cs.fr es (oh s e))) (I2 n es s (Cs.to es (oh s e)))=pG (hf es s e,hf es s e) X:=by
   rw[Hq,hX];rfl
  rw[hq];obtain⟨q,hq'⟩:∃q,pG (hf es s e,hf es s e) X=q:=⟨_,rfl⟩;rw[hq'] at Ql ⊢;have hfk:∀k,fr es s k=fB es s e->hf es s k=hf es s e+1:=fun k hk=>by
   have:=(kH hv h he ht').2;unfold hf;rw[hk];exact this
  have hlt:=R7 hv h he ht';have hle:∀k,k<es.length->fr es s k=fB es s e->low es s e<=low es s k:=fun k hk hf'=>by
   rw[hlt];refine(least_le _ _).2 _ (abT.2 ⟨k,acK.2 ⟨ab1.2 hk,decide_eq_true hf'⟩,rfl⟩)
  have e1:q.1=low es s e:=by
   rw[Ql.1,hlt];refine AW (fun y hy=> ?_) (fun y hy=> ?_)
   .rw[<-hlt]
    obtain⟨k,hk,hf',hy⟩:=(hmem y).1 hy;have h1:=hle k hk hf';have h2:=(Io es s k).1;rcases hy with rfl|rfl<;>omega
   .obtain⟨k,hk,rfl⟩:=abT.1 hy
    obtain⟨hk1,hk2⟩:=acK.1 hk;exact(least_le _ _).2 _ ((hmem _).2 ⟨k,ab1.1 hk1,of_decide_eq_true hk2,.inl rfl⟩)
  have e2:q.2=cK es s e:=by
   rw[Ql.2,e1];unfold cK;refine AW (fun y hy=> ?_) (fun y hy=> ?_)
   .obtain⟨hy1,hy2⟩:=acK.1 hy
    have hy3:low es s e<y:=of_decide_eq_true hy2;obtain⟨k,hk,hf',hy⟩:=(hmem y).1 hy1;have anF:=hfk k hf';have eO:=least_le (hf es s e) ((hs es s e).filter fun x=>decide (low es s e<x));by_cases hge:hf es s e<=y
    .have:=eO.1
     omega
    .have hin:y∈hs es s k:=by
      rcases hy with rfl|rfl
      .rcases Kq (es:=es) (s:=s) k with h1|h1
       .omega
       .exact h1
      .rcases qE (es:=es) (s:=s) k with h1|h1
       .omega
       .exact h1.1
     exact eO.2 y (acK.2 ⟨U0 hv h he ht' hk hf' hin (by omega),hy2⟩)
   .obtain⟨hy1,hy2⟩:=acK.1 hy
    have hy3:low es s e<y:=of_decide_eq_true hy2;obtain⟨k,hk,hf',hin⟩:=acV hv h he ht' hy1;have eO:=least_le (hf es s e) (X.filter fun x=>decide (low es s e<x));have hk1:low es s k<=y:=(least_le _ _).2 y hin;have hk0:=hle k hk hf';by_cases hgt:low es s e<low es s k
    .have:=eO.2 (low es s k) (acK.2 ⟨(hmem _).2 ⟨k,hk,hf',.inl rfl⟩,decide_eq_true hgt⟩)
     omega
    .have hk2:cK es s k<=y:=(least_le _ _).2 y (acK.2 ⟨hin,decide_eq_true (by omega)⟩)
     have hyk:=acW hv h hk y hin;have hk3:low es s k<cK es s k:=by
      rcases qE (es:=es) (s:=s) k with h1|h1
      .omega
      .exact h1.2
     have:=eO.2 (cK es s k) (acK.2 ⟨(hmem _).2 ⟨k,hk,hf',.inr rfl⟩,decide_eq_true (by omega)⟩);omega
  exact Prod.ext e1 e2
end
end Lo
end
section
open Go.Proofs.Tryz
open Go.RowKit Go.Shelf
attribute [local go_sem] Oper.semAt_some
def fT (n:Nat):List Nat:=(List.range n).reverse
theorem oF (n:Nat):(fT n).length=n:=by simp[fT]
theorem Af {n k:Nat} (h:k<n):(fT n)[k]? =some (n-1-k):=by
 unfold fT;rw[ad4 (by simpa using h),ae8,adR (by omega)]
theorem Er {n x:Nat} {pre:List Nat} (h:pre++[x] <+: fT n):pre.length<n/\x=n-1-pre.length:=by
 obtain⟨r,hr⟩:=h;have hl:=congrArg List.length hr;rw[oF] at hl;simp at hl;have hlt:pre.length<n:=by omega
 have:=Af hlt;rw[<-hr] at this;simp at this;exact⟨hlt,this⟩
abbrev QF (l:List Int) (k:Nat):Array Value:= #[.int .i64 (k:Int),.int .i64 (Df.at_ l k)]
def Av (ao:Option Addr) (n c:Nat) (w:World) (e:Ending) (w':World):Prop:=
 ∃Bs,e= .returned (.func (.func 96) #[] #[.pointer (some ⟨Bs,0,none⟩)])/\w.heap.size<=Bs/\Boxed w' Bs 27 (.slice ao n c)/\Below w.heap.size w w'
theorem wF (ao:Option Addr) (n c:Nat) (w:World):Calls prog 77 #[.slice ao n c] w (Av ao n c w):=by
 go_enter func77,ntmps77;go_wp2;go_ret;exact⟨w.heap.size,rfl,aad _,aer w _ _,(aae _ _).alloc (aad _) _⟩
theorem WX (Bs n₀ c n:Nat) (S:Nat->Prop) (ao:Option Addr) (l:List Int) (hn:n<=8388608) (w:World) (hS:¬S Bs) (hB:Boxed w Bs 27 (.slice ao n c))
 (hc:∀i,i<n->∃b o,ao=some ⟨b,o,none⟩/\∀W,Below n₀ w W->W.cell? ⟨b,o+i,none⟩=some (.int .i64 (Df.at_ l i))) (hn₀:n₀<=w.heap.size):
 xI prog 96 #[.pointer (some ⟨Bs,0,none⟩)] (QF l) n₀ S (fT n) w 0:=by
 intro lp J Jx W hW _ _ _ hY h0;have jE:Boxed W Bs 27 (.slice ao n c):=(hW.block Bs hB.lt).trans hB;have hb0:=jE.cell;have dJ:Below n₀ w W:=hW.mono hn₀;clear hB hW;refine(callsIn_wide (n:=5)).1 ?_;refine callsIn_of_wp func96 rfl trivial ?_ rfl;simp only[ntmps96,adO,abS,acY,Nat.reduceAdd,Nat.reduceSub,adB,adC,adP,adF,acs,acZ];have hn1:(n:Int)<=8388608:=by omega
 gi_wp2
 gi_loopw [3] (fun i wr=>∃k:Nat,k<=n/\i= .int .i64 ((n:Int)-1-(k:Int))/\J ((fT n).take k) wr/\dc n₀ S W wr/\W.heap.size<=wr.heap.size) (fun i _=>((intOf i)+1).toNat)
 case atStart=>exact⟨0,ab6 _,by go_num,by simpa using h0,dc.refl _ _ _,aad _⟩
 case round=>
  obtain⟨k,hk,rfl,hJs,jd,hsz⟩:=hrel;by_cases hlt:k<n
  .obtain⟨x,hx⟩:∃x:Nat,(n:Int)-1-(k:Int)=(x:Int):=⟨n-1-k,by omega⟩
   have o7:x<n:=by omega
   obtain⟨b,o,rfl,hcz⟩:=hc x o7;have hb1:wr.cell? ⟨Bs,0,none⟩=some (.slice (some ⟨b,o,none⟩) n c):=jd.cell hb0 hS;have hc1:=hcz wr (dJ.trans jd.1);have hat:(fT n)[k]? =some x:=by rw[Af hlt];congr 1;omega
   obtain⟨fn,tmps,assign,body,hy,hR⟩:=hY ((fT n).take k) x wr (zB hat) hJs (by omega) 4;have vU:(fT n).take (k+1)=(fT n).take k++[x]:=by
    rw[ade,hat];rfl
   obtain⟨z,hz⟩:∃z,Df.at_ l x=z:=⟨_,rfl⟩;rw[hx];unfold QF at hy;rw[hz] at hc1 hy;have x0:(0:Int)<=(x:Int):=by omega
   have x1:(x:Int)<(n:Int):=by omega
   have x2:(x:Int)-1=(n:Int)-1-((k+1:Nat):Int):=by omega
   have mW:=ζ vU;have HJ:=ζ hJs;have kD:=ζ jd;have ER:=ζ hsz;have Xw:=ζ x2;clear vU hJs jd hY hcz hz hsz hat hx hc x2
   gi_wp2
   refine hR.mono ?_;rintro e W3 ⟨pX,(⟨rfl,hJ3,hk3⟩|⟨rfl,hJx3⟩)⟩
   .have EX:=ζ hJ3
    have xL:=ζ hk3;have xK:=ζ pX.size;clear hJ3 hk3 pX
    gi_wp2
    go_roundw
    case rel=>exact⟨k+1,by omega,by rw[<-Xw.out],by rw[mW.out];exact EX.out,kD.out.trans xL.out,acA ER.out xK.out⟩
    case measure=>simp[intOf]
   .have Mp:=ζ hJx3
    clear hJx3
    gi_wp2
    refine bodyPost_ret (results_none rfl _ _ _) rfl ?_;exact⟨⟨_,rfl⟩,.inr ⟨_,by rw[<-mW.out];exact afh _ _,Mp.out⟩⟩
  .have KZ:k=n:=by omega
   subst KZ;have hm:(k:Int)-1-(k:Int)= -1:=by omega
   have HJ:Hid (J (fT k) wr):=by
    show J (fT k) wr;rw[acL (by rw[oF];exact aad _)] at hJs;exact hJs
   rw[hm];clear hJs jd hY hc hm
   gi_wp2
   go_end0
   exact⟨⟨_,rfl⟩,.inl HJ.out⟩
namespace Lo
open Df
section
variable {n:Nat} {es:List (Int×Int)} {s:St}
def places (n:Nat) (s:St):List Int:=(List.range n).map fun v:Nat=>((s.ord.idxOf (v:Int):Nat):Int)
theorem YU (h:VF n es s) {a:Nat} (ha:a<n):s.ord.idxOf (at_ s.ord a)=a:=by
 have hl:=h.lens.2.2.1;have hnd:s.ord.Nodup:=by
  refine acP.2 fun i j hi hj hij e=> ?_
  have hj':j<n:=by omega
  have:=(h.once j hj').2 i hij;apply this;unfold at_;rw[aag,aag,aac hi,aac hj,e]
 have e:at_ s.ord a=s.ord[a]'(by omega):=by
  unfold at_;rw[aag,aac (by omega)];rfl
 rw[e];exact hnd.idxOf_getElem a (by omega)
theorem wS (h:VF n es s):jM n s (places n s):=by
 refine⟨by simp[places],fun a ha=> ?_⟩;have hb:=(h.once a ha).1;obtain⟨v,hv⟩:∃v:Nat,at_ s.ord a=(v:Int):=⟨(at_ s.ord a).toNat,by omega⟩;rw[hv,ach];unfold places;unfold at_;rw[aag,abU,adR (by omega)];show((s.ord.idxOf (v:Int):Nat):Int)=(a:Int);rw[<-hv,YU h ha]
theorem O2 (h:VF n es s) {a b u v:Nat} (ha:a<n) (hb:b<n) (hu:at_ s.ord a=(u:Int)) (hv:at_ s.ord b=(v:Int)) (VS:bP es s u v):a<=b:=by
 obtain⟨⟨W,B⟩,hs'⟩:=h.side;have hu':=(h.once a ha).1;have hv':=(h.once b hb).1;have:=((xH h.once hs' (wS h) (u:=u) (v:=v) (by omega) (by omega)).2 VS).1;have p1:=(wS h).2 a ha;have p2:=(wS h).2 b hb;rw[hu,ach] at p1;rw[hv,ach] at p2;omega
theorem JM (hv:Si.Val n es) (h:VF n es s) {e:Nat} (he:e<es.length) (ht':tree es s e=true) {a b:Nat} (ha:a<n) (hb:b<n) (hu:at_ s.ord a=(fr es s e:Int)) (hw:at_ s.ord b=(fB es s e:Int)):a<b:=by
 have cG:=ct hv h he;have hne:=qP hv h he;have VS:bP es s (fr es s e) (fB es s e):=by
  obtain⟨⟨W,B⟩,hs'⟩:=h.side;obtain⟨Y,hw,_,_⟩:=kF (es:=es) h.once hs' cG.2;exact sD hw aai (kH hv h he ht').1 (by omega)
 have:=O2 h ha hb hu hw VS;rcases adn a b with h1|h1
 .exact h1
 .have:a=b:=by omega
  subst this;rw[hu] at hw;omega
end
end Lo
end
end Go.Proofs.YtbhdibflpjhpaaaGreat
