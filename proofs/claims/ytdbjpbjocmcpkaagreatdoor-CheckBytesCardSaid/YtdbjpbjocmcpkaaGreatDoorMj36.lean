import Derived.Test.YtdbjpbjocmcpkaaGreatDoorMj35
import Derived.Test.YtdbjpbjocmcpkaaGreatDoorMj34
set_option maxHeartbeats 16000000
set_option maxRecDepth 100000
namespace Go.Proofs.YtdbjpbjocmcpkaaGreatDoor
section
open Go.Proofs.Tryz
open Go.RowKit Go.Sort
def Co.zB (n:Nat) (es:List (Int×Int)):Nat->Nat:=Co.joins n es (fun x=>x)
theorem Co.KN (n:Nat) (es:List (Int×Int)):Co.Gen n es (Co.zB n es):=Co.wz n es
def JE (n:Int) (es:List (Int×Int)) (w:World) (e:Ending) (w':World):Prop:=
 ((∃(m:Nat) (v:Value),n=(m:Int)/\Si.Val n es/\e= .returned (.tuple #[v,.int .i64 (Co.cnt m (Co.zB m es):Int),.int .i64 0])/\ak w' w.heap.size v (Co.ints m (Co.num (Co.zB m es))))\/(Si.valid n es=false/\e= .returned (.tuple #[.slice none 0 0,.int .i64 0,.int .i64 1])))/\Below w.heap.size w w'
theorem XP (n:Int) (ao:Option Addr) (cap:Nat) (es:List (Int×Int)) (w:World) (he:ah w ao es) (hl:es.length<=4611686018427387904):
 Calls prog 258 #[aB n ao es.length cap] w (JE n es w):=by
 have HE:=ζ he;have kG:=fun W (hb:Below w.heap.size w W)=>qj n ao cap es W (he.later hb) hl
 unfold aB at kG ⊢;have dM:=ζ kG;clear he kG;have eA:Below w.heap.size w (w.alloc (.cells #[.int .i64 n,.slice ao es.length cap] 24)):=(aaG _ _).alloc (aaF _) _;have bZ:=ζ eA;clear eA;cases hv:Si.valid n es with
 |false=>
  rw[hv] at dM;have HV:=ζ hv;clear hv;go_enter func258,ntmps258;go_wp2_with (go_at_call 38;refine(dM.out _ bZ.out).mono ?_;rintro e w' ⟨rfl,hb⟩;refine aaI ?_);refine ζ ?_;have HB:=ζ (bZ.out.trans (hb.mono bZ.out.size));clear hb;go_wp2
  go_ret3
  exact⟨.inr ⟨HV.out,rfl⟩,HB.out⟩
 |true=>
  rw[hv] at dM;have hval:=Si.aL.1 hv;have bV:=hval.few;have hlo:=hval.lo;have hhi:=hval.hi;obtain⟨m,rfl⟩:∃m:Nat,n=(m:Int):=⟨n.toNat,by omega⟩;have cC:=ζ hval;clear hval hv;have rG:=ζ (fun W=>Uj (m:Int) W);go_enter func258,ntmps258;go_wp2_with (go_at_call 38;refine(dM.out _ bZ.out).mono ?_;rintro e w' ⟨rfl,hb⟩;refine aaI ?_);refine ζ ?_;have hG:w'.heap[w.heap.size]? =some (.cells #[.int .i64 m,.slice ao es.length cap] 24 (0,0)):=(hb.block _ (by simp)).trans (heap_alloc_new w _);have HB:=ζ (bZ.out.trans (hb.mono bZ.out.size));have pP:=lt_of_block hG;have HG:=ζ hG;obtain⟨g0,g1,-⟩:=af hG;clear hb hG dM;have hnew:=(rG.out w').mono (R':=fun e W=>∃p gp gt:Nat,e= .returned (.tuple #[.pointer (some ⟨p,0,none⟩),.int .i64 0])/\(gG W p gp gt m (fun x=>x)/\w'.heap.size<=p/\w'.heap.size<=gp/\w'.heap.size<=gt)/\Below w'.heap.size w' W) (by
   rintro e W ⟨⟨k,p,gp,gt,h1,h2,h3,h4⟩|⟨h1,_⟩,hb⟩
   .obtain rfl:m=k:=by omega
    exact⟨p,gp,gt,h3,h4,hb⟩
   .omega)
  have HN:=ζ hnew;clear hnew rG;go_wp2_with (go_at_call 287;refine HN.out.mono ?_;rintro e w2 ⟨p,gp,gt,rfl,hs,hb2⟩;have FY:=ζ hs;have aA:=ζ hb2;clear hs hb2;refine aaI ?_);refine ζ ?_;obtain⟨hs0,b1,b2,b3⟩:=FY.out;have k1:=(aA.out.cell (p:=⟨w.heap.size,1,none⟩) pP).trans g1;have rH:=ζ (HB.out.trans (aA.out.mono HB.out.size));have hsw:=HB.out.size;have HQ0:Hid (nJ w2 (some (p,gp,gt)) m (fun x=>x)):=hs0;clear hs0 HN g0 g1 FY;go_wp2;go_loopw [21] (fun c wr=>∃k:Nat,k<=es.length/\c= .int .i64 (k:Int)/\nJ wr (some (p,gp,gt)) m (Co.zB m (es.take k))/\Below w.heap.size w wr) (fun c _=>es.length-(intOf c).toNat)
  case atStart=>exact⟨0,aaR _,rfl,HQ0.out,rH.out⟩
  case round=>
   obtain⟨k,hk,rfl,hQ,hb⟩:=hrel;have HQ:=ζ hQ;have HBR:=ζ hb;by_cases hlt:k<es.length
   .have aP:(k:Int)<(es.length:Int):=by omega
    have hk0:(0:Int)<=(k:Int):=by omega
    obtain⟨q,hq⟩:∃q,es[k]? =some q:=⟨_,aaE hlt⟩;obtain⟨b,o,rfl,c0,c1⟩:=(HE.out.later hb) k q hq;have hbl:b<wr.heap.size:=block_lt_of_cell c0;have hb3:Below w.heap.size w (wr.alloc (.cells #[.int .i64 q.1,.int .i64 q.2] 66)):=hb.alloc hb.size _;have hj:=Sc (some (p,gp,gt)) m (Co.zB m (es.take k)) q.1 q.2 _ (hQ.later ((aaG _ _).alloc (aaF _) (.cells #[.int .i64 q.1,.int .i64 q.2] 66)));have hend:∀e w3,mQ (some (p,gp,gt)) m (Co.zB m (es.take k)) q.1 q.2 (wr.alloc (.cells #[.int .i64 q.1,.int .i64 q.2] 66)) e w3->(∃t,e= .returned (.bool t))/\nJ w3 (some (p,gp,gt)) m (Co.zB m (es.take (k+1)))/\Below w.heap.size w w3:=by
     rintro e w3 ⟨h1,h2,h3⟩;refine⟨⟨_,h1⟩,?_,hb3.trans (h3.below hb3.size ?_)⟩
     .rw[Si.fR hq]
      unfold Co.zB;rw[Co.A4];exact h2
     .rintro x (rfl|rfl|rfl)<;>omega
    have HJ:=ζ (hj.mono hend);clear hj hend hQ hb hb3 hq;unfold xu at HJ;go_wp2_with (go_at_call 288;refine HJ.out.mono ?_;rintro e w3 ⟨⟨t,rfl⟩,h2,h3⟩;have H2:=ζ h2;have H3:=ζ h3;clear h2 h3;refine aaI ?_);refine ζ ?_;go_wp2;go_roundw
    case rel=>exact⟨k+1,by omega,by go_num,H2.out,H3.out⟩
    case measure=>simp[intOf];omega
   .have hd:¬((k:Int)<(es.length:Int)):=by omega
    rw[abn (by omega)] at hQ;have dr:=Fl _ m _ wr hQ.is;have Vu:=fun W (hb:Below wr.heap.size wr W)=>Pj _ m _ W (hQ.later hb).is
    unfold xu at dr Vu;have Q2:=ζ dr;have ag9:=ζ Vu;have hwr:=hb.size;clear hQ hb dr Vu HQ;go_wp2_with (first|(go_at_call 289;refine Q2.out.mono ?_;rintro e w4 ⟨v,rfl,h4,hb4⟩;have H4:=ζ h4;have cZ:=ζ hb4;clear h4 hb4)|(go_at_call 290;refine(ag9.out _ cZ.out).mono ?_;rintro e w5 ⟨rfl,Sq⟩;obtain rfl:=Sq.symm))
    go_ret3
    exact⟨.inl ⟨m,v,rfl,cC.out,rfl,H4.out.lower hwr⟩,HBR.out.trans (cZ.out.mono hwr)⟩
end
section
open Go.Proofs.Tryz
open Go.RowKit Go.Maps
theorem aV.low {W U:World} {b:Nat} {ao:Option Addr} {l:List Int} (h:aV W ao l) (hb:∀x,ao=some x->x.block<b) (hB:Below b W U):aV U ao l:=fun j x hj=>by
 obtain⟨k,o,e,hc⟩:=h j x hj;refine⟨k,o,e,?_⟩;have:=hb _ e;rw[<-hc];simp only[World.cell?];rw[hB.block k this]
theorem Oh (c:Int) (W:World):(Instr.makeMap 311 (some (.int .i64 c))).run prog W= .ok (.map (some W.heap.size)) (W.alloc (.map #[] 0)):=by
 simp[Instr.makeMap,run_underlying Tryz.underlying311,asInt,asIntOf,Result.andThen]
theorem PM.made (W:World):PM (W.alloc (.map #[] 0)) W.heap.size 0 (fun _=>false) (fun _=>0) (fun _=>0) (fun _=>0):=by
 refine⟨.map [],adZ W _ _ _,fun j=>rfl,fun kl=> ?_⟩;constructor
 .intro h;cases h
 .rintro⟨j,_,h⟩;cases h
namespace Fa
open Co
theorem Cy (F:Nat->Nat) (k:Nat):(Co.upd (fun j=>aC (fun v=>decide (F v=j)) k) (F k) (aC (fun v=>decide (F v=F k)) k+1))=fun j=>aC (fun v=>decide (F v=j)) (k+1):=by
 funext j;show _=aC (fun v=>decide (F v=j)) k+if decide (F k=j)=true then 1 else 0
 by_cases e:j=F k
 .rw[e,Co.upd_same]
  simp
 .rw[Co.aX _ e,if_neg]
  .rfl
  .simp
   exact fun h=>e h.symm
theorem pq (x:Nat->Nat) (j:Nat):Co.upd x j (x j+0)=x:=by
 funext i;by_cases e:i=j
 .rw[e,Co.upd_same]
  rfl
 .rw[Co.aX _ e]
theorem Ao {hs:Nat->Bool} {j:Nat} (h:hs j=true):Co.fZ hs j true=hs:=by
 funext i;by_cases e:i=j
 .rw[e,Co.fQ,h]
 .rw[Co.dS _ e]
end Fa
def QX (N:Nat) (es:List (Int×Int)) (fs:List (List Nat)) (w:World) (e:Ending) (w':World):Prop:=
 ∃b n,e= .returned (.map (some b))/\w.heap.size<=b/\n<=13631488/\PM w' b n (fun j=>decide (j<Co.cnt N (Fa.cp N es))) (fun j=>Fa.cV N es j N) (fun j=>Fa.cE N es j es.length) (fun j=>Fa.zF N es fs j fs.length)/\Below w.heap.size w w'
theorem IK (N:Nat) (ao:Option Addr) (ca:Nat) (es:List (Int×Int)) (fo:Option Addr) (fc K:Nat) (fs:List (List Nat)) (w:World) (he:ah w ao es) (hv:Si.Val N es) (hf:bH w fo (fs.map Fa.zl)) (hK:fs.length=K) (VI:K<=8388608) (hne:∀l∈fs,l≠[]/\Fa.hd l<2*es.length):
 Calls prog 206 #[aB (N:Int) ao es.length ca,.slice fo K fc] w (QX N es fs w):=by
 have bV:=hv.few;have hhi:=hv.hi;have hn:=(Fa.Cg (N:=N) (es:=es)).norm;have hb0:Below w.heap.size w (w.alloc (.cells #[.int .i64 (N:Int),.slice ao es.length ca] 24)):=(aaG _ _).alloc (aaF _) _;have Ty:=ζ (XP (N:Int) ao ca es _ (he.later hb0) (by omega));have jX:=ζ (heap_alloc_new w (.cells #[.int .i64 (N:Int),.slice ao es.length ca] 24));have aI:=ζ hb0;have HE:=ζ he;have HV:=ζ hv;have HF:=ζ hf;have HN:=ζ hn;have nU:=ζ hne;have PO:=ζ hK;have hmk:=Oh;unfold aB at Ty ⊢;clear he hf hb0 hn hne hv hK;go_enter func206,ntmps206;go_wp2_with (go_at_call 258;refine Ty.out.mono ?_;intro e w1 hp;obtain⟨⟨m1,ov,hmn,-,rfl,U0⟩|⟨hc,-⟩,hb1⟩:=hp<;>refine aaI ?_)
 all_goals (first|(exact absurd (Si.aL.2 HV.out) (by rw[hc];simp))|skip)
 refine ζ ?_;have hm1:m1=N:=by omega
 subst hm1;obtain⟨oo,oc,U5,hoa,hob⟩:=U0.form;have hol:(Co.ints m1 (Co.num (Co.zB m1 es))).length=m1:=by simp[Co.ints]
 rw[hol] at U5;subst U5;have U6:w1.heap[w.heap.size]? =some (.cells #[.int .i64 (m1:Int),.slice ao es.length ca] 24 (0,0)):=(hb1.block _ (lt_of_block jX.out)).trans jX.out;have j5:=ζ (aI.out.trans (hb1.mono aI.out.size));obtain⟨W2,hW2⟩:∃W2,W2=w1.alloc (.map #[] 0):=⟨_,rfl⟩;have hb2:Below w1.heap.size w1 W2:=by rw[hW2];exact(aaG _ _).alloc (aaF _) _
 have hs2:w1.heap.size<W2.heap.size:=by rw[hW2];simp
 have hs1:=j5.out.size;have agu:Hid (PM W2 w1.heap.size 0 (fun _=>false) (fun _=>0) (fun _=>0) (fun _=>0)):=by rw[hW2];exact PM.made w1
 have rH:=ζ (j5.out.trans (hb2.mono j5.out.size));have jE:Hid (∀U,Below w1.heap.size W2 U->aV U oo (Co.ints m1 (Co.num (Fa.cp m1 es)))/\U.heap[w.heap.size]? =some (.cells #[.int .i64 (m1:Int),.slice ao es.length ca] 24 (0,0))/\Below w.heap.size w U):=fun U hU=>by
  have h2:=hb2.trans hU;refine⟨hoa.low (fun x hx=>(hob x hx).2) h2,(h2.block _ (lt_of_block U6)).trans U6,?_⟩;exact j5.out.trans (h2.mono hs1)
 have FX:=ζ hW2;clear U0 hoa hob hb1 U6 hb2 hmn hol;go_wp2;rw[<-FX.out];clear hmk hW2;go_loopw [25] (fun c wr=>∃(k n:Nat),k<=m1/\n<=k/\c= .int .i64 (k:Int)/\PM wr w1.heap.size n (fun j=>decide (0<Fa.cV m1 es j k)) (fun j=>Fa.cV m1 es j k) (fun _=>0) (fun _=>0)/\Below w1.heap.size W2 wr) (fun c _=>m1-(intOf c).toNat)
 case atStart=>exact⟨0,0,aaR _,aaR _,rfl,by simpa[Fa.cV,Co.aC] using agu.out,aaG _ _⟩
 case round=>
  obtain⟨k,n,hk,hnk,rfl,hP,hb⟩:=hrel;obtain⟨W0,rfl⟩:∃W0,W0=wr:=⟨_,rfl⟩;obtain⟨hint,jD,dA⟩:=jE.out W0 hb;have HP:=ζ hP;have HB:=ζ hb;have hwk:IntKind.i64.wrap ((k:Int)+1)=(k:Int)+1:=by rw[aaK];omega
  by_cases hlt:k<m1
  .have aP:(k:Int)<(m1:Int):=by omega
   have hk0:(0:Int)<=(k:Int):=by omega
   have hat:(Co.ints m1 (Co.num (Fa.cp m1 es)))[k]? =some (Co.num (Fa.cp m1 es) k:Int):=by simp[Co.ints,hlt]
   obtain⟨b,o,rfl,hc⟩:=hint k _ hat;have hnl:=Fa.B8 HN.out hlt;have hcl:=Co.bM (Co.fix (Fa.cp m1 es)) m1;have hxl:Fa.cV m1 es (Co.num (Fa.cp m1 es) k) k<=k:=Co.bM _ _;have Bv:=ζ (ED w1.heap.size n _ _ _ _ (Co.num (Fa.cp m1 es) k) 1 0 0 W0 hP (by omega) (by omega) (by omega) (by omega) (by omega));have HU:Hid (Co.upd (fun j=>Fa.cV m1 es j k) (Co.num (Fa.cp m1 es) k) (Fa.cV m1 es (Co.num (Fa.cp m1 es) k) k+1)=fun j=>Fa.cV m1 es j (k+1)):=Fa.Cy (Co.num (Fa.cp m1 es)) k;have HH:Hid (Co.fZ (fun j=>decide (0<Fa.cV m1 es j k)) (Co.num (Fa.cp m1 es) k) true=fun j=>decide (0<Fa.cV m1 es j (k+1))):=by
    funext j;have e1:Fa.cV m1 es j (k+1)=Fa.cV m1 es j k+if decide (Co.num (Fa.cp m1 es) k=j)=true then 1 else 0:=rfl
    by_cases e:j=Co.num (Fa.cp m1 es) k
    .rw[e,Co.fQ,<-e,e1,<-e]
     simp
    .rw[Co.dS _ e,e1,if_neg (by simp;exact fun h=>e h.symm)]
     rfl
   obtain⟨q,hq⟩:∃q,q=Co.num (Fa.cp m1 es) k:=⟨_,rfl⟩;rw[<-hq] at hc Bv HU HH;clear hP hint jD dA hat hnl hcl hxl hq hb;go_wp2_with (go_at_call 259;refine Bv.out.mono ?_;rintro e w3 ⟨rfl,x8,hw3⟩;refine aaI ?_);refine ζ ?_;have WG:Hid (PM w3 w1.heap.size (n+1) (fun j=>decide (0<Fa.cV m1 es j (k+1))) (fun j=>Fa.cV m1 es j (k+1)) (fun _=>0) (fun _=>0)):=by
    have h3:=x8;rw[HU.out,HH.out,Fa.pq (fun _=>0) q] at h3;exact h3
   have aK:Hid (Below w1.heap.size W2 w3):=HB.out.trans (hw3.below (by have:=HB.out.size;omega) (fun k hk=>by omega));clear x8 hw3;go_wp2;go_roundw
   case rel=>exact⟨k+1,n+1,by omega,by omega,by go_num,WG.out,aK.out⟩
   case measure=>simp[intOf];omega
  .have hd:¬(k:Int)<(m1:Int):=by omega
   have hkm:k=m1:=by omega
   subst hkm;have HS:Hid ((fun j=>decide (0<Fa.cV k es j k))=fun j=>decide (j<Co.cnt k (Fa.cp k es))):=by
    funext j;rw[ace,decide_eq_true_iff,decide_eq_true_iff];exact Fa.YN
   rw[HS.out] at hP;have q7:=ζ hP;obtain⟨x0,x1,-⟩:=af jD;clear hP hint jD dA hb;go_wp2;clear x0 x1;go_loopw [37] (fun c wr=>∃(i n:Nat),i<=es.length/\n<=k+i/\c= .int .i64 (i:Int)/\PM wr w1.heap.size n (fun j=>decide (j<Co.cnt k (Fa.cp k es))) (fun j=>Fa.cV k es j k) (fun j=>Fa.cE k es j i) (fun _=>0)/\Below w1.heap.size W2 wr) (fun c _=>es.length-(intOf c).toNat)
   case atStart=>exact⟨0,n,aaR _,by omega,rfl,by simpa[Fa.cE,Co.aC] using q7.out,HB.out⟩
   case round=>
    obtain⟨i,n,hi,hni,rfl,hP,hb⟩:=hrel;obtain⟨W1,rfl⟩:∃W1,W1=wr:=⟨_,rfl⟩;obtain⟨hint,jD,dA⟩:=jE.out W1 hb;have HP:=ζ hP;have Xo:=ζ hb;have hwi:IntKind.i64.wrap ((i:Int)+1)=(i:Int)+1:=by rw[aaK];omega
    by_cases hlt:i<es.length
    .have aP:(i:Int)<(es.length:Int):=by omega
     have nS:(0:Int)<=(i:Int):=by omega
     obtain⟨p,hp⟩:∃p,es[i]? =some p:=⟨_,aaE hlt⟩;obtain⟨be,oe,rfl,MO,V0⟩:=(HE.out.later dA) i p hp;have hok:=HV.out.each i p hp;unfold Si.ok at hok;obtain⟨pu,pv⟩:=p;dsimp only at MO V0 hok;obtain⟨u,rfl⟩:∃u:Nat,pu=(u:Int):=⟨pu.toNat,by omega⟩;have UI:u<k:=by omega
     have hfr:Cs.fr es (2*i)=u:=by rw[(Cs.dQ hp).1];simp
     have hat:(Co.ints k (Co.num (Fa.cp k es)))[u]? =some (Co.num (Fa.cp k es) u:Int):=by simp[Co.ints,UI]
     obtain⟨b,o,rfl,hc⟩:=hint u _ hat;have hnl:=Fa.B8 HN.out UI;have hcl:=Co.bM (Co.fix (Fa.cp k es)) k;have hxl:Fa.cE k es (Co.num (Fa.cp k es) u) i<=i:=Co.bM _ _;have vZ:Fa.cV k es (Co.num (Fa.cp k es) u) k<=k:=Co.bM _ _;have Bv:=ζ (fun W hW=>ED w1.heap.size n _ _ _ _ (Co.num (Fa.cp k es) u) 0 1 0 W (hP.kept hW) (by omega) (by omega) (by omega) (by omega) (by omega));have HU:Hid (Co.upd (fun j=>Fa.cE k es j i) (Co.num (Fa.cp k es) u) (Fa.cE k es (Co.num (Fa.cp k es) u) i+1)=fun j=>Fa.cE k es j (i+1)):=by
      have:=Fa.Cy (fun e=>Co.num (Fa.cp k es) (Cs.fr es (2*e))) i;simp only[hfr] at this;exact this
     have HH:Hid (Co.fZ (fun j=>decide (j<Co.cnt k (Fa.cp k es))) (Co.num (Fa.cp k es) u) true=fun j=>decide (j<Co.cnt k (Fa.cp k es))):=Fa.Ao (by rw[decide_eq_true_iff];exact hnl);obtain⟨q,hq⟩:∃q,q=Co.num (Fa.cp k es) u:=⟨_,rfl⟩;rw[<-hq] at hc Bv HU HH;obtain⟨x0,x1,-⟩:=af jD;have u0:(0:Int)<=(u:Int):=by omega
     have u1:(u:Int)<(k:Int):=by omega
     clear hP hint jD dA hat hnl hcl hxl vZ hq hb hp hfr hok;have kK:=block_lt_of_cell MO;have LZ:=block_lt_of_cell hc;have YT:Hid (∀W,Below W1.heap.size W1 W->Calls prog 259 #[.map (some w1.heap.size),.int .i64 (q:Int),.agg #[.int .i64 0,.int .i64 1,.int .i64 0]] W fun e w'=>e= .returned (.tuple #[])/\PM w' w1.heap.size (n+1) (fun j=>decide (j<Co.cnt k (Fa.cp k es))) (fun j=>Fa.cV k es j k) (fun j=>Fa.cE k es j (i+1)) (fun _=>0)/\Below w1.heap.size W2 w'):=fun W hW=>by
      refine(Bv.out W (hW.block _ HP.out.lt)).mono ?_;rintro e w' ⟨rfl,x8,hw3⟩;refine⟨rfl,?_,?_⟩
      .rw[HU.out,HH.out,Fa.pq (fun j=>Fa.cV k es j k) q,Fa.pq (fun _=>0) q] at x8
       exact x8
      .have h1:=Xo.out.trans (hW.mono (by have:=Xo.out.size;omega))
       exact h1.trans (hw3.below (by have:=h1.size;omega) (fun k hk=>by omega))
     go_wp2_with (go_at_call 259;refine(YT.out _ ((aaG _ _).alloc (aaF _) _)).mono ?_;rintro e w3 ⟨rfl,x8,hb3⟩;refine aaI ?_);refine ζ ?_;have WG:=ζ x8;have aK:=ζ hb3;clear x8 hb3;go_wp2;go_roundw
     case rel=>exact⟨i+1,n+1,by omega,by omega,by go_num,WG.out,aK.out⟩
     case measure=>simp[intOf];omega
    .have hd2:¬(i:Int)<(es.length:Int):=by omega
     have him:i=es.length:=by omega
     have HP2:Hid (PM W1 w1.heap.size n (fun j=>decide (j<Co.cnt k (Fa.cp k es))) (fun j=>Fa.cV k es j k) (fun j=>Fa.cE k es j es.length) (fun _=>0)):=by
      rw[him] at hP;exact hP
     clear hP hint jD dA hb him;go_wp2;go_loopw [52] (fun c wr=>∃(i n:Nat),i<=K/\n<=k+es.length+i/\c= .int .i64 (i:Int)/\PM wr w1.heap.size n (fun j=>decide (j<Co.cnt k (Fa.cp k es))) (fun j=>Fa.cV k es j k) (fun j=>Fa.cE k es j es.length) (fun j=>Fa.zF k es fs j i)/\Below w1.heap.size W2 wr) (fun c _=>K-(intOf c).toNat)
     case atStart=>exact⟨0,n,aaR _,by omega,rfl,by simpa[Fa.zF,Co.aC] using HP2.out,Xo.out⟩
     case round=>
      obtain⟨i,n,hi,hni,rfl,hP,hb⟩:=hrel;obtain⟨W3,rfl⟩:∃W3,W3=wr:=⟨_,rfl⟩;obtain⟨hint,jD,dA⟩:=jE.out W3 hb;have HP:=ζ hP;have aK:=ζ hb;have hwi:IntKind.i64.wrap ((i:Int)+1)=(i:Int)+1:=by rw[aaK];omega
      by_cases hlt:i<K
      .have aP:(i:Int)<(K:Int):=by omega
       have nS:(0:Int)<=(i:Int):=by omega
       obtain⟨l,hlk⟩:∃l,fs[i]? =some l:=⟨_,aaE (by rw[PO.out];exact hlt)⟩;have hlz:(fs.map Fa.zl)[i]? =some (Fa.zl l):=by rw[abj,hlk];rfl
       obtain⟨bf,of,A,C,rfl,FK,hL,-,-,-⟩:=HF.out i _ hlz;obtain⟨hl0,hhd⟩:=nU.out l (aaJ hlk);obtain⟨r,hr⟩:∃r,r=Fa.hd l:=⟨_,rfl⟩;rw[<-hr] at hhd;have hlr:(Fa.zl l)[0]? =some (r:Int):=by
        cases l with
        |nil=>exact absurd rfl hl0
        |cons y l=>rw[hr];rfl
       obtain⟨bl,ol,rfl,hcl⟩:=hL.ints 0 _ hlr;rw[abG] at hcl;have hlp:0<(Fa.zl l).length:=by
        cases l with
        |nil=>exact absurd rfl hl0
        |cons y l=>simp[Fa.zl]
       obtain⟨p,hp⟩:∃p,es[r/2]? =some p:=⟨_,aaE (by omega)⟩;obtain⟨be,oe,rfl,MO,V0⟩:=HE.out (r/2) p hp;have hok:=HV.out.each _ p hp;unfold Si.ok at hok;obtain⟨pu,pv⟩:=p;dsimp only at MO V0 hok;obtain⟨u,rfl⟩:∃u:Nat,pu=(u:Int):=⟨pu.toNat,by omega⟩;have UI:u<k:=by omega
       have hfr:Cs.fr es (2*(r/2))=u:=by rw[(Cs.dQ hp).1];simp
       have dr:Co.num (Fa.cp k es) u=Co.num (Fa.cp k es) (Cs.fr es r):=by
        unfold Co.num;rcases abJ r with h2|h2
        .have e:2*(r/2)=r:=by omega
         rw[<-hfr,e]
        .have e:2*(r/2)=Cs.twin r:=by unfold Cs.twin;rw[if_neg (by omega)];omega
         rw[<-hfr,e,Fa.En HV.out hhd]
       have hat:(Co.ints k (Co.num (Fa.cp k es)))[u]? =some (Co.num (Fa.cp k es) u:Int):=by simp[Co.ints,UI]
       obtain⟨b,o,rfl,hc⟩:=hint u _ hat;have hnl:=Fa.B8 HN.out UI;have afk:=Co.bM (Co.fix (Fa.cp k es)) k;have hxl:Fa.zF k es fs (Co.num (Fa.cp k es) u) i<=i:=Co.bM _ _;have vZ:Fa.cV k es (Co.num (Fa.cp k es) u) k<=k:=Co.bM _ _;have gR:Fa.cE k es (Co.num (Fa.cp k es) u) es.length<=es.length:=Co.bM _ _;have Bv:=ζ (fun W hW=>ED w1.heap.size n _ _ _ _ (Co.num (Fa.cp k es) u) 0 0 1 W (hP.kept hW) (by omega) (by omega) (by omega) (by omega) (by omega));have HU:Hid (Co.upd (fun j=>Fa.zF k es fs j i) (Co.num (Fa.cp k es) u) (Fa.zF k es fs (Co.num (Fa.cp k es) u) i+1)=fun j=>Fa.zF k es fs j (i+1)):=by
        have:=Fa.Cy (fun e=>Co.num (Fa.cp k es) (Cs.fr es (Fa.hd (fs.getD e [])))) i;have e2:fs.getD i []=l:=by rw[aaL,hlk];rfl
        simp only[e2,<-hr,<-dr] at this;exact this
       have HH:Hid (Co.fZ (fun j=>decide (j<Co.cnt k (Fa.cp k es))) (Co.num (Fa.cp k es) u) true=fun j=>decide (j<Co.cnt k (Fa.cp k es))):=Fa.Ao (by rw[decide_eq_true_iff];exact hnl);obtain⟨q,hq⟩:∃q,q=Co.num (Fa.cp k es) u:=⟨_,rfl⟩;rw[<-hq] at hc Bv HU HH;obtain⟨x0,x1,-⟩:=af jD;have u0:(0:Int)<=(u:Int):=by omega
       have u1:(u:Int)<(k:Int):=by omega
       obtain⟨rh,hrh⟩:∃rh,rh=r/2:=⟨_,rfl⟩;have td:(r:Int).tdiv 2=(rh:Int):=by rw[abM (by omega)];omega
       have td2:(r:Int)/2=(rh:Int):=by omega
       have td3:r/2=rh:=hrh.symm;have tw:IntKind.i64.wrap (rh:Int)=(rh:Int):=by rw[aaK];omega
       have rh0:(0:Int)<=(rh:Int):=by omega
       have rh1:(rh:Int)<(es.length:Int):=by omega
       rw[<-hrh] at MO V0;obtain⟨lq,hlq⟩:∃lq,lq=(Fa.zl l).length:=⟨_,rfl⟩;rw[<-hlq] at FK hlp;have lq0:(0:Int)<(lq:Int):=by omega
       have YT:Hid (∀W,Below W3.heap.size W3 W->Calls prog 259 #[.map (some w1.heap.size),.int .i64 (q:Int),.agg #[.int .i64 0,.int .i64 0,.int .i64 1]] W fun e w'=>e= .returned (.tuple #[])/\PM w' w1.heap.size (n+1) (fun j=>decide (j<Co.cnt k (Fa.cp k es))) (fun j=>Fa.cV k es j k) (fun j=>Fa.cE k es j es.length) (fun j=>Fa.zF k es fs j (i+1))/\Below w1.heap.size W2 w'):=fun W hW=>by
        refine(Bv.out W (hW.block _ HP.out.lt)).mono ?_;rintro e w' ⟨rfl,x8,hw3⟩;refine⟨rfl,?_,?_⟩
        .rw[HU.out,HH.out,Fa.pq (fun j=>Fa.cV k es j k) q,Fa.pq (fun j=>Fa.cE k es j es.length) q] at x8
         exact x8
        .have h1:=aK.out.trans (hW.mono (by have:=aK.out.size;omega))
         exact h1.trans (hw3.below (by have:=h1.size;omega) (fun k hk=>by omega))
       have HS:Hid (∀U,Below w1.heap.size W2 U->U.cell? ⟨w.heap.size,1,none⟩=some (.slice (some ⟨be,oe,none⟩) es.length ca)/\U.cell? ⟨bl,ol,none⟩=some (.int .i64 (r:Int))/\U.cell? ⟨be,oe+rh*2,none⟩=some (.int .i64 (u:Int))/\U.cell? ⟨b,o+u,none⟩=some (.int .i64 (q:Int))):=fun U hU=>by
        obtain⟨hint',abU,ZQ⟩:=jE.out U hU;obtain⟨b',o',e',hc'⟩:=hint' u _ hat;cases e';rw[<-hq] at hc';exact⟨(af abU).2.1,(ZQ.cell (p:=⟨bl,ol,none⟩) (block_lt_of_cell hcl)).trans hcl,(ZQ.cell (p:=⟨be,oe+rh*2,none⟩) (block_lt_of_cell MO)).trans MO,hc'⟩
       have akr:=(dA.cell (p:=⟨bf,of+i,none⟩) (block_lt_of_cell FK)).trans FK;have y0:=HS.out W3 hb;have yd:=HS.out W3.drew hb.drew;clear hP hint jD dA hat hnl afk hxl vZ gR hq hb hp hfr hok dr hlk hlz hL hl0 hhd hr hlr hrh hlq;clear FK hcl MO V0 x0 x1 hc;go_wp2_with fail
       go_region_held3 (fun U=>U.cell? ⟨w.heap.size,1,none⟩=some (.slice (some ⟨be,oe,none⟩) es.length ca)/\U.cell? ⟨bl,ol,none⟩=some (.int .i64 (r:Int))/\U.cell? ⟨be,oe+rh*2,none⟩=some (.int .i64 (u:Int))/\U.cell? ⟨b,o+u,none⟩=some (.int .i64 (q:Int)))
        (first|exact yd|exact y0|exact VF)
        ((go_at_call 259;refine(YT.out W3.drew (aaG _ _).drew).mono ?_;rintro e w3 ⟨rfl,x8,hb3⟩;have VF:=HS.out w3 hb3))
       have WG:=ζ x8;have JU:=ζ hb3;clear x8 hb3 VF yd y0 HS YT;go_wp2;go_roundw
       case rel=>exact⟨i+1,n+1,by omega,by omega,by go_num,WG.out,JU.out⟩
       case measure=>simp[intOf];omega
      .have hd3:¬(i:Int)<(K:Int):=by omega
       have hiK:i=K:=by omega
       have HP4:Hid (PM W3 w1.heap.size n (fun j=>decide (j<Co.cnt k (Fa.cp k es))) (fun j=>Fa.cV k es j k) (fun j=>Fa.cE k es j es.length) (fun j=>Fa.zF k es fs j fs.length)):=by
        rw[PO.out];rw[hiK] at hP;exact hP
       have b9:=ζ dA;clear hP hint jD dA hb hiK;go_wp2;go_ret;exact⟨w1.heap.size,n,rfl,hs1,by omega,HP4.out,b9.out⟩
end
section
open Go.Proofs.Tryz
open Go.RowKit Go.Sort
structure eW (w:World) (g n:Nat) (f:Nat->Nat):Prop where
 lt:g<w.heap.size
 cell:∀h,h<n->w.cell? ⟨g,Cs.twin h,none⟩=some (.int .i64 (f h:Int))
 even:n%2=0
 few:n<=8388608
 uG:Fa.kO n f
theorem eW.later {w w':World} {g n:Nat} {f:Nat->Nat} (h:eW w g n f) (hb:Below w.heap.size w w'):eW w' g n f:=
 ⟨by have:=hb.size;have:=h.lt;omega,fun x hx=>(hb.cell (p:=⟨g,Cs.twin x,none⟩) h.lt).trans (h.cell x hx),h.even,h.few,h.uG⟩
theorem eW.same {w w':World} {g n:Nat} {f:Nat->Nat} (h:eW w g n f) (hb:w'.heap[g]? =w.heap[g]?) (hs:g<w'.heap.size):eW w' g n f:=
 ⟨hs,fun x hx=>by rw[<-h.cell x hx];simp only[World.cell?];rw[hb],h.even,h.few,h.uG⟩
def vQ:Value->Nat
 | .slice _ n _=>n
 |_=>0
theorem Mm (g n:Nat) (f:Nat->Nat) (h:Nat) (w:World) (hs:eW w g n f) (hh:h<n):
 Calls prog 291 #[.slice (some ⟨g,0,none⟩) n n,.int .i64 (h:Int)] w fun e w'=>e= .returned (.int .i64 (f h:Int))/\Below w.heap.size w w':=by
 have bV:=hs.few;have hev:=hs.even;have UC:=Cs.mF h (by omega);have hc:=hs.cell h hh;have FB:Cs.twin h<n:=by
  have:=Cs.fC (i:=h) (m:=n/2) (by omega);omega
 obtain⟨t,ht⟩:∃t,t=Cs.twin h:=⟨_,rfl⟩;rw[<-ht] at UC hc FB;have i0:(0:Int)<=(t:Int):=by omega
 have i1:(t:Int)<(n:Int):=by omega
 have HB:=ζ (aaG w.heap.size w);clear hs hh ht FB;go_enter func291,ntmps291;go_wp2;go_ret;exact⟨rfl,HB.out⟩
theorem NQ (g n:Nat) (f:Nat->Nat) (h:Nat) (w:World) (hs:eW w g n f) (hh:h<n):
 Calls prog 260 #[.slice (some ⟨g,0,none⟩) n n,.int .i64 (h:Int)] w (Tq (Fa.zl (Fa.gZ f n h)) w):=by
 obtain⟨p,hp⟩:=Fa.xP hs.uG hh;rw[Fa.pU hp];have HP:=ζ hp;have HS:=ζ hs;have aeK:=hp.le;have bV:=hs.few;have hlt:=fun i=>Pl.nr hs.uG.lt i hh
 have HF:Hid (∀(W:World) (x:Nat),Below w.heap.size w W->x<n->Calls prog 291 #[.slice (some ⟨g,0,none⟩) n n,.int .i64 (x:Int)] W fun e w'=>e= .returned (.int .i64 (f x:Int))/\Below W.heap.size W w'):=fun W x hb hx=>Mm g n f x W (hs.later hb) hx
 have BZ:Hid (ak (w.alloc (.cells #[.int .i64 (h:Int)] 3)) w.heap.size (.slice (some ⟨w.heap.size,0,none⟩) 1 1) (Fa.zl (Fa.way f h 1))):=by
  have:aq (w.alloc (.cells #[.int .i64 (h:Int)] 3)) w.heap.size [(h:Int)]:=heap_alloc_new w _;exact this.own (aaF _) rfl (by omega)
 have hb1:Below w.heap.size w (w.alloc (.cells #[.int .i64 (h:Int)] 3)):=(aaG _ _).alloc (aaF _) _;have aD:=ζ hb1;have lV:=ζ (HF.out _ h hb1 hh);have nN:=ζ hlt;clear hs hh hp hb1 hlt;go_enter func260,ntmps260;go_wp2_with (go_at_call 291;refine lV.out.mono ?_;rintro e w1 ⟨rfl,hb⟩;refine aaI ?_);refine ζ ?_;have mD:=ζ (BZ.out.later hb);have aA:=ζ (aD.out.trans (hb.mono aD.out.size));clear hb;go_wp2;go_loopw [5,6] (fun c5 c6 wr=>∃j:Nat,0<j/\j<=p/\c6= .int .i64 (Pl.it f j h:Int)/\ak wr w.heap.size c5 (Fa.zl (Fa.way f h j))/\Below w.heap.size w wr) (fun c5 _ _=>p-vQ c5)
 case atStart=>exact⟨1,by omega,HP.out.pos,rfl,mD.out,aA.out⟩
 case round=>
  obtain⟨j,hj0,hj,rfl,hO,hb⟩:=hrel;obtain⟨W0,rfl⟩:∃W0,W0=wr:=⟨_,rfl⟩;obtain⟨uo,uc,UJ,-⟩:=hO.form;rw[Fa.l7,Fa.jG] at UJ;subst UJ;have HO:=ζ hO;have HB:=ζ hb;have hsz:=hb.size;obtain⟨y,hy⟩:∃y,y=Pl.it f j h:=⟨_,rfl⟩;have qB:=nN.out j;rw[<-hy] at qB ⊢;have HY:=ζ hy;by_cases e:y=h
  .have hjp:j=p:=by
    rcases abW j p with c|c
    .exact absurd (hy.symm.trans e) (HP.out.first j hj0 c)
    .omega
   have tn:((y:Int) != (h:Int))=false:=by simp[e]
   have HJ:=ζ hjp;clear hO hb hy e hjp;go_wp2;go_ret;exact⟨_,rfl,by rw[<-HJ.out];exact HO.out,HB.out⟩
  .have hjp:j<p:=by
    rcases abW j p with c|c
    .exact c
    .have:j=p:=by omega
     rw[this,HP.out.back] at hy;exact absurd hy e
   have tn:((y:Int) != (h:Int))=true:=by
    have:(y:Int)≠(h:Int):=by omega
    simpa using this
   have HJ:=ζ hjp;clear hO hb hy e hjp;go_wp2_with (at_builtin;refine bu rfl _ _ rfl W0 w.heap.size _ (Fa.zl (Fa.way f h j)) (y:Int) HO.out hsz (by rw[Fa.l7,Fa.jG];omega) rfl rfl ?_;refine aaI ?_);refine ζ ?_;intro v' w3 pQ hg3 gU hb3;have tI:Hid (ak w3 w.heap.size v' (Fa.zl (Fa.way f h (j+1)))):=by
    rw[Fa.zh,<-HY.out];unfold Fa.zl;rw[abt];exact pQ
   have aK:=ζ (HB.out.trans hb3);obtain⟨vo,vc,cG,-⟩:=tI.out.form;rw[Fa.l7,Fa.jG] at cG;subst cG;have Gb:=ζ (HF.out w3 y aK.out qB);clear pQ hg3 gU hb3;go_wp2_with (go_at_call 291;refine Gb.out.mono ?_;rintro e w4 ⟨rfl,hb4⟩;refine aaI ?_);refine ζ ?_;have Nj:=ζ (tI.out.later hb4);have cZ:=ζ (aK.out.trans (hb4.mono aK.out.size));have Vo:f y=Pl.it f (j+1) h:=by rw[Pl.lg,HY.out]
   rw[Vo];clear hb4 Vo;go_wp2;go_roundw
   case rel=>exact⟨j+1,by omega,by have:=HJ.out;omega,rfl,Nj.out,cZ.out⟩
   case measure=>have:=HJ.out;simp[vQ];omega
end
section
open Go.Proofs.Tryz
open Go.RowKit Go.Sort
theorem aG.iX {w:World} {g n:Nat} {f f':Nat->Bool} (h:aG w g n f) (e:∀i,i<n->f i=f' i):aG w g n f':=by
 unfold aG at h ⊢;rw[h]
 congr 2
 unfold Co.bools
 congr 1
 exact abS fun i hi=>by rw[e i (abq.1 hi)]
theorem Pd (g n:Nat) (f:Nat->Nat) (w:World) (hs:eW w g n f):
 Calls prog 207 #[.slice (some ⟨g,0,none⟩) n n] w (Ti (Fa.uq f n) w):=by
 obtain⟨i0,hi,hz0,hz1,hz2⟩:=info_parts Tryz.pO;obtain⟨m,ho⟩:=Fa.og hs.uG;have bV:=hs.few;have Ji:=hs.lt;have HS:=ζ hs;have HO:=ζ ho;have hmk:∀W,(Instr.makeSlice 237 (.int .i64 (n:Int)) (.int .i64 (n:Int))).run prog W= .ok (.slice (some ⟨W.heap.size,0,none⟩) n n) (W.alloc (.cells (madeCells #[.bool false] n) 4)):=fun W=>by
  have:=run_make (P:=prog) W 237 4 i0 (.bool false) Tryz.underlying237 hi hz0 .i64 .i64 (n:Int) (n:Int) (by omega) (acq _) (by rw[hz2];omega) (by omega);rw[this,hz1];simp[Value.cells]
 obtain⟨w1,hw1⟩:∃w1,w1=w.alloc (.cells (madeCells #[.bool false] n) 4):=⟨_,rfl⟩;have hb1:Below w.heap.size w w1:=by rw[hw1];exact(aaG _ _).alloc (aaF _) _
 have hs1:w.heap.size<w1.heap.size:=by rw[hw1];simp
 have F9:Hid (aG w1 w.heap.size n (fun x=>decide (m x<0))):=by rw[hw1];exact(k9 rfl n).iX fun i _=>by simp
 have wO:=ζ (hs.later hb1);have aD:=ζ hb1;clear hs ho hb1;go_enter func207,ntmps207;go_wp2;rw[<-hw1];clear hmk hw1;go_loopw [3,14] (fun c3 c14 wr=>∃(k:Nat) (vs:List Value),k<=n/\c14= .int .i64 (k:Int)/\ay wr w1.heap.size c3 vs ((Fa.aR f n k).map Fa.zl)/\aG wr w.heap.size n (fun x=>decide (m x<k))/\eW wr g n f/\Below w.heap.size w wr/\w1.heap.size<=wr.heap.size) (fun _ c14 _=>n-(intOf c14).toNat)
 case atStart=>exact⟨0,[],aaR _,rfl,ay.nil _ _,F9.out,wO.out,aD.out,aaF _⟩
 case round=>
  obtain⟨k,vs,hk,rfl,hR,hI,hS,hb,hsz⟩:=hrel;obtain⟨W0,rfl⟩:∃W0,W0=wr:=⟨_,rfl⟩;obtain⟨uo,q,uc,rfl⟩:∃a q c,u3= .slice a q c:=by
   obtain⟨a,c,e⟩:=bG hR;exact⟨_,_,_,e⟩
  have HR:=ζ hR;have HI:=ζ hI;have BV:=ζ hS;have HB:=ζ hb;have hwk:IntKind.i64.wrap ((k:Int)+1)=(k:Int)+1:=by rw[aaK];omega
  by_cases hlt:k<n
  .have aP:(k:Int)<(n:Int):=by omega
   have hk0:(0:Int)<=(k:Int):=by omega
   have hc:=hI.cell hlt;have hle:=HO.out.norm.le k hlt;by_cases e:m k=k
   .have e1:decide (m k<k)=false:=by simp[e]
    rw[e1] at hc;have HC:=ζ (NQ g n f k W0 hS hlt);have HE:=ζ e;clear hR hI hS hb e e1 hle;go_wp2_with (go_at_call 260;refine HC.out.mono ?_;rintro e w2 ⟨v2,rfl,ho2,hb2⟩;refine aaI ?_);refine ζ ?_;obtain⟨fo,fc,qH,VB,-⟩:=ho2.form;rw[Fa.l7] at qH;obtain⟨p,hp⟩:∃p,p=(Fa.gZ f n k).length:=⟨_,rfl⟩;rw[<-hp] at qH;subst qH;have mD:=ζ ho2;have hs2:=hb2.size;have nT:=ζ (HR.out.later hb2);have tL:=ζ (HI.out.later hb2);have FY:=ζ (BV.out.later hb2);have aA:=ζ (HB.out.trans (hb2.mono HB.out.size));have HP:=ζ hp;have FC:p<=n:=by
     obtain⟨p',hl⟩:=Fa.xP BV.out.uG hlt;rw[hp,Fa.pU hl,Fa.jG];exact hl.le
    clear ho2 hb2 VB hp hc;go_wp2;go_loopw [26] (fun c wr=>∃i:Nat,i<=p/\c= .int .i64 (i:Int)/\aG wr w.heap.size n (fun x=>decide (m x<k)||((Fa.gZ f n k).take i).contains x)/\ak wr W0.heap.size (.slice fo p fc) (Fa.zl (Fa.gZ f n k))/\ay wr w1.heap.size (.slice uo q uc) vs ((Fa.aR f n k).map Fa.zl)/\eW wr g n f/\Below w.heap.size w wr/\w2.heap.size<=wr.heap.size) (fun c _=>p-(intOf c).toNat)
    case atStart=>exact⟨0,aaR _,rfl,tL.out.iX fun i _=>by simp,mD.out,nT.out,FY.out,aA.out,aaF _⟩
    case round=>
     obtain⟨i,hi',rfl,hI,hO,hR,hS,hb,hsz2⟩:=hrel;obtain⟨W1,rfl⟩:∃W1,W1=wr:=⟨_,rfl⟩;have HI:=ζ hI;have HOO:=ζ hO;have tG:=ζ hR;have yP:=ζ hS;have yZ:=ζ hb;have hwi:IntKind.i64.wrap ((i:Int)+1)=(i:Int)+1:=by rw[aaK];omega
     by_cases hip:i<p
     .have akk:(i:Int)<(p:Int):=by omega
      have nS:(0:Int)<=(i:Int):=by omega
      obtain⟨x,hx⟩:∃x,(Fa.gZ f n k)[i]? =some x:=⟨_,aaE (by rw[<-HP.out];exact hip)⟩;have qC:x<n:=((Fa.ud BV.out.uG HO.out hlt).1 (aaJ hx)).1;obtain⟨xo,xc,gR,X4,-⟩:=hO.form;rw[Fa.l7,<-HP.out] at gR;cases gR;obtain⟨b,o,rfl,hcx⟩:=X4 i (x:Int) (Fa.aaD hx);have ajP:(x:Int)<(n:Int):=by omega
      have hx0:(0:Int)<=(x:Int):=by omega
      have hcb:=hI.cell qC;have hfr:=hI.free x;have jW:Hid (aG (W1.setCell ⟨w.heap.size,x,none⟩ (.bool true)) w.heap.size n (fun y=>decide (m y<k)||((Fa.gZ f n k).take (i+1)).contains y)):=by
       refine(hI.set x true).iX fun y _=> ?_
       have e1:(Fa.gZ f n k).take (i+1)=(Fa.gZ f n k).take i++[x]:=by
        rw[acj,hx];rfl
       rw[e1];by_cases ey:y=x
       .subst ey
        rw[Co.fQ];simp
       .rw[Co.dS _ ey]
        simp[ey]
      have akv:=hb.size;have tI:Hid (ak (W1.setCell ⟨w.heap.size,x,none⟩ (.bool true)) W0.heap.size (.slice (some ⟨b,o,none⟩) p fc) (Fa.zl (Fa.gZ f n k))):=hO.same fun g' hg _=>fJ (fun e=>by have:=(aaO hO g' hg).1;omega) _
      have jl:Hid (ay (W1.setCell ⟨w.heap.size,x,none⟩ (.bool true)) w1.heap.size (.slice uo q uc) vs ((Fa.aR f n k).map Fa.zl)):=hR.kept fun b' hb' _=>fJ (fun e=>by
       have:w1.heap.size<=b':=by
        rcases hb' with hb'|⟨u,z,hz,hzb⟩
        .exact(aaO hR.outer b' hb').1
        .obtain⟨l,hl⟩:=hR.at hz
         exact(aaO (hR.row u z l hz hl) b' hzb).1
       omega) _
      have JI:Hid (eW (W1.setCell ⟨w.heap.size,x,none⟩ (.bool true)) g n f):=hS.same (fJ (by omega) _) (by simp;omega);have aK:Hid (Below w.heap.size w (W1.setCell ⟨w.heap.size,x,none⟩ (.bool true))):=hb.setCell (aaF _) _;have hs3:(W1.setCell ⟨w.heap.size,x,none⟩ (.bool true)).heap.size=W1.heap.size:=by simp
      have HS4:=ζ hs3;clear hI hO hR hS hb hx X4 hs3;go_wp2;go_roundw
      case rel=>exact⟨i+1,by omega,by go_num,jW.out,tI.out,jl.out,JI.out,aK.out,by rw[HS4.out];exact hsz2⟩
      case measure=>simp[intOf];omega
     .have hd:¬(i:Int)<(p:Int):=by omega
      have SK:=hR;have jW:Hid (aG W1 w.heap.size n (fun x=>decide (m x<k+1))):=by
       refine hI.iX fun y hy=> ?_
       have e1:(Fa.gZ f n k).take i=Fa.gZ f n k:=abn (by rw[<-HP.out];omega);rw[e1,ace];simp only[ab6,decide_eq_true_iff,ab9];rw[Fa.ud BV.out.uG HO.out hlt,HE.out];omega
      have hrw:∀b',((Value.slice uo q uc).ownBlock=some b'\/cS vs b')->b'<W0.heap.size:=fun b' hb'=>by
       rcases hb' with hb'|⟨u,z,hz,hzb⟩
       .exact(aaO HR.out.outer b' hb').2
       .obtain⟨l,hl⟩:=HR.out.at hz
        exact(aaO (HR.out.row u z l hz hl) b' hzb).2
      have kP:=ζ hrw;have HOW:Hid (∀b',(Value.slice fo p fc).ownBlock=some b'->W0.heap.size<=b'):=fun b' hb'=>(aaO hO b' hb').1
      have hfl:((Fa.aR f n k).map Fa.zl).length<=8388608:=by
       rw[aa3,Fa.mz BV.out.uG HO.out hk];have:=Co.bM (Co.fix m) k;omega
      clear hI hO hR hS hb hrw SK;go_wp2_with (at_builtin;refine pg rfl _ _ 25 Tryz.underlying25 rfl W1 w1.heap.size (.slice uo q uc) vs ((Fa.aR f n k).map Fa.zl) (.slice fo p fc) (Fa.zl (Fa.gZ f n k)) tG.out (HOO.out.lower hsz) (fun u z b hz hzb e=>by have h1:=kP.out b (.inr ⟨u,z,hz,hzb⟩);have h2:=HOW.out b e;omega) (fun b hb e=>by have h1:=kP.out b (.inl hb);have h2:=HOW.out b e;omega) (by omega) (by omega) rfl rfl ?_;refine aaI ?_);refine ζ ?_;intro v4 w4 hr4 hk4 hv4 hb4;have hs4:=hb4.size;have hbd:∀b',(Value.slice uo q uc).ownBlock=some b'->w1.heap.size<=b':=fun b' hb'=>(aaO tG.out.outer b' hb').1
      have Ad:Hid (ay w4 w1.heap.size v4 (vs++[.slice fo p fc]) ((Fa.aR f n (k+1)).map Fa.zl)):=by
       rw[Fa.qP BV.out.uG HO.out hlt HE.out,abt];exact hr4
      have PR:Hid (aG w4 w.heap.size n (fun x=>decide (m x<k+1))):=jW.out.same (hk4 _ jW.out.lt (fun e=>by have:=hbd _ e;omega));have HS4:Hid (eW w4 g n f):=yP.out.same (hk4 _ yP.out.lt (fun e=>by have:=hbd _ e;omega)) (by have:=yP.out.lt;omega);have cZ:=ζ (yZ.out.trans (hb4.mono (by omega)));have Zp:w1.heap.size<=w4.heap.size:=by omega
      clear hr4 hk4 hv4 hb4 hbd;go_wp2;go_roundw
      case rel=>exact⟨k+1,_,by omega,by go_num,Ad.out,PR.out,HS4.out,cZ.out,Zp⟩
      case measure=>simp[intOf];omega
   .have e1:decide (m k<k)=true:=by simp;omega
    rw[e1] at hc;have jW:Hid (aG W0 w.heap.size n (fun x=>decide (m x<k+1))):=by
     refine hI.iX fun y hy=> ?_
     have:m y≠k:=fun h=>by
      have:=HO.out.norm.idem y hy;rw[h] at this;exact e this
     rw[ace,decide_eq_true_iff,decide_eq_true_iff];omega
    have jl:Hid (ay W0 w1.heap.size (.slice uo q uc) vs ((Fa.aR f n (k+1)).map Fa.zl)):=by
     rw[Fa.sP BV.out.uG HO.out hlt e];exact hR
    clear hR hI hS hb e e1 hle;go_wp2;go_roundw
    case rel=>exact⟨k+1,vs,by omega,by go_num,jl.out,jW.out,BV.out,HB.out,hsz⟩
    case measure=>simp[intOf];omega
  .have hd:¬(k:Int)<(n:Int):=by omega
   have hkn:k=n:=by omega
   have jl:Hid (ay W0 w.heap.size (.slice uo q uc) vs (Fa.uq f n)):=by
    have h3:ay W0 w.heap.size (.slice uo q uc) vs ((Fa.aR f n k).map Fa.zl):=hR.lower (by omega);rw[hkn] at h3;exact h3
   clear hR hI hS hb hkn;go_wp2;go_ret;exact⟨_,vs,rfl,jl.out,HB.out⟩
end
end Go.Proofs.YtdbjpbjocmcpkaaGreatDoor
