import Derived.Test.YtdbjpbjocmcpkaaGreatDoorMg24
import Derived.Test.YtdbjpbjocmcpkaaGreatDoorMg23
set_option maxHeartbeats 16000000
set_option maxRecDepth 100000
namespace Go.Proofs.YtdbjpbjocmcpkaaGreatDoor
section
open Go.Proofs.Tryz
open Go.RowKit Go.Sort
def Co.xq (n:Nat) (es:List (Int×Int)):Nat->Nat:=Co.joins n es (fun x=>x)
theorem Co.Iz (n:Nat) (es:List (Int×Int)):Co.Gen n es (Co.xq n es):=Co.uz n es
def GU (n:Int) (es:List (Int×Int)) (w:World) (e:Ending) (w':World):Prop:=
 ((∃(m:Nat) (v:Value),n=(m:Int)/\Si.Val n es/\e= .returned (.tuple #[v,.int .i64 (Co.cnt m (Co.xq m es):Int),.int .i64 0])/\aj w' w.heap.size v (Co.ints m (Co.num (Co.xq m es))))\/(Si.valid n es=false/\e= .returned (.tuple #[.slice none 0 0,.int .i64 0,.int .i64 1])))/\Below w.heap.size w w'
theorem Uq (n:Int) (ao:Option Addr) (cap:Nat) (es:List (Int×Int)) (w:World) (he:ah w ao es) (hl:es.length<=4611686018427387904):
 Calls prog 258 #[az n ao es.length cap] w (GU n es w):=by
 have HE:=ζ he;have jC:=fun W (hb:Below w.heap.size w W)=>ow n ao cap es W (he.later hb) hl
 unfold az at jC ⊢;have cS:=ζ jC;clear he jC;have dJ:Below w.heap.size w (w.alloc (.cells #[.int .i64 n,.slice ao es.length cap] 24)):=(aae _ _).alloc (aad _) _;have bR:=ζ dJ;clear dJ;cases hv:Si.valid n es with
 |false=>
  rw[hv] at cS;have HV:=ζ hv;clear hv;go_enter func258,ntmps258;go_wp2_with (go_at_call 38;refine(cS.out _ bR.out).mono ?_;rintro e w' ⟨rfl,hb⟩;refine aaj ?_);refine ζ ?_;have HB:=ζ (bR.out.trans (hb.mono bR.out.size));clear hb;go_wp2
  go_ret3
  exact⟨.inr ⟨HV.out,rfl⟩,HB.out⟩
 |true=>
  rw[hv] at cS;have hval:=Si.aK.1 hv;have bQ:=hval.few;have hlo:=hval.lo;have hhi:=hval.hi;obtain⟨m,rfl⟩:∃m:Nat,n=(m:Int):=⟨n.toNat,by omega⟩;have bY:=ζ hval;clear hval hv;have pR:=ζ (fun W=>QY (m:Int) W);go_enter func258,ntmps258;go_wp2_with (go_at_call 38;refine(cS.out _ bR.out).mono ?_;rintro e w' ⟨rfl,hb⟩;refine aaj ?_);refine ζ ?_;have hG:w'.heap[w.heap.size]? =some (.cells #[.int .i64 m,.slice ao es.length cap] 24 (0,0)):=(hb.block _ (by simp)).trans (heap_alloc_new w _);have HB:=ζ (bR.out.trans (hb.mono bR.out.size));have sG:=lt_of_block hG;have HG:=ζ hG;obtain⟨g0,g1,-⟩:=af hG;clear hb hG cS;have hnew:=(pR.out w').mono (R':=fun e W=>∃p gp gt:Nat,e= .returned (.tuple #[.pointer (some ⟨p,0,none⟩),.int .i64 0])/\(fF W p gp gt m (fun x=>x)/\w'.heap.size<=p/\w'.heap.size<=gp/\w'.heap.size<=gt)/\Below w'.heap.size w' W) (by
   rintro e W ⟨⟨k,p,gp,gt,h1,h2,h3,h4⟩|⟨h1,_⟩,hb⟩
   .obtain rfl:m=k:=by omega
    exact⟨p,gp,gt,h3,h4,hb⟩
   .omega)
  have HN:=ζ hnew;clear hnew pR;go_wp2_with (go_at_call 287;refine HN.out.mono ?_;rintro e w2 ⟨p,gp,gt,rfl,hs,hb2⟩;have D6:=ζ hs;have aB:=ζ hb2;clear hs hb2;refine aaj ?_);refine ζ ?_;obtain⟨hs0,b1,b2,b3⟩:=D6.out;have k1:=(aB.out.cell (p:=⟨w.heap.size,1,none⟩) sG).trans g1;have tR:=ζ (HB.out.trans (aB.out.mono HB.out.size));have hsw:=HB.out.size;have HQ0:Hid (lY w2 (some (p,gp,gt)) m (fun x=>x)):=hs0;clear hs0 HN g0 g1 D6;go_wp2;go_loopw [21] (fun c wr=>∃k:Nat,k<=es.length/\c= .int .i64 (k:Int)/\lY wr (some (p,gp,gt)) m (Co.xq m (es.take k))/\Below w.heap.size w wr) (fun c _=>es.length-(intOf c).toNat)
  case atStart=>exact⟨0,aax _,rfl,HQ0.out,tR.out⟩
  case round=>
   obtain⟨k,hk,rfl,hQ,hb⟩:=hrel;have HQ:=ζ hQ;have ZG:=ζ hb;by_cases hlt:k<es.length
   .have aQ:(k:Int)<(es.length:Int):=by omega
    have hk0:(0:Int)<=(k:Int):=by omega
    obtain⟨q,hq⟩:∃q,es[k]? =some q:=⟨_,aac hlt⟩;obtain⟨b,o,rfl,c0,c1⟩:=(HE.out.later hb) k q hq;have hbl:b<wr.heap.size:=block_lt_of_cell c0;have hb3:Below w.heap.size w (wr.alloc (.cells #[.int .i64 q.1,.int .i64 q.2] 66)):=hb.alloc hb.size _;have hj:=O8 (some (p,gp,gt)) m (Co.xq m (es.take k)) q.1 q.2 _ (hQ.later ((aae _ _).alloc (aad _) (.cells #[.int .i64 q.1,.int .i64 q.2] 66)));have hend:∀e w3,k9 (some (p,gp,gt)) m (Co.xq m (es.take k)) q.1 q.2 (wr.alloc (.cells #[.int .i64 q.1,.int .i64 q.2] 66)) e w3->(∃t,e= .returned (.bool t))/\lY w3 (some (p,gp,gt)) m (Co.xq m (es.take (k+1)))/\Below w.heap.size w w3:=by
     rintro e w3 ⟨h1,h2,h3⟩;refine⟨⟨_,h1⟩,?_,hb3.trans (h3.below hb3.size ?_)⟩
     .rw[Si.gW hq]
      unfold Co.xq;rw[Co.yM];exact h2
     .rintro x (rfl|rfl|rfl)<;>omega
    have HJ:=ζ (hj.mono hend);clear hj hend hQ hb hb3 hq;unfold vE at HJ;go_wp2_with (go_at_call 288;refine HJ.out.mono ?_;rintro e w3 ⟨⟨t,rfl⟩,h2,h3⟩;have H2:=ζ h2;have H3:=ζ h3;clear h2 h3;refine aaj ?_);refine ζ ?_;go_wp2;go_roundw
    case rel=>exact⟨k+1,by omega,by go_num,H2.out,H3.out⟩
    case measure=>simp[intOf];omega
   .have hd:¬((k:Int)<(es.length:Int)):=by omega
    rw[aaX (by omega)] at hQ;have ko:=Dp _ m _ wr hQ.is;have Sk:=fun W (hb:Below wr.heap.size wr W)=>MC _ m _ W (hQ.later hb).is
    unfold vE at ko Sk;have acR:=ζ ko;have adA:=ζ Sk;have hwr:=hb.size;clear hQ hb ko Sk HQ;go_wp2_with (first|(go_at_call 289;refine acR.out.mono ?_;rintro e w4 ⟨v,rfl,h4,hb4⟩;have H4:=ζ h4;have dy:=ζ hb4;clear h4 hb4)|(go_at_call 290;refine(adA.out _ dy.out).mono ?_;rintro e w5 ⟨rfl,Pk⟩;obtain rfl:=Pk.symm))
    go_ret3
    exact⟨.inl ⟨m,v,rfl,bY.out,rfl,H4.out.lower hwr⟩,ZG.out.trans (dy.out.mono hwr)⟩
end
section
open Go.Proofs.Tryz
open Go.RowKit Go.Maps
theorem aU.low {W U:World} {b:Nat} {ao:Option Addr} {l:List Int} (h:aU W ao l) (hb:∀x,ao=some x->x.block<b) (hB:Below b W U):aU U ao l:=fun j x hj=>by
 obtain⟨k,o,e,hc⟩:=h j x hj;refine⟨k,o,e,?_⟩;have:=hb _ e;rw[<-hc];simp only[World.cell?];rw[hB.block k this]
theorem LI (c:Int) (W:World):(Instr.makeMap 311 (some (.int .i64 c))).run prog W= .ok (.map (some W.heap.size)) (W.alloc (.map #[] 0)):=by
 simp[Instr.makeMap,run_underlying Tryz.underlying311,asInt,asIntOf,Result.andThen]
theorem PM.made (W:World):PM (W.alloc (.map #[] 0)) W.heap.size 0 (fun _=>false) (fun _=>0) (fun _=>0) (fun _=>0):=by
 refine⟨.map [],World.ownsMap_made W _ _ _,fun j=>rfl,fun kl=> ?_⟩;constructor
 .intro h;cases h
 .rintro⟨j,_,h⟩;cases h
namespace Fa
open Co
theorem Ay (F:Nat->Nat) (k:Nat):(Co.upd (fun j=>aA (fun v=>decide (F v=j)) k) (F k) (aA (fun v=>decide (F v=F k)) k+1))=fun j=>aA (fun v=>decide (F v=j)) (k+1):=by
 funext j;show _=aA (fun v=>decide (F v=j)) k+if decide (F k=j)=true then 1 else 0
 by_cases e:j=F k
 .rw[e,Co.upd_same]
  simp
 .rw[Co.aV _ e,if_neg]
  .rfl
  .simp
   exact fun h=>e h.symm
theorem nA (x:Nat->Nat) (j:Nat):Co.upd x j (x j+0)=x:=by
 funext i;by_cases e:i=j
 .rw[e,Co.upd_same]
  rfl
 .rw[Co.aV _ e]
theorem yq {hs:Nat->Bool} {j:Nat} (h:hs j=true):Co.bS hs j true=hs:=by
 funext i;by_cases e:i=j
 .rw[e,Co.eY,h]
 .rw[Co.dr _ e]
end Fa
def N9 (N:Nat) (es:List (Int×Int)) (fs:List (List Nat)) (w:World) (e:Ending) (w':World):Prop:=
 ∃b n,e= .returned (.map (some b))/\w.heap.size<=b/\n<=13631488/\PM w' b n (fun j=>decide (j<Co.cnt N (Fa.cp N es))) (fun j=>Fa.cV N es j N) (fun j=>Fa.cE N es j es.length) (fun j=>Fa.zF N es fs j fs.length)/\Below w.heap.size w w'
theorem FU (N:Nat) (ao:Option Addr) (ca:Nat) (es:List (Int×Int)) (fo:Option Addr) (fc K:Nat) (fs:List (List Nat)) (w:World) (he:ah w ao es) (hv:Si.Val N es) (hf:bA w fo (fs.map Fa.zl)) (hK:fs.length=K) (SB:K<=8388608) (hne:∀l∈fs,l≠[]/\Fa.hd l<2*es.length):
 Calls prog 206 #[az (N:Int) ao es.length ca,.slice fo K fc] w (N9 N es fs w):=by
 have bQ:=hv.few;have hhi:=hv.hi;have hn:=(Fa.Ah (N:=N) (es:=es)).norm;have hb0:Below w.heap.size w (w.alloc (.cells #[.int .i64 (N:Int),.slice ao es.length ca] 24)):=(aae _ _).alloc (aad _) _;have Qm:=ζ (Uq (N:Int) ao ca es _ (he.later hb0) (by omega));have iI:=ζ (heap_alloc_new w (.cells #[.int .i64 (N:Int),.slice ao es.length ca] 24));have aH:=ζ hb0;have HE:=ζ he;have HV:=ζ hv;have HF:=ζ hf;have HN:=ζ hn;have sL:=ζ hne;have M5:=ζ hK;have hmk:=LI;unfold az at Qm ⊢;clear he hf hb0 hn hne hv hK;go_enter func206,ntmps206;go_wp2_with (go_at_call 258;refine Qm.out.mono ?_;intro e w1 hp;obtain⟨⟨m1,ov,hmn,-,rfl,RG⟩|⟨hc,-⟩,hb1⟩:=hp<;>refine aaj ?_)
 all_goals (first|(exact absurd (Si.aK.2 HV.out) (by rw[hc];simp))|skip)
 refine ζ ?_;have hm1:m1=N:=by omega
 subst hm1;obtain⟨oo,oc,RJ,hoa,hob⟩:=RG.form;have hol:(Co.ints m1 (Co.num (Co.xq m1 es))).length=m1:=by simp[Co.ints]
 rw[hol] at RJ;subst RJ;have RL:w1.heap[w.heap.size]? =some (.cells #[.int .i64 (m1:Int),.slice ao es.length ca] 24 (0,0)):=(hb1.block _ (lt_of_block iI.out)).trans iI.out;have kB:=ζ (aH.out.trans (hb1.mono aH.out.size));obtain⟨W2,hW2⟩:∃W2,W2=w1.alloc (.map #[] 0):=⟨_,rfl⟩;have hb2:Below w1.heap.size w1 W2:=by rw[hW2];exact(aae _ _).alloc (aad _) _
 have hs2:w1.heap.size<W2.heap.size:=by rw[hW2];simp
 have hs1:=kB.out.size;have acN:Hid (PM W2 w1.heap.size 0 (fun _=>false) (fun _=>0) (fun _=>0) (fun _=>0)):=by rw[hW2];exact PM.made w1
 have tR:=ζ (kB.out.trans (hb2.mono kB.out.size));have iE:Hid (∀U,Below w1.heap.size W2 U->aU U oo (Co.ints m1 (Co.num (Fa.cp m1 es)))/\U.heap[w.heap.size]? =some (.cells #[.int .i64 (m1:Int),.slice ao es.length ca] 24 (0,0))/\Below w.heap.size w U):=fun U hU=>by
  have h2:=hb2.trans hU;refine⟨hoa.low (fun x hx=>(hob x hx).2) h2,(h2.block _ (lt_of_block RL)).trans RL,?_⟩;exact kB.out.trans (h2.mono hs1)
 have DY:=ζ hW2;clear RG hoa hob hb1 RL hb2 hmn hol;go_wp2;rw[<-DY.out];clear hmk hW2;go_loopw [25] (fun c wr=>∃(k n:Nat),k<=m1/\n<=k/\c= .int .i64 (k:Int)/\PM wr w1.heap.size n (fun j=>decide (0<Fa.cV m1 es j k)) (fun j=>Fa.cV m1 es j k) (fun _=>0) (fun _=>0)/\Below w1.heap.size W2 wr) (fun c _=>m1-(intOf c).toNat)
 case atStart=>exact⟨0,0,aax _,aax _,rfl,by simpa[Fa.cV,Co.aA] using acN.out,aae _ _⟩
 case round=>
  obtain⟨k,n,hk,hnk,rfl,hP,hb⟩:=hrel;obtain⟨W0,rfl⟩:∃W0,W0=wr:=⟨_,rfl⟩;obtain⟨hint,eH,cm⟩:=iE.out W0 hb;have HP:=ζ hP;have HB:=ζ hb;have hwk:IntKind.i64.wrap ((k:Int)+1)=(k:Int)+1:=by rw[aam];omega
  by_cases hlt:k<m1
  .have aQ:(k:Int)<(m1:Int):=by omega
   have hk0:(0:Int)<=(k:Int):=by omega
   have hat:(Co.ints m1 (Co.num (Fa.cp m1 es)))[k]? =some (Co.num (Fa.cp m1 es) k:Int):=by simp[Co.ints,hlt]
   obtain⟨b,o,rfl,hc⟩:=hint k _ hat;have hnl:=Fa.Ab HN.out hlt;have hcl:=Co.bF (Co.fix (Fa.cp m1 es)) m1;have hxl:Fa.cV m1 es (Co.num (Fa.cp m1 es) k) k<=k:=Co.bF _ _;have zw:=ζ (CE w1.heap.size n _ _ _ _ (Co.num (Fa.cp m1 es) k) 1 0 0 W0 hP (by omega) (by omega) (by omega) (by omega) (by omega));have HU:Hid (Co.upd (fun j=>Fa.cV m1 es j k) (Co.num (Fa.cp m1 es) k) (Fa.cV m1 es (Co.num (Fa.cp m1 es) k) k+1)=fun j=>Fa.cV m1 es j (k+1)):=Fa.Ay (Co.num (Fa.cp m1 es)) k;have HH:Hid (Co.bS (fun j=>decide (0<Fa.cV m1 es j k)) (Co.num (Fa.cp m1 es) k) true=fun j=>decide (0<Fa.cV m1 es j (k+1))):=by
    funext j;have e1:Fa.cV m1 es j (k+1)=Fa.cV m1 es j k+if decide (Co.num (Fa.cp m1 es) k=j)=true then 1 else 0:=rfl
    by_cases e:j=Co.num (Fa.cp m1 es) k
    .rw[e,Co.eY,<-e,e1,<-e]
     simp
    .rw[Co.dr _ e,e1,if_neg (by simp;exact fun h=>e h.symm)]
     rfl
   obtain⟨q,hq⟩:∃q,q=Co.num (Fa.cp m1 es) k:=⟨_,rfl⟩;rw[<-hq] at hc zw HU HH;clear hP hint eH cm hat hnl hcl hxl hq hb;go_wp2_with (go_at_call 259;refine zw.out.mono ?_;rintro e w3 ⟨rfl,vY,hw3⟩;refine aaj ?_);refine ζ ?_;have Tq:Hid (PM w3 w1.heap.size (n+1) (fun j=>decide (0<Fa.cV m1 es j (k+1))) (fun j=>Fa.cV m1 es j (k+1)) (fun _=>0) (fun _=>0)):=by
    have h3:=vY;rw[HU.out,HH.out,Fa.nA (fun _=>0) q] at h3;exact h3
   have aJ:Hid (Below w1.heap.size W2 w3):=HB.out.trans (hw3.below (by have:=HB.out.size;omega) (fun k hk=>by omega));clear vY hw3;go_wp2;go_roundw
   case rel=>exact⟨k+1,n+1,by omega,by omega,by go_num,Tq.out,aJ.out⟩
   case measure=>simp[intOf];omega
  .have hd:¬(k:Int)<(m1:Int):=by omega
   have hkm:k=m1:=by omega
   subst hkm;have HS:Hid ((fun j=>decide (0<Fa.cV k es j k))=fun j=>decide (j<Co.cnt k (Fa.cp k es))):=by
    funext j;rw[ach,decide_eq_true_iff,decide_eq_true_iff];exact Fa.Vl
   rw[HS.out] at hP;have pI:=ζ hP;obtain⟨x0,x1,-⟩:=af eH;clear hP hint eH cm hb;go_wp2;clear x0 x1;go_loopw [37] (fun c wr=>∃(i n:Nat),i<=es.length/\n<=k+i/\c= .int .i64 (i:Int)/\PM wr w1.heap.size n (fun j=>decide (j<Co.cnt k (Fa.cp k es))) (fun j=>Fa.cV k es j k) (fun j=>Fa.cE k es j i) (fun _=>0)/\Below w1.heap.size W2 wr) (fun c _=>es.length-(intOf c).toNat)
   case atStart=>exact⟨0,n,aax _,by omega,rfl,by simpa[Fa.cE,Co.aA] using pI.out,HB.out⟩
   case round=>
    obtain⟨i,n,hi,hni,rfl,hP,hb⟩:=hrel;obtain⟨W1,rfl⟩:∃W1,W1=wr:=⟨_,rfl⟩;obtain⟨hint,eH,cm⟩:=iE.out W1 hb;have HP:=ζ hP;have TT:=ζ hb;have hwi:IntKind.i64.wrap ((i:Int)+1)=(i:Int)+1:=by rw[aam];omega
    by_cases hlt:i<es.length
    .have aQ:(i:Int)<(es.length:Int):=by omega
     have mj:(0:Int)<=(i:Int):=by omega
     obtain⟨p,hp⟩:∃p,es[i]? =some p:=⟨_,aac hlt⟩;obtain⟨be,oe,rfl,Km,SS⟩:=(HE.out.later cm) i p hp;have hok:=HV.out.each i p hp;unfold Si.ok at hok;obtain⟨pu,pv⟩:=p;dsimp only at Km SS hok;obtain⟨u,rfl⟩:∃u:Nat,pu=(u:Int):=⟨pu.toNat,by omega⟩;have Rn:u<k:=by omega
     have hfr:Cs.fr es (2*i)=u:=by rw[(Cs.cY hp).1];simp
     have hat:(Co.ints k (Co.num (Fa.cp k es)))[u]? =some (Co.num (Fa.cp k es) u:Int):=by simp[Co.ints,Rn]
     obtain⟨b,o,rfl,hc⟩:=hint u _ hat;have hnl:=Fa.Ab HN.out Rn;have hcl:=Co.bF (Co.fix (Fa.cp k es)) k;have hxl:Fa.cE k es (Co.num (Fa.cp k es) u) i<=i:=Co.bF _ _;have uj:Fa.cV k es (Co.num (Fa.cp k es) u) k<=k:=Co.bF _ _;have zw:=ζ (fun W hW=>CE w1.heap.size n _ _ _ _ (Co.num (Fa.cp k es) u) 0 1 0 W (hP.kept hW) (by omega) (by omega) (by omega) (by omega) (by omega));have HU:Hid (Co.upd (fun j=>Fa.cE k es j i) (Co.num (Fa.cp k es) u) (Fa.cE k es (Co.num (Fa.cp k es) u) i+1)=fun j=>Fa.cE k es j (i+1)):=by
      have:=Fa.Ay (fun e=>Co.num (Fa.cp k es) (Cs.fr es (2*e))) i;simp only[hfr] at this;exact this
     have HH:Hid (Co.bS (fun j=>decide (j<Co.cnt k (Fa.cp k es))) (Co.num (Fa.cp k es) u) true=fun j=>decide (j<Co.cnt k (Fa.cp k es))):=Fa.yq (by rw[decide_eq_true_iff];exact hnl);obtain⟨q,hq⟩:∃q,q=Co.num (Fa.cp k es) u:=⟨_,rfl⟩;rw[<-hq] at hc zw HU HH;obtain⟨x0,x1,-⟩:=af eH;have u0:(0:Int)<=(u:Int):=by omega
     have u1:(u:Int)<(k:Int):=by omega
     clear hP hint eH cm hat hnl hcl hxl uj hq hb hp hfr hok;have iN:=block_lt_of_cell Km;have DL:=block_lt_of_cell hc;have Vp:Hid (∀W,Below W1.heap.size W1 W->Calls prog 259 #[.map (some w1.heap.size),.int .i64 (q:Int),.agg #[.int .i64 0,.int .i64 1,.int .i64 0]] W fun e w'=>e= .returned (.tuple #[])/\PM w' w1.heap.size (n+1) (fun j=>decide (j<Co.cnt k (Fa.cp k es))) (fun j=>Fa.cV k es j k) (fun j=>Fa.cE k es j (i+1)) (fun _=>0)/\Below w1.heap.size W2 w'):=fun W hW=>by
      refine(zw.out W (hW.block _ HP.out.lt)).mono ?_;rintro e w' ⟨rfl,vY,hw3⟩;refine⟨rfl,?_,?_⟩
      .rw[HU.out,HH.out,Fa.nA (fun j=>Fa.cV k es j k) q,Fa.nA (fun _=>0) q] at vY
       exact vY
      .have h1:=TT.out.trans (hW.mono (by have:=TT.out.size;omega))
       exact h1.trans (hw3.below (by have:=h1.size;omega) (fun k hk=>by omega))
     go_wp2_with (go_at_call 259;refine(Vp.out _ ((aae _ _).alloc (aad _) _)).mono ?_;rintro e w3 ⟨rfl,vY,hb3⟩;refine aaj ?_);refine ζ ?_;have Tq:=ζ vY;have aJ:=ζ hb3;clear vY hb3;go_wp2;go_roundw
     case rel=>exact⟨i+1,n+1,by omega,by omega,by go_num,Tq.out,aJ.out⟩
     case measure=>simp[intOf];omega
    .have hd2:¬(i:Int)<(es.length:Int):=by omega
     have Mf:i=es.length:=by omega
     have HP2:Hid (PM W1 w1.heap.size n (fun j=>decide (j<Co.cnt k (Fa.cp k es))) (fun j=>Fa.cV k es j k) (fun j=>Fa.cE k es j es.length) (fun _=>0)):=by
      rw[Mf] at hP;exact hP
     clear hP hint eH cm hb Mf;go_wp2;go_loopw [52] (fun c wr=>∃(i n:Nat),i<=K/\n<=k+es.length+i/\c= .int .i64 (i:Int)/\PM wr w1.heap.size n (fun j=>decide (j<Co.cnt k (Fa.cp k es))) (fun j=>Fa.cV k es j k) (fun j=>Fa.cE k es j es.length) (fun j=>Fa.zF k es fs j i)/\Below w1.heap.size W2 wr) (fun c _=>K-(intOf c).toNat)
     case atStart=>exact⟨0,n,aax _,by omega,rfl,by simpa[Fa.zF,Co.aA] using HP2.out,TT.out⟩
     case round=>
      obtain⟨i,n,hi,hni,rfl,hP,hb⟩:=hrel;obtain⟨W3,rfl⟩:∃W3,W3=wr:=⟨_,rfl⟩;obtain⟨hint,eH,cm⟩:=iE.out W3 hb;have HP:=ζ hP;have aJ:=ζ hb;have hwi:IntKind.i64.wrap ((i:Int)+1)=(i:Int)+1:=by rw[aam];omega
      by_cases hlt:i<K
      .have aQ:(i:Int)<(K:Int):=by omega
       have mj:(0:Int)<=(i:Int):=by omega
       obtain⟨l,hlk⟩:∃l,fs[i]? =some l:=⟨_,aac (by rw[M5.out];exact hlt)⟩;have hlz:(fs.map Fa.zl)[i]? =some (Fa.zl l):=by rw[aaP,hlk];rfl
       obtain⟨bf,of,A,C,rfl,DK,hL,-,-,-⟩:=HF.out i _ hlz;obtain⟨hl0,X9⟩:=sL.out l (aai hlk);obtain⟨r,hr⟩:∃r,r=Fa.hd l:=⟨_,rfl⟩;rw[<-hr] at X9;have hlr:(Fa.zl l)[0]? =some (r:Int):=by
        cases l with
        |nil=>exact absurd rfl hl0
        |cons y l=>rw[hr];rfl
       obtain⟨bl,ol,rfl,hcl⟩:=hL.ints 0 _ hlr;rw[abN] at hcl;have hlp:0<(Fa.zl l).length:=by
        cases l with
        |nil=>exact absurd rfl hl0
        |cons y l=>simp[Fa.zl]
       obtain⟨p,hp⟩:∃p,es[r/2]? =some p:=⟨_,aac (by omega)⟩;obtain⟨be,oe,rfl,Km,SS⟩:=HE.out (r/2) p hp;have hok:=HV.out.each _ p hp;unfold Si.ok at hok;obtain⟨pu,pv⟩:=p;dsimp only at Km SS hok;obtain⟨u,rfl⟩:∃u:Nat,pu=(u:Int):=⟨pu.toNat,by omega⟩;have Rn:u<k:=by omega
       have hfr:Cs.fr es (2*(r/2))=u:=by rw[(Cs.cY hp).1];simp
       have ko:Co.num (Fa.cp k es) u=Co.num (Fa.cp k es) (Cs.fr es r):=by
        unfold Co.num;rcases abF r with h2|h2
        .have e:2*(r/2)=r:=by omega
         rw[<-hfr,e]
        .have e:2*(r/2)=Cs.twin r:=by unfold Cs.twin;rw[if_neg (by omega)];omega
         rw[<-hfr,e,Fa.Ct HV.out X9]
       have hat:(Co.ints k (Co.num (Fa.cp k es)))[u]? =some (Co.num (Fa.cp k es) u:Int):=by simp[Co.ints,Rn]
       obtain⟨b,o,rfl,hc⟩:=hint u _ hat;have hnl:=Fa.Ab HN.out Rn;have aby:=Co.bF (Co.fix (Fa.cp k es)) k;have hxl:Fa.zF k es fs (Co.num (Fa.cp k es) u) i<=i:=Co.bF _ _;have uj:Fa.cV k es (Co.num (Fa.cp k es) u) k<=k:=Co.bF _ _;have jB:Fa.cE k es (Co.num (Fa.cp k es) u) es.length<=es.length:=Co.bF _ _;have zw:=ζ (fun W hW=>CE w1.heap.size n _ _ _ _ (Co.num (Fa.cp k es) u) 0 0 1 W (hP.kept hW) (by omega) (by omega) (by omega) (by omega) (by omega));have HU:Hid (Co.upd (fun j=>Fa.zF k es fs j i) (Co.num (Fa.cp k es) u) (Fa.zF k es fs (Co.num (Fa.cp k es) u) i+1)=fun j=>Fa.zF k es fs j (i+1)):=by
        have:=Fa.Ay (fun e=>Co.num (Fa.cp k es) (Cs.fr es (Fa.hd (fs.getD e [])))) i;have e2:fs.getD i []=l:=by rw[aao,hlk];rfl
        simp only[e2,<-hr,<-ko] at this;exact this
       have HH:Hid (Co.bS (fun j=>decide (j<Co.cnt k (Fa.cp k es))) (Co.num (Fa.cp k es) u) true=fun j=>decide (j<Co.cnt k (Fa.cp k es))):=Fa.yq (by rw[decide_eq_true_iff];exact hnl);obtain⟨q,hq⟩:∃q,q=Co.num (Fa.cp k es) u:=⟨_,rfl⟩;rw[<-hq] at hc zw HU HH;obtain⟨x0,x1,-⟩:=af eH;have u0:(0:Int)<=(u:Int):=by omega
       have u1:(u:Int)<(k:Int):=by omega
       obtain⟨rh,XH⟩:∃rh,rh=r/2:=⟨_,rfl⟩;have td:(r:Int).tdiv 2=(rh:Int):=by rw[abK (by omega)];omega
       have td2:(r:Int)/2=(rh:Int):=by omega
       have td3:r/2=rh:=XH.symm;have tw:IntKind.i64.wrap (rh:Int)=(rh:Int):=by rw[aam];omega
       have rh0:(0:Int)<=(rh:Int):=by omega
       have rh1:(rh:Int)<(es.length:Int):=by omega
       rw[<-XH] at Km SS;obtain⟨lq,XS⟩:∃lq,lq=(Fa.zl l).length:=⟨_,rfl⟩;rw[<-XS] at DK hlp;have lq0:(0:Int)<(lq:Int):=by omega
       have Vp:Hid (∀W,Below W3.heap.size W3 W->Calls prog 259 #[.map (some w1.heap.size),.int .i64 (q:Int),.agg #[.int .i64 0,.int .i64 0,.int .i64 1]] W fun e w'=>e= .returned (.tuple #[])/\PM w' w1.heap.size (n+1) (fun j=>decide (j<Co.cnt k (Fa.cp k es))) (fun j=>Fa.cV k es j k) (fun j=>Fa.cE k es j es.length) (fun j=>Fa.zF k es fs j (i+1))/\Below w1.heap.size W2 w'):=fun W hW=>by
        refine(zw.out W (hW.block _ HP.out.lt)).mono ?_;rintro e w' ⟨rfl,vY,hw3⟩;refine⟨rfl,?_,?_⟩
        .rw[HU.out,HH.out,Fa.nA (fun j=>Fa.cV k es j k) q,Fa.nA (fun j=>Fa.cE k es j es.length) q] at vY
         exact vY
        .have h1:=aJ.out.trans (hW.mono (by have:=aJ.out.size;omega))
         exact h1.trans (hw3.below (by have:=h1.size;omega) (fun k hk=>by omega))
       have HS:Hid (∀U,Below w1.heap.size W2 U->U.cell? ⟨w.heap.size,1,none⟩=some (.slice (some ⟨be,oe,none⟩) es.length ca)/\U.cell? ⟨bl,ol,none⟩=some (.int .i64 (r:Int))/\U.cell? ⟨be,oe+rh*2,none⟩=some (.int .i64 (u:Int))/\U.cell? ⟨b,o+u,none⟩=some (.int .i64 (q:Int))):=fun U hU=>by
        obtain⟨hint',Yj,V7⟩:=iE.out U hU;obtain⟨b',o',e',hc'⟩:=hint' u _ hat;cases e';rw[<-hq] at hc';exact⟨(af Yj).2.1,(V7.cell (p:=⟨bl,ol,none⟩) (block_lt_of_cell hcl)).trans hcl,(V7.cell (p:=⟨be,oe+rh*2,none⟩) (block_lt_of_cell Km)).trans Km,hc'⟩
       have ag1:=(cm.cell (p:=⟨bf,of+i,none⟩) (block_lt_of_cell DK)).trans DK;have y0:=HS.out W3 hb;have yd:=HS.out W3.drew hb.drew;clear hP hint eH cm hat hnl aby hxl uj jB hq hb hp hfr hok ko hlk hlz hL hl0 X9 hr hlr XH XS;clear DK hcl Km SS x0 x1 hc;go_wp2_with fail
       go_region_held3 (fun U=>U.cell? ⟨w.heap.size,1,none⟩=some (.slice (some ⟨be,oe,none⟩) es.length ca)/\U.cell? ⟨bl,ol,none⟩=some (.int .i64 (r:Int))/\U.cell? ⟨be,oe+rh*2,none⟩=some (.int .i64 (u:Int))/\U.cell? ⟨b,o+u,none⟩=some (.int .i64 (q:Int)))
        (first|exact yd|exact y0|exact Sy)
        ((go_at_call 259;refine(Vp.out W3.drew (aae _ _).drew).mono ?_;rintro e w3 ⟨rfl,vY,hb3⟩;have Sy:=HS.out w3 hb3))
       have Tq:=ζ vY;have G9:=ζ hb3;clear vY hb3 Sy yd y0 HS Vp;go_wp2;go_roundw
       case rel=>exact⟨i+1,n+1,by omega,by omega,by go_num,Tq.out,G9.out⟩
       case measure=>simp[intOf];omega
      .have Yf:¬(i:Int)<(K:Int):=by omega
       have hiK:i=K:=by omega
       have HP4:Hid (PM W3 w1.heap.size n (fun j=>decide (j<Co.cnt k (Fa.cp k es))) (fun j=>Fa.cV k es j k) (fun j=>Fa.cE k es j es.length) (fun j=>Fa.zF k es fs j fs.length)):=by
        rw[M5.out];rw[hiK] at hP;exact hP
       have bT:=ζ cm;clear hP hint eH cm hb hiK;go_wp2;go_ret;exact⟨w1.heap.size,n,rfl,hs1,by omega,HP4.out,bT.out⟩
end
section
open Go.Proofs.Tryz
open Go.RowKit Go.Maps
theorem JM (a b c:Nat) (w:World) (ha:a<=8388608) (hb:b<=8388608) (hc:c<=8388608):
 Calls prog 208 #[.agg #[.int .i64 (a:Int),.int .i64 (b:Int),.int .i64 (c:Int)]] w fun e w'=>e= .returned (.int .i64 (Fa.gen a b c))/\Below w.heap.size w w':=by
 have HB:=ζ ((aae w.heap.size w).alloc (aad _) (.cells #[.int .i64 (a:Int),.int .i64 (b:Int),.int .i64 (c:Int)] 315));unfold Fa.gen;by_cases h:b=0
 .rw[if_pos h]
  have hb0:((b:Int)==0)=true:=by simp[h]
  clear h;go_enter func208,ntmps208;go_wp2;go_ret;exact⟨rfl,HB.out⟩
 .rw[if_neg h]
  have hb0:((b:Int)==0)=false:=by
   have:¬(b:Int)=0:=by omega
   simpa using this
  have q1:IntKind.i64.wrap ((2:Int)-(a:Int))=(2:Int)-(a:Int):=by rw[aam];omega
  have q2:IntKind.i64.wrap ((2:Int)-(a:Int)+(b:Int))=(2:Int)-(a:Int)+(b:Int):=by rw[aam];omega
  have q3:IntKind.i64.wrap ((2:Int)-(a:Int)+(b:Int)-(c:Int))=(2:Int)-(a:Int)+(b:Int)-(c:Int):=by rw[aam];omega
  obtain⟨t,ht⟩:∃t,t=(2:Int)-(a:Int)+(b:Int)-(c:Int):=⟨_,rfl⟩;have h1:t.tdiv 2<=16777216/\-16777216<=t.tdiv 2:=by
   have h2: -25165830<=t/\t<=25165830:=by omega
   rcases Int.le_total 0 t with h0|h0
   .rw[abK h0]
    omega
   .have h3:(-t).tdiv 2=(-t)/2:=abK (by omega)
    have h4:=Int.neg_tdiv t 2;omega
  have q4:IntKind.i64.wrap (t.tdiv 2)=t.tdiv 2:=by rw[aam];omega
  rw[ht] at q4;clear h ht h1;go_enter func208,ntmps208;go_wp2;go_ret;exact⟨rfl,HB.out⟩
end
section
open Go.Proofs.Tryz
open Go.RowKit Go.Maps
namespace Fa
def gz (N:Nat) (es:List (Int×Int)) (ls:List (List Int)):Int:=(2*(Co.cnt N (cp N es):Int)-(kK N es:Int)-(N:Int)+(es.length:Int)-((all es ls).length:Int)).tdiv 2
theorem vr {p:Nat->Bool} {g:Nat->Int} {j:Nat} (hp:p j=true):∀c,j<c->bP (fun i=>if p i=true then g i else 0) c=bP (fun i=>if (p i&& !decide (i=j))=true then g i else 0) c+g j
 |0,h=>by omega
 |c+1,h=>by
  show bP (fun i=>if p i=true then g i else 0) c+(if p c=true then g c else 0)=bP (fun i=>if (p i&& !decide (i=j))=true then g i else 0) c+(if (p c&& !decide (c=j))=true then g c else 0)+g j;by_cases e:c=j
  .subst e
   have:bP (fun i=>if p i=true then g i else 0) c=bP (fun i=>if (p i&& !decide (i=c))=true then g i else 0) c:=dP c fun i hi=>by
    have:¬i=c:=by omega
    simp[this]
   rw[this];simp[hp]
  .rw[vr hp c (by omega)]
   have:(p c&& !decide (c=j))=p c:=by simp[e]
   rw[this];omega
theorem Mq {a b c:Nat} (ha:a<=8388608) (hb:b<=8388608) (hc:c<=8388608):gen a b c<=16777216/\-16777216<=gen a b c:=by
 unfold gen
 split
 .omega
 .obtain⟨t,ht⟩:∃t,t=(2:Int)-(a:Int)+(b:Int)-(c:Int):=⟨_,rfl⟩
  rw[<-ht];have h2: -25165830<=t/\t<=25165830:=by omega
  rcases Int.le_total 0 t with h0|h0
  .rw[abK h0]
   omega
  .have h3:(-t).tdiv 2=(-t)/2:=abK (by omega)
   have h4:=Int.neg_tdiv t 2;omega
theorem EU {N:Nat} {es:List (Int×Int)} {ls:List (List Int)} (h:Ro.jc N es ls):
 bP (fun j=>gen (cV N es j N) (cE N es j es.length) (zF N es (aR (ph es ls) (2*es.length) (2*es.length)) j (aR (ph es ls) (2*es.length) (2*es.length)).length)) (Co.cnt N (cp N es))=gz N es ls/\
 ∃g:Nat,gz N es ls=(g:Int)/\(all es ls).length+kK N es+N+2*g=2*Co.cnt N (cp N es)+es.length/\g+N<=es.length+Co.cnt N (cp N es):=by
 obtain⟨m,hm⟩:=mD (vJ h);obtain⟨g,hg,he,hl⟩:=Mp h hm;have hF:(all es ls).length=Co.cnt (2*es.length) m:=JZ (vJ h) hm;rw[<-hF] at he;have j6:gz N es ls=(g:Int):=by
  unfold gz;have:(2*(Co.cnt N (cp N es):Int)-(kK N es:Int)-(N:Int)+(es.length:Int)-((all es ls).length:Int))=2*(g:Int):=by omega
  rw[this];exact Int.mul_tdiv_cancel_left _ (by decide)
 refine⟨?_,g,j6,he,hl⟩;rw[j6,<-hg];exact dP _ fun j _=>by rw[T9 h hm j]
end Fa
theorem Re (i j:Nat):(kJ i).sameKey (kJ j)=decide (i=j):=by
 by_cases e:i=j
 .subst e
  rw[WideAt.sameKey_self (Ge i)];simp
 .rw[Maps.sameKey_ne (fun h=>e (Gf h))]
  simp[e]
theorem zz {ops:Array Oper} {rest:List Oper} {o:Oper} {a:Act} {Q:Exit->Act->World->Prop} (hg:o.guard=none) (it:Operand) (hop:o.op=Op.next it false) (w:World) (b r n:Nat) (D:DataW Unit) (left:Lit->Bool) (cnt:Nat)
 (hit:a.eval it= .pointer (some ⟨r,0,none⟩)) (h:w.ranges prog 3 fB b r n D left cnt) (hl:∀kl,left kl=true->∃j,kl=kJ j)
 (hDone:cnt=0->(∀kl,left kl=false)->wpList prog ops Q rest (a.put o.dst (.tuple #[.bool false])) w)
 (hMore:∀(j:Nat) (x y z:Int) (w':World) (cnt':Nat),left (kJ j)=true->(∀zd,D.atKey (kJ j) zd= .agg [.lit (.int .i64 x),.lit (.int .i64 y),.lit (.int .i64 z)])->w'.ranges prog 3 fB b r n D (fun z=>left z&& !z.sameKey (kJ j)) cnt'->cnt'<cnt->
   w.grownBy w' (some r)->w'.heap.size=w.heap.size->(Instr.entry (.pointer (some ⟨r,0,none⟩))).run prog w'= .ok (.tuple #[.int .i64 (j:Int),.agg #[.int .i64 x,.int .i64 y,.int .i64 z]]) w'->wpList prog ops Q rest (a.put o.dst (.tuple #[.bool true,.int .i64 (j:Int),.agg #[.int .i64 x,.int .i64 y,.int .i64 z]])) w'):
 wpList prog ops Q (o::rest) a w:=
 wpList_next_ranges w hg it hop 3 Ny fB (Value.int .i64) (fun t:Int×Int×Int=> .agg #[.int .i64 t.1,.int .i64 t.2.1,.int .i64 t.2.2]) (fun key kl hkey=>by obtain⟨x,rfl,_⟩:=Maps.keyOf_int_inv Tryz.underlying3 hkey;exact⟨x,rfl⟩)
  (fun v y hv=>by obtain⟨x,y,z,rfl,_⟩:=oY hv;exact⟨(x,y,z),rfl⟩) b r n D left cnt hit h hDone (fun x t kl y w' cnt' hkey hlk hv hat hrg hlt hgr hsz hen=>by
    obtain⟨x',ex,rfl,-⟩:=Maps.keyOf_int_inv Tryz.underlying3 hkey;cases ex;obtain⟨j,hj⟩:=hl _ hlk;have hxj:x=(j:Int):=by
     unfold kJ at hj;injection hj
    subst hxj;obtain⟨x1,y1,z1,e1,rfl⟩:=oY hv;obtain⟨t1,t2,t3⟩:=t;simp only[Value.agg.injEq,Array.mk.injEq,ac0,Value.int.injEq,true_and,and_true] at e1;obtain⟨rfl,rfl,rfl⟩:=e1;exact hMore j _ _ _ w' cnt' hlk hat hrg hlt hgr hsz hen)
def zx (c g:Int) (w:World) (e:Ending) (w':World):Prop:=e= .returned (.tuple #[.int .i64 (if c=0 then g else 0),.int .i64 c])/\Below w.heap.size w w'
theorem JX (n:Int) (ao:Option Addr) (ca:Nat) (es:List (Int×Int)) (xo:Option Addr) (xc:Nat) (ls:List (List Int)) (w:World) (he:ah w ao es) (hl:es.length<=4611686018427387904) (hx:bA w xo ls):
 Calls prog 140 #[az n ao es.length ca,.slice xo ls.length xc] w (zx (Ro.check n es ls).2 (Fa.gz n.toNat es ls) w):=by
 have hb0:Below w.heap.size w (w.alloc (.cells #[.int .i64 n,.slice ao es.length ca] 24)):=(aae _ _).alloc (aad _) _;have HN:=ζ (Fx n ao ca es xo xc ls _ (he.later hb0) hl (hx.later hb0));have iI:=ζ (heap_alloc_new w (.cells #[.int .i64 n,.slice ao es.length ca] 24));have aH:=ζ hb0;have HE:=ζ he;unfold az at HN ⊢;obtain⟨C,hC⟩:∃C,C=(Ro.check n es ls).2:=⟨_,rfl⟩;have HC:=ζ hC;rw[<-hC];clear he hx hb0 hC;go_enter func140,ntmps140;go_wp2_with (go_at_call 205;refine HN.out.mono ?_;intro e w1 hp;obtain⟨hb1,⟨hc,rfl⟩|⟨hc,g,rfl,hg,hi⟩⟩:=hp<;>refine aaj ?_)
 all_goals refine ζ ?_
 .have HB:=ζ (aH.out.trans (hb1.mono aH.out.size))
  rw[<-HC.out] at hc ⊢;have hcb:(C != 0)=true:=by simpa using hc
  have rC:=ζ hc;clear hc hb1;go_wp2;go_ret2;exact⟨by rw[if_neg rC.out];rfl,HB.out⟩
 .have hr:=Ro.ig.1 hc
  have hv:=Si.aK.1 hr.val;obtain⟨N,rfl⟩:∃N:Nat,n=(N:Int):=⟨n.toNat,by have:=hv.lo;omega⟩;have hst:=En hc hi;have bQ:=hv.few;have hhi:=hv.hi;obtain⟨m,ho⟩:=Fa.mD hst.sA;have HB:=ζ (aH.out.trans (hb1.mono aH.out.size));have hs1:=HB.out.size;obtain⟨fs,hfs⟩:∃fs,fs=Fa.aR (Fa.ph es ls) (2*es.length) (2*es.length):=⟨_,rfl⟩;have hfl:fs.length<=8388608:=by
   rw[hfs,Fa.kM hst.sA ho (aad _)];have:=Co.bF (Co.fix m) (2*es.length);omega
  have sL:Hid (∀l∈fs,l≠[]/\Fa.hd l<2*es.length):=fun l hm=>by
   obtain⟨j,hj⟩:=aaS hm;rw[hfs] at hj;obtain⟨r,hr,-,rfl,-⟩:=Fa.J0 hst.sA ho hj;exact⟨by unfold Fa.fS;simp,hr⟩
  have mG:w1.heap[w.heap.size]? =some (.cells #[.int .i64 (N:Int),.slice ao es.length ca] 24 (0,0)):=(hb1.block _ (lt_of_block iI.out)).trans iI.out;have hbd:Below w1.heap.size w1 w1.drew:=(aae _ _).drew;have HF:Hid (Calls prog 207 #[.slice (some ⟨g,0,none⟩) (2*es.length) (2*es.length)] w1.drew fun e w'=>∃fo fc vs,e= .returned (.slice fo fs.length fc)/\ay w' w1.heap.size (.slice fo fs.length fc) vs (fs.map Fa.zl)/\Below w1.heap.size w1 w'):=by
   refine(My g (2*es.length) (Fa.ph es ls) w1.drew (hst.later hbd)).mono ?_;rintro e w' ⟨v,vs,rfl,hr,hb⟩;have hfz:Fa.rW (Fa.ph es ls) (2*es.length)=fs.map Fa.zl:=by rw[hfs];rfl
   rw[hfz] at hr;obtain⟨fo,fc,rfl⟩:=bG hr;rw[aaE] at hr ⊢;exact⟨fo,fc,vs,rfl,hr,hbd.trans hb⟩
  have HP:Hid (∀(U:World) (fo:Option Addr) (fc:Nat) (vs:List Value),Below w1.heap.size w1 U->ay U w1.heap.size (.slice fo fs.length fc) vs (fs.map Fa.zl)->Calls prog 206 #[.agg #[.int .i64 (N:Int),.slice ao es.length ca],.slice fo fs.length fc] U (N9 N es fs U)):=fun U fo fc vs hU hR=>by
   obtain⟨W8,ZO,e,hrw,-⟩:=hR.rws (fun l hl=>by
    obtain⟨l0,h0,rfl⟩:=abP.1 hl;rw[Fa.kD];obtain⟨j,hj⟩:=aaS h0;rw[hfs] at hj;obtain⟨r,hr,-,rfl,-⟩:=Fa.J0 hst.sA ho hj;obtain⟨p,hp⟩:=Fa.vO hst.sA hr;rw[Fa.nU hp,Fa.iJ];have:=hp.le;omega)
   rw[aaE] at e;cases e;exact FU N ao ca es fo fc fs.length fs U (HE.out.later (HB.out.trans (hU.mono hs1))) hv hrw rfl hfl sL.out
  have HS:Hid (∀U,Below w1.heap.size w1 U->U.cell? ⟨w.heap.size,0,none⟩=some (.int .i64 (N:Int))/\U.cell? ⟨w.heap.size,1,none⟩=some (.slice ao es.length ca)):=fun U hU=>by
   obtain⟨x0,x1,-⟩:=af ((hU.block _ (lt_of_block mG)).trans mG);exact⟨x0,x1⟩
  have YF:=(Fa.EU hr).1;rw[<-hfs] at YF;have TJ:=ζ YF;rw[<-HC.out] at hc;have rC:=ζ hc;have t0:((0:Int) != 0)=false:=rfl;obtain⟨M,hM⟩:∃M,M=2*es.length:=⟨_,rfl⟩;rw[<-hM] at HF ⊢;have hSd:=HS.out w1.drew hbd;have hS1:=HS.out w1 (aae _ _);have htn:(N:Int).toNat=N:=by omega
  have HTN:=ζ htn;have wR:=ζ hfl;obtain⟨K,hK⟩:∃K,K=fs.length:=⟨_,rfl⟩;rw[<-hK] at HF HP;have Vx:=ζ hK;clear hc hb1 hg hi hst ho hfs mG hbd hr hv YF hM htn hfl hK;go_wp2_with fail
  go_region_held3 (fun U=>U.cell? ⟨w.heap.size,0,none⟩=some (.int .i64 (N:Int))/\U.cell? ⟨w.heap.size,1,none⟩=some (.slice ao es.length ca))
   (first|exact hSd|exact hS1|exact B9|exact Sy|exact Sx)
   (first
     |(go_at_call 207;refine HF.out.mono ?_;rintro e w2 ⟨fo,fc,vs,rfl,hR2,hb2⟩;have B9:=HS.out w2 hb2)
     |(go_at_call 206;refine(HP.out _ _ _ _ hb2 hR2).mono ?_;rintro e w3 ⟨b,nn,rfl,hbl,hnn,hPM,hb3⟩;have yR:=hb2.trans (hb3.mono hb2.size);have Sy:=HS.out w3 yR;obtain⟨D,hD,hat,hhas⟩:=hPM;obtain⟨w4,Gk,hrg,hg4,Jj⟩:=hD.range (t:=311) Ny Tryz.underlying311;have NQ:=yR.grown hg4 yR.size (fun j hj=>by cases hj);have Sx:=HS.out w4 NQ))
  have agE:=NQ.size;have agF:=yR.size;have hs3:=hb3.size;have hs2:=hb2.size;obtain⟨c,hcc⟩:∃c,c=Co.cnt N (Fa.cp N es):=⟨_,rfl⟩;obtain⟨G,hG⟩:∃G:Nat->Int,G=fun j=>Fa.gen (Fa.cV N es j N) (Fa.cE N es j es.length) (Fa.zF N es fs j fs.length):=⟨_,rfl⟩
  have sP:=ζ hcc;have HG:=ζ hG;have ym:=ζ hat;have adM:=ζ NQ;have tL:=hD.size_le;have CY:Hid (∀kl,Maps.has D kl=true->∃j,kl=kJ j/\j<c):=fun kl h=>by
   obtain⟨j,h1,h2⟩:=(hhas kl).1 h;exact⟨j,h1,by rw[hcc];exact of_decide_eq_true h2⟩
  have Ti:Hid ((0:Int)+Fa.bP (fun j=>if Maps.has D (kJ j)=true then G j else 0) c=Fa.gz N es ls):=by
   show(0:Int)+Fa.bP (fun j=>if Maps.has D (kJ j)=true then G j else 0) c=Fa.gz N es ls;rw[<-TJ.out,Int.zero_add,<-hcc,hG];refine Fa.dP c fun j hj=> ?_
   rw[if_pos ((hhas (kJ j)).2 ⟨j,rfl,by rw[decide_eq_true_iff,<-hcc];exact hj⟩)]
  have Tp:=ζ hrg;have pM:Hid (∀j,G j<=16777216/\-16777216<=G j/\Fa.cV N es j N<=8388608/\Fa.cE N es j es.length<=8388608/\Fa.zF N es fs j fs.length<=8388608):=fun j=>by
   have h1:Fa.cV N es j N<=N:=Co.bF _ _;have h2:Fa.cE N es j es.length<=es.length:=Co.bF _ _;have h3:Fa.zF N es fs j fs.length<=fs.length:=Co.bF _ _;have h4:=wR.out;rw[hG];have h5:=Fa.Mq (a:=Fa.cV N es j N) (b:=Fa.cE N es j es.length) (c:=Fa.zF N es fs j fs.length) (by omega) (by omega) (by omega);exact⟨h5.1,h5.2,by omega,by omega,by omega⟩
  have G9:Hid (Below w.heap.size w w1):=HB.out;clear Gk hrg hg4 Jj NQ Sx Sy B9 hSd hS1 hD hat hhas hbl hb3 yR hb2 hR2 hcc hG HP HF HS;go_wp2;go_loopw [8] (fun c8 wr=>∃(s:Int) (left:Lit->Bool) (cnt:Nat),c8= .int .i64 s/\wr.ranges prog 3 fB b w3.heap.size nn D left cnt/\(∀kl,left kl=true->∃j,kl=kJ j/\j<c)/\s+Fa.bP (fun j=>if left (kJ j)=true then G j else 0) c=Fa.gz N es ls/\cnt<=nn/\s<=((nn:Int)-(cnt:Int))*16777216/\-(((nn:Int)-(cnt:Int))*16777216)<=s/\Below w1.heap.size w1 wr) (fun _ wr=>wr.rangeLeft b w3.heap.size)
  case atStart=>exact⟨0,_,_,rfl,Tp.out,CY.out,Ti.out,tL,by omega,by omega,adM.out⟩
  case round=>
   obtain⟨s,left,cnt,rfl,hrg,hlf,hsum,ng,nS,Wl,hb⟩:=hrel;obtain⟨W0,rfl⟩:∃W0,W0=wr:=⟨_,rfl⟩;have HR0:=ζ hrg;have Zn:=ζ hlf;have pY:=ζ hsum;have wU:=ζ hb;have aI:=ζ nS;have aB:=ζ Wl;have fP:=hb.size;clear hrg hlf hsum hb nS Wl;go_wp2_with (at_next;refine zz rfl _ rfl W0 b w3.heap.size nn D left cnt rfl HR0.out (fun kl h=>by obtain⟨j,h1,-⟩:=Zn.out kl h;exact⟨j,h1⟩) ?_ ?_<;>refine aaj ?_)
   all_goals refine ζ ?_
   .intro hc0 hl0
    have zq:Hid (s=Fa.gz N es ls):=by
     have:=pY.out;rw[Fa.lu c (fun i _=>by rw[hl0];simp)] at this;show s=Fa.gz N es ls;omega
    clear hc0 hl0;go_wp2;go_ret2;exact⟨by rw[rC.out,if_pos rfl,HTN.out,<-zq.out];rfl,G9.out.trans (wU.out.mono hs1)⟩
   .intro j x y z w5 cnt' BK hat NG VQ hg5 hs5 V0
    obtain⟨j',e1,hjc⟩:=Zn.out _ BK;have e2:=Gf e1;subst e2;have h0:=ym.out j;rw[hat] at h0;unfold cD at h0;simp only[DataW.agg.injEq,ac0,DataW.lit.injEq,Lit.int.injEq,true_and,and_true] at h0;obtain⟨rfl,rfl,rfl⟩:=h0;obtain⟨g1,g2,g3,g4,g5⟩:=pM.out j;have NF:=NG.ne;have hb5:Below w1.heap.size w1 w5:=wU.out.grown hg5 fP (fun k hk=>by cases hk;omega);have hGj:G j=Fa.gen (Fa.cV N es j N) (Fa.cE N es j es.length) (Fa.zF N es fs j fs.length):=by rw[HG.out]
    have uY:Hid (∀U,Calls prog 208 #[.agg #[.int .i64 (Fa.cV N es j N:Int),.int .i64 (Fa.cE N es j es.length:Int),.int .i64 (Fa.zF N es fs j fs.length:Int)]] U fun e w'=>e= .returned (.int .i64 (G j))/\Below U.heap.size U w'):=fun U=>by
     rw[hGj];exact JM _ _ _ U g3 g4 g5
    have Wv:Hid ((s+G j)+Fa.bP (fun i=>if (left (kJ i)&& !(kJ i).sameKey (kJ j))=true then G i else 0) c=Fa.gz N es ls):=by
     have h1:=pY.out;rw[Fa.vr (p:=fun i=>left (kJ i)) BK c hjc] at h1;have h2:Fa.bP (fun i=>if (left (kJ i)&& !(kJ i).sameKey (kJ j))=true then G i else 0) c=Fa.bP (fun i=>if (left (kJ i)&& !decide (i=j))=true then G i else 0) c:=Fa.dP c fun i _=>by rw[Re]
     show(s+G j)+_=_;rw[h2];omega
    have b1:=aI.out;have b2:=aB.out;have b3:s+G j<=((nn:Int)-(cnt':Int))*16777216:=by omega
    have b4: -(((nn:Int)-(cnt':Int))*16777216)<=s+G j:=by omega
    have vU:IntKind.i64.wrap (s+G j)=s+G j:=by rw[aam];omega
    have Wy:=ζ NG;have fJ:=ζ hb5;have iA:Hid (s+G j<=((nn:Int)-(cnt':Int))*16777216/\-(((nn:Int)-(cnt':Int))*16777216)<=s+G j):=⟨b3,b4⟩;have HME:Hid (w5.rangeLeft b w3.heap.size<W0.rangeLeft b w3.heap.size):=by
     show _<_;rw[NG.left_eq,HR0.out.left_eq];exact VQ
    have abx:cnt'<=nn:=by omega
    obtain⟨v1,BC⟩:∃v,v=Fa.cV N es j N:=⟨_,rfl⟩;obtain⟨v2,hv2⟩:∃v,v=Fa.cE N es j es.length:=⟨_,rfl⟩;obtain⟨v3,hv3⟩:∃v,v=Fa.zF N es fs j fs.length:=⟨_,rfl⟩;rw[<-BC,<-hv2,<-hv3] at V0 uY ⊢;obtain⟨gj,hgj⟩:∃gj,gj=G j:=⟨_,rfl⟩;rw[<-hgj] at uY Wv iA vU;clear BK hat NG VQ hg5 hs5 e1 hjc g1 g2 g3 g4 g5 NF hb5 hGj b1 b2 b3 b4 BC hv2 hv3 hgj;go_wp2_with (go_at_call 208;refine(uY.out _).mono ?_;rintro e w6 ⟨rfl,pX⟩;refine aaj ?_);refine ζ ?_;have BZ:Below w5.heap.size w5 w6:=((aae _ _).alloc (aad _) _).trans (pX.mono (by simp));have ot:=ζ (fJ.out.trans (BZ.mono fJ.out.size));have HR6:Hid (w6.ranges prog 3 fB b w3.heap.size nn D (fun z=>left z&& !z.sameKey (kJ j)) cnt'):=Wy.out.kept (row:=none) ⟨BZ.os,BZ.tape,BZ.output,BZ.size,fun i hi _=>BZ.block i hi⟩ (by simp) (by simp);have acW:Hid (w6.rangeLeft b w3.heap.size<W0.rangeLeft b w3.heap.size):=by
     show _<_;rw[HR6.out.left_eq,<-Wy.out.left_eq];exact HME.out
    have Zo:Hid (∀kl,(left kl&& !kl.sameKey (kJ j))=true->∃j,kl=kJ j/\j<c):=fun kl h=>Zn.out kl (by simp only[aa2] at h;exact h.1)
    clear pX BZ V0;go_wp2;go_roundw
    case rel=>exact⟨_,_,_,rfl,HR6.out,Zo.out,Wv.out,abx,iA.out.1,iA.out.2,ot.out⟩
    case measure=>exact acW.out
theorem Mx (n:Int) (ao:Option Addr) (ca:Nat) (es:List (Int×Int)) (xo:Option Addr) (xc:Nat) (ls:List (List Int)) (w:World) (he:ah w ao es) (hl:es.length<=4611686018427387904) (hx:bA w xo ls):
 Calls prog 95 #[az n ao es.length ca,.slice xo ls.length xc] w fun e w'=>e= .returned (.bool (decide ((Ro.check n es ls).2=0/\Fa.gz n.toNat es ls=0)))/\Below w.heap.size w w':=by
 have hb0:Below w.heap.size w (w.alloc (.cells #[.int .i64 n,.slice ao es.length ca] 24)):=(aae _ _).alloc (aad _) _;have HN:=ζ (JX n ao ca es xo xc ls _ (he.later hb0) hl (hx.later hb0));have aH:=ζ hb0;unfold az at HN ⊢;obtain⟨C,hC⟩:∃C,C=(Ro.check n es ls).2:=⟨_,rfl⟩;obtain⟨g,hg⟩:∃g,g=Fa.gz n.toNat es ls:=⟨_,rfl⟩;rw[<-hC,<-hg];rw[<-hC,<-hg] at HN;obtain⟨T,hT⟩:∃T,T=decide (C=0/\g=0):=⟨_,rfl⟩;rw[<-hT];by_cases h0:C=0
 .subst h0
  have t0:((0:Int)==0)=true:=rfl;by_cases h1:g=0
  .have t1:(g==0)=true:=by simpa using h1
   have hD:T=true:=by rw[hT];simp[h1]
   subst hD;have uY:Hid (∀(W W':World) (e:Ending),zx 0 g W e W'->e= .returned (.tuple #[.int .i64 g,.int .i64 0])/\Below W.heap.size W W'):=fun W W' e h=>⟨h.1,h.2⟩
   clear he hx hb0 hC hg h1 hT;go_enter func95,ntmps95;go_wp2_with (go_at_call 140;refine HN.out.mono ?_;intro e w1 hp;obtain⟨rfl,hb1⟩:=uY.out _ _ _ hp;refine aaj ?_);refine ζ ?_;have HB:=ζ (aH.out.trans (hb1.mono aH.out.size));clear hb1 hp;go_wp2;go_ret;exact⟨rfl,HB.out⟩
  .have t1:(g==0)=false:=by simpa using h1
   have hD:T=false:=by rw[hT];simp[h1]
   subst hD;have uY:Hid (∀(W W':World) (e:Ending),zx 0 g W e W'->e= .returned (.tuple #[.int .i64 g,.int .i64 0])/\Below W.heap.size W W'):=fun W W' e h=>⟨h.1,h.2⟩
   clear he hx hb0 hC hg h1 hT;go_enter func95,ntmps95;go_wp2_with (go_at_call 140;refine HN.out.mono ?_;intro e w1 hp;obtain⟨rfl,hb1⟩:=uY.out _ _ _ hp;refine aaj ?_);refine ζ ?_;have HB:=ζ (aH.out.trans (hb1.mono aH.out.size));clear hb1 hp;go_wp2;go_ret;exact⟨rfl,HB.out⟩
 .have t0:(C==0)=false:=by simpa using h0
  have hD:T=false:=by rw[hT];simp[h0]
  subst hD;have uY:Hid (∀(W W':World) (e:Ending),zx C g W e W'->e= .returned (.tuple #[.int .i64 0,.int .i64 C])/\Below W.heap.size W W'):=fun W W' e h=>⟨by rw[h.1,if_neg h0],h.2⟩
  clear he hx hb0 hC hg h0 hT;go_enter func95,ntmps95;go_wp2_with (go_at_call 140;refine HN.out.mono ?_;intro e w1 hp;obtain⟨rfl,hb1⟩:=uY.out _ _ _ hp;refine aaj ?_);refine ζ ?_;have HB:=ζ (aH.out.trans (hb1.mono aH.out.size));clear hb1 hp;go_wp2;go_ret;exact⟨rfl,HB.out⟩
end
end Go.Proofs.YtdbjpbjocmcpkaaGreatDoor
