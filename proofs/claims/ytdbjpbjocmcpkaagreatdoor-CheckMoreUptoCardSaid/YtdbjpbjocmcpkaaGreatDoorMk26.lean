import Derived.Test.YtdbjpbjocmcpkaaGreatDoorMk24
import Derived.Test.YtdbjpbjocmcpkaaGreatDoorMk25
import Derived.Test.YtdbjpbjocmcpkaaGreatDoorMk10
set_option maxHeartbeats 16000000
set_option maxRecDepth 100000
namespace Go.Proofs.YtdbjpbjocmcpkaaGreatDoor
section
open Go.Proofs.Tryz
open Go.RowKit Go.Sort
def Co.DF (n:Nat) (es:List (Int×Int)):Nat->Nat:=Co.joins n es (fun x=>x)
def PG (n:Int) (es:List (Int×Int)) (w:World) (e:Ending) (w':World):Prop:=
 ((∃(m:Nat) (v:Value),n=(m:Int)/\Si.Val n es/\e= .returned (.tuple #[v,.int .i64 (Co.cnt m (Co.DF m es):Int),.int .i64 0])/\av w' w.heap.size v (Co.ints m (Co.num (Co.DF m es))))\/(Si.valid n es=false/\e= .returned (.tuple #[.slice none 0 0,.int .i64 0,.int .i64 1])))/\Below w.heap.size w w'
theorem OX (n:Int) (ao:Option Addr) (cap:Nat) (es:List (Int×Int)) (w:World) (he:ah w ao es) (hl:es.length<=4611686018427387904):
 Calls prog 258 #[aD n ao es.length cap] w (PG n es w):=by
 have HE:=ζ he;have xG:=fun W (hb:Below w.heap.size w W)=>lu n ao cap es W (he.later hb) hl
 unfold aD at xG ⊢;have jA:=ζ xG;clear he xG;have jg:Below w.heap.size w (w.alloc (.cells #[.int .i64 n,.slice ao es.length cap] 24)):=(aaE _ _).alloc (aaD _) _;have fQ:=ζ jg;clear jg;cases hv:Si.valid n es with
 |false=>
  rw[hv] at jA;have HV:=ζ hv;clear hv;go_enter func258,ntmps258;go_wp2_with (go_at_call 38;refine(jA.out _ fQ.out).mono ?_;rintro e w' ⟨rfl,hb⟩;refine aaH ?_);refine ζ ?_;have HB:=ζ (fQ.out.trans (hb.mono fQ.out.size));clear hb;go_wp2
  go_ret3
  exact⟨.inr ⟨HV.out,rfl⟩,HB.out⟩
 |true=>
  rw[hv] at jA;have hval:=Si.aJ.1 hv;have dA:=hval.few;have hlo:=hval.lo;have hhi:=hval.hi;obtain⟨m,rfl⟩:∃m:Nat,n=(m:Int):=⟨n.toNat,by omega⟩;have iB:=ζ hval;clear hval hv;have jB:=ζ (fun W=>LY (m:Int) W);go_enter func258,ntmps258;go_wp2_with (go_at_call 38;refine(jA.out _ fQ.out).mono ?_;rintro e w' ⟨rfl,hb⟩;refine aaH ?_);refine ζ ?_;have hG:w'.heap[w.heap.size]? =some (.cells #[.int .i64 m,.slice ao es.length cap] 24 (0,0)):=(hb.block _ (by simp)).trans (heap_alloc_new w _);have HB:=ζ (fQ.out.trans (hb.mono fQ.out.size));have GI:=lt_of_block hG;have HG:=ζ hG;obtain⟨g0,g1,-⟩:=af hG;clear hb hG jA;have hnew:=(jB.out w').mono (R':=fun e W=>∃p gp gt:Nat,e= .returned (.tuple #[.pointer (some ⟨p,0,none⟩),.int .i64 0])/\(dO W p gp gt m (fun x=>x)/\w'.heap.size<=p/\w'.heap.size<=gp/\w'.heap.size<=gt)/\Below w'.heap.size w' W) (by
   rintro e W ⟨⟨k,p,gp,gt,h1,h2,h3,h4⟩|⟨h1,_⟩,hb⟩
   .obtain rfl:m=k:=by omega
    exact⟨p,gp,gt,h3,h4,hb⟩
   .omega)
  have HN:=ζ hnew;clear hnew jB;go_wp2_with (go_at_call 287;refine HN.out.mono ?_;rintro e w2 ⟨p,gp,gt,rfl,hs,hb2⟩;have zT:=ζ hs;have aC:=ζ hb2;clear hs hb2;refine aaH ?_);refine ζ ?_;obtain⟨hs0,b1,b2,b3⟩:=zT.out;have k1:=(aC.out.cell (p:=⟨w.heap.size,1,none⟩) GI).trans g1;have FU:=ζ (HB.out.trans (aC.out.mono HB.out.size));have hsw:=HB.out.size;have Zd:Hid (jz w2 (some (p,gp,gt)) m (fun x=>x)):=hs0;clear hs0 HN g0 g1 zT;go_wp2;go_loopw [21] (fun c wr=>∃k:Nat,k<=es.length/\c= .int .i64 (k:Int)/\jz wr (some (p,gp,gt)) m (Co.DF m (es.take k))/\Below w.heap.size w wr) (fun c _=>es.length-(intOf c).toNat)
  case atStart=>exact⟨0,aaL _,rfl,Zd.out,FU.out⟩
  case round=>
   obtain⟨k,hk,rfl,hQ,hb⟩:=hrel;have HQ:=ζ hQ;have TG:=ζ hb;by_cases hlt:k<es.length
   .have aX:(k:Int)<(es.length:Int):=by omega
    have hk0:(0:Int)<=(k:Int):=by omega
    obtain⟨q,hq⟩:∃q,es[k]? =some q:=⟨_,aaC hlt⟩;obtain⟨b,o,rfl,c0,c1⟩:=(HE.out.later hb) k q hq;have hbl:b<wr.heap.size:=block_lt_of_cell c0;have hb3:Below w.heap.size w (wr.alloc (.cells #[.int .i64 q.1,.int .i64 q.2] 66)):=hb.alloc hb.size _;have hj:=Ko (some (p,gp,gt)) m (Co.DF m (es.take k)) q.1 q.2 _ (hQ.later ((aaE _ _).alloc (aaD _) (.cells #[.int .i64 q.1,.int .i64 q.2] 66)));have hend:∀e w3,iN (some (p,gp,gt)) m (Co.DF m (es.take k)) q.1 q.2 (wr.alloc (.cells #[.int .i64 q.1,.int .i64 q.2] 66)) e w3->(∃t,e= .returned (.bool t))/\jz w3 (some (p,gp,gt)) m (Co.DF m (es.take (k+1)))/\Below w.heap.size w w3:=by
     rintro e w3 ⟨h1,h2,h3⟩;refine⟨⟨_,h1⟩,?_,hb3.trans (h3.below hb3.size ?_)⟩
     .rw[Si.e9 hq]
      unfold Co.DF;rw[Co.uq];exact h2
     .rintro x (rfl|rfl|rfl)<;>omega
    have HJ:=ζ (hj.mono hend);clear hj hend hQ hb hb3 hq;unfold qR at HJ;go_wp2_with (go_at_call 288;refine HJ.out.mono ?_;rintro e w3 ⟨⟨t,rfl⟩,h2,h3⟩;have H2:=ζ h2;have H3:=ζ h3;clear h2 h3;refine aaH ?_);refine ζ ?_;go_wp2;go_roundw
    case rel=>exact⟨k+1,by omega,by go_num,H2.out,H3.out⟩
    case measure=>simp[intOf];omega
   .have hd:¬((k:Int)<(es.length:Int)):=by omega
    rw[aa3 (by omega)] at hQ;have iz:=zy _ m _ wr hQ.is;have M4:=fun W (hb:Below wr.heap.size wr W)=>Hq _ m _ W (hQ.later hb).is
    unfold qR at iz M4;have WG:=ζ iz;have Xj:=ζ M4;have hwr:=hb.size;clear hQ hb iz M4 HQ;go_wp2_with (first|(go_at_call 289;refine WG.out.mono ?_;rintro e w4 ⟨v,rfl,h4,hb4⟩;have H4:=ζ h4;have eZ:=ζ hb4;clear h4 hb4)|(go_at_call 290;refine(Xj.out _ eZ.out).mono ?_;rintro e w5 ⟨rfl,Kv⟩;obtain rfl:=Kv.symm))
    go_ret3
    exact⟨.inl ⟨m,v,rfl,iB.out,rfl,H4.out.lower hwr⟩,TG.out.trans (eZ.out.mono hwr)⟩
end
section
open Go.Proofs.Tryz
open Go.RowKit Go.Maps
theorem aZ.low {W U:World} {b:Nat} {ao:Option Addr} {l:List Int} (h:aZ W ao l) (hb:∀x,ao=some x->x.block<b) (hB:Below b W U):aZ U ao l:=fun j x hj=>by
 obtain⟨k,o,e,hc⟩:=h j x hj;refine⟨k,o,e,?_⟩;have:=hb _ e;rw[<-hc];simp only[World.cell?];rw[hB.block k this]
theorem Gt (c:Int) (W:World):(Instr.makeMap 311 (some (.int .i64 c))).run prog W= .ok (.map (some W.heap.size)) (W.alloc (.map #[] 0)):=by
 simp[Instr.makeMap,run_underlying Tryz.underlying311,asInt,asIntOf,Result.andThen]
theorem PM.made (W:World):PM (W.alloc (.map #[] 0)) W.heap.size 0 (fun _=>false) (fun _=>0) (fun _=>0) (fun _=>0):=by
 refine⟨.map [],World.ownsMap_made W _ _ _,fun j=>rfl,fun kl=> ?_⟩;constructor
 .intro h;cases h
 .rintro⟨j,_,h⟩;cases h
namespace Fa
open Co
theorem vZ (F:Nat->Nat) (k:Nat):(Co.upd (fun j=>au (fun v=>decide (F v=j)) k) (F k) (au (fun v=>decide (F v=F k)) k+1))=fun j=>au (fun v=>decide (F v=j)) (k+1):=by
 funext j;show _=au (fun v=>decide (F v=j)) k+if decide (F k=j)=true then 1 else 0
 by_cases e:j=F k
 .rw[e,Co.upd_same]
  simp
 .rw[Co.aU _ e,if_neg]
  .rfl
  .simp
   exact fun h=>e h.symm
theorem kI (x:Nat->Nat) (j:Nat):Co.upd x j (x j+0)=x:=by
 funext i;by_cases e:i=j
 .rw[e,Co.upd_same]
  rfl
 .rw[Co.aU _ e]
theorem tL {hs:Nat->Bool} {j:Nat} (h:hs j=true):Co.bB hs j true=hs:=by
 funext i;by_cases e:i=j
 .rw[e,Co.fS,h]
 .rw[Co.dS _ e]
end Fa
def Jz (N:Nat) (es:List (Int×Int)) (fs:List (List Nat)) (w:World) (e:Ending) (w':World):Prop:=
 ∃b n,e= .returned (.map (some b))/\w.heap.size<=b/\n<=13631488/\PM w' b n (fun j=>decide (j<Co.cnt N (Fa.cp N es))) (fun j=>Fa.cV N es j N) (fun j=>Fa.cE N es j es.length) (fun j=>Fa.zF N es fs j fs.length)/\Below w.heap.size w w'
theorem BJ (N:Nat) (ao:Option Addr) (ca:Nat) (es:List (Int×Int)) (fo:Option Addr) (fc K:Nat) (fs:List (List Nat)) (w:World) (he:ah w ao es) (hv:Si.Val N es) (hf:bu w fo (fs.map Fa.zl)) (hK:fs.length=K) (hKb:K<=8388608) (hne:∀l∈fs,l≠[]/\Fa.hd l<2*es.length):
 Calls prog 206 #[aD (N:Int) ao es.length ca,.slice fo K fc] w (Jz N es fs w):=by
 have dA:=hv.few;have hhi:=hv.hi;have hn:=(Fa.vL (N:=N) (es:=es)).norm;have hb0:Below w.heap.size w (w.alloc (.cells #[.int .i64 (N:Int),.slice ao es.length ca] 24)):=(aaE _ _).alloc (aaD _) _;have WC:=ζ (OX (N:Int) ao ca es _ (he.later hb0) (by omega));have mC:=ζ (heap_alloc_new w (.cells #[.int .i64 (N:Int),.slice ao es.length ca] 24));have aW:=ζ hb0;have HE:=ζ he;have HV:=ζ hv;have HF:=ζ hf;have HN:=ζ hn;have rQ:=ζ hne;have WY:=ζ hK;have hmk:=Gt;unfold aD at WC ⊢;clear he hf hb0 hn hne hv hK;go_enter func206,ntmps206;go_wp2_with (go_at_call 258;refine WC.out.mono ?_;intro e w1 hp;obtain⟨⟨m1,ov,hmn,-,rfl,UJ⟩|⟨hc,-⟩,hb1⟩:=hp<;>refine aaH ?_)
 all_goals (first|(exact absurd (Si.aJ.2 HV.out) (by rw[hc];simp))|skip)
 refine ζ ?_;have hm1:m1=N:=by omega
 subst hm1;obtain⟨oo,oc,MG,UM,UL⟩:=UJ.form;have hol:(Co.ints m1 (Co.num (Co.DF m1 es))).length=m1:=by simp[Co.ints]
 rw[hol] at MG;subst MG;have MH:w1.heap[w.heap.size]? =some (.cells #[.int .i64 (m1:Int),.slice ao es.length ca] 24 (0,0)):=(hb1.block _ (lt_of_block mC.out)).trans mC.out;have zi:=ζ (aW.out.trans (hb1.mono aW.out.size));obtain⟨W2,hW2⟩:∃W2,W2=w1.alloc (.map #[] 0):=⟨_,rfl⟩;have hb2:Below w1.heap.size w1 W2:=by rw[hW2];exact(aaE _ _).alloc (aaD _) _
 have hs2:w1.heap.size<W2.heap.size:=by rw[hW2];simp
 have hs1:=zi.out.size;have Ww:Hid (PM W2 w1.heap.size 0 (fun _=>false) (fun _=>0) (fun _=>0) (fun _=>0)):=by rw[hW2];exact PM.made w1
 have FU:=ζ (zi.out.trans (hb2.mono zi.out.size));have dP:Hid (∀U,Below w1.heap.size W2 U->aZ U oo (Co.ints m1 (Co.num (Fa.cp m1 es)))/\U.heap[w.heap.size]? =some (.cells #[.int .i64 (m1:Int),.slice ao es.length ca] 24 (0,0))/\Below w.heap.size w U):=fun U hU=>by
  have h2:=hb2.trans hU;refine⟨UM.low (fun x hx=>(UL x hx).2) h2,(h2.block _ (lt_of_block MH)).trans MH,?_⟩;exact zi.out.trans (h2.mono hs1)
 have Il:=ζ hW2;clear UJ UM UL hb1 MH hb2 hmn hol;go_wp2;rw[<-Il.out];clear hmk hW2;go_loopw [25] (fun c wr=>∃(k n:Nat),k<=m1/\n<=k/\c= .int .i64 (k:Int)/\PM wr w1.heap.size n (fun j=>decide (0<Fa.cV m1 es j k)) (fun j=>Fa.cV m1 es j k) (fun _=>0) (fun _=>0)/\Below w1.heap.size W2 wr) (fun c _=>m1-(intOf c).toNat)
 case atStart=>exact⟨0,0,aaL _,aaL _,rfl,by simpa[Fa.cV,Co.au] using Ww.out,aaE _ _⟩
 case round=>
  obtain⟨k,n,hk,hnk,rfl,hP,hb⟩:=hrel;obtain⟨W0,rfl⟩:∃W0,W0=wr:=⟨_,rfl⟩;obtain⟨hint,dN,cm⟩:=dP.out W0 hb;have HP:=ζ hP;have HB:=ζ hb;have hwk:IntKind.i64.wrap ((k:Int)+1)=(k:Int)+1:=by rw[aaK];omega
  by_cases hlt:k<m1
  .have aX:(k:Int)<(m1:Int):=by omega
   have hk0:(0:Int)<=(k:Int):=by omega
   have hat:(Co.ints m1 (Co.num (Fa.cp m1 es)))[k]? =some (Co.num (Fa.cp m1 es) k:Int):=by simp[Co.ints,hlt]
   obtain⟨b,o,rfl,hc⟩:=hint k _ hat;have hnl:=Fa.vF HN.out hlt;have hcl:=Co.bC (Co.fix (Fa.cp m1 es)) m1;have hxl:Fa.cV m1 es (Co.num (Fa.cp m1 es) k) k<=k:=Co.bC _ _;have uS:=ζ (yI w1.heap.size n _ _ _ _ (Co.num (Fa.cp m1 es) k) 1 0 0 W0 hP (by omega) (by omega) (by omega) (by omega) (by omega));have HU:Hid (Co.upd (fun j=>Fa.cV m1 es j k) (Co.num (Fa.cp m1 es) k) (Fa.cV m1 es (Co.num (Fa.cp m1 es) k) k+1)=fun j=>Fa.cV m1 es j (k+1)):=Fa.vZ (Co.num (Fa.cp m1 es)) k;have HH:Hid (Co.bB (fun j=>decide (0<Fa.cV m1 es j k)) (Co.num (Fa.cp m1 es) k) true=fun j=>decide (0<Fa.cV m1 es j (k+1))):=by
    funext j;have e1:Fa.cV m1 es j (k+1)=Fa.cV m1 es j k+if decide (Co.num (Fa.cp m1 es) k=j)=true then 1 else 0:=rfl
    by_cases e:j=Co.num (Fa.cp m1 es) k
    .rw[e,Co.fS,<-e,e1,<-e]
     simp
    .rw[Co.dS _ e,e1,if_neg (by simp;exact fun h=>e h.symm)]
     rfl
   obtain⟨q,hq⟩:∃q,q=Co.num (Fa.cp m1 es) k:=⟨_,rfl⟩;rw[<-hq] at hc uS HU HH;clear hP hint dN cm hat hnl hcl hxl hq hb;go_wp2_with (go_at_call 259;refine uS.out.mono ?_;rintro e w3 ⟨rfl,ru,hw3⟩;refine aaH ?_);refine ζ ?_;have NU:Hid (PM w3 w1.heap.size (n+1) (fun j=>decide (0<Fa.cV m1 es j (k+1))) (fun j=>Fa.cV m1 es j (k+1)) (fun _=>0) (fun _=>0)):=by
    have h3:=ru;rw[HU.out,HH.out,Fa.kI (fun _=>0) q] at h3;exact h3
   have aK:Hid (Below w1.heap.size W2 w3):=HB.out.trans (hw3.below (by have:=HB.out.size;omega) (fun k hk=>by omega));clear ru hw3;go_wp2;go_roundw
   case rel=>exact⟨k+1,n+1,by omega,by omega,by go_num,NU.out,aK.out⟩
   case measure=>simp[intOf];omega
  .have hd:¬(k:Int)<(m1:Int):=by omega
   have hkm:k=m1:=by omega
   subst hkm;have HS:Hid ((fun j=>decide (0<Fa.cV k es j k))=fun j=>decide (j<Co.cnt k (Fa.cp k es))):=by
    funext j;rw[abO,decide_eq_true_iff,decide_eq_true_iff];exact Fa.PD
   rw[HS.out] at hP;have NV:=ζ hP;obtain⟨x0,x1,-⟩:=af dN;clear hP hint dN cm hb;go_wp2;clear x0 x1;go_loopw [37] (fun c wr=>∃(i n:Nat),i<=es.length/\n<=k+i/\c= .int .i64 (i:Int)/\PM wr w1.heap.size n (fun j=>decide (j<Co.cnt k (Fa.cp k es))) (fun j=>Fa.cV k es j k) (fun j=>Fa.cE k es j i) (fun _=>0)/\Below w1.heap.size W2 wr) (fun c _=>es.length-(intOf c).toNat)
   case atStart=>exact⟨0,n,aaL _,by omega,rfl,by simpa[Fa.cE,Co.au] using NV.out,HB.out⟩
   case round=>
    obtain⟨i,n,hi,hni,rfl,hP,hb⟩:=hrel;obtain⟨W1,rfl⟩:∃W1,W1=wr:=⟨_,rfl⟩;obtain⟨hint,dN,cm⟩:=dP.out W1 hb;have HP:=ζ hP;have TJ:=ζ hb;have hwi:IntKind.i64.wrap ((i:Int)+1)=(i:Int)+1:=by rw[aaK];omega
    by_cases hlt:i<es.length
    .have aX:(i:Int)<(es.length:Int):=by omega
     have xO:(0:Int)<=(i:Int):=by omega
     obtain⟨p,hp⟩:∃p,es[i]? =some p:=⟨_,aaC hlt⟩;obtain⟨be,oe,rfl,Fj,Nw⟩:=(HE.out.later cm) i p hp;have hok:=HV.out.each i p hp;unfold Si.ok at hok;obtain⟨pu,pv⟩:=p;dsimp only at Fj Nw hok;obtain⟨u,rfl⟩:∃u:Nat,pu=(u:Int):=⟨pu.toNat,by omega⟩;have Ms:u<k:=by omega
     have hfr:Cs.fr es (2*i)=u:=by rw[(Cs.eu hp).1];simp
     have hat:(Co.ints k (Co.num (Fa.cp k es)))[u]? =some (Co.num (Fa.cp k es) u:Int):=by simp[Co.ints,Ms]
     obtain⟨b,o,rfl,hc⟩:=hint u _ hat;have hnl:=Fa.vF HN.out Ms;have hcl:=Co.bC (Co.fix (Fa.cp k es)) k;have hxl:Fa.cE k es (Co.num (Fa.cp k es) u) i<=i:=Co.bC _ _;have pX:Fa.cV k es (Co.num (Fa.cp k es) u) k<=k:=Co.bC _ _;have uS:=ζ (fun W hW=>yI w1.heap.size n _ _ _ _ (Co.num (Fa.cp k es) u) 0 1 0 W (hP.kept hW) (by omega) (by omega) (by omega) (by omega) (by omega));have HU:Hid (Co.upd (fun j=>Fa.cE k es j i) (Co.num (Fa.cp k es) u) (Fa.cE k es (Co.num (Fa.cp k es) u) i+1)=fun j=>Fa.cE k es j (i+1)):=by
      have:=Fa.vZ (fun e=>Co.num (Fa.cp k es) (Cs.fr es (2*e))) i;simp only[hfr] at this;exact this
     have HH:Hid (Co.bB (fun j=>decide (j<Co.cnt k (Fa.cp k es))) (Co.num (Fa.cp k es) u) true=fun j=>decide (j<Co.cnt k (Fa.cp k es))):=Fa.tL (by rw[decide_eq_true_iff];exact hnl);obtain⟨q,hq⟩:∃q,q=Co.num (Fa.cp k es) u:=⟨_,rfl⟩;rw[<-hq] at hc uS HU HH;obtain⟨x0,x1,-⟩:=af dN;have u0:(0:Int)<=(u:Int):=by omega
     have u1:(u:Int)<(k:Int):=by omega
     clear hP hint dN cm hat hnl hcl hxl pX hq hb hp hfr hok;have gQ:=block_lt_of_cell Fj;have KF:=block_lt_of_cell hc;have PK:Hid (∀W,Below W1.heap.size W1 W->Calls prog 259 #[.map (some w1.heap.size),.int .i64 (q:Int),.agg #[.int .i64 0,.int .i64 1,.int .i64 0]] W fun e w'=>e= .returned (.tuple #[])/\PM w' w1.heap.size (n+1) (fun j=>decide (j<Co.cnt k (Fa.cp k es))) (fun j=>Fa.cV k es j k) (fun j=>Fa.cE k es j (i+1)) (fun _=>0)/\Below w1.heap.size W2 w'):=fun W hW=>by
      refine(uS.out W (hW.block _ HP.out.lt)).mono ?_;rintro e w' ⟨rfl,ru,hw3⟩;refine⟨rfl,?_,?_⟩
      .rw[HU.out,HH.out,Fa.kI (fun j=>Fa.cV k es j k) q,Fa.kI (fun _=>0) q] at ru
       exact ru
      .have h1:=TJ.out.trans (hW.mono (by have:=TJ.out.size;omega))
       exact h1.trans (hw3.below (by have:=h1.size;omega) (fun k hk=>by omega))
     go_wp2_with (go_at_call 259;refine(PK.out _ ((aaE _ _).alloc (aaD _) _)).mono ?_;rintro e w3 ⟨rfl,ru,hb3⟩;refine aaH ?_);refine ζ ?_;have NU:=ζ ru;have aK:=ζ hb3;clear ru hb3;go_wp2;go_roundw
     case rel=>exact⟨i+1,n+1,by omega,by omega,by go_num,NU.out,aK.out⟩
     case measure=>simp[intOf];omega
    .have hd2:¬(i:Int)<(es.length:Int):=by omega
     have Vc:i=es.length:=by omega
     have Zj:Hid (PM W1 w1.heap.size n (fun j=>decide (j<Co.cnt k (Fa.cp k es))) (fun j=>Fa.cV k es j k) (fun j=>Fa.cE k es j es.length) (fun _=>0)):=by
      rw[Vc] at hP;exact hP
     clear hP hint dN cm hb Vc;go_wp2;go_loopw [52] (fun c wr=>∃(i n:Nat),i<=K/\n<=k+es.length+i/\c= .int .i64 (i:Int)/\PM wr w1.heap.size n (fun j=>decide (j<Co.cnt k (Fa.cp k es))) (fun j=>Fa.cV k es j k) (fun j=>Fa.cE k es j es.length) (fun j=>Fa.zF k es fs j i)/\Below w1.heap.size W2 wr) (fun c _=>K-(intOf c).toNat)
     case atStart=>exact⟨0,n,aaL _,by omega,rfl,by simpa[Fa.zF,Co.au] using Zj.out,TJ.out⟩
     case round=>
      obtain⟨i,n,hi,hni,rfl,hP,hb⟩:=hrel;obtain⟨W3,rfl⟩:∃W3,W3=wr:=⟨_,rfl⟩;obtain⟨hint,dN,cm⟩:=dP.out W3 hb;have HP:=ζ hP;have aK:=ζ hb;have hwi:IntKind.i64.wrap ((i:Int)+1)=(i:Int)+1:=by rw[aaK];omega
      by_cases hlt:i<K
      .have aX:(i:Int)<(K:Int):=by omega
       have xO:(0:Int)<=(i:Int):=by omega
       obtain⟨l,hlk⟩:∃l,fs[i]? =some l:=⟨_,aaC (by rw[WY.out];exact hlt)⟩;have hlz:(fs.map Fa.zl)[i]? =some (Fa.zl l):=by rw[aaY,hlk];rfl
       obtain⟨bf,of,A,C,rfl,Ew,hL,-,-,-⟩:=HF.out i _ hlz;obtain⟨hl0,R7⟩:=rQ.out l (aaG hlk);obtain⟨r,hr⟩:∃r,r=Fa.hd l:=⟨_,rfl⟩;rw[<-hr] at R7;have hlr:(Fa.zl l)[0]? =some (r:Int):=by
        cases l with
        |nil=>exact absurd rfl hl0
        |cons y l=>rw[hr];rfl
       obtain⟨bl,ol,rfl,hcl⟩:=hL.ints 0 _ hlr;rw[abv] at hcl;have Ym:0<(Fa.zl l).length:=by
        cases l with
        |nil=>exact absurd rfl hl0
        |cons y l=>simp[Fa.zl]
       obtain⟨p,hp⟩:∃p,es[r/2]? =some p:=⟨_,aaC (by omega)⟩;obtain⟨be,oe,rfl,Fj,Nw⟩:=HE.out (r/2) p hp;have hok:=HV.out.each _ p hp;unfold Si.ok at hok;obtain⟨pu,pv⟩:=p;dsimp only at Fj Nw hok;obtain⟨u,rfl⟩:∃u:Nat,pu=(u:Int):=⟨pu.toNat,by omega⟩;have Ms:u<k:=by omega
       have hfr:Cs.fr es (2*(r/2))=u:=by rw[(Cs.eu hp).1];simp
       have iz:Co.num (Fa.cp k es) u=Co.num (Fa.cp k es) (Cs.fr es r):=by
        unfold Co.num;rcases abt r with h2|h2
        .have e:2*(r/2)=r:=by omega
         rw[<-hfr,e]
        .have e:2*(r/2)=Cs.twin r:=by unfold Cs.twin;rw[if_neg (by omega)];omega
         rw[<-hfr,e,Fa.yx HV.out R7]
       have hat:(Co.ints k (Co.num (Fa.cp k es)))[u]? =some (Co.num (Fa.cp k es) u:Int):=by simp[Co.ints,Ms]
       obtain⟨b,o,rfl,hc⟩:=hint u _ hat;have hnl:=Fa.vF HN.out Ms;have Vt:=Co.bC (Co.fix (Fa.cp k es)) k;have hxl:Fa.zF k es fs (Co.num (Fa.cp k es) u) i<=i:=Co.bC _ _;have pX:Fa.cV k es (Co.num (Fa.cp k es) u) k<=k:=Co.bC _ _;have mH:Fa.cE k es (Co.num (Fa.cp k es) u) es.length<=es.length:=Co.bC _ _;have uS:=ζ (fun W hW=>yI w1.heap.size n _ _ _ _ (Co.num (Fa.cp k es) u) 0 0 1 W (hP.kept hW) (by omega) (by omega) (by omega) (by omega) (by omega));have HU:Hid (Co.upd (fun j=>Fa.zF k es fs j i) (Co.num (Fa.cp k es) u) (Fa.zF k es fs (Co.num (Fa.cp k es) u) i+1)=fun j=>Fa.zF k es fs j (i+1)):=by
        have:=Fa.vZ (fun e=>Co.num (Fa.cp k es) (Cs.fr es (Fa.hd (fs.getD e [])))) i;have e2:fs.getD i []=l:=by rw[aaI,hlk];rfl
        simp only[e2,<-hr,<-iz] at this;exact this
       have HH:Hid (Co.bB (fun j=>decide (j<Co.cnt k (Fa.cp k es))) (Co.num (Fa.cp k es) u) true=fun j=>decide (j<Co.cnt k (Fa.cp k es))):=Fa.tL (by rw[decide_eq_true_iff];exact hnl);obtain⟨q,hq⟩:∃q,q=Co.num (Fa.cp k es) u:=⟨_,rfl⟩;rw[<-hq] at hc uS HU HH;obtain⟨x0,x1,-⟩:=af dN;have u0:(0:Int)<=(u:Int):=by omega
       have u1:(u:Int)<(k:Int):=by omega
       obtain⟨rh,RO⟩:∃rh,rh=r/2:=⟨_,rfl⟩;have td:(r:Int).tdiv 2=(rh:Int):=by rw[abj (by omega)];omega
       have td2:(r:Int)/2=(rh:Int):=by omega
       have td3:r/2=rh:=RO.symm;have tw:IntKind.i64.wrap (rh:Int)=(rh:Int):=by rw[aaK];omega
       have rh0:(0:Int)<=(rh:Int):=by omega
       have rh1:(rh:Int)<(es.length:Int):=by omega
       rw[<-RO] at Fj Nw;obtain⟨lq,RV⟩:∃lq,lq=(Fa.zl l).length:=⟨_,rfl⟩;rw[<-RV] at Ew Ym;have lq0:(0:Int)<(lq:Int):=by omega
       have PK:Hid (∀W,Below W3.heap.size W3 W->Calls prog 259 #[.map (some w1.heap.size),.int .i64 (q:Int),.agg #[.int .i64 0,.int .i64 0,.int .i64 1]] W fun e w'=>e= .returned (.tuple #[])/\PM w' w1.heap.size (n+1) (fun j=>decide (j<Co.cnt k (Fa.cp k es))) (fun j=>Fa.cV k es j k) (fun j=>Fa.cE k es j es.length) (fun j=>Fa.zF k es fs j (i+1))/\Below w1.heap.size W2 w'):=fun W hW=>by
        refine(uS.out W (hW.block _ HP.out.lt)).mono ?_;rintro e w' ⟨rfl,ru,hw3⟩;refine⟨rfl,?_,?_⟩
        .rw[HU.out,HH.out,Fa.kI (fun j=>Fa.cV k es j k) q,Fa.kI (fun j=>Fa.cE k es j es.length) q] at ru
         exact ru
        .have h1:=aK.out.trans (hW.mono (by have:=aK.out.size;omega))
         exact h1.trans (hw3.below (by have:=h1.size;omega) (fun k hk=>by omega))
       have HS:Hid (∀U,Below w1.heap.size W2 U->U.cell? ⟨w.heap.size,1,none⟩=some (.slice (some ⟨be,oe,none⟩) es.length ca)/\U.cell? ⟨bl,ol,none⟩=some (.int .i64 (r:Int))/\U.cell? ⟨be,oe+rh*2,none⟩=some (.int .i64 (u:Int))/\U.cell? ⟨b,o+u,none⟩=some (.int .i64 (q:Int))):=fun U hU=>by
        obtain⟨hint',Sm,Qz⟩:=dP.out U hU;obtain⟨b',o',e',hc'⟩:=hint' u _ hat;cases e';rw[<-hq] at hc';exact⟨(af Sm).2.1,(Qz.cell (p:=⟨bl,ol,none⟩) (block_lt_of_cell hcl)).trans hcl,(Qz.cell (p:=⟨be,oe+rh*2,none⟩) (block_lt_of_cell Fj)).trans Fj,hc'⟩
       have aav:=(cm.cell (p:=⟨bf,of+i,none⟩) (block_lt_of_cell Ew)).trans Ew;have y0:=HS.out W3 hb;have yd:=HS.out W3.drew hb.drew;clear hP hint dN cm hat hnl Vt hxl pX mH hq hb hp hfr hok iz hlk hlz hL hl0 R7 hr hlr RO RV;clear Ew hcl Fj Nw x0 x1 hc;go_wp2_with fail
       go_region_held3 (fun U=>U.cell? ⟨w.heap.size,1,none⟩=some (.slice (some ⟨be,oe,none⟩) es.length ca)/\U.cell? ⟨bl,ol,none⟩=some (.int .i64 (r:Int))/\U.cell? ⟨be,oe+rh*2,none⟩=some (.int .i64 (u:Int))/\U.cell? ⟨b,o+u,none⟩=some (.int .i64 (q:Int)))
        (first|exact yd|exact y0|exact Nf)
        ((go_at_call 259;refine(PK.out W3.drew (aaE _ _).drew).mono ?_;rintro e w3 ⟨rfl,ru,hb3⟩;have Nf:=HS.out w3 hb3))
       have NU:=ζ ru;have CQ:=ζ hb3;clear ru hb3 Nf yd y0 HS PK;go_wp2;go_roundw
       case rel=>exact⟨i+1,n+1,by omega,by omega,by go_num,NU.out,CQ.out⟩
       case measure=>simp[intOf];omega
      .have Sj:¬(i:Int)<(K:Int):=by omega
       have Vf:i=K:=by omega
       have Zi:Hid (PM W3 w1.heap.size n (fun j=>decide (j<Co.cnt k (Fa.cp k es))) (fun j=>Fa.cV k es j k) (fun j=>Fa.cE k es j es.length) (fun j=>Fa.zF k es fs j fs.length)):=by
        rw[WY.out];rw[Vf] at hP;exact hP
       have gw:=ζ cm;clear hP hint dN cm hb Vf;go_wp2;go_ret;exact⟨w1.heap.size,n,rfl,hs1,by omega,Zi.out,gw.out⟩
end
section
open Go.Proofs.Tryz
open Go.RowKit Go.Sort
structure cM (w:World) (g n:Nat) (f:Nat->Nat):Prop where
 lt:g<w.heap.size
 cell:∀h,h<n->w.cell? ⟨g,Cs.twin h,none⟩=some (.int .i64 (f h:Int))
 even:n%2=0
 few:n<=8388608
 oO:Fa.gT n f
theorem cM.later {w w':World} {g n:Nat} {f:Nat->Nat} (h:cM w g n f) (hb:Below w.heap.size w w'):cM w' g n f:=
 ⟨by have:=hb.size;have:=h.lt;omega,fun x hx=>(hb.cell (p:=⟨g,Cs.twin x,none⟩) h.lt).trans (h.cell x hx),h.even,h.few,h.oO⟩
theorem cM.same {w w':World} {g n:Nat} {f:Nat->Nat} (h:cM w g n f) (hb:w'.heap[g]? =w.heap[g]?) (hs:g<w'.heap.size):cM w' g n f:=
 ⟨hs,fun x hx=>by rw[<-h.cell x hx];simp only[World.cell?];rw[hb],h.even,h.few,h.oO⟩
def LH:Value->Nat
 | .slice _ n _=>n
 |_=>0
theorem EK (g n:Nat) (f:Nat->Nat) (h:Nat) (w:World) (hs:cM w g n f) (hh:h<n):
 Calls prog 291 #[.slice (some ⟨g,0,none⟩) n n,.int .i64 (h:Int)] w fun e w'=>e= .returned (.int .i64 (f h:Int))/\Below w.heap.size w w':=by
 have dA:=hs.few;have hev:=hs.even;have O6:=Cs.kF h (by omega);have hc:=hs.cell h hh;have Uu:Cs.twin h<n:=by
  have:=Cs.dV (i:=h) (m:=n/2) (by omega);omega
 obtain⟨t,ht⟩:∃t,t=Cs.twin h:=⟨_,rfl⟩;rw[<-ht] at O6 hc Uu;have i0:(0:Int)<=(t:Int):=by omega
 have i1:(t:Int)<(n:Int):=by omega
 have HB:=ζ (aaE w.heap.size w);clear hs hh ht Uu;go_enter func291,ntmps291;go_wp2;go_ret;exact⟨rfl,HB.out⟩
theorem Gd (g n:Nat) (f:Nat->Nat) (h:Nat) (w:World) (hs:cM w g n f) (hh:h<n):
 Calls prog 260 #[.slice (some ⟨g,0,none⟩) n n,.int .i64 (h:Int)] w (Lh (Fa.zl (Fa.eW f n h)) w):=by
 obtain⟨p,hp⟩:=Fa.vG hs.oO hh;rw[Fa.oD hp];have HP:=ζ hp;have HS:=ζ hs;have aae:=hp.le;have dA:=hs.few;have hlt:=fun i=>Pl.lK hs.oO.lt i hh
 have HF:Hid (∀(W:World) (x:Nat),Below w.heap.size w W->x<n->Calls prog 291 #[.slice (some ⟨g,0,none⟩) n n,.int .i64 (x:Int)] W fun e w'=>e= .returned (.int .i64 (f x:Int))/\Below W.heap.size W w'):=fun W x hb hx=>EK g n f x W (hs.later hb) hx
 have NX:Hid (av (w.alloc (.cells #[.int .i64 (h:Int)] 3)) w.heap.size (.slice (some ⟨w.heap.size,0,none⟩) 1 1) (Fa.zl (Fa.way f h 1))):=by
  have:aq (w.alloc (.cells #[.int .i64 (h:Int)] 3)) w.heap.size [(h:Int)]:=heap_alloc_new w _;exact this.own (aaD _) rfl (by omega)
 have hb1:Below w.heap.size w (w.alloc (.cells #[.int .i64 (h:Int)] 3)):=(aaE _ _).alloc (aaD _) _;have aN:=ζ hb1;have Ok:=ζ (HF.out _ h hb1 hh);have mK:=ζ hlt;clear hs hh hp hb1 hlt;go_enter func260,ntmps260;go_wp2_with (go_at_call 291;refine Ok.out.mono ?_;rintro e w1 ⟨rfl,hb⟩;refine aaH ?_);refine ζ ?_;have yU:=ζ (NX.out.later hb);have aC:=ζ (aN.out.trans (hb.mono aN.out.size));clear hb;go_wp2;go_loopw [5,6] (fun c5 c6 wr=>∃j:Nat,0<j/\j<=p/\c6= .int .i64 (Pl.it f j h:Int)/\av wr w.heap.size c5 (Fa.zl (Fa.way f h j))/\Below w.heap.size w wr) (fun c5 _ _=>p-LH c5)
 case atStart=>exact⟨1,by omega,HP.out.pos,rfl,yU.out,aC.out⟩
 case round=>
  obtain⟨j,hj0,hj,rfl,hO,hb⟩:=hrel;obtain⟨W0,rfl⟩:∃W0,W0=wr:=⟨_,rfl⟩;obtain⟨uo,uc,Ut,-⟩:=hO.form;rw[Fa.nT,Fa.kG] at Ut;subst Ut;have HO:=ζ hO;have HB:=ζ hb;have hsz:=hb.size;obtain⟨y,hy⟩:∃y,y=Pl.it f j h:=⟨_,rfl⟩;have pW:=mK.out j;rw[<-hy] at pW ⊢;have HY:=ζ hy;by_cases e:y=h
  .have MQ:j=p:=by
    rcases abk j p with c|c
    .exact absurd (hy.symm.trans e) (HP.out.first j hj0 c)
    .omega
   have tn:((y:Int) != (h:Int))=false:=by simp[e]
   have HJ:=ζ MQ;clear hO hb hy e MQ;go_wp2;go_ret;exact⟨_,rfl,by rw[<-HJ.out];exact HO.out,HB.out⟩
  .have MQ:j<p:=by
    rcases abk j p with c|c
    .exact c
    .have:j=p:=by omega
     rw[this,HP.out.back] at hy;exact absurd hy e
   have tn:((y:Int) != (h:Int))=true:=by
    have:(y:Int)≠(h:Int):=by omega
    simpa using this
   have HJ:=ζ MQ;clear hO hb hy e MQ;go_wp2_with (at_builtin;refine eG rfl _ _ rfl W0 w.heap.size _ (Fa.zl (Fa.way f h j)) (y:Int) HO.out hsz (by rw[Fa.nT,Fa.kG];omega) rfl rfl ?_;refine aaH ?_);refine ζ ?_;intro v' w3 B8 hg3 x7 hb3;have FH:Hid (av w3 w.heap.size v' (Fa.zl (Fa.way f h (j+1)))):=by
    rw[Fa.JK,<-HY.out];unfold Fa.zl;rw[abh];exact B8
   have aK:=ζ (HB.out.trans hb3);obtain⟨vo,vc,je,-⟩:=FH.out.form;rw[Fa.nT,Fa.kG] at je;subst je;have P0:=ζ (HF.out w3 y aK.out pW);clear B8 hg3 x7 hb3;go_wp2_with (go_at_call 291;refine P0.out.mono ?_;rintro e w4 ⟨rfl,hb4⟩;refine aaH ?_);refine ζ ?_;have PU:=ζ (FH.out.later hb4);have eZ:=ζ (aK.out.trans (hb4.mono aK.out.size));have Vl:f y=Pl.it f (j+1) h:=by rw[Pl.jd,HY.out]
   rw[Vl];clear hb4 Vl;go_wp2;go_roundw
   case rel=>exact⟨j+1,by omega,by have:=HJ.out;omega,rfl,PU.out,eZ.out⟩
   case measure=>have:=HJ.out;simp[LH];omega
end
section
open Go.Proofs.Tryz
open Go.RowKit Go.Sort
theorem aG.nC {w:World} {g n:Nat} {f f':Nat->Bool} (h:aG w g n f) (e:∀i,i<n->f i=f' i):aG w g n f':=by
 unfold aG at h ⊢;rw[h]
 congr 2
 unfold Co.bools
 congr 1
 exact aby fun i hi=>by rw[e i (aaX.1 hi)]
theorem Hl (g n:Nat) (f:Nat->Nat) (w:World) (hs:cM w g n f):
 Calls prog 207 #[.slice (some ⟨g,0,none⟩) n n] w (Le (Fa.oC f n) w):=by
 obtain⟨i0,hi,hz0,hz1,hz2⟩:=info_parts Tryz.sM;obtain⟨m,ho⟩:=Fa.lD hs.oO;have dA:=hs.few;have GX:=hs.lt;have HS:=ζ hs;have HO:=ζ ho;have hmk:∀W,(Instr.makeSlice 237 (.int .i64 (n:Int)) (.int .i64 (n:Int))).run prog W= .ok (.slice (some ⟨W.heap.size,0,none⟩) n n) (W.alloc (.cells (madeCells #[.bool false] n) 4)):=fun W=>by
  have:=run_make (P:=prog) W 237 4 i0 (.bool false) Tryz.underlying237 hi hz0 .i64 .i64 (n:Int) (n:Int) (by omega) (aci _) (by rw[hz2];omega) (by omega);rw[this,hz1];simp[Value.cells]
 obtain⟨w1,hw1⟩:∃w1,w1=w.alloc (.cells (madeCells #[.bool false] n) 4):=⟨_,rfl⟩;have hb1:Below w.heap.size w w1:=by rw[hw1];exact(aaE _ _).alloc (aaD _) _
 have hs1:w.heap.size<w1.heap.size:=by rw[hw1];simp
 have Tp:Hid (aG w1 w.heap.size n (fun x=>decide (m x<0))):=by rw[hw1];exact(mU rfl n).nC fun i _=>by simp
 have qy:=ζ (hs.later hb1);have aN:=ζ hb1;clear hs ho hb1;go_enter func207,ntmps207;go_wp2;rw[<-hw1];clear hmk hw1;go_loopw [3,14] (fun c3 c14 wr=>∃(k:Nat) (vs:List Value),k<=n/\c14= .int .i64 (k:Int)/\ay wr w1.heap.size c3 vs ((Fa.aQ f n k).map Fa.zl)/\aG wr w.heap.size n (fun x=>decide (m x<k))/\cM wr g n f/\Below w.heap.size w wr/\w1.heap.size<=wr.heap.size) (fun _ c14 _=>n-(intOf c14).toNat)
 case atStart=>exact⟨0,[],aaL _,rfl,ay.nil _ _,Tp.out,qy.out,aN.out,aaD _⟩
 case round=>
  obtain⟨k,vs,hk,rfl,hR,hI,hS,hb,hsz⟩:=hrel;obtain⟨W0,rfl⟩:∃W0,W0=wr:=⟨_,rfl⟩;obtain⟨uo,q,uc,rfl⟩:∃a q c,u3= .slice a q c:=by
   obtain⟨a,c,e⟩:=bJ hR;exact⟨_,_,_,e⟩
  have HR:=ζ hR;have HI:=ζ hI;have vv:=ζ hS;have HB:=ζ hb;have hwk:IntKind.i64.wrap ((k:Int)+1)=(k:Int)+1:=by rw[aaK];omega
  by_cases hlt:k<n
  .have aX:(k:Int)<(n:Int):=by omega
   have hk0:(0:Int)<=(k:Int):=by omega
   have hc:=hI.cell hlt;have hle:=HO.out.norm.le k hlt;by_cases e:m k=k
   .have e1:decide (m k<k)=false:=by simp[e]
    rw[e1] at hc;have HC:=ζ (Gd g n f k W0 hS hlt);have HE:=ζ e;clear hR hI hS hb e e1 hle;go_wp2_with (go_at_call 260;refine HC.out.mono ?_;rintro e w2 ⟨v2,rfl,ho2,hb2⟩;refine aaH ?_);refine ζ ?_;obtain⟨fo,fc,xR,Nb,-⟩:=ho2.form;rw[Fa.nT] at xR;obtain⟨p,hp⟩:∃p,p=(Fa.eW f n k).length:=⟨_,rfl⟩;rw[<-hp] at xR;subst xR;have yU:=ζ ho2;have hs2:=hb2.size;have FB:=ζ (HR.out.later hb2);have zX:=ζ (HI.out.later hb2);have zT:=ζ (vv.out.later hb2);have aC:=ζ (HB.out.trans (hb2.mono HB.out.size));have HP:=ζ hp;have zH:p<=n:=by
     obtain⟨p',hl⟩:=Fa.vG vv.out.oO hlt;rw[hp,Fa.oD hl,Fa.kG];exact hl.le
    clear ho2 hb2 Nb hp hc;go_wp2;go_loopw [26] (fun c wr=>∃i:Nat,i<=p/\c= .int .i64 (i:Int)/\aG wr w.heap.size n (fun x=>decide (m x<k)||((Fa.eW f n k).take i).contains x)/\av wr W0.heap.size (.slice fo p fc) (Fa.zl (Fa.eW f n k))/\ay wr w1.heap.size (.slice uo q uc) vs ((Fa.aQ f n k).map Fa.zl)/\cM wr g n f/\Below w.heap.size w wr/\w2.heap.size<=wr.heap.size) (fun c _=>p-(intOf c).toNat)
    case atStart=>exact⟨0,aaL _,rfl,zX.out.nC fun i _=>by simp,yU.out,FB.out,zT.out,aC.out,aaD _⟩
    case round=>
     obtain⟨i,hi',rfl,hI,hO,hR,hS,hb,hsz2⟩:=hrel;obtain⟨W1,rfl⟩:∃W1,W1=wr:=⟨_,rfl⟩;have HI:=ζ hI;have Zk:=ζ hO;have NT:=ζ hR;have Fy:=ζ hS;have ID:=ζ hb;have hwi:IntKind.i64.wrap ((i:Int)+1)=(i:Int)+1:=by rw[aaK];omega
     by_cases Yq:i<p
     .have aan:(i:Int)<(p:Int):=by omega
      have xO:(0:Int)<=(i:Int):=by omega
      obtain⟨x,hx⟩:∃x,(Fa.eW f n k)[i]? =some x:=⟨_,aaC (by rw[<-HP.out];exact Yq)⟩;have sO:x<n:=((Fa.sD vv.out.oO HO.out hlt).1 (aaG hx)).1;obtain⟨xo,xc,mH,Uk,-⟩:=hO.form;rw[Fa.nT,<-HP.out] at mH;cases mH;obtain⟨b,o,rfl,hcx⟩:=Uk i (x:Int) (Fa.Rc hx);have ZX:(x:Int)<(n:Int):=by omega
      have hx0:(0:Int)<=(x:Int):=by omega
      have hcb:=hI.cell sO;have hfr:=hI.free x;have tI:Hid (aG (W1.setCell ⟨w.heap.size,x,none⟩ (.bool true)) w.heap.size n (fun y=>decide (m y<k)||((Fa.eW f n k).take (i+1)).contains y)):=by
       refine(hI.set x true).nC fun y _=> ?_
       have e1:(Fa.eW f n k).take (i+1)=(Fa.eW f n k).take i++[x]:=by
        rw[abG,hx];rfl
       rw[e1];by_cases ey:y=x
       .subst ey
        rw[Co.fS];simp
       .rw[Co.dS _ ey]
        simp[ey]
      have aay:=hb.size;have FH:Hid (av (W1.setCell ⟨w.heap.size,x,none⟩ (.bool true)) W0.heap.size (.slice (some ⟨b,o,none⟩) p fc) (Fa.zl (Fa.eW f n k))):=hO.same fun g' hg _=>eJ (fun e=>by have:=(aaJ hO g' hg).1;omega) _
      have mz:Hid (ay (W1.setCell ⟨w.heap.size,x,none⟩ (.bool true)) w1.heap.size (.slice uo q uc) vs ((Fa.aQ f n k).map Fa.zl)):=hR.kept fun b' hb' _=>eJ (fun e=>by
       have:w1.heap.size<=b':=by
        rcases hb' with hb'|⟨u,z,hz,hzb⟩
        .exact(aaJ hR.outer b' hb').1
        .obtain⟨l,hl⟩:=hR.at hz
         exact(aaJ (hR.row u z l hz hl) b' hzb).1
       omega) _
      have CG:Hid (cM (W1.setCell ⟨w.heap.size,x,none⟩ (.bool true)) g n f):=hS.same (eJ (by omega) _) (by simp;omega);have aK:Hid (Below w.heap.size w (W1.setCell ⟨w.heap.size,x,none⟩ (.bool true))):=hb.setCell (aaD _) _;have hs3:(W1.setCell ⟨w.heap.size,x,none⟩ (.bool true)).heap.size=W1.heap.size:=by simp
      have S4:=ζ hs3;clear hI hO hR hS hb hx Uk hs3;go_wp2;go_roundw
      case rel=>exact⟨i+1,by omega,by go_num,tI.out,FH.out,mz.out,CG.out,aK.out,by rw[S4.out];exact hsz2⟩
      case measure=>simp[intOf];omega
     .have hd:¬(i:Int)<(p:Int):=by omega
      have YF:=hR;have tI:Hid (aG W1 w.heap.size n (fun x=>decide (m x<k+1))):=by
       refine hI.nC fun y hy=> ?_
       have e1:(Fa.eW f n k).take i=Fa.eW f n k:=aa3 (by rw[<-HP.out];omega);rw[e1,abO];simp only[abw,decide_eq_true_iff,ab3];rw[Fa.sD vv.out.oO HO.out hlt,HE.out];omega
      have hrw:∀b',((Value.slice uo q uc).ownBlock=some b'\/bY vs b')->b'<W0.heap.size:=fun b' hb'=>by
       rcases hb' with hb'|⟨u,z,hz,hzb⟩
       .exact(aaJ HR.out.outer b' hb').2
       .obtain⟨l,hl⟩:=HR.out.at hz
        exact(aaJ (HR.out.row u z l hz hl) b' hzb).2
      have yS:=ζ hrw;have HOW:Hid (∀b',(Value.slice fo p fc).ownBlock=some b'->W0.heap.size<=b'):=fun b' hb'=>(aaJ hO b' hb').1
      have hfl:((Fa.aQ f n k).map Fa.zl).length<=8388608:=by
       rw[aaP,Fa.lX vv.out.oO HO.out hk];have:=Co.bC (Co.fix m) k;omega
      clear hI hO hR hS hb hrw YF;go_wp2_with (at_builtin;refine rW rfl _ _ 25 Tryz.underlying25 rfl W1 w1.heap.size (.slice uo q uc) vs ((Fa.aQ f n k).map Fa.zl) (.slice fo p fc) (Fa.zl (Fa.eW f n k)) NT.out (Zk.out.lower hsz) (fun u z b hz hzb e=>by have h1:=yS.out b (.inr ⟨u,z,hz,hzb⟩);have h2:=HOW.out b e;omega) (fun b hb e=>by have h1:=yS.out b (.inl hb);have h2:=HOW.out b e;omega) (by omega) (by omega) rfl rfl ?_;refine aaH ?_);refine ζ ?_;intro v4 w4 hr4 hk4 hv4 hb4;have Mw:=hb4.size;have hbd:∀b',(Value.slice uo q uc).ownBlock=some b'->w1.heap.size<=b':=fun b' hb'=>(aaJ NT.out.outer b' hb').1
      have CH:Hid (ay w4 w1.heap.size v4 (vs++[.slice fo p fc]) ((Fa.aQ f n (k+1)).map Fa.zl)):=by
       rw[Fa.rH vv.out.oO HO.out hlt HE.out,abh];exact hr4
      have Tn:Hid (aG w4 w.heap.size n (fun x=>decide (m x<k+1))):=tI.out.same (hk4 _ tI.out.lt (fun e=>by have:=hbd _ e;omega));have S4:Hid (cM w4 g n f):=Fy.out.same (hk4 _ Fy.out.lt (fun e=>by have:=hbd _ e;omega)) (by have:=Fy.out.lt;omega);have eZ:=ζ (ID.out.trans (hb4.mono (by omega)));have Uv:w1.heap.size<=w4.heap.size:=by omega
      clear hr4 hk4 hv4 hb4 hbd;go_wp2;go_roundw
      case rel=>exact⟨k+1,_,by omega,by go_num,CH.out,Tn.out,S4.out,eZ.out,Uv⟩
      case measure=>simp[intOf];omega
   .have e1:decide (m k<k)=true:=by simp;omega
    rw[e1] at hc;have tI:Hid (aG W0 w.heap.size n (fun x=>decide (m x<k+1))):=by
     refine hI.nC fun y hy=> ?_
     have:m y≠k:=fun h=>by
      have:=HO.out.norm.idem y hy;rw[h] at this;exact e this
     rw[abO,decide_eq_true_iff,decide_eq_true_iff];omega
    have mz:Hid (ay W0 w1.heap.size (.slice uo q uc) vs ((Fa.aQ f n (k+1)).map Fa.zl)):=by
     rw[Fa.uD vv.out.oO HO.out hlt e];exact hR
    clear hR hI hS hb e e1 hle;go_wp2;go_roundw
    case rel=>exact⟨k+1,vs,by omega,by go_num,mz.out,tI.out,vv.out,HB.out,hsz⟩
    case measure=>simp[intOf];omega
  .have hd:¬(k:Int)<(n:Int):=by omega
   have hkn:k=n:=by omega
   have mz:Hid (ay W0 w.heap.size (.slice uo q uc) vs (Fa.oC f n)):=by
    have h3:ay W0 w.heap.size (.slice uo q uc) vs ((Fa.aQ f n k).map Fa.zl):=hR.lower (by omega);rw[hkn] at h3;exact h3
   clear hR hI hS hb hkn;go_wp2;go_ret;exact⟨_,vs,rfl,mz.out,HB.out⟩
end
end Go.Proofs.YtdbjpbjocmcpkaaGreatDoor
