import Derived.Test.YtdbjpbjocmcpkaaGreatDoorMk12
import Derived.Deep.RegionLaw
import Derived.Deep.CutBlock
import Derived.Deep.CutRange
set_option maxHeartbeats 16000000
set_option maxRecDepth 100000
namespace Go.Proofs.YtdbjpbjocmcpkaaGreatDoor
section
open Go.Proofs.Tryz
open Go.RowKit
structure oM (w:World) (B p gd gs gh gp gt n:Nat) (es:List (Int×Int)):Prop where
 blk:aV w p gd gs gh gp gt n (2*es.length)
 fE:∀v,v<n->w.cell? ⟨gd,v,none⟩=some (.int .i64 ((Cs.out es v (2*es.length)).length:Int))
 start:∀v,v<n->w.cell? ⟨gs,v,none⟩=some (.int .i64 (Cs.st es (2*es.length) v:Int))
 half:∀i,i<2*es.length->w.cell? ⟨gh,Cs.pos es (2*es.length) i,none⟩=some (.int .i64 (i:Int))
 place:∀i,i<2*es.length->w.cell? ⟨gp,i,none⟩=some (.int .i64 (Cs.pos es (2*es.length) i:Int))
 goes:∀i,i<2*es.length->w.cell? ⟨gt,i,none⟩=some (.int .i64 (Cs.to es i:Int))
 bp:B<=p
 bd:B<=gd
 bs:B<=gs
 bh:B<=gh
 bq:B<=gp
 bt:B<=gt
 ld:gd<w.heap.size
 ls:gs<w.heap.size
 lh:gh<w.heap.size
 lq:gp<w.heap.size
 lt:gt<w.heap.size
def mE (w:World) (B p n:Nat) (es:List (Int×Int)):Prop:=∃gd gs gh gp gt,oM w B p gd gs gh gp gt n es
theorem oM.same {w w':World} {B p gd gs gh gp gt n:Nat} {es:List (Int×Int)} (h:oM w B p gd gs gh gp gt n es) (hs:w.heap.size<=w'.heap.size) (hk:∀k,B<=k->k<w.heap.size->w'.heap[k]? =w.heap[k]?):oM w' B p gd gs gh gp gt n es:=by
 have hc:∀g i,B<=g->g<w.heap.size->w'.cell? ⟨g,i,none⟩=w.cell? ⟨g,i,none⟩:=fun g i h1 h2=>abD (w:=w) (a:=⟨g,i,none⟩) (hk g h1 h2)
 exact⟨(hk p h.bp h.blk.lt).trans h.blk,fun v hv=>(hc _ _ h.bd h.ld).trans (h.fE v hv),fun v hv=>(hc _ _ h.bs h.ls).trans (h.start v hv),fun i hi=>(hc _ _ h.bh h.lh).trans (h.half i hi),fun i hi=>(hc _ _ h.bq h.lq).trans (h.place i hi),fun i hi=>(hc _ _ h.bt h.lt).trans (h.goes i hi),
  h.bp,h.bd,h.bs,h.bh,h.bq,h.bt,aa0 h.ld hs,aa0 h.ls hs,aa0 h.lh hs,aa0 h.lq hs,aa0 h.lt hs⟩
theorem mE.same {w w':World} {B p n:Nat} {es:List (Int×Int)} (h:mE w B p n es) (hs:w.heap.size<=w'.heap.size) (hk:∀k,B<=k->k<w.heap.size->w'.heap[k]? =w.heap[k]?):mE w' B p n es:=by
 obtain⟨gd,gs,gh,gp,gt,h⟩:=h;exact⟨gd,gs,gh,gp,gt,h.same hs hk⟩
theorem mE.later {w w':World} {B p n:Nat} {es:List (Int×Int)} (h:mE w B p n es) (hb:Below w.heap.size w w'):mE w' B p n es:=h.same hb.size fun k _ h2=>hb.block k h2
theorem xp {W:World} {k M:Nat} (h:W.heap.size=k):aB (W.alloc (.cells (madeCells #[.int .i64 0] M) 3)) k (List.replicate M 0):=by
 subst h;refine⟨[],?_⟩;rw[heap_alloc_new,abp,<-dz]
theorem NB {W:World} {p gd gs gh gp gt n M:Nat} (h:W.heap.size=p):aV (W.alloc (.cells #[.slice (some ⟨gd,0,none⟩) n n,.slice (some ⟨gs,0,none⟩) n n,.slice (some ⟨gh,0,none⟩) M M,.slice (some ⟨gp,0,none⟩) M M,.slice (some ⟨gt,0,none⟩) M M] 276)) p gd gs gh gp gt n M:=by
 subst h;exact heap_alloc_new W _
def PI (es:List (Int×Int)) (n M gd:Nat) (w wr:World) (p:Nat):Prop:=
 ∃gs gh gp gt S,aV wr p gd gs gh gp gt n M/\aB wr gs S/\S.length=n/\(∀v,v<n->S[v]? =some (Cs.st es M v:Int))/\aB wr gh (List.replicate M 0)/\aB wr gp (List.replicate M 0)/\aB wr gt (List.replicate M 0)/\
  (w.heap.size<=p/\w.heap.size<=gs/\w.heap.size<=gh/\w.heap.size<=gp/\w.heap.size<=gt)/\(gh≠gp/\gh≠gt/\gp≠gt/\gs≠gh/\gs≠gp/\gs≠gt/\p≠gh/\p≠gp/\p≠gt)/\Below w.heap.size w wr
def NJ (n:Int) (es:List (Int×Int)) (w:World) (e:Ending) (w':World):Prop:=
 ((∃m p:Nat,n=(m:Int)/\Si.Val n es/\e= .returned (.tuple #[.pointer (some ⟨p,0,none⟩),.int .i64 0])/\mE w' w.heap.size p m es)\/(Si.valid n es=false/\e= .returned (.tuple #[.pointer none,.int .i64 1])))/\Below w.heap.size w w'
theorem KZ (n:Int) (ao:Option Addr) (cap:Nat) (es:List (Int×Int)) (w:World) (he:ah w ao es) (hl:es.length<=4611686018427387904):
 Calls prog 121 #[aD n ao es.length cap] w (NJ n es w):=by
 obtain⟨i0,hi,hz0,hz1,hz2⟩:=info_parts Tryz.ck;have jg:Below w.heap.size w (w.alloc (.cells #[.int .i64 n,.slice ao es.length cap] 24)):=(aaE _ _).alloc (aaD _) _;have Eu:=rI n ao cap es _ (he.later jg) hl;unfold aD at Eu ⊢;have HE:=ζ he;have fQ:=ζ jg;clear he jg;cases hv:Si.valid n es with
 |false=>
  have HV:=ζ hv;have Et:=Eu.mono (R':=fun e w'=>e= .returned (.tuple #[.slice none 0 0,.int .i64 1])/\Below (w.alloc (.cells #[.int .i64 n,.slice ao es.length cap] 24)).heap.size (w.alloc (.cells #[.int .i64 n,.slice ao es.length cap] 24)) w') (by
   rintro e w' ⟨⟨h,_⟩|⟨_,h⟩,hb⟩
   .rw[hv] at h;cases h
   .exact⟨h,hb⟩)
  have Oh:=ζ Et;clear Eu Et hv;go_enter func121,ntmps121;go_wp2_with (go_at_call 173;refine Oh.out.mono ?_;rintro e w1 ⟨rfl,hb1⟩;refine aaH ?_);refine ζ ?_;have aN:=ζ (fQ.out.trans (hb1.mono fQ.out.size));clear hb1;go_wp2;go_ret2;exact⟨.inr ⟨HV.out,rfl⟩,aN.out⟩
 |true=>
  obtain⟨m,rfl⟩:∃m:Nat,n=(m:Int):=⟨n.toNat,by have:=(Si.aJ.1 hv).lo;omega⟩;have Et:=Eu.mono (R':=fun e w'=>∃gd:Nat,e= .returned (.tuple #[.slice (some ⟨gd,0,none⟩) m m,.int .i64 0])/\(w.heap.size<gd/\aq w' gd (Si.eA m es))/\Below (w.alloc (.cells #[.int .i64 m,.slice ao es.length cap] 24)).heap.size (w.alloc (.cells #[.int .i64 m,.slice ao es.length cap] 24)) w') (by
   rintro e w' ⟨⟨_,g,m',h1,h2,h3,h4⟩|⟨h,_⟩,hb⟩
   .obtain rfl:m=m':=by omega
    exact⟨g,h2,⟨by rw[aa1] at h3;omega,h4⟩,hb⟩
   .rw[hv] at h;cases h)
  have Oh:=ζ Et;have HV:=ζ hv;clear Eu Et hv;go_enter func121,ntmps121;go_wp2_with (go_at_call 173;refine Oh.out.mono ?_;rintro e w1 ⟨gd,rfl,Ys,hb1⟩;refine aaH ?_);refine ζ ?_;have aN:=ζ (fQ.out.trans (hb1.mono fQ.out.size));have hG:w1.heap[w.heap.size]? =some (.cells #[.int .i64 m,.slice ao es.length cap] 24 (0,0)):=(hb1.block _ (by simp)).trans (heap_alloc_new w _);have hsw:=hb1.size;rw[aa1] at hsw;obtain⟨hgd,hib⟩:=Ys;have hv:=HV.out;clear hb1 Oh;have hval:=Si.aJ.1 hv;have dA:=hval.few;have hhi:=hval.hi;obtain⟨M,hM⟩:∃M,M=2*es.length:=⟨_,rfl⟩;have YI:M<=8388608:=by omega
  have UR:(M:Int)=2*(es.length:Int):=by omega
  have hlt:∀i,i<M->Cs.fr es i<m:=fun i hi=>(Cs.dG hval (by omega)).1
  have rB:=Si.lZ m es;rw[abb] at rB;have Sc:∀v,v<m->(Si.eA m es)[v]? =some ((Cs.out es v M).length:Int):=fun v RB=>by
   have:=Cs.tv hval es.length (aaD _) v RB;rw[abn,<-hM] at this;exact this
  have hst:=fun W hW=>Db es gd m M (Si.eA m es) W hW rB (by omega) YI Sc hlt
  have hmk:∀W,(Instr.makeSlice 55 (.int .i64 (2*(es.length:Int))) (.int .i64 (2*(es.length:Int)))).run prog W= .ok (.slice (some ⟨W.heap.size,0,none⟩) M M) (W.alloc (.cells (madeCells #[.int .i64 0] M) 3)):=fun W=>by
   have:=run_make (P:=prog) W 55 3 i0 (.int .i64 0) Tryz.underlying55 hi hz0 .i64 .i64 (2*(es.length:Int)) (2*(es.length:Int)) (by omega) (aci _) (by rw[hz2];omega) (by omega);rw[this,hz1,<-UR];simp[Value.cells]
  have HST:=ζ hst;have iB:=ζ hval;have mK:=ζ hlt;have HM:=ζ hM;have ZH:=ζ Sc;have Lp:=ζ hib.ins;obtain⟨g0,g1,-⟩:=af hG;have HG:=ζ hG;clear hst hval hlt hM Sc hib hG hv rB UR
  go_upto_region 5 with fail
  go_cut [7] from 20 to 31 (fun x wr=>∃p:Nat,x= .pointer (some ⟨p,0,none⟩)/\PI es m M gd w1 wr p)
  case first=>
   go_wp2_with fail
   go_region_with (go_at_call 174;refine(HST.out _ (by first|exact Lp.out.drew|exact(Lp.out.drew.alloc _)|exact(Lp.out.drew.alloc _).alloc _|exact((Lp.out.drew.alloc _).alloc _).alloc _)).mono ?_;rintro e w2 ⟨gs,S,rfl,q1,q2,q3,q4,q5,hb2⟩)
   all_goals go_wp2_with fail
   all_goals go_meet
   all_goals
    have hz:=hb2.size;have XL:=q1;simp at hz XL;refine⟨_,rfl,_,_,_,_,S,NB (by simp),?_,q4,q5,?_,?_,?_,?_,?_,?_⟩
    .repeat (first|exact q3|refine aB.alloc ?_ _)
    .repeat (first|(refine xp ?_;simp;done)|refine aB.later ?_ hb2|refine aB.alloc ?_ _)
    .repeat (first|(refine xp ?_;simp;done)|refine aB.later ?_ hb2|refine aB.alloc ?_ _)
    .repeat (first|(refine xp ?_;simp;done)|refine aB.later ?_ hb2|refine aB.alloc ?_ _)
    .refine⟨?_,?_,?_,?_,?_⟩<;>omega
    .refine⟨?_,?_,?_,?_,?_,?_,?_,?_,?_⟩<;>omega
    .repeat (first|exact aaE _ _|refine abU ?_|refine abK ?_ (by first|omega|(simp;done)|(simp;omega)) _|refine abL ?_ (hb2.mono (by first|omega|(simp;done)|(simp;omega))))
  case rest=>
   obtain⟨p,rfl,gs,gh,gp,gt,S,hA,hS,lS,sS,iH,iP,iT,⟨b1,b2,b3,b4,b5⟩,⟨d1,d2,d3,d4,d5,d6,d7,d8,d9⟩,cm⟩:=hcut;have hb1:=aN.out.size;have hfl:=KR es ao cap p gd gs gh gp gt m M S _ _ _ w wc iB.out HM.out HE.out (aN.out.trans (cm.mono aN.out.size)) hA hS iH iP iT lS sS (by simp) (by simp) (by simp) (by omega) (by omega) (by omega) d7 d8 d9 d1 d2 d3;have FN:=ζ hfl;have k1:=(cm.cell (p:=⟨w.heap.size,1,none⟩) (by show w.heap.size<_;omega)).trans g1;have jE:Hid (∀e w3,Be es m M gh gp gt wc e w3->mE w3 w.heap.size p m es/\Below w.heap.size w w3):=by
    rintro e w3 ⟨_,⟨H,Pl,T,F,hf,h1,h2,h3⟩,hwr⟩;have GX:=Lp.out.lt;have n1:¬(gd=gh\/gd=gp\/gd=gt):=by omega
    have n2:¬(gs=gh\/gs=gp\/gs=gt):=by omega
    have n3:¬(p=gh\/p=gp\/p=gt):=by omega
    have Sj:=hwr.ints (Lp.out.later cm) n1;have hs3:=hwr.ints hS n2;have YN:=hA.wrote hwr n3;have hM:=HM.out;subst hM;refine⟨⟨gd,gs,gh,gp,gt,YN,fun v hv=>Sj.cell (ZH.out v hv),fun v hv=>hs3.cell (sS v hv),fun i hi=>h1.cell (hf.hH i hi),fun i hi=>h2.cell (hf.hP i hi),fun i hi=>h3.cell (hf.hT i hi),by omega,by omega,by omega,by omega,by omega,by omega,Sj.lt,hs3.lt,h1.lt,h2.lt,h3.lt⟩,?_⟩;exact(aN.out.trans (cm.mono aN.out.size)).trans (hwr.below (by have:=cm.size;omega) (fun k hk=>by omega))
   clear hA hS sS iH iP iT cm hfl d1 d2 d3 d4 d5 d6 d7 d8 d9;go_wp2_with (go_at_call 175;refine FN.out.mono ?_;intro e w3 hpost;obtain⟨EB,hbz⟩:=jE.out e w3 hpost;obtain rfl:=hpost.1;have Q8:=ζ EB;have CQ:=ζ hbz;clear hpost EB hbz;refine aaH ?_);refine ζ ?_;go_wp2;go_ret2;exact⟨.inl ⟨m,p,rfl,iB.out,rfl,Q8.out⟩,CQ.out⟩
end
end Go.Proofs.YtdbjpbjocmcpkaaGreatDoor
