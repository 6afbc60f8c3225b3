import Derived.Test.YtdjmnpmdmjclhabGreatMg02
import Derived.Deep.RegionLaw
import Derived.Deep.CutBlock
import Derived.Deep.CutRange
namespace Go.Proofs.YtdjmnpmdmjclhabGreat
section
open Go.RowKit
structure sJ (w:World) (B p gd gs gh gp gt n:Nat) (es:List (Int×Int)):Prop where
 blk:bT w p gd gs gh gp gt n (2*es.length)
 deg:∀v,v<n→w.cell? ⟨gd,v,none⟩=some (.int .i64 ((Cs.out es v (2*es.length)).length:Int))
 start:∀v,v<n→w.cell? ⟨gs,v,none⟩=some (.int .i64 (Cs.st es (2*es.length) v:Int))
 half:∀i,i<2*es.length→w.cell? ⟨gh,Cs.pos es (2*es.length) i,none⟩=some (.int .i64 (i:Int))
 place:∀i,i<2*es.length→w.cell? ⟨gp,i,none⟩=some (.int .i64 (Cs.pos es (2*es.length) i:Int))
 goes:∀i,i<2*es.length→w.cell? ⟨gt,i,none⟩=some (.int .i64 (Cs.to es i:Int))
 bp:B≤p
 bd:B≤gd
 bs:B≤gs
 bh:B≤gh
 bq:B≤gp
 bt:B≤gt
 ld:gd<w.heap.size
 ls:gs<w.heap.size
 lh:gh<w.heap.size
 lq:gp<w.heap.size
 lt:gt<w.heap.size
def lQ (w:World) (B p n:Nat) (es:List (Int×Int)):Prop:=∃gd gs gh gp gt,sJ w B p gd gs gh gp gt n es
theorem sJ.same {w w':World} {B p gd gs gh gp gt n:Nat} {es:List (Int×Int)} (h:sJ w B p gd gs gh gp gt n es) (hs:w.heap.size≤w'.heap.size) (hk:∀k,B≤k→k<w.heap.size→w'.heap[k]? =w.heap[k]?):sJ w' B p gd gs gh gp gt n es:=by
 have hc:∀g i,B≤g→g<w.heap.size→w'.cell? ⟨g,i,none⟩=w.cell? ⟨g,i,none⟩:=fun g i h1 h2=>adj (w:=w) (a:=⟨g,i,none⟩) (hk g h1 h2)
 exact⟨(hk p h.bp h.blk.lt).trans h.blk,fun v hv=>(hc _ _ h.bd h.ld).trans (h.deg v hv),fun v hv=>(hc _ _ h.bs h.ls).trans (h.start v hv),fun i hi=>(hc _ _ h.bh h.lh).trans (h.half i hi),fun i hi=>(hc _ _ h.bq h.lq).trans (h.place i hi),fun i hi=>(hc _ _ h.bt h.lt).trans (h.goes i hi),
  h.bp,h.bd,h.bs,h.bh,h.bq,h.bt,aa7 h.ld hs,aa7 h.ls hs,aa7 h.lh hs,aa7 h.lq hs,aa7 h.lt hs⟩
theorem lQ.same {w w':World} {B p n:Nat} {es:List (Int×Int)} (h:lQ w B p n es) (hs:w.heap.size≤w'.heap.size) (hk:∀k,B≤k→k<w.heap.size→w'.heap[k]? =w.heap[k]?):lQ w' B p n es:=by
 obtain⟨gd,gs,gh,gp,gt,h⟩:=h
 exact⟨gd,gs,gh,gp,gt,h.same hs hk⟩
theorem lQ.later {w w':World} {B p n:Nat} {es:List (Int×Int)} (h:lQ w B p n es) (hb:Below w.heap.size w w'):lQ w' B p n es:=h.same hb.size fun k _ h2=>hb.block k h2
theorem AH {W:World} {k M:Nat} (h:W.heap.size=k):aF (W.alloc (.cells (madeCells #[.int .i64 0] M) 3)) k (List.replicate M 0):=by
 subst h
 refine⟨[],?_⟩
 rw[heap_alloc_new,abf,←cD]
theorem S9 {W:World} {p gd gs gh gp gt n M:Nat} (h:W.heap.size=p):bT (W.alloc (.cells #[.slice (some ⟨gd,0,none⟩) n n,.slice (some ⟨gs,0,none⟩) n n,.slice (some ⟨gh,0,none⟩) M M,.slice (some ⟨gp,0,none⟩) M M,.slice (some ⟨gt,0,none⟩) M M] 120)) p gd gs gh gp gt n M:=by
 subst h
 exact heap_alloc_new W _
def Wo (es:List (Int×Int)) (n M gd:Nat) (w wr:World) (p:Nat):Prop:=
 ∃gs gh gp gt S,bT wr p gd gs gh gp gt n M∧aF wr gs S∧S.length=n∧(∀v,v<n→S[v]? =some (Cs.st es M v:Int))∧aF wr gh (List.replicate M 0)∧aF wr gp (List.replicate M 0)∧aF wr gt (List.replicate M 0)∧
  (w.heap.size≤p∧w.heap.size≤gs∧w.heap.size≤gh∧w.heap.size≤gp∧w.heap.size≤gt)∧(gh≠gp∧gh≠gt∧gp≠gt∧gs≠gh∧gs≠gp∧gs≠gt∧p≠gh∧p≠gp∧p≠gt)∧Below w.heap.size w wr
def Tf (n:Int) (es:List (Int×Int)) (w:World) (e:Ending) (w':World):Prop:=
 ((∃m p:Nat,n=(m:Int)∧Si.Val n es∧e= .returned (.tuple #[.pointer (some ⟨p,0,none⟩),.int .i64 0])∧lQ w' w.heap.size p m es)∨(Si.valid n es=false∧e= .returned (.tuple #[.pointer none,.int .i64 1])))∧Below w.heap.size w w'
set_option maxRecDepth 100000 in
set_option maxHeartbeats 16000000 in
theorem xF (n:Int) (ao:Option Addr) (cap:Nat) (es:List (Int×Int)) (w:World) (he:aQ w ao es) (hl:es.length≤4611686018427387904):
 Calls Tryz.prog 32 #[bX n ao es.length cap] w (Tf n es w):=by
 obtain⟨i0,hi,hz0,hz1,hz2⟩:=info_parts Tryz.bO
 have Ef:Below w.heap.size w (w.alloc (.cells #[.int .i64 n,.slice ao es.length cap] 24)):=(aae _ _).alloc (aad _) _
 have RT:=FN n ao cap es _ (he.later Ef) hl
 unfold bX at RT ⊢
 have HE:=Nu.hid he
 have rP:=Nu.hid Ef
 clear he Ef
 cases hv:Si.valid n es with
 |false=>
  have HV:=Nu.hid hv
  have IG:=RT.mono (R':=fun e w'=>e= .returned (.tuple #[.slice none 0 0,.int .i64 1])∧Below (w.alloc (.cells #[.int .i64 n,.slice ao es.length cap] 24)).heap.size (w.alloc (.cells #[.int .i64 n,.slice ao es.length cap] 24)) w') (by
   rintro e w' ⟨⟨h,_⟩|⟨_,h⟩,hb⟩
   ·rw[hv] at h;cases h
   ·exact⟨h,hb⟩)
  have WY:=Nu.hid IG
  clear RT IG hv
  go_enter Tryz.func32,Tryz.ntmps32
  go_wp2_with (go_at_call 54;refine WY.out.mono ?_;rintro e w1 ⟨rfl,hb1⟩;refine aaB ?_)
  refine Nu.hid ?_
  have aY:=Nu.hid (rP.out.trans (hb1.mono rP.out.size))
  clear hb1
  go_wp2
  go_ret2
  exact⟨.inr ⟨HV.out,rfl⟩,aY.out⟩
 |true=>
  obtain⟨m,rfl⟩:∃m:Nat,n=(m:Int):=⟨n.toNat,by have:=(Si.bL.1 hv).lo;omega⟩
  have IG:=RT.mono (R':=fun e w'=>∃gd:Nat,e= .returned (.tuple #[.slice (some ⟨gd,0,none⟩) m m,.int .i64 0])∧(w.heap.size<gd∧aq w' gd (Si.jz m es))∧Below (w.alloc (.cells #[.int .i64 m,.slice ao es.length cap] 24)).heap.size (w.alloc (.cells #[.int .i64 m,.slice ao es.length cap] 24)) w') (by
   rintro e w' ⟨⟨_,g,m',h1,h2,h3,h4⟩|⟨h,_⟩,hb⟩
   ·obtain rfl:m=m':=by omega
    exact⟨g,h2,⟨by rw[aaM] at h3;omega,h4⟩,hb⟩
   ·rw[hv] at h;cases h)
  have WY:=Nu.hid IG
  have HV:=Nu.hid hv
  clear RT IG hv
  go_enter Tryz.func32,Tryz.ntmps32
  go_wp2_with (go_at_call 54;refine WY.out.mono ?_;rintro e w1 ⟨gd,rfl,hgi,hb1⟩;refine aaB ?_)
  refine Nu.hid ?_
  have aY:=Nu.hid (rP.out.trans (hb1.mono rP.out.size))
  have hG:w1.heap[w.heap.size]? =some (.cells #[.int .i64 m,.slice ao es.length cap] 24 (0,0)):=(hb1.block _ (by simp)).trans (heap_alloc_new w _)
  have hsw:=hb1.size
  rw[aaM] at hsw
  obtain⟨hgd,hib⟩:=hgi
  have hv:=HV.out
  clear hb1 WY
  have hval:=Si.bL.1 hv
  have cj:=hval.few
  have hhi:=hval.hi
  obtain⟨M,hM⟩:∃M,M=2*es.length:=⟨_,rfl⟩
  have hM2:M≤8388608:=by omega
  have hmi:(M:Int)=2*(es.length:Int):=by omega
  have hlt:∀i,i<M→Cs.fr es i<m:=fun i hi=>(Cs.bH hval (by omega)).1
  have q9:=Si.p5 m es
  rw[aaF] at q9
  have IE:∀v,v<m→(Si.jz m es)[v]? =some ((Cs.out es v M).length:Int):=fun v hvm=>by
   have:=Cs.OO hval es.length (aad _) v hvm
   rw[acg,←hM] at this
   exact this
  have hst:=fun W hW=>Gz es gd m M (Si.jz m es) W hW q9 (by omega) hM2 IE hlt
  have hmk:∀W,(Instr.makeSlice 27 (.int .i64 (2*(es.length:Int))) (.int .i64 (2*(es.length:Int)))).run Tryz.prog W= .ok (.slice (some ⟨W.heap.size,0,none⟩) M M) (W.alloc (.cells (madeCells #[.int .i64 0] M) 3)):=fun W=>by
   have:=run_make (P:=Tryz.prog) W 27 3 i0 (.int .i64 0) Tryz.underlying27 hi hz0 .i64 .i64 (2*(es.length:Int)) (2*(es.length:Int)) (by omega) (abE _) (by rw[hz2];omega) (by omega)
   rw[this,hz1,←hmi]
   simp[Value.cells]
  have HST:=Nu.hid hst
  have m9:=Nu.hid hval
  have vW:=Nu.hid hlt
  have HM:=Nu.hid hM
  have HDO:=Nu.hid IE
  have Pu:=Nu.hid hib.ins
  obtain⟨g0,g1,-⟩:=ay hG
  have HG:=Nu.hid hG
  clear hst hval hlt hM IE hib hG hv q9 hmi
  go_upto_region 5 with fail
  go_cut [7] from 20 to 31 (fun x wr=>∃p:Nat,x= .pointer (some ⟨p,0,none⟩)∧Wo es m M gd w1 wr p)
  case first=>
   go_wp2_with fail
   go_region_with (go_at_call 55;refine(HST.out _ (by first|exact Pu.out.drew|exact(Pu.out.drew.alloc _)|exact(Pu.out.drew.alloc _).alloc _|exact((Pu.out.drew.alloc _).alloc _).alloc _)).mono ?_;rintro e w2 ⟨gs,S,rfl,q1,q2,q3,q4,q5,hb2⟩)
   all_goals go_wp2_with fail
   all_goals go_meet
   all_goals
    have hz:=hb2.size
    have Ke:=q1
    simp at hz Ke
    refine⟨_,rfl,_,_,_,_,S,S9 (by simp),?_,q4,q5,?_,?_,?_,?_,?_,?_⟩
    ·repeat (first|exact q3|refine aF.alloc ?_ _)
    ·repeat (first|(refine AH ?_;simp;done)|refine aF.later ?_ hb2|refine aF.alloc ?_ _)
    ·repeat (first|(refine AH ?_;simp;done)|refine aF.later ?_ hb2|refine aF.alloc ?_ _)
    ·repeat (first|(refine AH ?_;simp;done)|refine aF.later ?_ hb2|refine aF.alloc ?_ _)
    ·refine⟨?_,?_,?_,?_,?_⟩<;>omega
    ·refine⟨?_,?_,?_,?_,?_,?_,?_,?_,?_⟩<;>omega
    ·repeat (first|exact aae _ _|refine Below.drew ?_|refine Below.alloc ?_ (by first|omega|(simp;done)|(simp;omega)) _|refine acr ?_ (hb2.mono (by first|omega|(simp;done)|(simp;omega))))
  case rest=>
   obtain⟨p,rfl,gs,gh,gp,gt,S,hA,hS,lS,sS,iH,iP,iT,⟨b1,b2,b3,b4,b5⟩,⟨d1,d2,d3,d4,d5,d6,d7,d8,d9⟩,ij⟩:=hcut
   have hb1:=aY.out.size
   have hfl:=OI es ao cap p gd gs gh gp gt m M S _ _ _ w wc m9.out HM.out HE.out (aY.out.trans (ij.mono aY.out.size)) hA hS iH iP iT lS sS (by simp) (by simp) (by simp) (by omega) (by omega) (by omega) d7 d8 d9 d1 d2 d3
   have HFL:=Nu.hid hfl
   have k1:=(ij.cell (p:=⟨w.heap.size,1,none⟩) (by show w.heap.size<_;omega)).trans g1
   have bI:Hid (∀e w3,EH es m M gh gp gt wc e w3→lQ w3 w.heap.size p m es∧Below w.heap.size w w3):=by
    rintro e w3 ⟨_,⟨H,Pl,T,F,hf,h1,h2,h3⟩,hwr⟩
    have mS:=Pu.out.lt
    have n1:¬(gd=gh∨gd=gp∨gd=gt):=by omega
    have n2:¬(gs=gh∨gs=gp∨gs=gt):=by omega
    have n3:¬(p=gh∨p=gp∨p=gt):=by omega
    have hd3:=hwr.ints (Pu.out.later ij) n1
    have hs3:=hwr.ints hS n2
    have hA3:=hA.wrote hwr n3
    have hM:=HM.out
    subst hM
    refine⟨⟨gd,gs,gh,gp,gt,hA3,fun v hv=>hd3.cell (HDO.out v hv),fun v hv=>hs3.cell (sS v hv),fun i hi=>h1.cell (hf.hH i hi),fun i hi=>h2.cell (hf.hP i hi),fun i hi=>h3.cell (hf.hT i hi),by omega,by omega,by omega,by omega,by omega,by omega,hd3.lt,hs3.lt,h1.lt,h2.lt,h3.lt⟩,?_⟩
    exact(aY.out.trans (ij.mono aY.out.size)).trans (hwr.below (by have:=ij.size;omega) (fun k hk=>by omega))
   clear hA hS sS iH iP iT ij hfl d1 d2 d3 d4 d5 d6 d7 d8 d9
   go_wp2_with (go_at_call 56;refine HFL.out.mono ?_;intro e w3 hpost;obtain⟨aW,hbz⟩:=bI.out e w3 hpost;obtain rfl:=hpost.1;have cT:=Nu.hid aW;have oY:=Nu.hid hbz;clear hpost aW hbz;refine aaB ?_)
   refine Nu.hid ?_
   go_wp2
   go_ret2
   exact⟨.inl ⟨m,p,rfl,m9.out,rfl,cT.out⟩,oY.out⟩
end
end Go.Proofs.YtdjmnpmdmjclhabGreat
