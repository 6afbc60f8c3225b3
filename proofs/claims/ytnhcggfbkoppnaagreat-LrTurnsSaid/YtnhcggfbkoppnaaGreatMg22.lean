import Derived.Test.YtnhcggfbkoppnaaGreatMg21
import Derived.Test.YtnhcggfbkoppnaaGreatMg16
import Derived.Test.YtnhcggfbkoppnaaGreatMg05
import Derived.Test.YtnhcggfbkoppnaaGreatMg03
import Derived.Laws.Bits64b
import Derived.Laws.CopyOwn
import Derived.Laws.AppendOwnNone
import Derived.BigRegion
import Derived.Deep.RegionLaw
namespace Go.Proofs.YtnhcggfbkoppnaaGreat
section
open Go.RowKit Go.Shelf
attribute [local go_sem] Oper.semAt_some
def Ex:Nat→Code→Code
 |0,c=>c
 |n+1,.seq _ d=>Ex n d
 |_,c=>c
def vN (n:Nat) (es:List (Int×Int)) (s:Df.St) (j:Nat) (A1 A2:List Int):Prop:=∀k,k<es.length→∀a,a<n→Df.at_ s.ord a=(Lo.fr es s k:Int)→j≤a→A1.getD k 0=Lo.low es s k∧A2.getD k 0=Lo.cj es s k
theorem DT {l:List Int} {k j:Nat} {x:Int} (hk:k<l.length):(l.set k x).getD j 0=if j=k then x else l.getD j 0:=by
 rw[List.getD_eq_getElem?_getD,List.getElem?_set]
 by_cases h:k=j
 ·subst h
  rw[if_pos rfl,if_pos hk,if_pos rfl]
  rfl
 ·rw[if_neg h,if_neg (fun e=>h e.symm),List.getD_eq_getElem?_getD]
theorem pE {β:Type} (B g1 g2:Nat) (P:β→List Int→List Int→Prop):OwnFrom B (fun (b:β) X=>∃A1 A2,aq X g1 A1∧aq X g2 A2∧P b A1 A2):=fun b X Y row ⟨A1,A2,h1,h2,h3⟩ hg hr=>by
 have far:∀{g:Nat} {l:List Int},aq X g l→aq Y g l:=fun {g l} h=>by
  refine(hg.block g (lt_of_block h) (fun e=> ?_)).trans h
  obtain⟨_,o,ho,hc⟩:=hr g e.symm
  rw[show X.heap[g]? =_ from h] at ho
  cases ho
  cases hc
 exact⟨A1,A2,far h1,far h2,h3⟩
def YR (p Lb g1 g2 m h k:Nat) (q:Int×Int):Nat→Value
 |0=> .pointer (some ⟨Lb,0,none⟩)
 |1=> .slice (some ⟨g1,0,none⟩) m m
 |2=> .int .i64 (h:Int)
 |3=> .int .i64 (k:Int)
 |4=> .pointer (some ⟨Lb,1,none⟩)
 |5=> .slice (some ⟨g2,0,none⟩) m m
 |6=> .int .i64 (h:Int)
 |7=> .int .i64 (k:Int)
 |8=> .pointer (some ⟨p,0,none⟩)
 |9=> .int .i64 (h:Int)
 |10=> .agg #[.slice (some ⟨g1,0,none⟩) m m,.slice (some ⟨g2,0,none⟩) m m,.slice none 0 0,.slice none 0 0]
 |11=> .tuple #[.int .i64 q.1,.int .i64 q.2]
 |12=> .tuple #[.int .i64 q.1,.int .i64 q.2]
 |13=> .int .i64 q.1
 |14=> .int .i64 q.2
 |15=> .pointer (some ⟨g1,k,none⟩)
 |17=> .pointer (some ⟨g2,k,none⟩)
 |_=>undef
def PA (g1 g2 k:Nat) (q:Int×Int) (A1 A2:List Int) (A:World) (L:Nat→Bool) (X:World):Prop:=
 aF (fun b=>b=g1∨b=g2) A X∧aq X g1 (if L 16=true then A1.set k q.1 else A1)∧aq X g2 (if L 18=true then A2.set k q.2 else A2)
theorem PA.other {g1 g2 k:Nat} {q:Int×Int} {A1 A2:List Int} {A X:World} {L:Nat→Bool} (h:PA g1 g2 k q A1 A2 A L X) {i:Nat} (h1:i≠16) (h2:i≠18):PA g1 g2 k q A1 A2 A (aj.bQ L i) X:=by
 have e1:aj.bQ L i 16=L 16:=if_neg (fun e=>h1 e.symm)
 have e2:aj.bQ L i 18=L 18:=if_neg (fun e=>h2 e.symm)
 unfold PA at h ⊢
 rw[e1,e2]
 exact h
section
variable {p:Nat} {av:Value} {n:Nat} {es:List (Int×Int)} {f:For} {s:Df.St}
theorem N2 {V:World} {k:Nat} {o:Obj} (h:V.heap[k]? =some o):V.drew.heap[k]? =some o:=h
theorem aq.drew {V:World} {g:Nat} {l:List Int} (h:aq V g l):aq V.drew g l:=h
theorem Ks {V:World} {k:Nat} {o o':Obj} (hk:k<V.heap.size) (h:V.heap[k]? =some o'):(V.alloc o).heap[k]? =some o':=(Below.heap_alloc V o k hk).trans h
structure MD (w V:World) (p m Bw R Lb g1 g2:Nat):Prop where
 aI:Below w.heap.size w V
 bw:Boxed V Bw 149 (.pointer (some ⟨p,0,none⟩))
 res:V.heap[R]? =some (.cells #[.slice none 0 0,.slice none 0 0,.slice none 0 0,.slice none 0 0] 116 (0,0))
 lb:V.heap[Lb]? =some (.cells #[.slice (some ⟨g1,0,none⟩) m m,.slice (some ⟨g2,0,none⟩) m m,.slice none 0 0,.slice none 0 0] 116 (0,0))
 i1:aq V g1 (List.replicate m 0)
 i2:aq V g2 (List.replicate m 0)
 lo:w.heap.size≤Bw∧w.heap.size≤R∧w.heap.size≤Lb∧w.heap.size≤g1∧w.heap.size≤g2
 ne:g1≠g2∧Bw≠g1∧Bw≠g2∧R≠g1∧R≠g2∧Lb≠g1∧Lb≠g2∧R≠Lb
def xg (es:List (Int×Int)) (s:Df.St) (w:World) (e:Ending) (w':World):Prop:=
 ∃g1 g2,e= .returned (.agg #[.slice (some ⟨g1,0,none⟩) es.length es.length,.slice (some ⟨g2,0,none⟩) es.length es.length,.slice none 0 0,.slice none 0 0])∧aq w' g1 (upTo (Lo.low es s) es.length)∧aq w' g2 (upTo (Lo.cj es s) es.length)∧
  w.heap.size≤g1∧w.heap.size≤g2∧g1≠g2∧Below w.heap.size w w'
set_option maxRecDepth 100000 in
set_option maxHeartbeats 16000000 in
theorem JR (w V:World) (Bw R Lb g1 g2:Nat) (y7 y8 y9 y10 y11 y13 y14 y15 y16 y17 y19:Value) (hd:Wd w p av n es f s) (h:MD w V p es.length Bw R Lb g1 g2):
 Code.wp Tryz.prog (Ex 2 (Tryz.f97.body.getD .skip)) (bodyPostM Fence.wide 13 Tryz.prog Tryz.f97 (xg es s w))
  { tmps:= #[.pointer (some ⟨p,0,none⟩),.pointer (some ⟨Bw,0,none⟩),.pointer (some ⟨R,0,none⟩),.pointer (some ⟨Lb,0,none⟩),undef,undef,undef,y7,y8,y9,y10,y11,.slice (some ⟨g1,0,none⟩) es.length es.length,y13,y14,y15,y16,y17,.slice (some ⟨g2,0,none⟩) es.length es.length,y19,
    undef,undef,undef,undef,undef,undef,undef,undef,undef,undef,undef,undef,undef,undef,undef,undef,undef,undef,undef,undef,undef,undef,undef,undef,undef,undef,undef,undef,undef,undef],defers:=[] } V:=by
 have cq:=hd.val.few
 have hn:=hd.val.hi
 have sr:=hd.later h.aI
 obtain⟨lo1,YV,lo3,YU,YT⟩:=h.lo
 obtain⟨YO,ne2,ne3,ne4,ne5,ne6,ne7,ne8⟩:=h.ne
 have c1:=h.bw.cell
 have c3:=sr.c3
 have xx:Hid (∀X,Calls Tryz.prog 69 #[.slice f.a3 n f.c3] X (oQ f.a3 n f.c3 X)):=fun X=>kD _ _ _ X
 have CW:=Nu.hid sr
 clear sr
 obtain⟨QQ,Z3⟩:∃QQ,(bodyPostM Fence.wide 13 Tryz.prog Tryz.f97 (xg es s w))=QQ:=⟨_,rfl⟩
 rw[Z3]
 have HQQ:=Nu.hid Z3
 clear Z3
 simp only[Tryz.f97,Option.getD,Ex]
 go_wp2_with (go_at_call 69;refine(xx.out _).mono ?_;rintro e V1 ⟨Bs,rfl,tJ,bs,hb1⟩)
 refine(wpIn_wide (n:=13)).1 ?_
 have hB1:Below w.heap.size w V1:=h.aI.trans (hb1.mono h.aI.size)
 have hs1:=hb1.size
 have hsw:=h.aI.size
 have l1:=lt_of_block h.i1
 have l2:=lt_of_block h.i2
 have l3:=lt_of_block h.lb
 have l4:=lt_of_block h.res
 have Va:Boxed V1 Bw 149 (.pointer (some ⟨p,0,none⟩)):=(hb1.block _ h.bw.lt).trans h.bw
 have lb1:=(hb1.block _ l3).trans h.lb
 have rs1:=(hb1.block _ l4).trans h.res
 have j1:aq V1 g1 (List.replicate es.length 0):=(hb1.block _ l1).trans h.i1
 have j2:aq V1 g2 (List.replicate es.length 0):=(hb1.block _ l2).trans h.i2
 have hcs:∀i,i<n→∃b o,f.a3=some ⟨b,o,none⟩∧∀X,Below w.heap.size V1 X→X.cell? ⟨b,o+i,none⟩=some (.int .i64 (Df.at_ s.ord i)):=fun i hi=>by
  obtain⟨b,o,e,hc⟩:=hd.ord hi
  exact⟨b,o,e,fun X hX=>hc X (hB1.trans hX) i hi⟩
 refine rV (n:=13) (gf:=101) (lb:= #[.pointer (some ⟨Bs,0,none⟩)]) (by rfl) (enters_of Tryz.func101 (by kernel_rfl) rfl)
  (RV Bs w.heap.size f.c3 n (fun b=>b=g1∨b=g2) f.a3 s.ord (by omega) V1 (by omega) bs hcs (by omega)) (by omega) (fun _=>rfl)
  (fun pre X=>(∃A1 A2,aq X g1 A1∧aq X g2 A2∧A1.length=es.length∧A2.length=es.length∧vN n es s (n-pre.length) A1 A2)∧bE w.heap.size (fun b=>b=g1∨b=g2) V1 X) (fun _ _ _=>False)
  (OwnFrom.and (pE _ g1 g2 (fun (pre:List Nat) A1 A2=>A1.length=es.length∧A2.length=es.length∧vN n es s (n-pre.length) A1 A2)) (bE.own (by omega) (by omega))) (fun _ _ _ _ _ hs _ _=>hs)
  ⟨⟨_,_,j1,j2,by simp,by simp,fun k _ a ha _ Uz=>by simp at Uz;omega⟩,bE.refl _ _ _⟩
  (fun x a' _=>a'={ tmps:= #[.pointer (some ⟨p,0,none⟩),.pointer (some ⟨Bw,0,none⟩),.pointer (some ⟨R,0,none⟩),.pointer (some ⟨Lb,0,none⟩),undef,.int .i64 (Df.at_ s.ord x),undef,y7,y8,y9,y10,y11,.slice (some ⟨g1,0,none⟩) es.length es.length,y13,y14,y15,y16,y17,.slice (some ⟨g2,0,none⟩) es.length es.length,y19,
    .pointer (some ⟨p,0,none⟩),.pointer (some ⟨p,0,none⟩),.pointer (some ⟨p,1,none⟩),.pointer (some ⟨p,3,none⟩),.slice f.a3 n f.c3,.func (.func 101) #[] #[.pointer (some ⟨Bs,0,none⟩)],.int .i64 (x:Int),.int .i64 (Df.at_ s.ord x),undef,undef,undef,undef,undef,undef,undef,undef,undef,undef,undef,undef,undef,undef,undef,undef,undef,undef,undef,undef,undef,undef],defers:=[] })
  (fun x a'=>ownFrom_pure _ _) ?assign ?body ?done ?stop
 case assign=>
  intro l pre x X K _ hi hK
  gi_wp2
  exact hK _ _ (KeepsFrom.refl _ _) (bE.refl _ _ _) hi rfl
 case body=>
  rintro l pre x a' A ⟨hl,-⟩ ⟨r,hr⟩ hpx ⟨⟨A1,A2,i1,i2,q1,q2,hdone⟩,hkp⟩ rfl
  obtain⟨hpl,uQ⟩:=pU hpx
  have Cx:x<n:=by omega
  obtain⟨v,hv⟩:∃v:Nat,Df.at_ s.ord x=(v:Int):=⟨(Df.at_ s.ord x).toNat,by have:=(hd.vf.once x Cx).1;omega⟩
  have dh:v<n:=by have:=(hd.vf.once x Cx).1;omega
  rw[hv]
  have jO:Hid (∀X,Calls Tryz.prog 122 #[.pointer (some ⟨p,0,none⟩),.int .i64 (v:Int)] X (xy p (v:Int) X)):=fun X=>zy p _ X
  have cw:=(hkp.boxed Va (by omega)).cell
  have hAs:V1.heap.size≤A.heap.size:=hkp.1.size
  have xk:Hid (A.heap[l]? =some (.loop r)):=hr
  have VN:Hid (vN n es s (x+1) A1 A2):=by
   have e:n-pre.length=x+1:=by omega
   rw[e] at hdone
   exact hdone
  have nV:=Nu.hid hkp
  have mX:=Nu.hid i1
  have fY:=Nu.hid i2
  have La:Hid (n-(pre++[x]).length=x):=by show _=_;simp;omega
  clear hkp i1 i2 hdone hr hpx uQ
  gi_wp2_with (refine⟨trivial,?_⟩;gi_at_call 122;refine(CallsIn.inRound l (callsIn_wide.2 (jO.out _))).mono ?_;rintro e A' ⟨Bx,Bv,rfl,hBx,hBv,bx,bv,CJ⟩)
  have hAA:=CJ.size
  have Ra:Below w.heap.size w A:=hB1.trans nV.out.1
  have Xr:Below w.heap.size w A':=Ra.trans (CJ.mono Ra.size)
  have hrl:l<A.heap.size:=lt_of_block xk.out
  refine Y6 (n:=13-1-1) (l₀:=l) (r₀:=r) ((CJ.block l hrl).trans xk.out) (gf:=137) (lb:= #[.pointer (some ⟨Bx,0,none⟩),.pointer (some ⟨Bv,0,none⟩)]) (by rfl) (enters_of Tryz.func137 (by kernel_rfl) rfl)
   (Ij v Bx Bv (fun b=>b=g1∨b=g2) w A' hd Xr dh bx bv (by omega) (fun b hb=> .inl (by rcases hb with rfl|rfl<;>omega))) Xr.size (fun _=>rfl)
   (fun pre' X=>(∃A1 A2,aq X g1 A1∧aq X g2 A2∧A1.length=es.length∧A2.length=es.length∧vN n es s (x+1) A1 A2∧∀k,k<es.length→(Lo.oh s k:Int)∈pre'→A1.getD k 0=Lo.low es s k∧A2.getD k 0=Lo.cj es s k)∧(bE w.heap.size (fun b=>b=g1∨b=g2) A X∧KeepsFrom V1.heap.size A X)) (fun _ _ _=>False)
   (OwnFrom.and (pE _ g1 g2 (fun (pre':List Int) A1 A2=>A1.length=es.length∧A2.length=es.length∧vN n es s (x+1) A1 A2∧∀k,k<es.length→(Lo.oh s k:Int)∈pre'→A1.getD k 0=Lo.low es s k∧A2.getD k 0=Lo.cj es s k)) (OwnFrom.and (bE.own (by omega) (by omega)) (ownFrom_keepsFrom hAA))) (fun _ _ _ _ _ hs _ _=>hs)
   ⟨⟨A1,A2,mX.out.later CJ,fY.out.later CJ,q1,q2,VN.out,fun k _ hk=>by simp at hk⟩,(bE.refl _ _ _).grow CJ (by omega),Dv CJ⟩
   (fun y a' _=>a'.tmps.size=50∧a'.eval (.tmp 1)= .pointer (some ⟨Bw,0,none⟩)∧a'.eval (.tmp 3)= .pointer (some ⟨Lb,0,none⟩)∧a'.eval (.tmp 6)= .int .i64 y)
   (fun y a'=>ownFrom_pure _ _) ?assign2 ?body2 ?aan ?YD
  case assign2=>
   intro l2 pre' y X K _ hi hK
   gi_wp2
   exact hK _ _ (KeepsFrom.refl _ _) (bE.refl _ _ _) hi ⟨rfl,rfl,rfl,rfl⟩
  case body2=>
   rintro l2 pre' y a' C ⟨hl2,-⟩ _ hpy ⟨⟨E1,E2,e1,e2,m1,m2,hdn,Zp⟩,hkc,mG⟩ ⟨asz,a1,a3,a6⟩
   obtain⟨k,hk,hfk,rfl⟩:=(Lo.uJ hd.vf dh).1 (hpy.subset (List.mem_append_right pre' (List.mem_singleton.2 rfl)))
   obtain⟨ho1,ho2,wK,NJ⟩:=Lo.cN hd.vf hk
   have QD:Lo.lead n es s E1 E2 (Lo.oh s k)=(Lo.low es s k,Lo.cj es s k):=Lo.Nv hd.val hd.vf hk fun qH k' hk' hf'=>by
    have hg:=(Lo.bK hd.val hd.vf hk).2
    obtain⟨b,hb,eb⟩:=Df.iq.sI hd.vf.once hg
    refine hdn k' hk' b hb (by rw[hf'];exact eb) ?_
    exact Lo.xB hd.val hd.vf hk qH Cx hb (by rw[hv,hfk]) eb
   have E6:Below w.heap.size w C:=Ra.trans hkc.1
   have hCs:A.heap.size≤C.heap.size:=hkc.1.size
   have bwC:=hkc.boxed (nV.out.boxed Va (by omega)) (by omega)
   have lbC:C.heap[Lb]? =some (.cells #[.slice (some ⟨g1,0,none⟩) es.length es.length,.slice (some ⟨g2,0,none⟩) es.length es.length,.slice none 0 0,.slice none 0 0] 116 (0,0)):=hkc.2 _ _ (nV.out.2 _ _ lb1 rfl (by omega)) rfl (by omega)
   have lC:=lt_of_block lbC
   have gC1:=e1.lt
   have gC2:=e2.lt
   obtain⟨hh,Hr⟩:∃hh,Lo.oh s k=hh:=⟨_,rfl⟩
   rw[Hr] at wK NJ a6 QD
   have wH:(hh:Int).tdiv 2=(k:Int):=by rw[Int.tdiv_eq_ediv_of_nonneg (by omega)];omega
   have k0:(0:Int)≤(k:Int):=by omega
   have k1:(k:Int)<(es.length:Int):=by omega
   obtain⟨z1,hz1⟩:∃z,E1[k]? =some z:=⟨_,List.getElem?_eq_getElem (by omega)⟩
   obtain⟨z2,hz2⟩:∃z,E2[k]? =some z:=⟨_,List.getElem?_eq_getElem (by omega)⟩
   gi_wp2
   refine wpIn_region_any (by kernel_rfl) ?_
   refine aj.XI (YR p Lb g1 g2 es.length hh k (Lo.low es s k,Lo.cj es s k)) (PA g1 g2 k (Lo.low es s k,Lo.cj es s k) E1 E2 C) 50 asz (by kernel_rfl) (by kernel_rfl) ⟨(aF.refl _ _).drew,e1,e2⟩ ?_ ?_
   ·intro i o L X ev ho bO hC bU hdc aA aR kW iQ
    have hW:=hC.1
    have kb:=Boxed.cell ((hW.block Bw bwC.lt (by omega)).trans bwC)
    have Uv:=(hW.block Lb lC (by omega)).trans lbC
    have r0:X.cell? ⟨Lb,0,none⟩=some (.slice (some ⟨g1,0,none⟩) es.length es.length):=by simp[World.cell?,Uv]
    have r1:X.cell? ⟨Lb,1,none⟩=some (.slice (some ⟨g2,0,none⟩) es.length es.length):=by simp[World.cell?,Uv]
    have r2:X.cell? ⟨Lb,2,none⟩=some (.slice none 0 0):=by simp[World.cell?,Uv]
    have r3:X.cell? ⟨Lb,3,none⟩=some (.slice none 0 0):=by simp[World.cell?,Uv]
    have hc:i=0∨i=1∨i=2∨i=3∨i=4∨i=5∨i=6∨i=7∨i=8∨i=9∨i=10∨i=11∨i=12∨i=13∨i=14∨i=15∨i=16∨i=17∨i=18:=by
     have:i<19:=(Array.getElem?_eq_some_iff.1 ho).1
     omega
    rcases hc with rfl|rfl|rfl|rfl|rfl|rfl|rfl|rfl|rfl|rfl|rfl|rfl|rfl|rfl|rfl|rfl|rfl|rfl|rfl<;>obtain rfl:=Option.some.inj ho
    ·have u1:=(aR 3 (by kernel_rfl)).trans a3
     exact aj.ah (w':=X) (by simp[execOp,go_sem,u1];rfl) ⟨rfl,hC.other (by decide) (by decide)⟩
    ·have u1:ev (.tmp 33)= .pointer (some ⟨Lb,0,none⟩):=aA 0 33 (by omega) rfl (by decide)
     exact aj.ah (w':=X) (by simp[execOp,go_sem,u1,r0];rfl) ⟨rfl,hC.other (by decide) (by decide)⟩
    ·have u1:=(aR 6 (by kernel_rfl)).trans a6
     exact aj.ah (w':=X) (by simp[execOp,go_sem,u1];rfl) ⟨rfl,hC.other (by decide) (by decide)⟩
    ·have u1:ev (.tmp 35)= .int .i64 (hh:Int):=aA 2 35 (by omega) rfl (by decide)
     exact aj.ah (v:= .int .i64 (k:Int)) (w':=X) (by simp[execOp,go_sem,u1,wH,kW];exact rH k (by omega)) ⟨rfl,hC.other (by decide) (by decide)⟩
    ·have u1:=(aR 3 (by kernel_rfl)).trans a3
     exact aj.ah (w':=X) (by simp[execOp,go_sem,u1];rfl) ⟨rfl,hC.other (by decide) (by decide)⟩
    ·have u1:ev (.tmp 37)= .pointer (some ⟨Lb,1,none⟩):=aA 4 37 (by omega) rfl (by decide)
     exact aj.ah (w':=X) (by simp[execOp,go_sem,u1,r1];rfl) ⟨rfl,hC.other (by decide) (by decide)⟩
    ·have u1:=(aR 6 (by kernel_rfl)).trans a6
     exact aj.ah (w':=X) (by simp[execOp,go_sem,u1];rfl) ⟨rfl,hC.other (by decide) (by decide)⟩
    ·have u1:ev (.tmp 39)= .int .i64 (hh:Int):=aA 6 39 (by omega) rfl (by decide)
     exact aj.ah (v:= .int .i64 (k:Int)) (w':=X) (by simp[execOp,go_sem,u1,wH,kW];exact rH k (by omega)) ⟨rfl,hC.other (by decide) (by decide)⟩
    ·have u1:=(aR 1 (by kernel_rfl)).trans a1
     exact aj.ah (w':=X) (by simp[execOp,go_sem,u1,kb];rfl) ⟨rfl,hC.other (by decide) (by decide)⟩
    ·have u1:=(aR 6 (by kernel_rfl)).trans a6
     exact aj.ah (w':=X) (by simp[execOp,go_sem,u1];rfl) ⟨rfl,hC.other (by decide) (by decide)⟩
    ·have u1:=(aR 3 (by kernel_rfl)).trans a3
     exact aj.ah (w':=X) (by simp[execOp,go_sem,u1,r0,r1,r2,r3];rfl) ⟨rfl,hC.other (by decide) (by decide)⟩
    ·have u1:ev (.tmp 41)= .pointer (some ⟨p,0,none⟩):=aA 8 41 (by omega) rfl (by decide)
     have u2:ev (.tmp 42)= .int .i64 (hh:Int):=aA 9 42 (by omega) rfl (by decide)
     have u3:ev (.tmp 43)= .agg #[.slice (some ⟨g1,0,none⟩) es.length es.length,.slice (some ⟨g2,0,none⟩) es.length es.length,.slice none 0 0,.slice none 0 0]:=aA 10 43 (by omega) rfl (by decide)
     have h16:L 16=false:=by
      cases h:L 16 with
      |false=>rfl
      |true=>
       have:=hdc 16 _ rfl h ⟨11,.phase⟩ (by simp) rfl
       rw[bO] at this
       cases this
     have U0:L 18=false:=by
      cases h:L 18 with
      |false=>rfl
      |true=>
       have:=hdc 18 _ rfl h ⟨11,.phase⟩ (by simp) rfl
       rw[bO] at this
       cases this
     obtain⟨-,f1,f2⟩:=hC
     rw[h16,if_neg (by decide)] at f1
     rw[U0,if_neg (by decide)] at f2
     have CH:Below w.heap.size w X:=E6.trans (hW.below E6.size (fun b hb=>by rcases hb with rfl|rfl<;>omega))
     have hen:∀args w,(callFunc 123 args).run Tryz.prog w= .ok (.enter 123 args) w:=enters_of Tryz.func123 (by kernel_rfl) rfl
     have hrun:∀o:Oper,o.op= .call { callee:= .value (.func 123),args:= #[.tmp 41,.tmp 42,.tmp 43],argTypes:= #[149,3,116] }→(execOp ev o).run Tryz.prog X= .ok (.enter 123 #[.pointer (some ⟨p,0,none⟩),.int .i64 (hh:Int),.agg #[.slice (some ⟨g1,0,none⟩) es.length es.length,.slice (some ⟨g2,0,none⟩) es.length es.length,.slice none 0 0,.slice none 0 0]]) X:=fun o ho=>by
      simp[execOp,ho,go_sem,u1,u2,u3,hen,iQ]
     unfold aj.cF
     rw[hrun _ rfl]
     refine(JW hh g1 g2 E1 E2 X (hd.later CH) wK f1.ins f2.ins m1 m2).mono fun e X' hk'=>⟨_,hk'.1,?_,?_⟩
     ·rw[QD]
      rfl
     ·refine⟨hW.later hk'.2,?_,?_⟩
      ·rw[show aj.bQ L 11 16=false from h16,if_neg (by decide)]
       exact f1.later hk'.2
      ·rw[show aj.bQ L 11 18=false from U0,if_neg (by decide)]
       exact f2.later hk'.2
    ·have u1:ev (.tmp 44)= .tuple #[.int .i64 (Lo.low es s k),.int .i64 (Lo.cj es s k)]:=aA 11 44 (by omega) rfl (by decide)
     exact aj.ah (w':=X) (by simp[execOp,go_sem,u1];rfl) ⟨rfl,hC.other (by decide) (by decide)⟩
    ·have u1:ev (.tmp 32)= .tuple #[.int .i64 (Lo.low es s k),.int .i64 (Lo.cj es s k)]:=aA 12 32 (by omega) rfl (by decide)
     exact aj.ah (w':=X) (by simp[execOp,go_sem,u1];rfl) ⟨rfl,hC.other (by decide) (by decide)⟩
    ·have u1:ev (.tmp 32)= .tuple #[.int .i64 (Lo.low es s k),.int .i64 (Lo.cj es s k)]:=aA 12 32 (by omega) rfl (by decide)
     exact aj.ah (w':=X) (by simp[execOp,go_sem,u1];rfl) ⟨rfl,hC.other (by decide) (by decide)⟩
    ·have u1:ev (.tmp 34)= .slice (some ⟨g1,0,none⟩) es.length es.length:=aA 1 34 (by omega) rfl (by decide)
     have u2:ev (.tmp 36)= .int .i64 (k:Int):=aA 3 36 (by omega) rfl (by decide)
     exact aj.ah (v:= .pointer (some ⟨g1,k,none⟩)) (w':=X) (by simp[execOp,go_sem,u1,u2,k0,k1]) ⟨rfl,hC.other (by decide) (by decide)⟩
    ·have u1:ev (.tmp 47)= .pointer (some ⟨g1,k,none⟩):=aA 15 47 (by omega) rfl (by decide)
     have u2:ev (.tmp 45)= .int .i64 (Lo.low es s k):=aA 13 45 (by omega) rfl (by decide)
     obtain⟨-,f1,f2⟩:=hC
     rw[bO,if_neg (by decide)] at f1
     have x1:=f1.cell hz1
     have x2:=f1.free k
     refine aj.bF (w':=X.setCell ⟨g1,k,none⟩ (.int .i64 (Lo.low es s k))) (by simp[execOp,go_sem,u1,u2,x1,x2]) ⟨rfl,hW.setCell (.inl rfl) _,?_,?_⟩
     ·rw[show aj.bQ L 16 16=true from rfl,if_pos rfl]
      exact f1.set k _
     ·rw[show aj.bQ L 16 18=L 18 from rfl]
      exact f2.aK (fun e=>YO e.symm) _
    ·have u1:ev (.tmp 38)= .slice (some ⟨g2,0,none⟩) es.length es.length:=aA 5 38 (by omega) rfl (by decide)
     have u2:ev (.tmp 40)= .int .i64 (k:Int):=aA 7 40 (by omega) rfl (by decide)
     exact aj.ah (v:= .pointer (some ⟨g2,k,none⟩)) (w':=X) (by simp[execOp,go_sem,u1,u2,k0,k1]) ⟨rfl,hC.other (by decide) (by decide)⟩
    ·have u1:ev (.tmp 48)= .pointer (some ⟨g2,k,none⟩):=aA 17 48 (by omega) rfl (by decide)
     have u2:ev (.tmp 46)= .int .i64 (Lo.cj es s k):=aA 14 46 (by omega) rfl (by decide)
     obtain⟨-,f1,f2⟩:=hC
     rw[bO,if_neg (by decide)] at f2
     have x1:=f2.cell hz2
     have x2:=f2.free k
     refine aj.bF (w':=X.setCell ⟨g2,k,none⟩ (.int .i64 (Lo.cj es s k))) (by simp[execOp,go_sem,u1,u2,x1,x2]) ⟨rfl,hW.setCell (.inr rfl) _,?_,?_⟩
     ·rw[show aj.bQ L 18 16=L 16 from rfl]
      exact f1.aK YO _
     ·rw[show aj.bQ L 18 18=true from rfl,if_pos rfl]
      exact f2.set k _
   ·intro L X a4 hall hC
    obtain⟨hw,f1,f2⟩:=hC
    rw[if_pos (hall 16 (by decide))] at f1
    rw[if_pos (hall 18 (by decide))] at f2
    have hkk:=dR (n₀:=w.heap.size) hw (by omega) (fun b hb=>by rcases hb with rfl|rfl<;>omega)
    have hR:∀k',(k'=k∨(E1.getD k' 0=Lo.low es s k'∧E2.getD k' 0=Lo.cj es s k'))→(E1.set k (Lo.low es s k)).getD k' 0=Lo.low es s k'∧(E2.set k (Lo.cj es s k)).getD k' 0=Lo.cj es s k':=fun k' hk'=>by
     rw[DT (by omega),DT (by omega)]
     by_cases e:k'=k
     ·subst e
      rw[if_pos rfl,if_pos rfl]
      exact⟨rfl,rfl⟩
     ·rw[if_neg e,if_neg e]
      exact hk'.resolve_left e
    refine⟨fR hw (fun b hb=>by rcases hb with rfl|rfl<;>omega),hkk,⟨_,_,f1,f2,by simpa using m1,by simpa using m2,fun k' hk' a ha NQ Uz=>hR k' (.inr (hdn k' hk' a ha NQ Uz)),fun k' hk' hm=>hR k' ?_⟩,hkc.trans hkk,mG.trans (fR hw (fun b hb=>by rcases hb with rfl|rfl<;>omega))⟩
    rcases List.mem_append.1 hm with h1|h1
    ·exact .inr (Zp k' hk' h1)
    ·left
     have h2:Lo.oh s k'=Lo.oh s k:=by
      have:=List.mem_singleton.1 h1
      rw[Hr]
      omega
     have h3:=(Lo.cN hd.vf hk').2.2.2
     rw[h2,Hr] at h3
     omega
  case aan=>
   rintro X ⟨⟨E1,E2,e1,e2,m1,m2,hdn,Zp⟩,hkc,mG⟩
   gi_wp2
   refine⟨mG,hkc,⟨E1,E2,e1,e2,m1,m2,?_⟩,nV.out.trans hkc⟩
   rw[La.out]
   intro k hk a ha NQ Uz
   by_cases e:a=x
   ·subst e
    refine Zp k hk ((Lo.uJ hd.vf dh).2 ⟨k,hk,?_,rfl⟩)
    rw[hv] at NQ
    omega
   ·exact hdn k hk a ha NQ (by omega)
  case YD=>
   rintro c pre' X _ hx
   exact hx.elim
 case done=>
  rintro D X hD ⟨⟨A1,A2,i1,i2,q1,q2,hdone⟩,hkp⟩ hK
  have iC:X.heap[Lb]? =some (.cells #[.slice (some ⟨g1,0,none⟩) es.length es.length,.slice (some ⟨g2,0,none⟩) es.length es.length,.slice none 0 0,.slice none 0 0] 116 (0,0)):=hkp.2 _ _ lb1 rfl (by omega)
  have jF:X.heap[R]? =some (.cells #[.slice none 0 0,.slice none 0 0,.slice none 0 0,.slice none 0 0] 116 (0,0)):=hkp.2 _ _ rs1 rfl (by omega)
  obtain⟨x0,x1,x2,x3,-⟩:=au iC
  obtain⟨z0,z1,z2,z3,z4⟩:=au jF
  have CH:Below w.heap.size w X:=hB1.trans hkp.1
  have hall:∀k,k<es.length→A1.getD k 0=Lo.low es s k∧A2.getD k 0=Lo.cj es s k:=fun k hk=>by
   obtain⟨a,ha,ea⟩:=Df.iq.sI hd.vf.once (Lo.bK hd.val hd.vf hk).1
   exact hdone k hk a ha ea (by rw[jg];omega)
  have UZ:A1=upTo (Lo.low es s) es.length:=by
   refine List.ext_getElem? fun k=> ?_
   by_cases hk:k<es.length
   ·rw[gR hk,List.getElem?_eq_getElem (by omega)]
    have:=(hall k hk).1
    rw[List.getD_eq_getElem?_getD,List.getElem?_eq_getElem (by omega)] at this
    exact congrArg some this
   ·rw[List.getElem?_eq_none (by omega),List.getElem?_eq_none (by rw[fG];omega)]
  have hA2:A2=upTo (Lo.cj es s) es.length:=by
   refine List.ext_getElem? fun k=> ?_
   by_cases hk:k<es.length
   ·rw[gR hk,List.getElem?_eq_getElem (by omega)]
    have:=(hall k hk).2
    rw[List.getD_eq_getElem?_getD,List.getElem?_eq_getElem (by omega)] at this
    exact congrArg some this
   ·rw[List.getElem?_eq_none (by omega),List.getElem?_eq_none (by rw[fG];omega)]
  subst UZ
  subst hA2
  have mX:=Nu.hid i1
  have fY:=Nu.hid i2
  have jP:=Nu.hid CH
  have Le:=Nu.hid jF
  have HK:=Nu.hid hK
  clear i1 i2 hall hdone hkp iC jF CH
  go_wp2
  rw[←HQQ.out]
  obtain⟨Y,hY⟩:∃Y,Y=dY X R (.slice (some ⟨g1,0,none⟩) es.length es.length) (.slice (some ⟨g2,0,none⟩) es.length es.length) (.slice none 0 0) (.slice none 0 0):=⟨_,rfl⟩
  have CL:Y.heap[R]? =some (.cells #[.slice (some ⟨g1,0,none⟩) es.length es.length,.slice (some ⟨g2,0,none⟩) es.length es.length,.slice none 0 0,.slice none 0 0] 116 (0,0)):=by rw[hY];exact gV Le.out _ _ _ _
  have Ib:∀b,b≠R→Y.heap[b]? =X.heap[b]? :=fun b hb=>by rw[hY];exact kH hb _ _ _ _
  have Kz:Below w.heap.size w Y:=by rw[hY];exact eA jP.out YV _ _ _ _
  have hKY:Y.heap[D]? =some (.deferred (some [])):=(Ib D (by omega)).trans HK.out
  unfold dY at hY
  rw[←hY]
  have adX:(Y.putObj D (.deferred none)).heap[R]? =some (.cells #[.slice (some ⟨g1,0,none⟩) es.length es.length,.slice (some ⟨g2,0,none⟩) es.length es.length,.slice none 0 0,.slice none 0 0] 116 (0,0)):=(World.putObj_heap_other (by omega)).trans CL
  obtain⟨v0,v1,v2,v3,-⟩:=au adX
  refine⟨by simp,.inl ⟨_,_,rfl,run_takeDeferred hKY,?_⟩⟩
  refine⟨.agg #[.slice (some ⟨g1,0,none⟩) es.length es.length,.slice (some ⟨g2,0,none⟩) es.length es.length,.slice none 0 0,.slice none 0 0],?_,g1,g2,rfl,?_,?_,YU,YT,YO,?_⟩
  ·simp[results,Tryz.results97,go_sem,v0,v1,v2,v3]
  ·exact(World.putObj_heap_other (by omega)).trans ((Ib g1 (fun e=>ne4 e.symm)).trans mX.out)
  ·exact(World.putObj_heap_other (by omega)).trans ((Ib g2 (fun e=>ne5 e.symm)).trans fY.out)
  ·exact Kz.trans (belowK_b (w:=w) (Nat.le_refl _) Y D _ _ (by omega) hKY rfl rfl)
 case stop=>
  rintro D c pre X _ _ hx _
  exact hx.elim
end
end
section
open Go.RowKit
set_option maxRecDepth 100000 in
set_option maxHeartbeats 4000000 in
theorem JO (m:Nat) (hm:m≤4294967295) (w:World):Calls Tryz.prog 130 #[.int .u64 1,.int .u64 (m:Int)] w fun e w'=>e= .returned (.tuple #[.int .u64 0,.int .u64 (m:Int)])∧w'=w:=by
 have mask:∀a:Nat,a≤4294967295→bits .and .u64 (a:Int) 4294967295=(a:Int):=fun a ha=>by
  have h:=bits_and_u64_nat a 4294967295 (by omega) (by omega)
  have e:a &&& 4294967295=a%4294967296:=Nat.and_two_pow_sub_one_eq_mod a 32
  rw[e,Nat.mod_eq_of_lt (by omega)] at h
  exact h
 have b1:=mask 1 (by omega)
 have b0:=mask 0 (by omega)
 have bm:=mask m hm
 have wr:∀a:Nat,a≤4294967295→IntKind.u64.wrap (a:Int)=(a:Int):=fun a ha=>by rw[IntKind.wrap_u64];omega
 have w0:=wr 0 (by omega)
 have wm:=wr m hm
 have d0:(m:Int)/4294967296=0:=by omega
 clear mask wr
 go_enter Tryz.func130,Tryz.ntmps130
 go_wp2_with fail
 simp only[Int.natCast_one,Int.natCast_zero] at b1 b0 w0
 simp only[b1,Int.one_mul,wm,d0,w0,Int.zero_ediv,b0]
 go_ret2
 exact⟨rfl,rfl⟩
set_option maxRecDepth 100000 in
set_option maxHeartbeats 4000000 in
theorem EL (m:Nat) (hm:m≤4294967295) (w:World):Calls Tryz.prog 115 #[.int .u64 1,.int .u64 (m:Int)] w fun e w'=>e= .returned (.tuple #[.int .u64 0,.int .u64 (m:Int)])∧w'=w:=by
 have HC:=Nu.hid (JO m hm w)
 have wm:IntKind.u64.wrap (m:Int)=(m:Int):=by rw[IntKind.wrap_u64];omega
 have HW:=Nu.hid wm
 clear hm wm
 go_enter Tryz.func115,Tryz.ntmps115
 go_wp2_with (go_at_call 130;refine HC.out.mono ?_;rintro e w' ⟨rfl,hw⟩;rw[hw])
 go_ret2
 exact⟨rfl,rfl⟩
end
section
open Go.RowKit
def Lt.laid (m n:Nat) (x:Int):List Int:=List.replicate n x++List.replicate (m-n) 0
theorem Lt.Au (m n k:Nat) (x:Int) (h:n+k≤m):splice ((Lt.laid m n x).map (Value.int .i64)) n ((List.replicate k x).map (Value.int .i64))=(Lt.laid m (n+k) x).map (Value.int .i64):=by
 unfold Lt.laid splice
 simp only[List.map_append,List.map_replicate,List.length_replicate]
 rw[List.take_left' (by simp)]
 have hd:List.drop (n+k) (List.replicate n (Value.int IntKind.i64 x)++List.replicate (m-n) (Value.int IntKind.i64 0))=List.replicate (m-(n+k)) (Value.int .i64 0):=by
  rw[List.drop_append,List.length_replicate,List.drop_of_length_le (by simp),List.nil_append,List.drop_replicate]
  congr 1
  omega
 rw[hd]
 rw[←List.append_assoc,List.replicate_append_replicate]
def vC (x:Int) (m:Nat) (w:World) (e:Ending) (w':World):Prop:=∃g,e= .returned (.slice (some ⟨g,0,none⟩) m m)∧aq w' g (List.replicate m x)∧w.heap.size≤g∧Below w.heap.size w w'
set_option maxRecDepth 100000 in
set_option maxHeartbeats 4000000 in
theorem qB (x:Int) (m b cap:Nat) (hm:m≤8388608) (w:World) (hx:aq w b [x]):Calls Tryz.prog 87 #[.slice (some ⟨b,0,none⟩) 1 cap,.int .i64 (m:Int)] w (vC x m w):=by
 obtain⟨i0,hi,hz0,hz1,hz2⟩:=info_parts Tryz.bS
 have HC:=Nu.hid (EL m (by omega) w)
 have HX:=Nu.hid hx
 have hxc:=hx.cell (i:=0) (x:=x) rfl
 have hbl:=hx.lt
 have hwm:IntKind.u64.wrap (m:Int)=(m:Int):=by rw[IntKind.wrap_u64];omega
 have hu:Tryz.prog.underlying 27=some (.slice 3):=Tryz.underlying27
 have xS:(Tryz.prog.info? 3).map (·.size)=some 1:=by rw[hi,Option.map_some,hz1]
 clear hx
 go_enter Tryz.func87,Tryz.ntmps87
 go_wp2_with (first|(go_at_call 115;refine HC.out.mono ?_;rintro e w' ⟨rfl,hw⟩;rw[hw])|(at_make;refine wpList_make_full _ rfl _ _ 27 rfl w.heap.size 3 i0 (.int .i64 0) 1 Tryz.underlying27 hi hz0 hz1 _ _ _ _ m rfl rfl rfl rfl (by rw[hz2];omega) (by unfold maxLen;omega) (Nat.le_refl _) ?_;refine Hid.out ?_))
 refine Nu.hid ?_
 intro w2 hrow hg2
 rw[cD] at hrow
 have hik:=dy hrow
 have hb2:Below w.heap.size w w2:=(Below.refl _ _).grown hg2 (Nat.le_refl _) (fun j hj=>by cases hj)
 have fY:Hid (w2.heap[w.heap.size]? =some (.cells ((Lt.laid m 0 x).map (Value.int .i64)).toArray 3 (0,0))):=by
  have e:Lt.laid m 0 x=List.replicate m 0:=by unfold Lt.laid;simp
  rw[e]
  exact hik
 have hx2:w2.cell? ⟨b,0,none⟩=some (.int .i64 x):=by
  have:=(HX.out.later hb2).cell (i:=0) (x:=x) rfl
  exact this
 have cz:=Nu.hid hb2
 clear hrow hg2 hik hb2
 obtain⟨C0,hC0⟩:∃C0,C0=(Lt.laid m 0 x).map (Value.int .i64):=⟨_,rfl⟩
 rw[←hC0] at fY
 obtain⟨q,hq,wJ⟩:∃q:Nat,q=min 1 m∧(q=0∨q=1):=⟨min 1 m,rfl,by omega⟩
 obtain⟨X0,j6⟩:∃X0,X0=(List.replicate q x).map (Value.int .i64):=⟨_,rfl⟩
 have HC0:=Nu.hid hC0
 have Sv:=Nu.hid j6
 have HQ:=Nu.hid hq
 have Rn:X0.length=Nat.min 1 m:=by rw[Sv.out];simp;exact HQ.out
 have RH:C0.length=m:=by rw[HC0.out];unfold Lt.laid;simp
 have OE:=Nu.hid Rn
 have Tc:=Nu.hid RH
 have aeR:Hid (∀v∈X0,v.oneCell'=true):=fun v hv=>by
  rw[Sv.out] at hv
  obtain⟨y,-,rfl⟩:=List.mem_map.1 hv
  rfl
 have aeS:Hid (∀j v,X0[j]? =some v→w2.cell? ((⟨b,0,none⟩:Addr).add j)=some v):=fun j v hj=>by
  rw[Sv.out,List.getElem?_map,List.getElem?_replicate] at hj
  by_cases k:j<q
  ·rw[if_pos k] at hj
   cases hj
   have hj0:j=0:=by rcases wJ with r|r<;>omega
   subst hj0
   exact hx2
  ·rw[if_neg k] at hj
   cases hj
 have HF0:Hid (0+X0.length≤C0.length):=by show _≤_;rw[Rn,RH,Nat.zero_add];exact Nat.min_le_right _ _
 clear hC0 j6 hq Rn RH
 go_wp2_with (refine wpList_copy_splice rfl (.tmp 31) (.tmp 32) 27 27 rfl 3 hu xS _ _ _ _ _ _ rfl rfl w.heap.size 0 C0 3 fY.out X0 OE.out (fun _=>⟨rfl,_,rfl,aeS.out⟩) HF0.out aeR.out w.heap.size w cz.out (Nat.le_refl _) ?_;refine Hid.out ?_)
 refine Nu.hid ?_
 intro w3 OM hb3
 have CC:aq w3 w.heap.size (Lt.laid m q x):=by
  have h3:=OM.out
  have hq:=HQ.out
  rw[HC0.out,Sv.out] at h3
  have e:=Lt.Au m 0 q x (by omega)
  rw[e,Nat.zero_add] at h3
  exact h3
 have NG:q≤m∧(0<q∨m=0):=by have:=HQ.out;omega
 have NH:X0.length=q:=by rw[Sv.out];simp
 rw[NH]
 have dM:=Nu.hid hb3
 have uk:=Nu.hid CC
 have HQM:=Nu.hid NG
 clear CC hb3 NG NH hx2 wJ
 go_wp2
 go_loopw [8] (fun c wr=>∃n:Nat,c= .int .i64 (n:Int)∧n≤m∧(0<n∨m=0)∧aq wr w.heap.size (Lt.laid m n x)∧Below w.heap.size w wr) (fun c _=>m-(intOf c).toNat)
 case atStart=>exact⟨q,rfl,HQM.out.1,HQM.out.2,uk.out,dM.out⟩
 case round=>
  obtain⟨k,rfl,hkm,hk0,hik,hbk⟩:=hrel
  by_cases hlt:k<m
  ·have i1:(k:Int)<(m:Int):=by omega
   have i0:(0:Int)≤(k:Int):=by omega
   obtain⟨Ck,UX⟩:∃Ck,Ck=(Lt.laid m k x).map (Value.int .i64):=⟨_,rfl⟩
   obtain⟨d,hd⟩:∃d,d=min k (m-k):=⟨_,rfl⟩
   obtain⟨Xk,NU⟩:∃Xk,Xk=(List.replicate d x).map (Value.int .i64):=⟨_,rfl⟩
   have Ti:Hid (wr.heap[w.heap.size]? =some (.cells Ck.toArray 3 (0,0))):=by rw[UX];exact hik
   have FE:Hid (Ck.length=m):=by show _=_;rw[UX];unfold Lt.laid;simp;omega
   have HXL:Hid (Xk.length=d):=by show _=_;rw[NU];simp
   have HXV:Hid (∀v∈Xk,v.oneCell'=true):=fun v hv=>by
    rw[NU] at hv
    obtain⟨y,-,rfl⟩:=List.mem_map.1 hv
    rfl
   have HXC:Hid (∀j v,Xk[j]? =some v→wr.cell? ((⟨w.heap.size,0,none⟩:Addr).add j)=some v):=fun j v hj=>by
    rw[NU,List.getElem?_map,List.getElem?_replicate] at hj
    by_cases r:j<d
    ·rw[if_pos r] at hj
     cases hj
     rw[show(⟨w.heap.size,0,none⟩:Addr).add j=⟨w.heap.size,j,none⟩ by unfold Addr.add;simp;omega]
     refine hik.cell (i:=j) ?_
     unfold Lt.laid
     rw[List.getElem?_append_left (by simp;omega),List.getElem?_replicate,if_pos (by omega)]
    ·rw[if_neg r] at hj
     cases hj
   have HXM:Hid (Xk.length=Nat.min k (m-k)):=by show _=_;rw[NU,hd];simp
   have Ek:Hid (k+Xk.length≤Ck.length):=by show _≤_;rw[HXL.out,FE.out];omega
   have HCK:=Nu.hid UX
   have HXK:=Nu.hid NU
   have HD:=Nu.hid hd
   have xx:Hid (Below w.heap.size w wr.drew):=hbk.drew
   have hne:¬m=k:=by omega
   clear hik hbk UX NU hd
   go_wp2
   go_region_law (refine step_copy_splice rfl (.tmp 41) (.tmp 44) 27 27 rfl 3 hu xS (some ⟨w.heap.size,k,none⟩) (some ⟨w.heap.size,0,none⟩) (m-k) (m-k) k m (by simp[Act.eval,Act.put]) (by simp[Act.eval,Act.put]) w.heap.size k Ck 3 Ti.out Xk HXM.out (fun _=>⟨rfl,_,rfl,HXC.out⟩) Ek.out HXV.out w.heap.size w xx.out (Nat.le_refl _) ?_;intro w4 hg4 hb4;rw[HXL.out])
   have hwr:IntKind.i64.wrap ((k:Int)+(d:Int))=((k+d:Nat):Int):=by rw[IntKind.wrap_i64];have:=HD.out;omega
   rw[hwr]
   have B8:=Nu.hid hg4.out
   have gJ:=Nu.hid hb4
   clear hg4 hb4 hwr
   simp only[Act.put,List.getElem_toArray,List.getElem_cons_succ,List.getElem_cons_zero,List.setIfInBounds_toArray,List.set_cons_succ,List.set_cons_zero]
   go_wp2
   go_roundw
   case rel=>
    refine⟨k+d,rfl,by have:=HD.out;omega,by have:=HD.out;omega,?_,gJ.out⟩
    have h4:=B8.out
    have e:=Lt.Au m k d x (by have:=HD.out;omega)
    rw[HCK.out,HXK.out,e] at h4
    exact h4
   case measure=>
    have:=HD.out
    simp[intOf]
    omega
  ·obtain rfl:k=m:=by omega
   have Ti:=Nu.hid hik
   have xx:=Nu.hid hbk
   clear hik hbk
   go_wp2
   go_ret
   refine⟨_,rfl,?_,Nat.le_refl _,xx.out⟩
   have h4:=Ti.out
   unfold Lt.laid at h4
   simpa using h4
end
end Go.Proofs.YtnhcggfbkoppnaaGreat
