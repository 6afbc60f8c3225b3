import Derived.Test.YtdjmnpmdmjclhabGreatMg15
import Derived.Test.YtdjmnpmdmjclhabGreatMg08
import Derived.Test.YtdjmnpmdmjclhabGreatMg04
namespace Go.Proofs.YtdjmnpmdmjclhabGreat
section
open Go.RowKit Go.Shelf
attribute [local go_sem] Oper.semAt_some
def ET:Nat→Code→Code
 |0,c=>c
 |n+1,.seq _ d=>ET n d
 |_,c=>c
def wo (n:Nat) (es:List (Int×Int)) (s:Df.St) (j:Nat) (A1 A2:List Int):Prop:=∀k,k<es.length→∀a,a<n→Df.at_ s.ord a=(Lo.fr es s k:Int)→j≤a→A1.getD k 0=Lo.low es s k∧A2.getD k 0=Lo.cz es s k
theorem Ej {l:List Int} {k j:Nat} {x:Int} (hk:k<l.length):(l.set k x).getD j 0=if j=k then x else l.getD j 0:=by
 rw[aai,aaq]
 by_cases h:k=j
 ·subst h
  rw[if_pos rfl,if_pos hk,if_pos rfl]
  rfl
 ·rw[if_neg h,if_neg (fun e=>h e.symm),aai]
theorem pH {β:Type} (B g1 g2:Nat) (P:β→List Int→List Int→Prop):OwnFrom B (fun (b:β) X=>∃A1 A2,aq X g1 A1∧aq X g2 A2∧P b A1 A2):=fun b X Y row ⟨A1,A2,h1,h2,h3⟩ hg hr=>by
 have far:∀{g:Nat} {l:List Int},aq X g l→aq Y g l:=fun {g l} h=>by
  refine(hg.block g (lt_of_block h) (fun e=> ?_)).trans h
  obtain⟨_,o,ho,hc⟩:=hr g e.symm
  rw[show X.heap[g]? =_ from h] at ho
  cases ho
  cases hc
 exact⟨A1,A2,far h1,far h2,h3⟩
def ZW (p Lb g1 g2 m h k:Nat) (q:Int×Int):Nat→Value
 |0=> .pointer (some ⟨Lb,0,none⟩)
 |1=> .slice (some ⟨g1,0,none⟩) m m
 |2=> .int .i64 (h:Int)
 |3=> .int .i64 (k:Int)
 |4=> .pointer (some ⟨Lb,1,none⟩)
 |5=> .slice (some ⟨g2,0,none⟩) m m
 |6=> .int .i64 (h:Int)
 |7=> .int .i64 (k:Int)
 |8=> .pointer (some ⟨p,0,none⟩)
 |9=> .int .i64 (h:Int)
 |10=> .agg #[.slice (some ⟨g1,0,none⟩) m m,.slice (some ⟨g2,0,none⟩) m m,.slice none 0 0,.slice none 0 0]
 |11=> .tuple #[.int .i64 q.1,.int .i64 q.2]
 |12=> .tuple #[.int .i64 q.1,.int .i64 q.2]
 |13=> .int .i64 q.1
 |14=> .int .i64 q.2
 |15=> .pointer (some ⟨g1,k,none⟩)
 |17=> .pointer (some ⟨g2,k,none⟩)
 |_=>undef
def Qn (g1 g2 k:Nat) (q:Int×Int) (A1 A2:List Int) (A:World) (L:Nat→Bool) (X:World):Prop:=
 aC (fun b=>b=g1∨b=g2) A X∧aq X g1 (if L 16=true then A1.set k q.1 else A1)∧aq X g2 (if L 18=true then A2.set k q.2 else A2)
theorem Qn.other {g1 g2 k:Nat} {q:Int×Int} {A1 A2:List Int} {A X:World} {L:Nat→Bool} (h:Qn g1 g2 k q A1 A2 A L X) {i:Nat} (h1:i≠16) (h2:i≠18):Qn g1 g2 k q A1 A2 A (aj.bR L i) X:=by
 have e1:aj.bR L i 16=L 16:=if_neg (fun e=>h1 e.symm)
 have e2:aj.bR L i 18=L 18:=if_neg (fun e=>h2 e.symm)
 unfold Qn at h ⊢
 rw[e1,e2]
 exact h
section
variable {p:Nat} {av:Value} {n:Nat} {es:List (Int×Int)} {f:For} {s:Df.St}
theorem OM {V:World} {k:Nat} {o:Obj} (h:V.heap[k]? =some o):V.drew.heap[k]? =some o:=h
theorem aq.drew {V:World} {g:Nat} {l:List Int} (h:aq V g l):aq V.drew g l:=h
theorem K2 {V:World} {k:Nat} {o o':Obj} (hk:k<V.heap.size) (h:V.heap[k]? =some o'):(V.alloc o).heap[k]? =some o':=(aap V o k hk).trans h
structure Nc (w V:World) (p m Bw R Lb g1 g2:Nat):Prop where
 aI:Below w.heap.size w V
 bw:Boxed V Bw 123 (.pointer (some ⟨p,0,none⟩))
 res:V.heap[R]? =some (.cells #[.slice none 0 0,.slice none 0 0,.slice none 0 0,.slice none 0 0] 86 (0,0))
 lb:V.heap[Lb]? =some (.cells #[.slice (some ⟨g1,0,none⟩) m m,.slice (some ⟨g2,0,none⟩) m m,.slice none 0 0,.slice none 0 0] 86 (0,0))
 i1:aq V g1 (List.replicate m 0)
 i2:aq V g2 (List.replicate m 0)
 lo:w.heap.size≤Bw∧w.heap.size≤R∧w.heap.size≤Lb∧w.heap.size≤g1∧w.heap.size≤g2
 ne:g1≠g2∧Bw≠g1∧Bw≠g2∧R≠g1∧R≠g2∧Lb≠g1∧Lb≠g2∧R≠Lb
def xK (es:List (Int×Int)) (s:Df.St) (w:World) (e:Ending) (w':World):Prop:=
 ∃g1 g2,e= .returned (.agg #[.slice (some ⟨g1,0,none⟩) es.length es.length,.slice (some ⟨g2,0,none⟩) es.length es.length,.slice none 0 0,.slice none 0 0])∧aq w' g1 (upTo (Lo.low es s) es.length)∧aq w' g2 (upTo (Lo.cz es s) es.length)∧
  w.heap.size≤g1∧w.heap.size≤g2∧g1≠g2∧Below w.heap.size w w'
set_option maxRecDepth 100000 in
set_option maxHeartbeats 16000000 in
theorem Ko (w V:World) (Bw R Lb g1 g2:Nat) (y7 y8 y9 y10 y11 y13 y14 y15 y16 y17 y19:Value) (hd:Wd w p av n es f s) (h:Nc w V p es.length Bw R Lb g1 g2):
 Code.wp Tryz.prog (ET 2 (Tryz.f62.body.getD .skip)) (bodyPostM Fence.wide 13 Tryz.prog Tryz.f62 (xK es s w))
  { tmps:= #[.pointer (some ⟨p,0,none⟩),.pointer (some ⟨Bw,0,none⟩),.pointer (some ⟨R,0,none⟩),.pointer (some ⟨Lb,0,none⟩),undef,undef,undef,y7,y8,y9,y10,y11,.slice (some ⟨g1,0,none⟩) es.length es.length,y13,y14,y15,y16,y17,.slice (some ⟨g2,0,none⟩) es.length es.length,y19,
    undef,undef,undef,undef,undef,undef,undef,undef,undef,undef,undef,undef,undef,undef,undef,undef,undef,undef,undef,undef,undef,undef,undef,undef,undef,undef,undef,undef,undef,undef],defers:=[] } V:=by
 have cj:=hd.val.few
 have hn:=hd.val.hi
 have sN:=hd.later h.aI
 obtain⟨lo1,Z0,lo3,ZZ,ZY⟩:=h.lo
 obtain⟨ZT,ne2,ne3,ne4,ne5,ne6,ne7,ne8⟩:=h.ne
 have c1:=h.bw.cell
 have c3:=sN.c3
 have xU:Hid (∀X,Calls Tryz.prog 40 #[.slice f.a3 n f.c3] X (o7 f.a3 n f.c3 X)):=fun X=>kO _ _ _ X
 have Dq:=Nu.hid sN
 clear sN
 obtain⟨QQ,hQQ⟩:∃QQ,(bodyPostM Fence.wide 13 Tryz.prog Tryz.f62 (xK es s w))=QQ:=⟨_,rfl⟩
 rw[hQQ]
 have HQQ:=Nu.hid hQQ
 clear hQQ
 simp only[Tryz.f62,Option.getD,ET]
 go_wp2_with (go_at_call 40;refine(xU.out _).mono ?_;rintro e V1 ⟨Bs,rfl,tT,bs,hb1⟩)
 refine(wpIn_wide (n:=13)).1 ?_
 have hB1:Below w.heap.size w V1:=h.aI.trans (hb1.mono h.aI.size)
 have hs1:=hb1.size
 have hsw:=h.aI.size
 have l1:=lt_of_block h.i1
 have l2:=lt_of_block h.i2
 have l3:=lt_of_block h.lb
 have l4:=lt_of_block h.res
 have V3:Boxed V1 Bw 123 (.pointer (some ⟨p,0,none⟩)):=(hb1.block _ h.bw.lt).trans h.bw
 have lb1:=(hb1.block _ l3).trans h.lb
 have rs1:=(hb1.block _ l4).trans h.res
 have j1:aq V1 g1 (List.replicate es.length 0):=(hb1.block _ l1).trans h.i1
 have j2:aq V1 g2 (List.replicate es.length 0):=(hb1.block _ l2).trans h.i2
 have hcs:∀i,i<n→∃b o,f.a3=some ⟨b,o,none⟩∧∀X,Below w.heap.size V1 X→X.cell? ⟨b,o+i,none⟩=some (.int .i64 (Df.at_ s.ord i)):=fun i hi=>by
  obtain⟨b,o,e,hc⟩:=hd.ord hi
  exact⟨b,o,e,fun X hX=>hc X (hB1.trans hX) i hi⟩
 refine sr (n:=13) (gf:=66) (lb:= #[.pointer (some ⟨Bs,0,none⟩)]) (by rfl) (enters_of Tryz.func66 (by kernel_rfl) rfl)
  (S1 Bs w.heap.size f.c3 n (fun b=>b=g1∨b=g2) f.a3 s.ord (by omega) V1 (by omega) bs hcs (by omega)) (by omega) (fun _=>rfl)
  (fun pre X=>(∃A1 A2,aq X g1 A1∧aq X g2 A2∧A1.length=es.length∧A2.length=es.length∧wo n es s (n-pre.length) A1 A2)∧bE w.heap.size (fun b=>b=g1∨b=g2) V1 X) (fun _ _ _=>False)
  (ab0 (pH _ g1 g2 (fun (pre:List Nat) A1 A2=>A1.length=es.length∧A2.length=es.length∧wo n es s (n-pre.length) A1 A2)) (bE.own (by omega) (by omega))) (fun _ _ _ _ _ hs _ _=>hs)
  ⟨⟨_,_,j1,j2,by simp,by simp,fun k _ a ha _ Vr=>by simp at Vr;omega⟩,bE.refl _ _ _⟩
  (fun x a' _=>a'={ tmps:= #[.pointer (some ⟨p,0,none⟩),.pointer (some ⟨Bw,0,none⟩),.pointer (some ⟨R,0,none⟩),.pointer (some ⟨Lb,0,none⟩),undef,.int .i64 (Df.at_ s.ord x),undef,y7,y8,y9,y10,y11,.slice (some ⟨g1,0,none⟩) es.length es.length,y13,y14,y15,y16,y17,.slice (some ⟨g2,0,none⟩) es.length es.length,y19,
    .pointer (some ⟨p,0,none⟩),.pointer (some ⟨p,0,none⟩),.pointer (some ⟨p,1,none⟩),.pointer (some ⟨p,3,none⟩),.slice f.a3 n f.c3,.func (.func 66) #[] #[.pointer (some ⟨Bs,0,none⟩)],.int .i64 (x:Int),.int .i64 (Df.at_ s.ord x),undef,undef,undef,undef,undef,undef,undef,undef,undef,undef,undef,undef,undef,undef,undef,undef,undef,undef,undef,undef,undef,undef],defers:=[] })
  (fun x a'=>ownFrom_pure _ _) ?assign ?body ?done ?stop
 case assign=>
  intro l pre x X K _ hi hK
  gi_wp2
  exact hK _ _ (ab6 _ _) (bE.refl _ _ _) hi rfl
 case body=>
  rintro l pre x a' A ⟨hl,-⟩ ⟨r,hr⟩ hpx ⟨⟨A1,A2,i1,i2,q1,q2,hdone⟩,hkp⟩ rfl
  obtain⟨hpl,uZ⟩:=pZ hpx
  have CX:x<n:=by omega
  obtain⟨v,hv⟩:∃v:Nat,Df.at_ s.ord x=(v:Int):=⟨(Df.at_ s.ord x).toNat,by have:=(hd.vf.once x CX).1;omega⟩
  have dh:v<n:=by have:=(hd.vf.once x CX).1;omega
  rw[hv]
  have jV:Hid (∀X,Calls Tryz.prog 97 #[.pointer (some ⟨p,0,none⟩),.int .i64 (v:Int)] X (xV p (v:Int) X)):=fun X=>zW p _ X
  have cw:=(hkp.boxed V3 (by omega)).cell
  have hAs:V1.heap.size≤A.heap.size:=hkp.1.size
  have xM:Hid (A.heap[l]? =some (.loop r)):=hr
  have WX:Hid (wo n es s (x+1) A1 A2):=by
   have e:n-pre.length=x+1:=by omega
   rw[e] at hdone
   exact hdone
  have ot:=Nu.hid hkp
  have ng:=Nu.hid i1
  have fX:=Nu.hid i2
  have LU:Hid (n-(pre++[x]).length=x):=by show _=_;simp;omega
  clear hkp i1 i2 hdone hr hpx uZ
  gi_wp2_with (refine⟨trivial,?_⟩;gi_at_call 97;refine(acJ l (callsIn_wide.2 (jV.out _))).mono ?_;rintro e A' ⟨Bx,Bv,rfl,hBx,hBv,bx,bv,Db⟩)
  have hAA:=Db.size
  have RZ:Below w.heap.size w A:=hB1.trans ot.out.1
  have Yv:Below w.heap.size w A':=RZ.trans (Db.mono RZ.size)
  have hrl:l<A.heap.size:=lt_of_block xM.out
  refine aaf (n:=13-1-1) (l₀:=l) (r₀:=r) ((Db.block l hrl).trans xM.out) (gf:=129) (lb:= #[.pointer (some ⟨Bx,0,none⟩),.pointer (some ⟨Bv,0,none⟩)]) (by rfl) (enters_of Tryz.func129 (by kernel_rfl) rfl)
   (I1 v Bx Bv (fun b=>b=g1∨b=g2) w A' hd Yv dh bx bv (by omega) (fun b hb=> .inl (by rcases hb with rfl|rfl<;>omega))) Yv.size (fun _=>rfl)
   (fun pre' X=>(∃A1 A2,aq X g1 A1∧aq X g2 A2∧A1.length=es.length∧A2.length=es.length∧wo n es s (x+1) A1 A2∧∀k,k<es.length→(Lo.oh s k:Int)∈pre'→A1.getD k 0=Lo.low es s k∧A2.getD k 0=Lo.cz es s k)∧(bE w.heap.size (fun b=>b=g1∨b=g2) A X∧KeepsFrom V1.heap.size A X)) (fun _ _ _=>False)
   (ab0 (pH _ g1 g2 (fun (pre':List Int) A1 A2=>A1.length=es.length∧A2.length=es.length∧wo n es s (x+1) A1 A2∧∀k,k<es.length→(Lo.oh s k:Int)∈pre'→A1.getD k 0=Lo.low es s k∧A2.getD k 0=Lo.cz es s k)) (ab0 (bE.own (by omega) (by omega)) (ownFrom_keepsFrom hAA))) (fun _ _ _ _ _ hs _ _=>hs)
   ⟨⟨A1,A2,ng.out.later Db,fX.out.later Db,q1,q2,WX.out,fun k _ hk=>by simp at hk⟩,(bE.refl _ _ _).grow Db (by omega),D6 Db⟩
   (fun y a' _=>a'.tmps.size=50∧a'.eval (.tmp 1)= .pointer (some ⟨Bw,0,none⟩)∧a'.eval (.tmp 3)= .pointer (some ⟨Lb,0,none⟩)∧a'.eval (.tmp 6)= .int .i64 y)
   (fun y a'=>ownFrom_pure _ _) ?assign2 ?body2 ?abx ?ZG
  case assign2=>
   intro l2 pre' y X K _ hi hK
   gi_wp2
   exact hK _ _ (ab6 _ _) (bE.refl _ _ _) hi ⟨rfl,rfl,rfl,rfl⟩
  case body2=>
   rintro l2 pre' y a' C ⟨hl2,-⟩ _ hpy ⟨⟨E1,E2,e1,e2,m1,m2,hdn,hpr⟩,hkc,mO⟩ ⟨asz,a1,a3,a6⟩
   obtain⟨k,hk,hfk,rfl⟩:=(Lo.uT hd.vf dh).1 (hpy.subset (aaz pre' (aao.2 rfl)))
   obtain⟨ho1,ho2,xj,Bi⟩:=Lo.cO hd.vf hk
   have Rn:Lo.lead n es s E1 E2 (Lo.oh s k)=(Lo.low es s k,Lo.cz es s k):=Lo.Oa hd.val hd.vf hk fun qP k' hk' hf'=>by
    have hg:=(Lo.bK hd.val hd.vf hk).2
    obtain⟨b,hb,eb⟩:=Df.iy.sZ hd.vf.once hg
    refine hdn k' hk' b hb (by rw[hf'];exact eb) ?_
    exact Lo.xX hd.val hd.vf hk qP CX hb (by rw[hv,hfk]) eb
   have Fw:Below w.heap.size w C:=RZ.trans hkc.1
   have hCs:A.heap.size≤C.heap.size:=hkc.1.size
   have bwC:=hkc.boxed (ot.out.boxed V3 (by omega)) (by omega)
   have lbC:C.heap[Lb]? =some (.cells #[.slice (some ⟨g1,0,none⟩) es.length es.length,.slice (some ⟨g2,0,none⟩) es.length es.length,.slice none 0 0,.slice none 0 0] 86 (0,0)):=hkc.2 _ _ (ot.out.2 _ _ lb1 rfl (by omega)) rfl (by omega)
   have lC:=lt_of_block lbC
   have gC1:=e1.lt
   have gC2:=e2.lt
   obtain⟨hh,IA⟩:∃hh,Lo.oh s k=hh:=⟨_,rfl⟩
   rw[IA] at xj Bi a6 Rn
   have xd:(hh:Int).tdiv 2=(k:Int):=by rw[aaZ (by omega)];omega
   have k0:(0:Int)≤(k:Int):=by omega
   have k1:(k:Int)<(es.length:Int):=by omega
   obtain⟨z1,hz1⟩:∃z,E1[k]? =some z:=⟨_,aac (by omega)⟩
   obtain⟨z2,hz2⟩:∃z,E2[k]? =some z:=⟨_,aac (by omega)⟩
   gi_wp2
   refine wpIn_region_any (by kernel_rfl) ?_
   refine aj.YP (ZW p Lb g1 g2 es.length hh k (Lo.low es s k,Lo.cz es s k)) (Qn g1 g2 k (Lo.low es s k,Lo.cz es s k) E1 E2 C) 50 asz (by kernel_rfl) (by kernel_rfl) ⟨(aC.refl _ _).drew,e1,e2⟩ ?_ ?_
   ·intro i o L X ev ho bP hC bU hdc aA aS lG iW
    have hW:=hC.1
    have kb:=acG ((hW.block Bw bwC.lt (by omega)).trans bwC)
    have Vn:=(hW.block Lb lC (by omega)).trans lbC
    have r0:X.cell? ⟨Lb,0,none⟩=some (.slice (some ⟨g1,0,none⟩) es.length es.length):=by simp[World.cell?,Vn]
    have r1:X.cell? ⟨Lb,1,none⟩=some (.slice (some ⟨g2,0,none⟩) es.length es.length):=by simp[World.cell?,Vn]
    have r2:X.cell? ⟨Lb,2,none⟩=some (.slice none 0 0):=by simp[World.cell?,Vn]
    have r3:X.cell? ⟨Lb,3,none⟩=some (.slice none 0 0):=by simp[World.cell?,Vn]
    have hc:i=0∨i=1∨i=2∨i=3∨i=4∨i=5∨i=6∨i=7∨i=8∨i=9∨i=10∨i=11∨i=12∨i=13∨i=14∨i=15∨i=16∨i=17∨i=18:=by
     have:i<19:=(aam.1 ho).1
     omega
    rcases hc with rfl|rfl|rfl|rfl|rfl|rfl|rfl|rfl|rfl|rfl|rfl|rfl|rfl|rfl|rfl|rfl|rfl|rfl|rfl<;>obtain rfl:=aak ho
    ·have u1:=(aS 3 (by kernel_rfl)).trans a3
     exact aj.ah (w':=X) (by simp[execOp,go_sem,u1];rfl) ⟨rfl,hC.other (by decide) (by decide)⟩
    ·have u1:ev (.tmp 33)= .pointer (some ⟨Lb,0,none⟩):=aA 0 33 (by omega) rfl (by decide)
     exact aj.ah (w':=X) (by simp[execOp,go_sem,u1,r0];rfl) ⟨rfl,hC.other (by decide) (by decide)⟩
    ·have u1:=(aS 6 (by kernel_rfl)).trans a6
     exact aj.ah (w':=X) (by simp[execOp,go_sem,u1];rfl) ⟨rfl,hC.other (by decide) (by decide)⟩
    ·have u1:ev (.tmp 35)= .int .i64 (hh:Int):=aA 2 35 (by omega) rfl (by decide)
     exact aj.ah (v:= .int .i64 (k:Int)) (w':=X) (by simp[execOp,go_sem,u1,xd,lG];exact rR k (by omega)) ⟨rfl,hC.other (by decide) (by decide)⟩
    ·have u1:=(aS 3 (by kernel_rfl)).trans a3
     exact aj.ah (w':=X) (by simp[execOp,go_sem,u1];rfl) ⟨rfl,hC.other (by decide) (by decide)⟩
    ·have u1:ev (.tmp 37)= .pointer (some ⟨Lb,1,none⟩):=aA 4 37 (by omega) rfl (by decide)
     exact aj.ah (w':=X) (by simp[execOp,go_sem,u1,r1];rfl) ⟨rfl,hC.other (by decide) (by decide)⟩
    ·have u1:=(aS 6 (by kernel_rfl)).trans a6
     exact aj.ah (w':=X) (by simp[execOp,go_sem,u1];rfl) ⟨rfl,hC.other (by decide) (by decide)⟩
    ·have u1:ev (.tmp 39)= .int .i64 (hh:Int):=aA 6 39 (by omega) rfl (by decide)
     exact aj.ah (v:= .int .i64 (k:Int)) (w':=X) (by simp[execOp,go_sem,u1,xd,lG];exact rR k (by omega)) ⟨rfl,hC.other (by decide) (by decide)⟩
    ·have u1:=(aS 1 (by kernel_rfl)).trans a1
     exact aj.ah (w':=X) (by simp[execOp,go_sem,u1,kb];rfl) ⟨rfl,hC.other (by decide) (by decide)⟩
    ·have u1:=(aS 6 (by kernel_rfl)).trans a6
     exact aj.ah (w':=X) (by simp[execOp,go_sem,u1];rfl) ⟨rfl,hC.other (by decide) (by decide)⟩
    ·have u1:=(aS 3 (by kernel_rfl)).trans a3
     exact aj.ah (w':=X) (by simp[execOp,go_sem,u1,r0,r1,r2,r3];rfl) ⟨rfl,hC.other (by decide) (by decide)⟩
    ·have u1:ev (.tmp 41)= .pointer (some ⟨p,0,none⟩):=aA 8 41 (by omega) rfl (by decide)
     have u2:ev (.tmp 42)= .int .i64 (hh:Int):=aA 9 42 (by omega) rfl (by decide)
     have u3:ev (.tmp 43)= .agg #[.slice (some ⟨g1,0,none⟩) es.length es.length,.slice (some ⟨g2,0,none⟩) es.length es.length,.slice none 0 0,.slice none 0 0]:=aA 10 43 (by omega) rfl (by decide)
     have h16:L 16=false:=by
      cases h:L 16 with
      |false=>rfl
      |true=>
       have:=hdc 16 _ rfl h ⟨11,.phase⟩ (by simp) rfl
       rw[bP] at this
       cases this
     have VT:L 18=false:=by
      cases h:L 18 with
      |false=>rfl
      |true=>
       have:=hdc 18 _ rfl h ⟨11,.phase⟩ (by simp) rfl
       rw[bP] at this
       cases this
     obtain⟨-,f1,f2⟩:=hC
     rw[h16,if_neg (by decide)] at f1
     rw[VT,if_neg (by decide)] at f2
     have Da:Below w.heap.size w X:=Fw.trans (hW.below Fw.size (fun b hb=>by rcases hb with rfl|rfl<;>omega))
     have hen:∀args w,(callFunc 98 args).run Tryz.prog w= .ok (.enter 98 args) w:=enters_of Tryz.func98 (by kernel_rfl) rfl
     have hrun:∀o:Oper,o.op= .call { callee:= .value (.func 98),args:= #[.tmp 41,.tmp 42,.tmp 43],argTypes:= #[123,3,86] }→(execOp ev o).run Tryz.prog X= .ok (.enter 98 #[.pointer (some ⟨p,0,none⟩),.int .i64 (hh:Int),.agg #[.slice (some ⟨g1,0,none⟩) es.length es.length,.slice (some ⟨g2,0,none⟩) es.length es.length,.slice none 0 0,.slice none 0 0]]) X:=fun o ho=>by
      simp[execOp,ho,go_sem,u1,u2,u3,hen,iW]
     unfold aj.cF
     rw[hrun _ rfl]
     refine(Ku hh g1 g2 E1 E2 X (hd.later Da) xj f1.ins f2.ins m1 m2).mono fun e X' hk'=>⟨_,hk'.1,?_,?_⟩
     ·rw[Rn]
      rfl
     ·refine⟨hW.later hk'.2,?_,?_⟩
      ·rw[show aj.bR L 11 16=false from h16,if_neg (by decide)]
       exact f1.later hk'.2
      ·rw[show aj.bR L 11 18=false from VT,if_neg (by decide)]
       exact f2.later hk'.2
    ·have u1:ev (.tmp 44)= .tuple #[.int .i64 (Lo.low es s k),.int .i64 (Lo.cz es s k)]:=aA 11 44 (by omega) rfl (by decide)
     exact aj.ah (w':=X) (by simp[execOp,go_sem,u1];rfl) ⟨rfl,hC.other (by decide) (by decide)⟩
    ·have u1:ev (.tmp 32)= .tuple #[.int .i64 (Lo.low es s k),.int .i64 (Lo.cz es s k)]:=aA 12 32 (by omega) rfl (by decide)
     exact aj.ah (w':=X) (by simp[execOp,go_sem,u1];rfl) ⟨rfl,hC.other (by decide) (by decide)⟩
    ·have u1:ev (.tmp 32)= .tuple #[.int .i64 (Lo.low es s k),.int .i64 (Lo.cz es s k)]:=aA 12 32 (by omega) rfl (by decide)
     exact aj.ah (w':=X) (by simp[execOp,go_sem,u1];rfl) ⟨rfl,hC.other (by decide) (by decide)⟩
    ·have u1:ev (.tmp 34)= .slice (some ⟨g1,0,none⟩) es.length es.length:=aA 1 34 (by omega) rfl (by decide)
     have u2:ev (.tmp 36)= .int .i64 (k:Int):=aA 3 36 (by omega) rfl (by decide)
     exact aj.ah (v:= .pointer (some ⟨g1,k,none⟩)) (w':=X) (by simp[execOp,go_sem,u1,u2,k0,k1]) ⟨rfl,hC.other (by decide) (by decide)⟩
    ·have u1:ev (.tmp 47)= .pointer (some ⟨g1,k,none⟩):=aA 15 47 (by omega) rfl (by decide)
     have u2:ev (.tmp 45)= .int .i64 (Lo.low es s k):=aA 13 45 (by omega) rfl (by decide)
     obtain⟨-,f1,f2⟩:=hC
     rw[bP,if_neg (by decide)] at f1
     have x1:=f1.cell hz1
     have x2:=f1.free k
     refine aj.bF (w':=X.setCell ⟨g1,k,none⟩ (.int .i64 (Lo.low es s k))) (by simp[execOp,go_sem,u1,u2,x1,x2]) ⟨rfl,hW.setCell (.inl rfl) _,?_,?_⟩
     ·rw[show aj.bR L 16 16=true from rfl,if_pos rfl]
      exact f1.set k _
     ·rw[show aj.bR L 16 18=L 18 from rfl]
      exact f2.aK (fun e=>ZT e.symm) _
    ·have u1:ev (.tmp 38)= .slice (some ⟨g2,0,none⟩) es.length es.length:=aA 5 38 (by omega) rfl (by decide)
     have u2:ev (.tmp 40)= .int .i64 (k:Int):=aA 7 40 (by omega) rfl (by decide)
     exact aj.ah (v:= .pointer (some ⟨g2,k,none⟩)) (w':=X) (by simp[execOp,go_sem,u1,u2,k0,k1]) ⟨rfl,hC.other (by decide) (by decide)⟩
    ·have u1:ev (.tmp 48)= .pointer (some ⟨g2,k,none⟩):=aA 17 48 (by omega) rfl (by decide)
     have u2:ev (.tmp 46)= .int .i64 (Lo.cz es s k):=aA 14 46 (by omega) rfl (by decide)
     obtain⟨-,f1,f2⟩:=hC
     rw[bP,if_neg (by decide)] at f2
     have x1:=f2.cell hz2
     have x2:=f2.free k
     refine aj.bF (w':=X.setCell ⟨g2,k,none⟩ (.int .i64 (Lo.cz es s k))) (by simp[execOp,go_sem,u1,u2,x1,x2]) ⟨rfl,hW.setCell (.inr rfl) _,?_,?_⟩
     ·rw[show aj.bR L 18 16=L 16 from rfl]
      exact f1.aK ZT _
     ·rw[show aj.bR L 18 18=true from rfl,if_pos rfl]
      exact f2.set k _
   ·intro L X a4 hall hC
    obtain⟨hw,f1,f2⟩:=hC
    rw[if_pos (hall 16 (by decide))] at f1
    rw[if_pos (hall 18 (by decide))] at f2
    have hkk:=dQ (n₀:=w.heap.size) hw (by omega) (fun b hb=>by rcases hb with rfl|rfl<;>omega)
    have hR:∀k',(k'=k∨(E1.getD k' 0=Lo.low es s k'∧E2.getD k' 0=Lo.cz es s k'))→(E1.set k (Lo.low es s k)).getD k' 0=Lo.low es s k'∧(E2.set k (Lo.cz es s k)).getD k' 0=Lo.cz es s k':=fun k' hk'=>by
     rw[Ej (by omega),Ej (by omega)]
     by_cases e:k'=k
     ·subst e
      rw[if_pos rfl,if_pos rfl]
      exact⟨rfl,rfl⟩
     ·rw[if_neg e,if_neg e]
      exact hk'.resolve_left e
    refine⟨fQ hw (fun b hb=>by rcases hb with rfl|rfl<;>omega),hkk,⟨_,_,f1,f2,by simpa using m1,by simpa using m2,fun k' hk' a ha Ox Vr=>hR k' (.inr (hdn k' hk' a ha Ox Vr)),fun k' hk' hm=>hR k' ?_⟩,hkc.trans hkk,mO.trans (fQ hw (fun b hb=>by rcases hb with rfl|rfl<;>omega))⟩
    rcases aal.1 hm with h1|h1
    ·exact .inr (hpr k' hk' h1)
    ·left
     have h2:Lo.oh s k'=Lo.oh s k:=by
      have:=aao.1 h1
      rw[IA]
      omega
     have h3:=(Lo.cO hd.vf hk').2.2.2
     rw[h2,IA] at h3
     omega
  case abx=>
   rintro X ⟨⟨E1,E2,e1,e2,m1,m2,hdn,hpr⟩,hkc,mO⟩
   gi_wp2
   refine⟨mO,hkc,⟨E1,E2,e1,e2,m1,m2,?_⟩,ot.out.trans hkc⟩
   rw[LU.out]
   intro k hk a ha Ox Vr
   by_cases e:a=x
   ·subst e
    refine hpr k hk ((Lo.uT hd.vf dh).2 ⟨k,hk,?_,rfl⟩)
    rw[hv] at Ox
    omega
   ·exact hdn k hk a ha Ox (by omega)
  case ZG=>
   rintro c pre' X _ hx
   exact hx.elim
 case done=>
  rintro D X hD ⟨⟨A1,A2,i1,i2,q1,q2,hdone⟩,hkp⟩ hK
  have iE:X.heap[Lb]? =some (.cells #[.slice (some ⟨g1,0,none⟩) es.length es.length,.slice (some ⟨g2,0,none⟩) es.length es.length,.slice none 0 0,.slice none 0 0] 86 (0,0)):=hkp.2 _ _ lb1 rfl (by omega)
  have jM:X.heap[R]? =some (.cells #[.slice none 0 0,.slice none 0 0,.slice none 0 0,.slice none 0 0] 86 (0,0)):=hkp.2 _ _ rs1 rfl (by omega)
  obtain⟨x0,x1,x2,x3,-⟩:=au iE
  obtain⟨z0,z1,z2,z3,z4⟩:=au jM
  have Da:Below w.heap.size w X:=hB1.trans hkp.1
  have hall:∀k,k<es.length→A1.getD k 0=Lo.low es s k∧A2.getD k 0=Lo.cz es s k:=fun k hk=>by
   obtain⟨a,ha,ea⟩:=Df.iy.sZ hd.vf.once (Lo.bK hd.val hd.vf hk).1
   exact hdone k hk a ha ea (by rw[jo];omega)
  have VS:A1=upTo (Lo.low es s) es.length:=by
   refine aa6 fun k=> ?_
   by_cases hk:k<es.length
   ·rw[gT hk,aac (by omega)]
    have:=(hall k hk).1
    rw[aai,aac (by omega)] at this
    exact congrArg some this
   ·rw[aat (by omega),aat (by rw[fE];omega)]
  have hA2:A2=upTo (Lo.cz es s) es.length:=by
   refine aa6 fun k=> ?_
   by_cases hk:k<es.length
   ·rw[gT hk,aac (by omega)]
    have:=(hall k hk).2
    rw[aai,aac (by omega)] at this
    exact congrArg some this
   ·rw[aat (by omega),aat (by rw[fE];omega)]
  subst VS
  subst hA2
  have ng:=Nu.hid i1
  have fX:=Nu.hid i2
  have jW:=Nu.hid Da
  have F0:=Nu.hid jM
  have HK:=Nu.hid hK
  clear i1 i2 hall hdone hkp iE jM Da
  go_wp2
  rw[←HQQ.out]
  obtain⟨Y,hY⟩:∃Y,Y=dY X R (.slice (some ⟨g1,0,none⟩) es.length es.length) (.slice (some ⟨g2,0,none⟩) es.length es.length) (.slice none 0 0) (.slice none 0 0):=⟨_,rfl⟩
  have Dc:Y.heap[R]? =some (.cells #[.slice (some ⟨g1,0,none⟩) es.length es.length,.slice (some ⟨g2,0,none⟩) es.length es.length,.slice none 0 0,.slice none 0 0] 86 (0,0)):=by rw[hY];exact gW F0.out _ _ _ _
  have IV:∀b,b≠R→Y.heap[b]? =X.heap[b]? :=fun b hb=>by rw[hY];exact kR hb _ _ _ _
  have K8:Below w.heap.size w Y:=by rw[hY];exact eA jW.out Z0 _ _ _ _
  have hKY:Y.heap[D]? =some (.deferred (some [])):=(IV D (by omega)).trans HK.out
  unfold dY at hY
  rw[←hY]
  have afd:(Y.putObj D (.deferred none)).heap[R]? =some (.cells #[.slice (some ⟨g1,0,none⟩) es.length es.length,.slice (some ⟨g2,0,none⟩) es.length es.length,.slice none 0 0,.slice none 0 0] 86 (0,0)):=(aby (by omega)).trans Dc
  obtain⟨v0,v1,v2,v3,-⟩:=au afd
  refine⟨by simp,.inl ⟨_,_,rfl,run_takeDeferred hKY,?_⟩⟩
  refine⟨.agg #[.slice (some ⟨g1,0,none⟩) es.length es.length,.slice (some ⟨g2,0,none⟩) es.length es.length,.slice none 0 0,.slice none 0 0],?_,g1,g2,rfl,?_,?_,ZZ,ZY,ZT,?_⟩
  ·simp[results,Tryz.results62,go_sem,v0,v1,v2,v3]
  ·exact(aby (by omega)).trans ((IV g1 (fun e=>ne4 e.symm)).trans ng.out)
  ·exact(aby (by omega)).trans ((IV g2 (fun e=>ne5 e.symm)).trans fX.out)
  ·exact K8.trans (belowK_b (w:=w) (aad _) Y D _ _ (by omega) hKY rfl rfl)
 case stop=>
  rintro D c pre X _ _ hx _
  exact hx.elim
end
end
section
open Go.RowKit Go.Shelf
set_option maxRecDepth 100000 in
set_option maxHeartbeats 2000000 in
theorem xH (Bs n₀ c n:Nat) (S:Nat→Prop) (ao:Option Addr) (l:List Int) (hn:n≤8388608) (w:World) (hS:¬S Bs) (hB:Boxed w Bs 27 (.slice ao n c))
 (hc:∀i,i<n→∃b o,ao=some ⟨b,o,none⟩∧∀W,bE n₀ S w W→W.cell? ⟨b,o+i,none⟩=some (.int .i64 (Df.at_ l i))) (hn₀:n₀≤w.heap.size):
 uu Tryz.prog 66 #[.pointer (some ⟨Bs,0,none⟩)] (M3 l) n₀ S (fy n) w 0:=by
 intro lp J Jx W hW _ _ _ hY h0
 have SN:Boxed W Bs 27 (.slice ao n c):=(hW.block Bs hB.lt).trans hB
 have hb0:=SN.cell
 have dS:bE n₀ S w W:=(bE.refl _ _ _).grow hW hn₀
 clear hB hW
 refine(callsIn_wide (n:=5)).1 ?_
 refine callsIn_of_wp Tryz.func66 rfl trivial ?_ rfl
 simp only[Tryz.ntmps66,abR,aar,aaS,Nat.reduceAdd,Nat.reduceSub,abA,abB,abS,abK,aaE,abi]
 have hn1:(n:Int)≤8388608:=by omega
 gi_wp2
 gi_loopw [3] (fun i wr=>∃k:Nat,k≤n∧i= .int .i64 ((n:Int)-1-(k:Int))∧J ((fy n).take k) wr∧bE n₀ S W wr∧W.heap.size≤wr.heap.size) (fun i _=>((intOf i)+1).toNat)
 case atStart=>exact⟨0,aax _,by go_num,by simpa using h0,bE.refl _ _ _,aad _⟩
 case round=>
  obtain⟨k,hk,rfl,hJs,fM,hsz⟩:=hrel
  by_cases hlt:k<n
  ·obtain⟨x,hx⟩:∃x:Nat,(n:Int)-1-(k:Int)=(x:Int):=⟨n-1-k,by omega⟩
   have CX:x<n:=by omega
   obtain⟨b,o,rfl,hcz⟩:=hc x CX
   have hb1:wr.cell? ⟨Bs,0,none⟩=some (.slice (some ⟨b,o,none⟩) n c):=fM.cell hb0 hS
   have hc1:=hcz wr (dS.trans fM)
   have hat:(fy n)[k]? =some x:=by rw[xE hlt];congr 1;omega
   obtain⟨fn,tmps,assign,body,hy,hR⟩:=hY ((fy n).take k) x wr (wF hat) hJs (by omega) 4
   have l9:(fy n).take (k+1)=(fy n).take k++[x]:=by
    rw[abL,hat]
    rfl
   obtain⟨z,hz⟩:∃z,Df.at_ l x=z:=⟨_,rfl⟩
   rw[hx]
   unfold M3 at hy
   rw[hz] at hc1 hy
   have x0:(0:Int)≤(x:Int):=by omega
   have x1:(x:Int)<(n:Int):=by omega
   have x2:(x:Int)-1=(n:Int)-1-((k+1:Nat):Int):=by omega
   have mo:=Nu.hid l9
   have HJ:=Nu.hid hJs
   have kK:=Nu.hid fM
   have vS:=Nu.hid hsz
   have F0:=Nu.hid x2
   clear l9 hJs fM hY hcz hz hsz hat hx hc x2
   gi_wp2
   refine hR.mono ?_
   rintro e W3 ⟨mO,(⟨rfl,hJ3,hk3⟩|⟨rfl,hJx3⟩)⟩
   ·have Cp:=Nu.hid hJ3
    have uD:=Nu.hid hk3
    have vT:=Nu.hid mO.size
    clear hJ3 hk3 mO
    gi_wp2
    go_roundw
    case rel=>exact⟨k+1,by omega,by rw[←F0.out],by rw[mo.out];exact Cp.out,kK.out.trans uD.out,abb vS.out vT.out⟩
    case measure=>simp[intOf]
   ·have Jz:=Nu.hid hJx3
    clear hJx3
    gi_wp2
    refine bodyPost_ret (results_none rfl _ _ _) rfl ?_
    exact⟨⟨_,rfl⟩,.inr ⟨_,by rw[←mo.out];exact ac8 _ _,Jz.out⟩⟩
  ·have xl:k=n:=by omega
   subst xl
   have hm:(k:Int)-1-(k:Int)= -1:=by omega
   have HJ:Hid (J (fy k) wr):=by
    show J (fy k) wr
    rw[abk (by rw[jo];exact aad _)] at hJs
    exact hJs
   rw[hm]
   clear hJs fM hY hc hm
   gi_wp2
   go_end0
   exact⟨⟨_,rfl⟩,.inl HJ.out⟩
end
end Go.Proofs.YtdjmnpmdmjclhabGreat
