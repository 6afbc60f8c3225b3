import Derived.Test.YtbhdibflpjhpaaaGreatMg28
set_option maxHeartbeats 16000000
set_option maxRecDepth 100000
namespace Go.Proofs.YtbhdibflpjhpaaaGreat
section
open Go.Proofs.Tryz
open Go.RowKit Go.Shelf
attribute [local go_sem] Oper.semAt_some
def Hs:Nat->Code->Code
 |0,c=>c
 |n+1,.seq _ d=>Hs n d
 |_,c=>c
def zn (n:Nat) (es:List (Int×Int)) (s:Df.St) (j:Nat) (A1 A2:List Int):Prop:=∀k,k<es.length->∀a,a<n->Df.at_ s.ord a=(Lo.fr es s k:Int)->j<=a->A1.getD k 0=Lo.low es s k/\A2.getD k 0=Lo.cK es s k
theorem GF {l:List Int} {k j:Nat} {x:Int} (hk:k<l.length):(l.set k x).getD j 0=if j=k then x else l.getD j 0:=by
 rw[aag,ab0];by_cases h:k=j
 .subst h
  rw[if_pos rfl,if_pos hk,if_pos rfl];rfl
 .rw[if_neg h,if_neg (fun e=>h e.symm),aag]
theorem wT {β:Type} (B g1 g2:Nat) (P:β->List Int->List Int->Prop):OwnFrom B (fun (b:β) X=>∃A1 A2,af X g1 A1/\af X g2 A2/\P b A1 A2):=fun b X Y row ⟨A1,A2,h1,h2,h3⟩ hg hr=>by
 have far:∀{g:Nat} {l:List Int},af X g l->af Y g l:=fun {g l} h=>by
  refine(hg.block g (lt_of_block h) (fun e=> ?_)).trans h;obtain⟨_,o,ho,hc⟩:=hr g e.symm;rw[show X.heap[g]? =_ from h] at ho;cases ho;cases hc
 exact⟨A1,A2,far h1,far h2,h3⟩
def iZ (p Lb g1 g2 m h k:Nat) (q:Int×Int):Nat->Value
 |0=> .pointer (some ⟨Lb,0,none⟩)
 |1=> .slice (some ⟨g1,0,none⟩) m m
 |2=> .int .i64 (h:Int)
 |3=> .int .i64 (k:Int)
 |4=> .pointer (some ⟨Lb,1,none⟩)
 |5=> .slice (some ⟨g2,0,none⟩) m m
 |6=> .int .i64 (h:Int)
 |7=> .int .i64 (k:Int)
 |8=> .pointer (some ⟨p,0,none⟩)
 |9=> .int .i64 (h:Int)
 |10=> .agg #[.slice (some ⟨g1,0,none⟩) m m,.slice (some ⟨g2,0,none⟩) m m,.slice none 0 0,.slice none 0 0]
 |11=> .tuple #[.int .i64 q.1,.int .i64 q.2]
 |12=> .tuple #[.int .i64 q.1,.int .i64 q.2]
 |13=> .int .i64 q.1
 |14=> .int .i64 q.2
 |15=> .pointer (some ⟨g1,k,none⟩)
 |17=> .pointer (some ⟨g2,k,none⟩)
 |_=>undef
def Uw (g1 g2 k:Nat) (q:Int×Int) (A1 A2:List Int) (A:World) (L:Nat->Bool) (X:World):Prop:=
 az (fun b=>b=g1\/b=g2) A X/\af X g1 (if L 16=true then A1.set k q.1 else A1)/\af X g2 (if L 18=true then A2.set k q.2 else A2)
theorem Uw.other {g1 g2 k:Nat} {q:Int×Int} {A1 A2:List Int} {A X:World} {L:Nat->Bool} (h:Uw g1 g2 k q A1 A2 A L X) {i:Nat} (h1:i≠16) (h2:i≠18):Uw g1 g2 k q A1 A2 A (aq.bM L i) X:=by
 have e1:aq.bM L i 16=L 16:=if_neg (fun e=>h1 e.symm);have e2:aq.bM L i 18=L 18:=if_neg (fun e=>h2 e.symm);unfold Uw at h ⊢;rw[e1,e2];exact h
section
variable {p:Nat} {av:Value} {n:Nat} {es:List (Int×Int)} {f:For} {s:Df.St}
theorem SS {V:World} {k:Nat} {o:Obj} (h:V.heap[k]? =some o):V.drew.heap[k]? =some o:=h
theorem af.drew {V:World} {g:Nat} {l:List Int} (h:af V g l):af V.drew g l:=h
theorem Om {V:World} {k:Nat} {o o':Obj} (hk:k<V.heap.size) (h:V.heap[k]? =some o'):(V.alloc o).heap[k]? =some o':=(ab2 V o k hk).trans h
structure Q0 (w V:World) (p m Bw R Lb g1 g2:Nat):Prop where
 aZ:Below w.heap.size w V
 bw:Boxed V Bw 116 (.pointer (some ⟨p,0,none⟩))
 res:V.heap[R]? =some (.cells #[.slice none 0 0,.slice none 0 0,.slice none 0 0,.slice none 0 0] 102 (0,0))
 lb:V.heap[Lb]? =some (.cells #[.slice (some ⟨g1,0,none⟩) m m,.slice (some ⟨g2,0,none⟩) m m,.slice none 0 0,.slice none 0 0] 102 (0,0))
 i1:af V g1 (List.replicate m 0)
 i2:af V g2 (List.replicate m 0)
 lo:w.heap.size<=Bw/\w.heap.size<=R/\w.heap.size<=Lb/\w.heap.size<=g1/\w.heap.size<=g2
 ne:g1≠g2/\Bw≠g1/\Bw≠g2/\R≠g1/\R≠g2/\Lb≠g1/\Lb≠g2/\R≠Lb
def Ak (es:List (Int×Int)) (s:Df.St) (w:World) (e:Ending) (w':World):Prop:=
 ∃g1 g2,e= .returned (.agg #[.slice (some ⟨g1,0,none⟩) es.length es.length,.slice (some ⟨g2,0,none⟩) es.length es.length,.slice none 0 0,.slice none 0 0])/\af w' g1 (upTo (Lo.low es s) es.length)/\af w' g2 (upTo (Lo.cK es s) es.length)/\
  w.heap.size<=g1/\w.heap.size<=g2/\g1≠g2/\Below w.heap.size w w'
theorem NF (w V:World) (Bw R Lb g1 g2:Nat) (y7 y8 y9 y10 y11 y13 y14 y15 y16 y17 y19:Value) (hd:Wd w p av n es f s) (h:Q0 w V p es.length Bw R Lb g1 g2):
 Code.wp prog (Hs 2 (Tryz.f68.body.getD .skip)) (bodyPostM Fence.wide 13 prog Tryz.f68 (Ak es s w))
  { tmps:= #[.pointer (some ⟨p,0,none⟩),.pointer (some ⟨Bw,0,none⟩),.pointer (some ⟨R,0,none⟩),.pointer (some ⟨Lb,0,none⟩),undef,undef,undef,y7,y8,y9,y10,y11,.slice (some ⟨g1,0,none⟩) es.length es.length,y13,y14,y15,y16,y17,.slice (some ⟨g2,0,none⟩) es.length es.length,y19,
    undef,undef,undef,undef,undef,undef,undef,undef,undef,undef,undef,undef,undef,undef,undef,undef,undef,undef,undef,undef,undef,undef,undef,undef,undef,undef,undef,undef,undef,undef],defers:=[] } V:=by
 have dH:=hd.val.few;have hn:=hd.val.hi;have Lm:=hd.later h.aZ;obtain⟨lo1,lo2,lo3,lo4,lo5⟩:=h.lo;obtain⟨ne1,ne2,ne3,ne4,ne5,ne6,ne7,ne8⟩:=h.ne;have c1:=h.bw.cell;have c3:=Lm.c3;have Ar:Hid (∀X,Calls prog 77 #[.slice f.a3 n f.c3] X (Av f.a3 n f.c3 X)):=fun X=>wF _ _ _ X
 have O9:=ζ Lm;clear Lm;obtain⟨QQ,hQQ⟩:∃QQ,(bodyPostM Fence.wide 13 prog Tryz.f68 (Ak es s w))=QQ:=⟨_,rfl⟩;rw[hQQ];have HQQ:=ζ hQQ;clear hQQ;simp only[Tryz.f68,Option.getD,Hs];go_wp2_with (go_at_call 77;refine(Ar.out _).mono ?_;rintro e V1 ⟨Bs,rfl,OB,bs,hb1⟩);refine(wpIn_wide (n:=13)).1 ?_;have hB1:Below w.heap.size w V1:=h.aZ.trans (hb1.mono h.aZ.size);have hs1:=hb1.size;have hsw:=h.aZ.size;have l1:=lt_of_block h.i1;have l2:=lt_of_block h.i2;have l3:=lt_of_block h.lb;have l4:=lt_of_block h.res;have ZF:Boxed V1 Bw 116 (.pointer (some ⟨p,0,none⟩)):=(hb1.block _ h.bw.lt).trans h.bw;have lb1:=(hb1.block _ l3).trans h.lb;have rs1:=(hb1.block _ l4).trans h.res;have j1:af V1 g1 (List.replicate es.length 0):=(hb1.block _ l1).trans h.i1;have j2:af V1 g2 (List.replicate es.length 0):=(hb1.block _ l2).trans h.i2;have hcs:∀i,i<n->∃b o,f.a3=some ⟨b,o,none⟩/\∀X,Below w.heap.size V1 X->X.cell? ⟨b,o+i,none⟩=some (.int .i64 (Df.at_ s.ord i)):=fun i hi=>by
  obtain⟨b,o,e,hc⟩:=hd.ord hi;exact⟨b,o,e,fun X hX=>hc X (hB1.trans hX) i hi⟩
 refine Cf (n:=13) (gf:=96) (lb:= #[.pointer (some ⟨Bs,0,none⟩)]) (by rfl) (enters_of func96 (by kernel_rfl) rfl)
  (WX Bs w.heap.size f.c3 n (fun b=>b=g1\/b=g2) f.a3 s.ord (by omega) V1 (by omega) bs hcs (by omega)) (by omega) (fun _=>rfl)
  (fun pre X=>(∃A1 A2,af X g1 A1/\af X g2 A2/\A1.length=es.length/\A2.length=es.length/\zn n es s (n-pre.length) A1 A2)/\dc w.heap.size (fun b=>b=g1\/b=g2) V1 X) (fun _ _ _=>False)
  (aeN (wT _ g1 g2 (fun (pre:List Nat) A1 A2=>A1.length=es.length/\A2.length=es.length/\zn n es s (n-pre.length) A1 A2)) (dc.own (by omega) (by omega))) (fun _ _ _ _ _ hs _ _=>hs)
  ⟨⟨_,_,j1,j2,by simp,by simp,fun k _ a ha _ Za=>by simp at Za;omega⟩,dc.refl _ _ _⟩
  (fun x a' _=>a'={ tmps:= #[.pointer (some ⟨p,0,none⟩),.pointer (some ⟨Bw,0,none⟩),.pointer (some ⟨R,0,none⟩),.pointer (some ⟨Lb,0,none⟩),undef,.int .i64 (Df.at_ s.ord x),undef,y7,y8,y9,y10,y11,.slice (some ⟨g1,0,none⟩) es.length es.length,y13,y14,y15,y16,y17,.slice (some ⟨g2,0,none⟩) es.length es.length,y19,
    .pointer (some ⟨p,0,none⟩),.pointer (some ⟨p,0,none⟩),.pointer (some ⟨p,1,none⟩),.pointer (some ⟨p,3,none⟩),.slice f.a3 n f.c3,.func (.func 96) #[] #[.pointer (some ⟨Bs,0,none⟩)],.int .i64 (x:Int),.int .i64 (Df.at_ s.ord x),undef,undef,undef,undef,undef,undef,undef,undef,undef,undef,undef,undef,undef,undef,undef,undef,undef,undef,undef,undef,undef,undef],defers:=[] })
  (fun x a'=>ownFrom_pure _ _) ?assign ?body ?done ?stop
 case assign=>
  intro l pre x X K _ hi hK
  gi_wp2
  exact hK _ _ (aeC _ _) (dc.refl _ _ _) hi rfl
 case body=>
  rintro l pre x a' A ⟨hl,-⟩ ⟨r,hr⟩ hpx ⟨⟨A1,A2,i1,i2,q1,q2,hdone⟩,hkp⟩ rfl;obtain⟨hpl,o8⟩:=Er hpx;have o7:x<n:=by omega
  obtain⟨v,hv⟩:∃v:Nat,Df.at_ s.ord x=(v:Int):=⟨(Df.at_ s.ord x).toNat,by have:=(hd.vf.once x o7).1;omega⟩;have eM:v<n:=by have:=(hd.vf.once x o7).1;omega
  rw[hv];have lA:Hid (∀X,Calls prog 83 #[.pointer (some ⟨p,0,none⟩),.int .i64 (v:Int)] X (Au p (v:Int) X)):=fun X=>Cu p _ X
  have cw:=(hkp.boxed ZF (by omega)).cell;have hAs:V1.heap.size<=A.heap.size:=hkp.1.size;have BZ:Hid (A.heap[l]? =some (.loop r)):=hr;have HDN:Hid (zn n es s (x+1) A1 A2):=by
   have e:n-pre.length=x+1:=by omega
   rw[e] at hdone;exact hdone
  have Aq:=ζ hkp;have qZ:=ζ i1;have iM:=ζ i2;have HXE:Hid (n-(pre++[x]).length=x):=by show _=_;simp;omega
  clear hkp i1 i2 hdone hr hpx o8
  gi_wp2_with (refine⟨trivial,?_⟩;gi_at_call 83;refine(CallsIn.inRound l (callsIn_wide.2 (lA.out _))).mono ?_;rintro e A' ⟨Bx,Bv,rfl,hBx,hBv,bx,bv,yF⟩)
  have hAA:=yF.size;have VM:Below w.heap.size w A:=hB1.trans Aq.out.1;have abe:Below w.heap.size w A':=VM.trans (yF.mono VM.size);have hrl:l<A.heap.size:=lt_of_block BZ.out
  refine acz (n:=13-1-1) (l₀:=l) (r₀:=r) ((yF.block l hrl).trans BZ.out) (gf:=99) (lb:= #[.pointer (some ⟨Bx,0,none⟩),.pointer (some ⟨Bv,0,none⟩)]) (by rfl) (enters_of func99 (by kernel_rfl) rfl)
   (Lz v Bx Bv (fun b=>b=g1\/b=g2) w A' hd abe eM bx bv (by omega) (fun b hb=> .inl (by rcases hb with rfl|rfl<;>omega))) abe.size (fun _=>rfl)
   (fun pre' X=>(∃A1 A2,af X g1 A1/\af X g2 A2/\A1.length=es.length/\A2.length=es.length/\zn n es s (x+1) A1 A2/\∀k,k<es.length->(Lo.oh s k:Int)∈pre'->A1.getD k 0=Lo.low es s k/\A2.getD k 0=Lo.cK es s k)/\(dc w.heap.size (fun b=>b=g1\/b=g2) A X/\KeepsFrom V1.heap.size A X)) (fun _ _ _=>False)
   (aeN (wT _ g1 g2 (fun (pre':List Int) A1 A2=>A1.length=es.length/\A2.length=es.length/\zn n es s (x+1) A1 A2/\∀k,k<es.length->(Lo.oh s k:Int)∈pre'->A1.getD k 0=Lo.low es s k/\A2.getD k 0=Lo.cK es s k)) (aeN (dc.own (by omega) (by omega)) (ownFrom_keepsFrom hAA))) (fun _ _ _ _ _ hs _ _=>hs)
   ⟨⟨A1,A2,qZ.out.later yF,iM.out.later yF,q1,q2,HDN.out,fun k _ hk=>by simp at hk⟩,(dc.refl _ _ _).grow yF (by omega),Sh yF⟩
   (fun y a' _=>a'.tmps.size=50/\a'.eval (.tmp 1)= .pointer (some ⟨Bw,0,none⟩)/\a'.eval (.tmp 3)= .pointer (some ⟨Lb,0,none⟩)/\a'.eval (.tmp 6)= .int .i64 y)
   (fun y a'=>ownFrom_pure _ _) ?assign2 ?body2 ?ad8 ?ab3
  case assign2=>
   intro l2 pre' y X K _ hi hK
   gi_wp2
   exact hK _ _ (aeC _ _) (dc.refl _ _ _) hi ⟨rfl,rfl,rfl,rfl⟩
  case body2=>
   rintro l2 pre' y a' C ⟨hl2,-⟩ _ hpy ⟨⟨E1,E2,e1,e2,m1,m2,hdn,hpr⟩,hkc,pX⟩ ⟨asz,a1,a3,a6⟩;obtain⟨k,hk,hfk,rfl⟩:=(Lo.yj hd.vf eM).1 (hpy.subset (acd pre' (aan.2 rfl)));obtain⟨ho1,ho2,BD,II⟩:=Lo.fQ hd.vf hk;have Vp:Lo.lead n es s E1 E2 (Lo.oh s k)=(Lo.low es s k,Lo.cK es s k):=Lo.Sb hd.val hd.vf hk fun BA k' hk' hf'=>by
    have hg:=(Lo.ct hd.val hd.vf hk).2;obtain⟨b,hb,eb⟩:=Df.jk.FZ hd.vf.once hg;refine hdn k' hk' b hb (by rw[hf'];exact eb) ?_;exact Lo.JM hd.val hd.vf hk BA o7 hb (by rw[hv,hfk]) eb
   have hbC:Below w.heap.size w C:=VM.trans hkc.1;have hCs:A.heap.size<=C.heap.size:=hkc.1.size;have bwC:=hkc.boxed (Aq.out.boxed ZF (by omega)) (by omega);have lbC:C.heap[Lb]? =some (.cells #[.slice (some ⟨g1,0,none⟩) es.length es.length,.slice (some ⟨g2,0,none⟩) es.length es.length,.slice none 0 0,.slice none 0 0] 102 (0,0)):=hkc.2 _ _ (Aq.out.2 _ _ lb1 rfl (by omega)) rfl (by omega);have lC:=lt_of_block lbC;have gC1:=e1.lt;have gC2:=e2.lt;obtain⟨hh,K7⟩:∃hh,Lo.oh s k=hh:=⟨_,rfl⟩;rw[K7] at BD II a6 Vp;have DT:(hh:Int).tdiv 2=(k:Int):=by rw[acG (by omega)];omega
   have k0:(0:Int)<=(k:Int):=by omega
   have k1:(k:Int)<(es.length:Int):=by omega
   obtain⟨z1,hz1⟩:∃z,E1[k]? =some z:=⟨_,aac (by omega)⟩;obtain⟨z2,hz2⟩:∃z,E2[k]? =some z:=⟨_,aac (by omega)⟩
   gi_wp2
   refine wpIn_region_any (by kernel_rfl) ?_;refine aq.abm (iZ p Lb g1 g2 es.length hh k (Lo.low es s k,Lo.cK es s k)) (Uw g1 g2 k (Lo.low es s k,Lo.cK es s k) E1 E2 C) 50 asz (by kernel_rfl) (by kernel_rfl) ⟨(az.refl _ _).drew,e1,e2⟩ ?_ ?_
   .intro i o L X ev ho dQ hC dY hdc aM dw IM cQ
    have hW:=hC.1;have kb:=aeZ ((hW.block Bw bwC.lt (by omega)).trans bwC);have Y6:=(hW.block Lb lC (by omega)).trans lbC;have r0:X.cell? ⟨Lb,0,none⟩=some (.slice (some ⟨g1,0,none⟩) es.length es.length):=by simp[World.cell?,Y6]
    have r1:X.cell? ⟨Lb,1,none⟩=some (.slice (some ⟨g2,0,none⟩) es.length es.length):=by simp[World.cell?,Y6]
    have r2:X.cell? ⟨Lb,2,none⟩=some (.slice none 0 0):=by simp[World.cell?,Y6]
    have r3:X.cell? ⟨Lb,3,none⟩=some (.slice none 0 0):=by simp[World.cell?,Y6]
    have hc:i=0\/i=1\/i=2\/i=3\/i=4\/i=5\/i=6\/i=7\/i=8\/i=9\/i=10\/i=11\/i=12\/i=13\/i=14\/i=15\/i=16\/i=17\/i=18:=by
     have:i<19:=(abR.1 ho).1;omega
    rcases hc with rfl|rfl|rfl|rfl|rfl|rfl|rfl|rfl|rfl|rfl|rfl|rfl|rfl|rfl|rfl|rfl|rfl|rfl|rfl<;>obtain rfl:=aal ho
    .exact aq.gr (hC.other (by decide) (by decide)) (by simp[execOp,go_sem,iZ,(dw 3 (by kernel_rfl)).trans a3])
    .exact aq.gr (hC.other (by decide) (by decide)) (by simp[execOp,go_sem,iZ,aM 0 33 (by omega) rfl (by decide),r0])
    .exact aq.gr (hC.other (by decide) (by decide)) (by simp[execOp,go_sem,iZ,(dw 6 (by kernel_rfl)).trans a6])
    .exact aq.gr (hC.other (by decide) (by decide)) (by simp[execOp,go_sem,iZ,aM 2 35 (by omega) rfl (by decide),DT,IM];exact uJ k (by omega))
    .exact aq.gr (hC.other (by decide) (by decide)) (by simp[execOp,go_sem,iZ,(dw 3 (by kernel_rfl)).trans a3])
    .exact aq.gr (hC.other (by decide) (by decide)) (by simp[execOp,go_sem,iZ,aM 4 37 (by omega) rfl (by decide),r1])
    .exact aq.gr (hC.other (by decide) (by decide)) (by simp[execOp,go_sem,iZ,(dw 6 (by kernel_rfl)).trans a6])
    .exact aq.gr (hC.other (by decide) (by decide)) (by simp[execOp,go_sem,iZ,aM 6 39 (by omega) rfl (by decide),DT,IM];exact uJ k (by omega))
    .exact aq.gr (hC.other (by decide) (by decide)) (by simp[execOp,go_sem,iZ,(dw 1 (by kernel_rfl)).trans a1,kb])
    .exact aq.gr (hC.other (by decide) (by decide)) (by simp[execOp,go_sem,iZ,(dw 6 (by kernel_rfl)).trans a6])
    .exact aq.gr (hC.other (by decide) (by decide)) (by simp[execOp,go_sem,iZ,(dw 3 (by kernel_rfl)).trans a3,r0,r1,r2,r3])
    .have u1:ev (.tmp 41)= .pointer (some ⟨p,0,none⟩):=aM 8 41 (by omega) rfl (by decide)
     have u2:ev (.tmp 42)= .int .i64 (hh:Int):=aM 9 42 (by omega) rfl (by decide);have u3:ev (.tmp 43)= .agg #[.slice (some ⟨g1,0,none⟩) es.length es.length,.slice (some ⟨g2,0,none⟩) es.length es.length,.slice none 0 0,.slice none 0 0]:=aM 10 43 (by omega) rfl (by decide);have h16:L 16=false:=by
      cases h:L 16 with
      |false=>rfl
      |true=>
       have:=hdc 16 _ rfl h ⟨11,.phase⟩ (by simp) rfl;rw[dQ] at this;cases this
     have h18:L 18=false:=by
      cases h:L 18 with
      |false=>rfl
      |true=>
       have:=hdc 18 _ rfl h ⟨11,.phase⟩ (by simp) rfl;rw[dQ] at this;cases this
     obtain⟨-,f1,f2⟩:=hC;rw[h16,if_neg (by decide)] at f1;rw[h18,if_neg (by decide)] at f2;have Ot:Below w.heap.size w X:=hbC.trans (hW.below hbC.size (fun b hb=>by rcases hb with rfl|rfl<;>omega));have hen:∀args w,(callFunc 84 args).run prog w= .ok (.enter 84 args) w:=enters_of func84 (by kernel_rfl) rfl;have hrun:∀o:Oper,o.op= .call { callee:= .value (.func 84),args:= #[.tmp 41,.tmp 42,.tmp 43],argTypes:= #[116,3,102] }->(execOp ev o).run prog X= .ok (.enter 84 #[.pointer (some ⟨p,0,none⟩),.int .i64 (hh:Int),.agg #[.slice (some ⟨g1,0,none⟩) es.length es.length,.slice (some ⟨g2,0,none⟩) es.length es.length,.slice none 0 0,.slice none 0 0]]) X:=fun o ho=>by
      simp[execOp,ho,go_sem,u1,u2,u3,hen,cQ]
     unfold aq.cJ;rw[hrun _ rfl];refine(NJ hh g1 g2 E1 E2 X (hd.later Ot) BD f1.ins f2.ins m1 m2).mono fun e X' hk'=>⟨_,hk'.1,?_,?_⟩
     .rw[Vp]
      rfl
     .refine⟨hW.later hk'.2,?_,?_⟩
      .rw[show aq.bM L 11 16=false from h16,if_neg (by decide)]
       exact f1.later hk'.2
      .rw[show aq.bM L 11 18=false from h18,if_neg (by decide)]
       exact f2.later hk'.2
    .exact aq.gr (hC.other (by decide) (by decide)) (by simp[execOp,go_sem,iZ,aM 11 44 (by omega) rfl (by decide)])
    .exact aq.gr (hC.other (by decide) (by decide)) (by simp[execOp,go_sem,iZ,aM 12 32 (by omega) rfl (by decide)])
    .exact aq.gr (hC.other (by decide) (by decide)) (by simp[execOp,go_sem,iZ,aM 12 32 (by omega) rfl (by decide)])
    .exact aq.gr (hC.other (by decide) (by decide)) (by simp[execOp,go_sem,iZ,aM 1 34 (by omega) rfl (by decide),aM 3 36 (by omega) rfl (by decide),k0,k1])
    .have u1:ev (.tmp 47)= .pointer (some ⟨g1,k,none⟩):=aM 15 47 (by omega) rfl (by decide)
     have u2:ev (.tmp 45)= .int .i64 (Lo.low es s k):=aM 13 45 (by omega) rfl (by decide);obtain⟨-,f1,f2⟩:=hC;rw[dQ,if_neg (by decide)] at f1;have x1:=f1.cell hz1;have x2:=f1.free k;refine aq.gP (w':=X.setCell ⟨g1,k,none⟩ (.int .i64 (Lo.low es s k))) (by simp[execOp,go_sem,u1,u2,x1,x2]) ⟨rfl,hW.setCell (.inl rfl) _,?_,?_⟩
     .rw[show aq.bM L 16 16=true from rfl,if_pos rfl]
      exact f1.set k _
     .rw[show aq.bM L 16 18=L 18 from rfl]
      exact f2.bO (fun e=>ne1 e.symm) _
    .exact aq.gr (hC.other (by decide) (by decide)) (by simp[execOp,go_sem,iZ,aM 5 38 (by omega) rfl (by decide),aM 7 40 (by omega) rfl (by decide),k0,k1])
    .have u1:ev (.tmp 48)= .pointer (some ⟨g2,k,none⟩):=aM 17 48 (by omega) rfl (by decide)
     have u2:ev (.tmp 46)= .int .i64 (Lo.cK es s k):=aM 14 46 (by omega) rfl (by decide);obtain⟨-,f1,f2⟩:=hC;rw[dQ,if_neg (by decide)] at f2;have x1:=f2.cell hz2;have x2:=f2.free k;refine aq.gP (w':=X.setCell ⟨g2,k,none⟩ (.int .i64 (Lo.cK es s k))) (by simp[execOp,go_sem,u1,u2,x1,x2]) ⟨rfl,hW.setCell (.inr rfl) _,?_,?_⟩
     .rw[show aq.bM L 18 16=L 16 from rfl]
      exact f1.bO ne1 _
     .rw[show aq.bM L 18 18=true from rfl,if_pos rfl]
      exact f2.set k _
   .intro L X a4 hall hC
    obtain⟨hw,f1,f2⟩:=hC;rw[if_pos (hall 16 (by decide))] at f1;rw[if_pos (hall 18 (by decide))] at f2;have hkk:=wH (n₀:=w.heap.size) hw (by omega) (fun b hb=>by rcases hb with rfl|rfl<;>omega);have hR:∀k',(k'=k\/(E1.getD k' 0=Lo.low es s k'/\E2.getD k' 0=Lo.cK es s k'))->(E1.set k (Lo.low es s k)).getD k' 0=Lo.low es s k'/\(E2.set k (Lo.cK es s k)).getD k' 0=Lo.cK es s k':=fun k' hk'=>by
     rw[GF (by omega),GF (by omega)];by_cases e:k'=k
     .subst e
      rw[if_pos rfl,if_pos rfl];exact⟨rfl,rfl⟩
     .rw[if_neg e,if_neg e]
      exact hk'.resolve_left e
    refine⟨nE hw (fun b hb=>by rcases hb with rfl|rfl<;>omega),hkk,⟨_,_,f1,f2,by simpa using m1,by simpa using m2,fun k' hk' a ha SA Za=>hR k' (.inr (hdn k' hk' a ha SA Za)),fun k' hk' hm=>hR k' ?_⟩,hkc.trans hkk,pX.trans (nE hw (fun b hb=>by rcases hb with rfl|rfl<;>omega))⟩;rcases aam.1 hm with h1|h1
    .exact .inr (hpr k' hk' h1)
    .left
     have h2:Lo.oh s k'=Lo.oh s k:=by
      have:=aan.1 h1;rw[K7];omega
     have h3:=(Lo.fQ hd.vf hk').2.2.2;rw[h2,K7] at h3;omega
  case ad8=>
   rintro X ⟨⟨E1,E2,e1,e2,m1,m2,hdn,hpr⟩,hkc,pX⟩
   gi_wp2
   refine⟨pX,hkc,⟨E1,E2,e1,e2,m1,m2,?_⟩,Aq.out.trans hkc⟩;rw[HXE.out];intro k hk a ha SA Za;by_cases e:a=x
   .subst e
    refine hpr k hk ((Lo.yj hd.vf eM).2 ⟨k,hk,?_,rfl⟩);rw[hv] at SA;omega
   .exact hdn k hk a ha SA (by omega)
  case ab3=>
   rintro c pre' X _ hx;exact hx.elim
 case done=>
  rintro D X hD ⟨⟨A1,A2,i1,i2,q1,q2,hdone⟩,hkp⟩ hK;have hX1:X.heap[Lb]? =some (.cells #[.slice (some ⟨g1,0,none⟩) es.length es.length,.slice (some ⟨g2,0,none⟩) es.length es.length,.slice none 0 0,.slice none 0 0] 102 (0,0)):=hkp.2 _ _ lb1 rfl (by omega);have Ov:X.heap[R]? =some (.cells #[.slice none 0 0,.slice none 0 0,.slice none 0 0,.slice none 0 0] 102 (0,0)):=hkp.2 _ _ rs1 rfl (by omega);obtain⟨x0,x1,x2,x3,-⟩:=ah hX1;obtain⟨z0,z1,z2,z3,z4⟩:=ah Ov;have Ot:Below w.heap.size w X:=hB1.trans hkp.1;have hall:∀k,k<es.length->A1.getD k 0=Lo.low es s k/\A2.getD k 0=Lo.cK es s k:=fun k hk=>by
   obtain⟨a,ha,ea⟩:=Df.jk.FZ hd.vf.once (Lo.ct hd.val hd.vf hk).1;exact hdone k hk a ha ea (by rw[oF];omega)
  have Zw:A1=upTo (Lo.low es s) es.length:=by
   refine acO fun k=> ?_
   by_cases hk:k<es.length
   .rw[iR hk,aac (by omega)]
    have:=(hall k hk).1;rw[aag,aac (by omega)] at this;exact congrArg some this
   .rw[abv (by omega),abv (by rw[gm];omega)]
  have hA2:A2=upTo (Lo.cK es s) es.length:=by
   refine acO fun k=> ?_
   by_cases hk:k<es.length
   .rw[iR hk,aac (by omega)]
    have:=(hall k hk).2;rw[aag,aac (by omega)] at this;exact congrArg some this
   .rw[abv (by omega),abv (by rw[gm];omega)]
  subst Zw;subst hA2;have qZ:=ζ i1;have iM:=ζ i2;have oM:=ζ Ot;have Xw:=ζ Ov;have HK:=ζ hK;clear i1 i2 hall hdone hkp hX1 Ov Ot;go_wp2;rw[<-HQQ.out];obtain⟨Y,hY⟩:∃Y,Y=jY X R (.slice (some ⟨g1,0,none⟩) es.length es.length) (.slice (some ⟨g2,0,none⟩) es.length es.length) (.slice none 0 0) (.slice none 0 0):=⟨_,rfl⟩;have Fm:Y.heap[R]? =some (.cells #[.slice (some ⟨g1,0,none⟩) es.length es.length,.slice (some ⟨g2,0,none⟩) es.length es.length,.slice none 0 0,.slice none 0 0] 102 (0,0)):=by rw[hY];exact lU Xw.out _ _ _ _
  have Ll:∀b,b≠R->Y.heap[b]? =X.heap[b]? :=fun b hb=>by rw[hY];exact tK hb _ _ _ _
  have Ou:Below w.heap.size w Y:=by rw[hY];exact fO oM.out lo2 _ _ _ _
  have hKY:Y.heap[D]? =some (.deferred (some [])):=(Ll D (by omega)).trans HK.out;unfold jY at hY;rw[<-hY];have ahx:(Y.putObj D (.deferred none)).heap[R]? =some (.cells #[.slice (some ⟨g1,0,none⟩) es.length es.length,.slice (some ⟨g2,0,none⟩) es.length es.length,.slice none 0 0,.slice none 0 0] 102 (0,0)):=(ads (by omega)).trans Fm;obtain⟨v0,v1,v2,v3,-⟩:=ah ahx;refine⟨by simp,.inl ⟨_,_,rfl,run_takeDeferred hKY,?_⟩⟩;refine⟨.agg #[.slice (some ⟨g1,0,none⟩) es.length es.length,.slice (some ⟨g2,0,none⟩) es.length es.length,.slice none 0 0,.slice none 0 0],?_,g1,g2,rfl,?_,?_,lo4,lo5,ne1,?_⟩
  .simp[results,results68,go_sem,v0,v1,v2,v3]
  .exact(ads (by omega)).trans ((Ll g1 (fun e=>ne4 e.symm)).trans qZ.out)
  .exact(ads (by omega)).trans ((Ll g2 (fun e=>ne5 e.symm)).trans iM.out)
  .exact Ou.trans (belowK_b (w:=w) (aad _) Y D _ _ (by omega) hKY rfl rfl)
 case stop=>
  rintro D c pre X _ _ hx _;exact hx.elim
end
end
section
open Go.Proofs.Tryz
open Go.RowKit
namespace Lo
open Df
section
variable {n:Nat} {es:List (Int×Int)} {s:St} {e:Nat}
theorem adl (hv:Si.Val n es) (h:VF n es s) (he:e<es.length):0<=hf es s e/\hf es s e<(n:Int):=by
 have:=wQ hv h.once h.hang h.side _ (ct hv h he).1;exact⟨this.1,this.2.1⟩
theorem Kn (hv:Si.Val n es) (h:VF n es s) (he:e<es.length):0<=low es s e/\low es s e<=cK es s e/\cK es s e<=hf es s e/\hf es s e<(n:Int):=⟨Ko hv h he,(Io es s e).1,(Io es s e).2,(adl hv h he).2⟩
end
end Lo
section
variable {p:Nat} {av:Value} {n:Nat} {es:List (Int×Int)} {f:For} {s:Df.St}
def Tb (es:List (Int×Int)) (s:Df.St) (w:World) (e:Ending) (w':World):Prop:=
 ∃g3,e= .returned (.slice (some ⟨g3,0,none⟩) es.length es.length)/\af w' g3 (upTo (Lo.nest es s) es.length)/\w.heap.size<=g3/\Below w.heap.size w w'
theorem Nx (g1 g2:Nat) (w:World) (hd:Wd w p av n es f s) (h1:aF w g1 (upTo (Lo.low es s) es.length)) (h2:aF w g2 (upTo (Lo.cK es s) es.length)):
 Calls prog 69 #[.pointer (some ⟨p,0,none⟩),.agg #[.slice (some ⟨g1,0,none⟩) es.length es.length,.slice (some ⟨g2,0,none⟩) es.length es.length,.slice none 0 0,.slice none 0 0]] w (Tb es s w):=by
 have dH:=hd.val.few;have hn:=hd.val.hi;obtain⟨i0,hi,hz0,hz1,hz2⟩:=info_parts Tryz.cM;have hmk:∀W,(Instr.makeSlice 27 (.int .i64 (es.length:Int)) (.int .i64 (es.length:Int))).run prog W= .ok (.slice (some ⟨W.heap.size,0,none⟩) es.length es.length) (W.alloc (.cells (madeCells #[.int .i64 0] es.length) 3)):=fun W=>by
  have:=run_make (P:=prog) W 27 3 i0 (.int .i64 0) Tryz.underlying27 hi hz0 .i64 .i64 (es.length:Int) (es.length:Int) (by omega) (by omega) (by rw[hz2];omega) (by omega);rw[this,hz1];simp[Value.cells]
 obtain⟨W0,hW0⟩:∃W0,W0=w.alloc (.cells #[.slice (some ⟨g1,0,none⟩) es.length es.length,.slice (some ⟨g2,0,none⟩) es.length es.length,.slice none 0 0,.slice none 0 0] 102):=⟨_,rfl⟩;obtain⟨W,hW⟩:∃W,W=W0.alloc (.cells (madeCells #[.int .i64 0] es.length) 3):=⟨_,rfl⟩;have hs0:W0.heap.size=w.heap.size+1:=by rw[hW0];simp
 have hb0:Below w.heap.size w W0:=by rw[hW0];exact(aae _ _).alloc (aad _) _
 have dJ:Below w.heap.size w W:=by rw[hW];exact hb0.alloc hb0.size _
 have abj:W.heap.size=w.heap.size+2:=by rw[hW];simp[hs0]
 have Wj:W0.heap[w.heap.size]? =some (.cells #[.slice (some ⟨g1,0,none⟩) es.length es.length,.slice (some ⟨g2,0,none⟩) es.length es.length,.slice none 0 0,.slice none 0 0] 102 (0,0)):=by rw[hW0];exact heap_alloc_new w _
 have hLb:W.heap[w.heap.size]? =some (.cells #[.slice (some ⟨g1,0,none⟩) es.length es.length,.slice (some ⟨g2,0,none⟩) es.length es.length,.slice none 0 0,.slice none 0 0] 102 (0,0)):=by rw[hW,ab2 _ _ _ (by omega)];exact Wj
 have hG:af W (w.heap.size+1) (List.replicate es.length 0):=by rw[hW];exact vq hs0
 obtain⟨x0,x1,-,-,-⟩:=ah Wj;have c4:=(hd.later dJ).c4;have HD:=ζ hd;have HLb:=ζ hLb;have HI:Hid (∀V,Below w.heap.size w V->aF V g1 (upTo (Lo.low es s) es.length)/\aF V g2 (upTo (Lo.cK es s) es.length)):=fun V hV=>⟨h1.later hV,h2.later hV⟩
 have BJ:g1<w.heap.size/\g2<w.heap.size:=⟨h1.lt,h2.lt⟩;have HG:=ζ hG;have fP:=ζ dJ;rw[hW0] at x0;rw[hW,hW0] at c4;have HW:Hid (W=(w.alloc (.cells #[.slice (some ⟨g1,0,none⟩) es.length es.length,.slice (some ⟨g2,0,none⟩) es.length es.length,.slice none 0 0,.slice none 0 0] 102)).alloc (.cells (madeCells #[.int .i64 0] es.length) 3)):=by rw[<-hW0];exact hW
 clear hd h1 h2 hLb hG dJ hW hW0 hb0 hs0 Wj x1;go_enter func69,ntmps69;go_wp2;clear hmk x0 c4;go_loopw [18] (fun i wr=>∃(k:Nat) (A3:List Int),k<=es.length/\i= .int .i64 (k:Int)/\af wr (w.heap.size+1) A3/\A3.length=es.length/\(∀j,j<k->A3[j]? =some (Lo.nest es s j))/\wr.heap[w.heap.size]? =some (.cells #[.slice (some ⟨g1,0,none⟩) es.length es.length,.slice (some ⟨g2,0,none⟩) es.length es.length,.slice none 0 0,.slice none 0 0] 102 (0,0))/\Below w.heap.size w wr) (fun i _=>es.length-(intOf i).toNat)
 case atStart=>
  rw[<-HW.out];exact⟨0,_,ab6 _,rfl,HG.out,by simp,(fun j hj=>by omega),HLb.out,fP.out⟩
 case round=>
  obtain⟨k,A3,hk,rfl,hA,hAl,Zv,hlb,hb⟩:=hrel;by_cases hlt:k<es.length
  .have hdw:=HD.out.later hb
   obtain⟨b4,o4,e4,d4⟩:=hdw.aT hlt;have d4k:=d4 wr (aae _ _) k hlt;obtain⟨ho1,ho2,BD,II⟩:=Lo.fQ HD.out.vf hlt;rw[ho1] at d4k;obtain⟨q1,q2⟩:=HI.out wr hb;have r1:=q1.cell (iR (f:=Lo.low es s) hlt);obtain⟨x0,x1,-,-,-⟩:=ah hlb;have agu:=Lo.Kn HD.out.val HD.out.vf hlt;obtain⟨lo,hlo⟩:∃lo,Lo.low es s k=lo:=⟨_,rfl⟩;obtain⟨l2,hl2⟩:∃l2,Lo.cK es s k=l2:=⟨_,rfl⟩;obtain⟨hf,K6⟩:∃hf,Lo.hf es s k=hf:=⟨_,rfl⟩;obtain⟨hh,K7⟩:∃hh,Lo.oh s k=hh:=⟨_,rfl⟩;have zg:Hid (Lo.nest es s k=if lo<l2/\l2<hf then 2*lo+1 else 2*lo):=by
    show _=_;unfold Lo.nest;rw[hlo,hl2,K6]
   rw[hlo,hl2,K6] at agu;rw[hlo] at r1;rw[K7] at d4k BD;obtain⟨a3,ha3⟩:∃z,A3[k]? =some z:=⟨_,aac (by omega)⟩;have y1:=hA.cell ha3;have y2:=hA.free k;have AZ:Below w.heap.size w (wr.setCell ⟨w.heap.size+1,k,none⟩ (.int .i64 (2*lo))):=hb.setCell (p:=⟨w.heap.size+1,k,none⟩) (by simp) _;obtain⟨w1,hw1⟩:∃w1,w1=wr.setCell ⟨w.heap.size+1,k,none⟩ (.int .i64 (2*lo)):=⟨_,rfl⟩;have Zw:af w1 (w.heap.size+1) (A3.set k (2*lo)):=by rw[hw1];exact hA.set k _
   have Gn:w1.heap[w.heap.size]? =some (.cells #[.slice (some ⟨g1,0,none⟩) es.length es.length,.slice (some ⟨g2,0,none⟩) es.length es.length,.slice none 0 0,.slice none 0 0] 102 (0,0)):=by rw[hw1,heap_setCell_other _ _ _ _ (by show w.heap.size≠w.heap.size+1;omega)];exact hlb
   rw[<-hw1] at AZ;have pE:=ζ hw1;have aY:=ζ AZ;have Yd:=ζ Zw;have GW:=ζ Gn;have hda:=HD.out.later AZ;have X9:Hid (∀D:LW w1,Calls prog 85 #[.pointer (some ⟨p,0,none⟩),.int .i64 (hh:Int)] D.val fun e w'=>e= .returned (.int .i64 hf)/\Below D.val.heap.size D.val w'):=fun D=>by
    have:=Be hh BD (hda.later D.h);rw[<-K7] at this;rw[<-K6,<-K7];exact this
   have s0:∀D:LW w1,D.val.cell? ⟨w.heap.size,0,none⟩=some (.slice (some ⟨g1,0,none⟩) es.length es.length):=fun D=>(ah ((D.h.block _ (lt_of_block Gn)).trans Gn)).1
   have s1:∀D:LW w1,D.val.cell? ⟨w.heap.size,1,none⟩=some (.slice (some ⟨g2,0,none⟩) es.length es.length):=fun D=>(ah ((D.h.block _ (lt_of_block Gn)).trans Gn)).2.1
   have t1:∀D:LW w1,D.val.cell? ⟨g1,k,none⟩=some (.int .i64 lo):=fun D=>by
    have:=(HI.out D.val (AZ.trans (D.h.mono AZ.size))).1.cell (iR (f:=Lo.low es s) hlt);rwa[hlo] at this
   have t2:∀D:LW w1,D.val.cell? ⟨g2,k,none⟩=some (.int .i64 l2):=fun D=>by
    have:=(HI.out D.val (AZ.trans (D.h.mono AZ.size))).2.cell (iR (f:=Lo.cK es s) hlt);rwa[hl2] at this
   have hne:=LW.any w1;have Pt:=ζ hAl;have HAJ:=ζ Zv;have k0:(0:Int)<=(k:Int):=by omega
   have k1:(k:Int)<(es.length:Int):=by omega
   have e40:f.a4=some ⟨b4,o4,none⟩:=e4;rw[e40];clear hA hAl Zv hlb hb hdw d4 q1 q2 hlo hl2 K6 K7 ho1 ho2 II ha3 hw1 AZ Zw Gn hda e4 e40;go_wp2;rw[<-pE.out];by_cases c1:lo<l2
   .by_cases c2:l2<hf
    .refine aG (by kernel_rfl) (by kernel_rfl) ?_
     repeat (go_big_quiet_step ((first|(go_at_call 85;exact Calls.lw (X9.out _)))))
     refine wpQuiet_nil ?_;rintro _ ⟨D,rfl⟩;have Fo:=Yd.out.later D.h;have X5:=ζ Fo;have X3:=ζ ((D.h.block _ (lt_of_block GW.out)).trans GW.out);have X4:=ζ (aY.out.trans (D.h.mono aY.out.size));have z1:=Fo.cell (i:=k) (x:=2*lo) (by rw[ab0,if_pos rfl,if_pos (by have:=Pt.out;omega)]);have z2:=Fo.free k;clear Fo;go_wp2;go_roundw
     case rel=>
      refine⟨k+1,_,by omega,by go_num,X5.out.set k _,by simpa using Pt.out,fun j hj=> ?_,?_,X4.out.setCell (p:=⟨w.heap.size+1,k,none⟩) (by simp) _⟩
      .rw[ab0]
       by_cases e:k=j
       .subst e
        rw[if_pos rfl,if_pos (by have:=Pt.out;simp;omega),zg.out,if_pos ⟨c1,c2⟩]
       .rw[if_neg e,ab0,if_neg e]
        exact HAJ.out j (by omega)
      .rw[heap_setCell_other _ _ _ _ (by show w.heap.size≠w.heap.size+1;omega)]
       exact X3.out
     case measure=>simp[intOf];omega
    .refine aG (by kernel_rfl) (by kernel_rfl) ?_
     repeat (go_big_quiet_step ((first|(go_at_call 85;exact Calls.lw (X9.out _)))))
     refine wpQuiet_nil ?_;rintro _ ⟨D,rfl⟩;have Fo:=Yd.out.later D.h;have X5:=ζ Fo;have X3:=ζ ((D.h.block _ (lt_of_block GW.out)).trans GW.out);have X4:=ζ (aY.out.trans (D.h.mono aY.out.size));clear Fo;go_wp2;go_roundw
     case rel=>
      refine⟨k+1,_,by omega,by go_num,X5.out,by simpa using Pt.out,fun j hj=> ?_,X3.out,X4.out⟩;rw[ab0];by_cases e:k=j
      .subst e
       rw[if_pos rfl,if_pos (by have:=Pt.out;omega),zg.out,if_neg (by omega)]
      .rw[if_neg e]
       exact HAJ.out j (by omega)
     case measure=>simp[intOf];omega
   .refine aG (by kernel_rfl) (by kernel_rfl) ?_
    repeat (go_big_quiet_step ((first|(go_at_call 85;exact Calls.lw (X9.out _)))))
    refine wpQuiet_nil ?_;rintro _ ⟨D,rfl⟩;have Fo:=Yd.out.later D.h;have X5:=ζ Fo;have X3:=ζ ((D.h.block _ (lt_of_block GW.out)).trans GW.out);have X4:=ζ (aY.out.trans (D.h.mono aY.out.size));clear Fo;go_wp2;go_roundw
    case rel=>
     refine⟨k+1,_,by omega,by go_num,X5.out,by simpa using Pt.out,fun j hj=> ?_,X3.out,X4.out⟩;rw[ab0];by_cases e:k=j
     .subst e
      rw[if_pos rfl,if_pos (by have:=Pt.out;omega),zg.out,if_neg (by omega)]
     .rw[if_neg e]
      exact HAJ.out j (by omega)
    case measure=>simp[intOf];omega
  .have hd:¬((k:Int)<(es.length:Int)):=by omega
   have KZ:k=es.length:=by omega
   have HA:=ζ hA;have HB:=ζ hb;have HE:Hid (A3=upTo (Lo.nest es s) es.length):=by
    show _=_;refine acO fun j=> ?_
    by_cases hj:j<es.length
    .rw[iR hj]
     exact Zv j (by omega)
    .rw[abv (by omega),abv (by rw[gm];omega)]
   clear hA hAl Zv hlb hb;go_wp2;go_ret;exact⟨_,rfl,by rw[<-HE.out];exact HA.out,by omega,HB.out⟩
end
end
end Go.Proofs.YtbhdibflpjhpaaaGreat
