import Derived.Test.YtdjmnpmdmjclhabGreatMg32
import Derived.Test.YtdjmnpmdmjclhabGreatMg18
import Derived.Test.YtdjmnpmdmjclhabGreatMg30
import Derived.Test.YtdjmnpmdmjclhabGreatMg27
import Derived.Test.YtdjmnpmdmjclhabGreatMg31
import Derived.Test.YtdjmnpmdmjclhabGreatMg01
import Derived.Test.YtdjmnpmdmjclhabGreatMg00
import Derived.Laws.AppendOwnNone
import Derived.Sort.Grow
import Derived.Test.YtdjmnpmdmjclhabGreatMg05
import Derived.Maps.AppendAt
namespace Go.Proofs.YtdjmnpmdmjclhabGreat
section
open Go.RowKit Lt Pl
namespace Lt
theorem Ay {v v' L R:Nat→Int}:∀{l:List Nat},(∀e∈l,v e=v' e)→(wR v L R l↔wR v' L R l)
 |[],_=>Iff.rfl
 |e::l,h=>by
  unfold wR
  rw[h e aag,Ay fun x hx=>h x (aah _ hx)]
theorem eE.congr {v v' L R:Nat→Int} {l:List Nat} (h:∀e∈l,v e=v' e):eE v L R l↔eE v' L R l:=by
 unfold eE
 rw[Ay (l:=l.reverse) fun e he=>h e (List.mem_reverse.1 he)]
 have key:∀i,Az v L R l i↔Az v' L R l i:=fun i=>by
  unfold Az gj
  constructor
  ·intro k hl
   have:=k hl
   split at this
   ·rename_i q
    rw[if_pos q]
    rw[aac hl,aa8] at this ⊢
    rw[←h _ (aaX hl)]
    exact this
   ·rename_i q
    rw[if_neg q]
    have h0:0<l.length:=by omega
    rw[aac h0,aa8] at this ⊢
    rw[←h _ (aaX h0)]
    exact this
  ·intro k hl
   have:=k hl
   split at this
   ·rename_i q
    rw[if_pos q]
    rw[aac hl,aa8] at this ⊢
    rw[h _ (aaX hl)]
    exact this
   ·rename_i q
    rw[if_neg q]
    have h0:0<l.length:=by omega
    rw[aac h0,aa8] at this ⊢
    rw[h _ (aaX h0)]
    exact this
 simp only[key]
end Lt
section
variable {c:Wp} {p j:Nat} {pa:Option Addr} {pc:Nat} {ps:List Int} {W:World} {sd:Nat→Bool}
set_option maxRecDepth 100000 in
set_option maxHeartbeats 16000000 in
theorem AW (h:mY c p j pa pc ps W) (hps:∀e,e<c.es.length→ps[e]?.getD 0=eF (Lr.df h.wk.val h.wk.vf) sd e):
 Calls Tryz.prog 25 #[.pointer (some ⟨j,0,none⟩)] W fun e w'=>∃b,e= .returned (.bool b)∧(b=true↔(Lr.df h.wk.val h.wk.vf).LR sd)∧Below W.heap.size W w':=by
 have hhi:=h.wk.val.hi
 have HI:=Nu.hid (Od h)
 have HJ:=Nu.hid h
 have WH:=Nu.hid hps
 have jF:Hid (∀(s:Bool) (GI:Nat) (vs:List Value) (V:World),Below W.heap.size W V→bW V 0 (.slice (some ⟨GI,0,none⟩) c.n c.n) vs (eJ c.n c.es c.s c.es.length)→Calls Tryz.prog 43 #[.pointer (some ⟨j,0,none⟩),.int .i64 (uO s),.slice (some ⟨GI,0,none⟩) c.n c.n] V fun e w'=>∃TP tp,e= .returned (.slice (some ⟨TP,0,none⟩) c.es.length c.es.length)∧aq w' TP tp∧tp.length=c.es.length∧(∀e,e<c.es.length→m7 (Lr.df h.wk.val h.wk.vf) sd s e (g tp e))∧V.heap.size≤TP∧Below V.heap.size V w'):=fun s GI vs V hV hR=>Nx (h.later hV) hps hR
 clear hps
 go_enter Tryz.func25,Tryz.ntmps25
 go_wp2_with fail
 go_at_call 42
 refine HI.out.mono ?_
 rintro e W1 ⟨GI,vs,rfl,hrows,hb1⟩
 have uC:=Nu.hid (hrows.lower (aax _))
 have aY:=Nu.hid hb1
 have qz:=Nu.hid (jF.out false GI vs W1 hb1 (hrows.lower (aax _)))
 clear hrows hb1 HI
 simp only[]
 go_wp2_with fail
 go_at_call 43
 refine qz.out.mono ?_
 rintro e W2 ⟨LB,tl,rfl,il,ll,hl,hLl,hb2⟩
 have ct:=Nu.hid hb2
 have HIL:=Nu.hid il
 have zH:=Nu.hid ll
 have HHL:=Nu.hid hl
 have EF:Hid (Below W.heap.size W W2):=aY.out.trans (hb2.mono aY.out.size)
 have uG:=Nu.hid (jF.out true GI vs W2 EF.out (uC.out.later hb2))
 clear il ll hl hLl hb2 qz
 simp only[]
 go_wp2_with fail
 go_at_call 43
 refine uG.out.mono ?_
 rintro e W3 ⟨RB,tr,rfl,ir,lr,hr,De,hb3⟩
 have Pt:=Nu.hid ir
 have Ua:=Nu.hid lr
 have HHR:=Nu.hid hr
 have agS:=Nu.hid (HIL.out.later hb3)
 have Cy:Hid (Below W.heap.size W W3):=EF.out.trans (hb3.mono EF.out.size)
 clear ir lr hr De hb3 uG
 have hJ3:=HJ.out.later Cy.out
 have x0:=hJ3.cells.1
 have x9:=hJ3.wk.c9
 obtain⟨oo,oc,I8⟩:∃oo oc,c.vo= .slice oo c.n oc:=by
  obtain⟨ao,cc,e⟩:=Ao HJ.out.wk.out
  rw[Lo.dw] at e
  exact⟨ao,cc,e⟩
 rw[I8] at x9
 have ahq:Hid (∀V,Below W3.heap.size W3 V→∀v,v<c.n→Calls Tryz.prog 44 #[.pointer (some ⟨j,0,none⟩),.int .i64 (v:Int),.slice (some ⟨LB,0,none⟩) c.es.length c.es.length,.slice (some ⟨RB,0,none⟩) c.es.length c.es.length] V fun e w'=>∃b,e= .returned (.bool b)∧(b=true↔eE (Lo.low c.es c.s) (g tl) (g tr) (c.oe v))∧Below V.heap.size V w'):=fun V hV v hv=>FT (HJ.out.later (Cy.out.trans (hV.mono Cy.out.size))) (agS.out.later hV) (Pt.out.later hV) zH.out Ua.out hv
 have Zf:Hid ((∀v,v<c.n→eE (Lo.low c.es c.s) (g tl) (g tr) (c.oe v))↔(Lr.df h.wk.val h.wk.vf).LR sd):=by
  have hE:=Wp.BN h.wk.val h.wk.vf
  have:=U3 (L:=g tl) (R:=g tr) hE.lw ⟨HHL.out,HHR.out⟩ hE.mem hE.nd hE.CR
  show _↔_
  rw[←this]
  constructor
  ·intro q v hv
   exact(eE.congr fun e he=>Wp.mV ((hE.mem v e).1 he).1).2 (q v hv)
  ·intro q v hv
   exact(eE.congr fun e he=>Wp.mV ((hE.mem v e).1 he).1).1 (q v hv)
 clear hJ3 I8
 simp only[]
 go_wp2_with fail
 go_loopw [24] (fun iv wr=>∃i:Nat,iv= .int .i64 (i:Int)∧i≤c.n∧(∀v,v<i→eE (Lo.low c.es c.s) (g tl) (g tr) (c.oe v))∧Below W3.heap.size W3 wr) (fun iv _=>c.n-(intOf iv).toNat)
 case atStart=>exact⟨0,rfl,aax _,fun v hv=>absurd hv (by omega),aae _ _⟩
 case round=>
  obtain⟨i,rfl,hin,hall,hb⟩:=hrel
  by_cases hlt:i<c.n
  ·have ni:=Nu.hid (ahq.out wr hb i hlt)
   have qm:=Nu.hid hall
   have HB:=Nu.hid hb
   have i0:(0:Int)≤(i:Int):=by omega
   have i1:(i:Int)<(c.n:Int):=by omega
   have i2:(i:Int)+1≤4194304:=by omega
   clear hall hb
   go_wp2_with fail
   go_at_call 44
   refine ni.out.mono ?_
   rintro e w4 ⟨b,rfl,nV,hb4⟩
   have gJ:=Nu.hid (HB.out.trans (hb4.mono HB.out.size))
   have Uy:=Nu.hid nV
   clear nV hb4
   cases b with
   |true=>
    simp only[]
    go_wp2_with fail
    go_roundw
    case rel=>
     refine⟨i+1,by simp,by omega,fun v hv=> ?_,gJ.out⟩
     by_cases e:v=i
     ·rw[e];exact Uy.out.1 rfl
     ·exact qm.out v (by omega)
    case measure=>
     simp[intOf]
     omega
   |false=>
    simp only[]
    go_wp2_with fail
    go_ret
    refine⟨false,rfl,⟨(fun q=>by cases q),fun q=> ?_⟩,Cy.out.trans (gJ.out.mono Cy.out.size)⟩
    exact absurd (Uy.out.2 (Zf.out.2 q i hlt)) (by simp)
  ·obtain rfl:i=c.n:=by omega
   have qm:=Nu.hid hall
   have HB:=Nu.hid hb
   clear hall hb
   go_wp2_with fail
   go_ret
   exact⟨true,rfl,⟨fun _=>Zf.out.1 qm.out,fun _=>rfl⟩,Cy.out.trans (HB.out.mono Cy.out.size)⟩
end
end
section
open Go.RowKit Lt Pl
def sV (ps:List Int) (e:Nat):Bool:=decide (ps[e]?.getD 0=1)
theorem nK.side {n:Nat} {es:List (Int×Int)} {s:Df.St} {ps:List Int} (hv:Si.Val n es) (hf:Df.VF n es s) (h:nK es s ps) (e:Nat) (he:e<es.length):ps[e]?.getD 0=eF (Lr.df hv hf) (sV ps) e:=by
 have h1:=h.2 e he
 unfold gN at h1
 unfold eF
 show _=if Lo.tree es s e=true then _ else _
 unfold sV
 by_cases ht:Lo.tree es s e=true
 ·rw[if_pos ht] at h1 ⊢
  exact h1
 ·rw[if_neg ht] at h1 ⊢
  rcases h1 with q|q<;>rw[q]<;>simp
def LI (n:Int) (es:List (Int×Int)) (s:Df.St) (ps:List Int) (w:World) (e:Ending) (w':World):Prop:=
 ((Si.valid n es=false∧e= .returned (.tuple #[.bool false,.int .i64 1]))∨
   (Si.valid n es=true∧¬oN n es s∧e= .returned (.tuple #[.bool false,.int .i64 80]))∨
   ∃(m:Nat) (hv:Si.Val m es) (hf:Df.VF m es s),n=(m:Int)∧((¬nK es s ps∧e= .returned (.tuple #[.bool false,.int .i64 100]))∨(nK es s ps∧∃b,e= .returned (.tuple #[.bool b,.int .i64 0])∧(b=true↔(Lr.df hv hf).Aligned (sV ps)∧(Lr.df hv hf).LR (sV ps)))))∧
 Below w.heap.size w w'
set_option maxRecDepth 100000 in
set_option maxHeartbeats 16000000 in
theorem yq (n:Int) (ao:Option Addr) (cap:Nat) (es:List (Int×Int)) (f:For) (s:Df.St) (pa:Option Addr) (pc:Nat) (ps:List Int) (w:World) (he:aQ w ao es) (hl:es.length≤4611686018427387904) (hF:dI w f s) (hp:gI w pa ps.length pc ps):
 Calls Tryz.prog 12 #[.agg #[.int .i64 n,.slice ao es.length cap],f.val s,.slice pa ps.length pc] w (LI n es s ps w):=by
 obtain⟨W,hW⟩:∃W,W=(w.alloc (.cells #[.int .i64 n,.slice ao es.length cap] 24)).alloc (.cells #[.slice f.a1 s.par.length f.c1,.slice f.a2 s.az.length f.c2,.slice f.a3 s.ord.length f.c3,.slice f.a4 s.aJ.length f.c4] 36):=⟨_,rfl⟩
 have hB0:Below w.heap.size w W:=by rw[hW];exact((aae _ _).alloc (aad _) _).alloc (by simp) _
 have g1:W.heap[w.heap.size]? =some (.cells #[.int .i64 n,.slice ao es.length cap] 24 (0,0)):=by
  rw[hW,aap _ _ _ (by simp)]
  exact heap_alloc_new w _
 have g2:W.heap[w.heap.size+1]? =some (.cells #[.slice f.a1 s.par.length f.c1,.slice f.a2 s.az.length f.c2,.slice f.a3 s.ord.length f.c3,.slice f.a4 s.aJ.length f.c4] 36 (0,0)):=by
  rw[hW]
  have:=heap_alloc_new (w.alloc (.cells #[.int .i64 n,.slice ao es.length cap] 24)) (.cells #[.slice f.a1 s.par.length f.c1,.slice f.a2 s.az.length f.c2,.slice f.a3 s.ord.length f.c3,.slice f.a4 s.aJ.length f.c4] 36)
  simpa using this
 have uB:=Nu.hid (AQ n ao cap es f s W (he.later hB0) hl (hF.later hB0))
 unfold For.val at uB
 obtain⟨x0,x1,-⟩:=ay g1
 obtain⟨y0,y1,y2,y3,-⟩:=au g2
 rw[hW] at x0 x1 y0 y1 y2 y3 uB
 have HW:=Nu.hid hW
 have cZ:=Nu.hid hB0
 have HP:=Nu.hid (hp.later hB0)
 unfold For.val
 clear hW hB0 g1 g2 he hF hp
 go_enter Tryz.func12,Tryz.ntmps12
 go_wp2_with fail
 go_at_call 22
 refine uB.out.mono ?_
 rw[←HW.out]
 intro e1 w1 hrd
 rcases hrd with ⟨hv,rfl,hb⟩|⟨hv,hnf,rfl,hb⟩|⟨c,p,rfl,rfl,rfl,-,-,-,rfl,-,hwk,hb⟩
 ·have HB:=Nu.hid (cZ.out.trans (hb.mono cZ.out.size))
  clear hb x0 x1 y0 y1 y2 y3
  simp only[]
  go_wp2_with fail
  go_ret2
  exact⟨.inl ⟨hv,rfl⟩,HB.out⟩
 ·have HB:=Nu.hid (cZ.out.trans (hb.mono cZ.out.size))
  have HNF:=Nu.hid hnf
  clear hb x0 x1 y0 y1 y2 y3 hnf
  simp only[]
  go_wp2_with fail
  go_ret2
  exact⟨.inr (.inl ⟨hv,HNF.out,rfl⟩),HB.out⟩
 ·have HBw:=Nu.hid (cZ.out.trans (hb.mono cZ.out.size))
  have Du:=Nu.hid (HP.out.later hb)
  have HIP:=Nu.hid (wV hwk (HP.out.later hb))
  have fN:=Nu.hid hwk
  clear hb x0 x1 y0 y1 y2 y3 hwk
  simp only[]
  go_wp2_with fail
  go_at_call 23
  refine HIP.out.mono ?_
  rintro e2 w2 ⟨⟨b,rfl,nV⟩,hb2⟩
  have ct:=Nu.hid (HBw.out.trans (hb2.mono HBw.out.size))
  have af5:=Nu.hid (fN.out.later hb2)
  have kJ:=Nu.hid (Du.out.later hb2)
  have Uy:=Nu.hid nV
  clear hb2 nV
  cases b with
  |false=>
   simp only[]
   go_wp2_with fail
   go_ret2
   refine⟨.inr (.inr ⟨c.n,fN.out.val,fN.out.vf,rfl,.inl ⟨fun q=> ?_,rfl⟩⟩),ct.out⟩
   exact absurd (Uy.out.2 q) (by simp)
  |true=>
   have hpart:=Uy.out.1 rfl
   obtain⟨W3,hW3⟩:∃W3,W3=w2.alloc (.cells #[.pointer (some ⟨p,0,none⟩),.slice pa ps.length pc] 66):=⟨_,rfl⟩
   have hb3:Below w2.heap.size w2 W3:=by rw[hW3];exact(aae _ _).alloc (aad _) _
   have hJ:mY c p w2.heap.size pa pc ps W3:=by
    refine⟨af5.out.later hb3,?_,?_⟩
    ·rw[hW3,←hpart.1]
     exact heap_alloc_new w2 _
    ·rw[←hpart.1]
     exact kJ.out.later hb3
   have zJ:Hid (Calls Tryz.prog 24 #[.pointer (some ⟨w2.heap.size,0,none⟩)] W3 fun e w'=>∃b,e= .returned (.bool b)∧(b=true↔(Lr.df fN.out.val fN.out.vf).Aligned (sV ps))∧Below W3.heap.size W3 w'):=FU (sd:=sV ps) hJ (hpart.side _ _)
   have Ua:Hid (∀V,Below W3.heap.size W3 V→Calls Tryz.prog 25 #[.pointer (some ⟨w2.heap.size,0,none⟩)] V fun e w'=>∃b,e= .returned (.bool b)∧(b=true↔(Lr.df fN.out.val fN.out.vf).LR (sV ps))∧Below V.heap.size V w'):=fun V hV=>AW (hJ.later hV) (hpart.side _ _)
   have dm:=Nu.hid (ct.out.trans (hb3.mono ct.out.size))
   have WG:=Nu.hid hpart
   have nu:=Nu.hid hW3
   rw[hW3] at zJ
   clear hpart hW3 hb3 hJ
   simp only[]
   go_wp2_with fail
   go_at_call 24
   refine zJ.out.mono ?_
   rw[←nu.out]
   rintro e3 w4 ⟨b1,rfl,hb1,hb4⟩
   have gJ:=Nu.hid (dm.out.trans (hb4.mono dm.out.size))
   have aY:=Nu.hid hb1
   cases b1 with
   |false=>
    clear hb4 hb1
    simp only[]
    go_wp2_with fail
    go_ret2
    refine⟨.inr (.inr ⟨c.n,fN.out.val,fN.out.vf,rfl,.inr ⟨WG.out,false,rfl,(fun q=>by cases q),fun q=> ?_⟩⟩),gJ.out⟩
    exact absurd (aY.out.2 q.1) (by simp)
   |true=>
    have Uw:=Nu.hid (Ua.out w4 hb4)
    clear hb4 hb1
    simp only[]
    go_wp2_with (go_at_call 25;refine Uw.out.mono ?_;rintro e5 w5 ⟨b2,rfl,hb2,hb5⟩;have jX:=Nu.hid (gJ.out.trans (hb5.mono gJ.out.size));have PA:=Nu.hid hb2;clear hb5 hb2)
    go_ret2
    refine⟨.inr (.inr ⟨c.n,fN.out.val,fN.out.vf,rfl,.inr ⟨WG.out,b2,rfl,?_⟩⟩),jX.out⟩
    constructor
    ·exact fun q=>⟨aY.out.1 (by first|rfl|trivial),PA.out.1 q⟩
    ·exact fun q=>PA.out.2 q.2
end
section
namespace Df
def x7 (es:List (Int×Int)):Nat→St→List Nat→Option St
 |0,_,_=>none
 |_+1,s,[]=>some s
 |f+1,s,h::L=>
  if s.dir (h/2)≠-1 then x7 es f s L
  else if s.height (Cs.to es h)≠-1 then x7 es f (s.mark h) L
  else (x7 es f (s.go es h) (Cs.out es (Cs.to es h) (2*es.length))).bind fun s1=>x7 es f s1 L
theorem Ml {es:List (Int×Int)}:∀(f:Nat) {s s':St} {L:List Nat},x7 es f s L=some s'→∃k,R es k s L s':=by
 intro f
 induction f with
 |zero=>intro s s' L h;simp[x7] at h
 |succ f ih=>
  intro s s' L h
  cases L with
  |nil=>
   simp[x7] at h
   subst h
   exact⟨0,.nil _⟩
  |cons x L=>
   unfold x7 at h
   split at h
   ·rename_i hw
    obtain⟨k,hk⟩:=ih h
    exact⟨_,.old hw hk⟩
   ·rename_i hw
    have hw':s.dir (x/2)= -1:=by simpa using hw
    split at h
    ·rename_i hv
     obtain⟨k,hk⟩:=ih h
     exact⟨_,.back hw' hv hk⟩
    ·rename_i hv
     have hv':s.height (Cs.to es x)= -1:=by simpa using hv
     obtain⟨s1,h1,h2⟩:=acE.1 h
     obtain⟨j,hj⟩:=ih h1
     obtain⟨k,hk⟩:=ih h2
     exact⟨_,.tree hw' hv' hj hk⟩
end Df
end
section
open Go.RowKit Go.Sort
theorem CE {ops:Array Oper} {rest:List Oper} {o:Oper} {a:Act} {Q:Exit→Act→World→Prop} (hgd:o.guard=none) (s x:Operand)
 (ho:o.op= .call { callee:= .builtin .append,args:= #[s,x],argTypes:= #[22,22] }) (W:World) (B:Nat) (v:Value) (l:List (Int×Int)) (y z:Int) (hown:fj W B v l)
 (hB:B≤W.heap.size) (hl:l.length≤8796093022000) (hs:a.eval s=v) (hx:a.eval x= .slice (some ⟨W.heap.size,0,none⟩) 1 1)
 (h:∀v' w',fj w' B v' (l++[(y,z)])→Below B W w'→wpList Tryz.prog ops Q rest (a.put o.dst v') w'):
 wpList Tryz.prog ops Q (o::rest) a (W.alloc (.cells #[.int .i64 y,.int .i64 z] 33)):=by
 obtain⟨i0,hi,hz0,hz1,hz2⟩:=info_parts Tryz.wW
 have hb0:Below B W (W.alloc (.cells #[.int .i64 y,.int .i64 z] 33)):=(aae _ _).alloc hB _
 refine wpList_append_own _ hgd s x 22 ho B 33 i0 (.agg #[.int .i64 0,.int .i64 0]) 2 16 Tryz.underlying22 hi hz0 hz1 hz2 rfl (by decide) _ _ _ hs (abo hown _) ⟨W.heap.size,0,none⟩ 1 1 [.int .i64 y,.int .i64 z] hx rfl (Kj _ _ rfl _ _ _) (by simp[Value.oneCell']) (by unfold maxLen;omega) (by omega) (by simp;omega) ?_
 intro v' w' hown' hg _
 have ho':fj w' B v' (l++[(y,z)]):=by
  unfold fj
  rw[I3,aaA]
  exact hown'
 exact h v' w' ho' (hb0.grown hg (by simp;omega) (fun b hb=>(aa9 hown b hb).1))
end
section
open Go.RowKit
namespace Lw
def row (a v:Nat):List (Int×Int):=(List.range' (a+1) (v-(a+1))).map fun b:Nat=>((a:Int),(b:Int))
def jc (N:Nat):Nat→List (Int×Int)
 |0=>[]
 |u+1=>jc N u++row u N
theorem NK {a v:Nat} (h:a+1≤v):row a (v+1)=row a v++[((a:Int),(v:Int))]:=by
 unfold row
 rw[show v+1-(a+1)=(v-(a+1))+1 by omega,List.range'_1_concat,abl,show a+1+(v-(a+1))=v by omega]
 rfl
end Lw
def Mg (N:Nat) (w:World) (e:Ending) (w':World):Prop:=∃ao cap,e= .returned (.agg #[.int .i64 (N:Int),.slice ao (Lw.jc N N).length cap])∧aQ w' ao (Lw.jc N N)∧Below w.heap.size w w'
set_option maxRecDepth 100000 in
set_option maxHeartbeats 8000000 in
theorem tj (N:Nat) (hN:N≤10) (w:World):Calls Tryz.prog 18 #[.int .i64 (N:Int)] w (Mg N w):=by
 obtain⟨W1,hW1⟩:∃W1,W1=(w.alloc (.cells #[.int .i64 0,.slice none 0 0] 24)).alloc (.cells #[.int .i64 (N:Int),.slice none 0 0] 24):=⟨_,rfl⟩
 have hb1:Below w.heap.size w W1:=by rw[hW1];exact((aae _ _).alloc (aad _) _).alloc (by simp) _
 have hs1:W1.heap.size=w.heap.size+2:=by rw[hW1];simp
 have a0:W1.heap[w.heap.size]? =some (.cells #[.int .i64 0,.slice none 0 0] 24 (0,0)):=by
  rw[hW1,aap _ _ _ (by simp)]
  exact heap_alloc_new w _
 have a1:W1.heap[w.heap.size+1]? =some (.cells #[.int .i64 (N:Int),.slice none 0 0] 24 (0,0)):=by
  rw[hW1]
  have:=heap_alloc_new (w.alloc (.cells #[.int .i64 0,.slice none 0 0] 24)) (.cells #[.int .i64 (N:Int),.slice none 0 0] 24)
  rw[show(w.alloc (.cells #[.int .i64 0,.slice none 0 0] 24)).heap.size=w.heap.size+1 by simp] at this
  exact this
 have jE:=Nu.hid hW1
 have aY:=Nu.hid hb1
 have F8:=Nu.hid hs1
 have CB:=Nu.hid a0
 have CA:=Nu.hid a1
 clear hW1 hb1 hs1 a0 a1
 go_enter Tryz.func18,Tryz.ntmps18
 go_wp2_with fail
 rw[←jE.out]
 go_loopw [4] (fun uv wr=>∃(u:Nat) (v:Value),uv= .int .i64 (u:Int)∧u≤N∧(Lw.jc N u).length≤u*16∧wr.heap[w.heap.size]? =some (.cells #[.int .i64 0,.slice none 0 0] 24 (0,0))∧wr.heap[w.heap.size+1]? =some (.cells #[.int .i64 (N:Int),v] 24 (0,0))∧fj wr (w.heap.size+2) v (Lw.jc N u)∧Below w.heap.size w wr∧w.heap.size+2≤wr.heap.size) (fun uv _=>N-(intOf uv).toNat)
 case atStart=>exact⟨0,_,rfl,aax _,by simp[Lw.jc],CB.out,CA.out,acO _ _ _ _,aY.out,by have:=F8.out;omega⟩
 case round=>
  obtain⟨u,v,rfl,huN,sK,b0,b1,hown,dg,hsz⟩:=hrel
  by_cases hlt:u<N
  ·have i1:(u:Int)<(N:Int):=by omega
   have i2:(u:Int)+1≤11:=by omega
   have HST:Hid ((Lw.jc N u++Lw.row u (u+1)).length≤u*16+(u+1)∧wr.heap[w.heap.size]? =some (.cells #[.int .i64 0,.slice none 0 0] 24 (0,0))∧wr.heap[w.heap.size+1]? =some (.cells #[.int .i64 (N:Int),v] 24 (0,0))∧fj wr (w.heap.size+2) v (Lw.jc N u++Lw.row u (u+1))∧Below w.heap.size w wr∧w.heap.size+2≤wr.heap.size):=by
    have e:Lw.row u (u+1)=[]:=by unfold Lw.row;simp
    rw[e,abf]
    exact⟨by omega,b0,b1,hown,dg,hsz⟩
   clear b0 b1 hown dg hsz sK
   go_wp2_with fail
   go_loopw [5] (fun vv wr=>∃(x:Nat) (v:Value),vv= .int .i64 (x:Int)∧u+1≤x∧x≤N∧(Lw.jc N u++Lw.row u x).length≤u*16+x∧wr.heap[w.heap.size]? =some (.cells #[.int .i64 0,.slice none 0 0] 24 (0,0))∧wr.heap[w.heap.size+1]? =some (.cells #[.int .i64 (N:Int),v] 24 (0,0))∧fj wr (w.heap.size+2) v (Lw.jc N u++Lw.row u x)∧Below w.heap.size w wr∧w.heap.size+2≤wr.heap.size) (fun vv _=>N-(intOf vv).toNat)
   case atStart=>exact⟨u+1,v,by simp,aad _,hlt,HST.out⟩
   case round=>
    obtain⟨x,v',rfl,hux,hxN,sK,b0,b1,hown,dg,hsz⟩:=hrel
    by_cases hx:x<N
    ·have j1:(x:Int)<(N:Int):=by omega
     have j2:(x:Int)+1≤11:=by omega
     obtain⟨x0,x1,x2⟩:=ay b1
     obtain⟨l,hl⟩:∃l,Lw.jc N u++Lw.row u x=l:=⟨_,rfl⟩
     have fM:Lw.jc N u++Lw.row u (x+1)=l++[((u:Int),(x:Int))]:=by rw[Lw.NK hux,←aaH,hl]
     rw[hl] at hown sK
     obtain⟨vo,vc,hve,-,-,-,-⟩:=hown.form
     subst hve
     have yO:=Nu.hid hown
     have cZ:=Nu.hid b0
     have aY:=Nu.hid b1
     have wh:=Nu.hid dg
     have kK:=Nu.hid fM
     have L8:=Nu.hid sK
     clear b0 b1 hown dg hl fM sK
     go_wp2_with (at_builtin;refine CE rfl _ _ rfl wr (w.heap.size+2) (.slice vo l.length vc) l (u:Int) (x:Int) yO.out hsz (by have:=L8.out;omega) rfl rfl ?_;refine aaB ?_)
     refine Nu.hid ?_
     intro v5 w5 KT hb5
     have e0:=(hb5.block w.heap.size (by omega)).trans cZ.out
     have e1:=(hb5.block (w.heap.size+1) (by omega)).trans aY.out
     obtain⟨y0,y1,y2⟩:=ay e1
     obtain⟨Gp,Gq,hv5,-,-,-,-⟩:=KT.form
     rw[aaA,abn] at hv5
     subst hv5
     have fB:Hid ((w5.setCell ⟨w.heap.size+1,1,none⟩ (.slice Gp (l.length+1) Gq)).heap[w.heap.size]? =some (.cells #[.int .i64 0,.slice none 0 0] 24 (0,0))∧(w5.setCell ⟨w.heap.size+1,1,none⟩ (.slice Gp (l.length+1) Gq)).heap[w.heap.size+1]? =some (.cells #[.int .i64 (N:Int),.slice Gp (l.length+1) Gq] 24 (0,0))∧fj (w5.setCell ⟨w.heap.size+1,1,none⟩ (.slice Gp (l.length+1) Gq)) (w.heap.size+2) (.slice Gp (l.length+1) Gq) (l++[((u:Int),(x:Int))])∧Below w.heap.size w (w5.setCell ⟨w.heap.size+1,1,none⟩ (.slice Gp (l.length+1) Gq))∧w.heap.size+2≤(w5.setCell ⟨w.heap.size+1,1,none⟩ (.slice Gp (l.length+1) Gq)).heap.size):=by
      refine⟨(heap_setCell_other w5 ⟨w.heap.size+1,1,none⟩ _ _ (by simp)).trans e0,?_,?_,?_,?_⟩
      ·have:=heap_setCell_same w5 (w.heap.size+1) 1 _ _ (.slice Gp (l.length+1) Gq) e1
       simpa using this
      ·refine mz KT fun g hg hB _=>heap_setCell_other w5 ⟨w.heap.size+1,1,none⟩ g _ (by show g≠w.heap.size+1;omega)
      ·exact((wh.out.trans (hb5.mono (by omega))).setCell (p:=⟨w.heap.size+1,1,none⟩) (by show w.heap.size≤w.heap.size+1;omega) _)
      ·have:=hb5.size
       simp
       omega
     clear e0 e1 KT hb5 x0 x1 x2
     go_wp2_with fail
     go_roundw
     case rel=>
      obtain⟨r1,r2,r3,r4,r5⟩:=fB.out
      refine⟨x+1,_,by simp,by omega,hx,?_,r1,r2,?_,r4,r5⟩
      ·rw[kK.out]
       have:=L8.out
       simp
       omega
      ·rw[kK.out]
       exact r3
     case measure=>
      simp[intOf]
      omega
    ·obtain rfl:x=N:=by omega
     have fB:Hid ((Lw.jc x (u+1)).length≤(u+1)*16∧wr.heap[w.heap.size]? =some (.cells #[.int .i64 0,.slice none 0 0] 24 (0,0))∧wr.heap[w.heap.size+1]? =some (.cells #[.int .i64 (x:Int),v'] 24 (0,0))∧fj wr (w.heap.size+2) v' (Lw.jc x (u+1))∧Below w.heap.size w wr∧w.heap.size+2≤wr.heap.size):=⟨by show(Lw.jc x u++Lw.row u x).length≤_;omega,b0,b1,hown,dg,hsz⟩
     clear b0 b1 hown dg hsz sK
     go_wp2_with fail
     go_roundw
     case rel=>exact⟨u+1,v',by simp,hlt,fB.out⟩
     case measure=>
      simp[intOf]
      omega
  ·obtain rfl:u=N:=by omega
   obtain⟨vo,vc,hve,-,-,hat,-⟩:=hown.form
   subst hve
   obtain⟨x0,x1,x2⟩:=ay b1
   obtain⟨z0,z1,z2⟩:=ay b0
   have cZ:=Nu.hid b0
   have JD:=Nu.hid hat
   have wh:=Nu.hid dg
   have yO:=Nu.hid hown
   clear b0 b1 hown dg hat sK
   go_wp2_with fail
   refine bodyPost_ret (v:= .agg #[.int .i64 (u:Int),.slice vo (Lw.jc u u).length vc]) (results_cell_row (p:=2) (ty:=24) Tryz.results18 _ _ w.heap.size 24 _ (0,0) _ rfl (gD cZ.out _ _) Tryz.underlying24 rfl (by kernel_rfl)) rfl ?_
   refine⟨vo,vc,rfl,?_,?_⟩
   ·have h1:fj ((wr.setCell ⟨w.heap.size,0,none⟩ (.int .i64 (u:Int))).setCell ⟨w.heap.size,1,none⟩ (.slice vo (Lw.jc u u).length vc)) (w.heap.size+2) (.slice vo (Lw.jc u u).length vc) (Lw.jc u u):=mz yO.out fun g hg hB _=>by
     rw[heap_setCell_other _ ⟨w.heap.size,1,none⟩ g _ (by show g≠w.heap.size;omega),heap_setCell_other _ ⟨w.heap.size,0,none⟩ g _ (by show g≠w.heap.size;omega)]
    obtain⟨vo',vc',e,-,-,hat,-⟩:=h1.form
    cases e
    exact hat
   ·exact(wh.out.setCell (p:=⟨w.heap.size,0,none⟩) (aad _) _).setCell (p:=⟨w.heap.size,1,none⟩) (aad _) _
end
section
open Go.RowKit Go.Sort
theorem EJ {ops:Array Oper} {rest:List Oper} {o:Oper} {a:Act} {Q:Exit→Act→World→Prop} (hgd:o.guard=none) (s x:Operand)
 (ho:o.op= .call { callee:= .builtin .append,args:= #[s,x],argTypes:= #[27,27] }) (W:World) (B:Nat) (v:Value) (l:List Int) (z:Int) (hown:aP W B v l)
 (hB:B≤W.heap.size) (hl:l.length≤17592186044000) (hs:a.eval s=v) (hx:a.eval x= .slice (some ⟨W.heap.size,0,none⟩) 1 1)
 (h:∀v' w',aP w' B v' (l++[z])→(W.alloc (.cells #[.int .i64 z] 3)).grownBy w' v.ownBlock→(v'.ownBlock=v.ownBlock∨v'.ownBlock=some (W.heap.size+1))→Below B W w'→wpList Tryz.prog ops Q rest (a.put o.dst v') w'):
 wpList Tryz.prog ops Q (o::rest) a (W.alloc (.cells #[.int .i64 z] 3)):=by
 obtain⟨i0,hi,hz0,hz1,hz2⟩:=info_parts Tryz.bO
 have hb0:Below B W (W.alloc (.cells #[.int .i64 z] 3)):=(aae _ _).alloc hB _
 refine wpList_append_own_at _ hgd s x 27 ho B 3 i0 (.int .i64 0) 1 8 Tryz.underlying27 hi hz0 hz1 hz2 rfl (by decide) _ _ _ hs (abo hown _) ⟨W.heap.size,0,none⟩ 1 1 [.int .i64 z] hx rfl (cell_one_new _ _ _) (by simp[Value.oneCell']) (by unfold maxLen;omega) (by omega) (by simp;omega) ?_
 intro v' w' hown' hg _ hat
 have ho':aP w' B v' (l++[z]):=by
  unfold aP
  rw[aaA,abl]
  exact hown'
 have Vk:∀b,v.ownBlock=some b→B≤b:=fun b hb=>(aa9 hown b hb).1
 refine h v' w' ho' hg (by simpa using hat) (hb0.grown hg (by simp;omega) Vk)
end
end Go.Proofs.YtdjmnpmdmjclhabGreat
