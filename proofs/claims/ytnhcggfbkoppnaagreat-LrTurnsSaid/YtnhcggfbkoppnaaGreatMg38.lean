import Derived.Test.YtnhcggfbkoppnaaGreatMg37
import Derived.Test.YtnhcggfbkoppnaaGreatMg24
import Derived.Test.YtnhcggfbkoppnaaGreatMg35
import Derived.Test.YtnhcggfbkoppnaaGreatMg34
import Derived.Test.YtnhcggfbkoppnaaGreatMg36
import Derived.Test.YtnhcggfbkoppnaaGreatMg00
import Derived.Test.YtnhcggfbkoppnaaGreatMg05
import Derived.Laws.AppendOwnNone
import Derived.Sort.Grow
import Derived.Test.YtnhcggfbkoppnaaGreatMg04
import Derived.Test.YtnhcggfbkoppnaaGreatMg42
import Derived.Test.YtnhcggfbkoppnaaGreatMg33
import Derived.Test.YtnhcggfbkoppnaaGreatMg15
import Derived.Test.YtnhcggfbkoppnaaGreatMg03
import Derived.Maps.AppendAt
namespace Go.Proofs.YtnhcggfbkoppnaaGreat
section
open Go.RowKit Lt Pl
namespace Lt
theorem z8 {v v' L R:Nat→Int}:∀{l:List Nat},(∀e∈l,v e=v' e)→(wC v L R l↔wC v' L R l)
 |[],_=>Iff.rfl
 |e::l,h=>by
  unfold wC
  rw[h e List.mem_cons_self,z8 fun x hx=>h x (List.mem_cons_of_mem _ hx)]
theorem eE.congr {v v' L R:Nat→Int} {l:List Nat} (h:∀e∈l,v e=v' e):eE v L R l↔eE v' L R l:=by
 unfold eE
 rw[z8 (l:=l.reverse) fun e he=>h e (List.mem_reverse.1 he)]
 have key:∀i,Aa v L R l i↔Aa v' L R l i:=fun i=>by
  unfold Aa gu
  constructor
  ·intro k hl
   have:=k hl
   split at this
   ·rename_i q
    rw[if_pos q]
    rw[List.getElem?_eq_getElem hl,Option.getD_some] at this ⊢
    rw[←h _ (List.getElem_mem hl)]
    exact this
   ·rename_i q
    rw[if_neg q]
    have h0:0<l.length:=by omega
    rw[List.getElem?_eq_getElem h0,Option.getD_some] at this ⊢
    rw[←h _ (List.getElem_mem h0)]
    exact this
  ·intro k hl
   have:=k hl
   split at this
   ·rename_i q
    rw[if_pos q]
    rw[List.getElem?_eq_getElem hl,Option.getD_some] at this ⊢
    rw[h _ (List.getElem_mem hl)]
    exact this
   ·rename_i q
    rw[if_neg q]
    have h0:0<l.length:=by omega
    rw[List.getElem?_eq_getElem h0,Option.getD_some] at this ⊢
    rw[h _ (List.getElem_mem h0)]
    exact this
 simp only[key]
end Lt
section
variable {c:Wp} {p j:Nat} {pa:Option Addr} {pc:Nat} {ps:List Int} {W:World} {sd:Nat→Bool}
set_option maxRecDepth 100000 in
set_option maxHeartbeats 16000000 in
theorem Aq (h:mQ c p j pa pc ps W) (hps:∀e,e<c.es.length→ps[e]?.getD 0=cU (Lr.df h.wk.val h.wk.vf) sd e):
 Calls Tryz.prog 41 #[.pointer (some ⟨j,0,none⟩)] W fun e w'=>∃b,e= .returned (.bool b)∧(b=true↔(Lr.df h.wk.val h.wk.vf).LR sd)∧Below W.heap.size W w':=by
 have hhi:=h.wk.val.hi
 have HI:=Nu.hid (Ny h)
 have HJ:=Nu.hid h
 have Vx:=Nu.hid hps
 have jx:Hid (∀(s:Bool) (GI:Nat) (vs:List Value) (V:World),Below W.heap.size W V→bW V 0 (.slice (some ⟨GI,0,none⟩) c.n c.n) vs (eK c.n c.es c.s c.es.length)→Calls Tryz.prog 72 #[.pointer (some ⟨j,0,none⟩),.int .i64 (uE s),.slice (some ⟨GI,0,none⟩) c.n c.n] V fun e w'=>∃TP tp,e= .returned (.slice (some ⟨TP,0,none⟩) c.es.length c.es.length)∧aq w' TP tp∧tp.length=c.es.length∧(∀e,e<c.es.length→mU (Lr.df h.wk.val h.wk.vf) sd s e (g tp e))∧V.heap.size≤TP∧Below V.heap.size V w'):=fun s GI vs V hV hR=>MR (h.later hV) hps hR
 clear hps
 go_enter Tryz.func41,Tryz.ntmps41
 go_wp2_with fail
 go_at_call 71
 refine HI.out.mono ?_
 rintro e W1 ⟨GI,vs,rfl,hrows,hb1⟩
 have uh:=Nu.hid (hrows.lower (Nat.zero_le _))
 have aV:=Nu.hid hb1
 have nY:=Nu.hid (jx.out false GI vs W1 hb1 (hrows.lower (Nat.zero_le _)))
 clear hrows hb1 HI
 simp only[]
 go_wp2_with fail
 go_at_call 72
 refine nY.out.mono ?_
 rintro e W2 ⟨LB,tl,rfl,il,ll,hl,hLl,hb2⟩
 have cz:=Nu.hid hb2
 have VH:=Nu.hid il
 have yT:=Nu.hid ll
 have HHL:=Nu.hid hl
 have TB:Hid (Below W.heap.size W W2):=aV.out.trans (hb2.mono aV.out.size)
 have uq:=Nu.hid (jx.out true GI vs W2 TB.out (uh.out.later hb2))
 clear il ll hl hLl hb2 nY
 simp only[]
 go_wp2_with fail
 go_at_call 72
 refine uq.out.mono ?_
 rintro e W3 ⟨RB,tr,rfl,ir,lr,hr,CM,hb3⟩
 have OG:=Nu.hid ir
 have Td:=Nu.hid lr
 have HHR:=Nu.hid hr
 have afF:=Nu.hid (VH.out.later hb3)
 have Ca:Hid (Below W.heap.size W W3):=TB.out.trans (hb3.mono TB.out.size)
 clear ir lr hr CM hb3 uq
 have hJ3:=HJ.out.later Ca.out
 have x0:=hJ3.cells.1
 have x9:=hJ3.wk.c9
 obtain⟨oo,oc,Ip⟩:∃oo oc,c.vo= .slice oo c.n oc:=by
  obtain⟨ao,cc,e⟩:=zU HJ.out.wk.out
  rw[Lo.dw] at e
  exact⟨ao,cc,e⟩
 rw[Ip] at x9
 have agd:Hid (∀V,Below W3.heap.size W3 V→∀v,v<c.n→Calls Tryz.prog 73 #[.pointer (some ⟨j,0,none⟩),.int .i64 (v:Int),.slice (some ⟨LB,0,none⟩) c.es.length c.es.length,.slice (some ⟨RB,0,none⟩) c.es.length c.es.length] V fun e w'=>∃b,e= .returned (.bool b)∧(b=true↔eE (Lo.low c.es c.s) (g tl) (g tr) (c.oe v))∧Below V.heap.size V w'):=fun V hV v hv=>Fu (HJ.out.later (Ca.out.trans (hV.mono Ca.out.size))) (afF.out.later hV) (OG.out.later hV) yT.out Td.out hv
 have Yj:Hid ((∀v,v<c.n→eE (Lo.low c.es c.s) (g tl) (g tr) (c.oe v))↔(Lr.df h.wk.val h.wk.vf).LR sd):=by
  have hE:=Wp.Bi h.wk.val h.wk.vf
  have:=Ub (L:=g tl) (R:=g tr) hE.lw ⟨HHL.out,HHR.out⟩ hE.mem hE.nd hE.Cq
  show _↔_
  rw[←this]
  constructor
  ·intro q v hv
   exact(eE.congr fun e he=>Wp.mM ((hE.mem v e).1 he).1).2 (q v hv)
  ·intro q v hv
   exact(eE.congr fun e he=>Wp.mM ((hE.mem v e).1 he).1).1 (q v hv)
 clear hJ3 Ip
 simp only[]
 go_wp2_with fail
 go_loopw [24] (fun iv wr=>∃i:Nat,iv= .int .i64 (i:Int)∧i≤c.n∧(∀v,v<i→eE (Lo.low c.es c.s) (g tl) (g tr) (c.oe v))∧Below W3.heap.size W3 wr) (fun iv _=>c.n-(intOf iv).toNat)
 case atStart=>exact⟨0,rfl,Nat.zero_le _,fun v hv=>absurd hv (by omega),Below.refl _ _⟩
 case round=>
  obtain⟨i,rfl,hin,hall,hb⟩:=hrel
  by_cases hlt:i<c.n
  ·have mY:=Nu.hid (agd.out wr hb i hlt)
   have qg:=Nu.hid hall
   have HB:=Nu.hid hb
   have i0:(0:Int)≤(i:Int):=by omega
   have i1:(i:Int)<(c.n:Int):=by omega
   have i2:(i:Int)+1≤4194304:=by omega
   clear hall hb
   go_wp2_with fail
   go_at_call 73
   refine mY.out.mono ?_
   rintro e w4 ⟨b,rfl,nM,hb4⟩
   have gJ:=Nu.hid (HB.out.trans (hb4.mono HB.out.size))
   have TC:=Nu.hid nM
   clear nM hb4
   cases b with
   |true=>
    simp only[]
    go_wp2_with fail
    go_roundw
    case rel=>
     refine⟨i+1,by simp,by omega,fun v hv=> ?_,gJ.out⟩
     by_cases e:v=i
     ·rw[e];exact TC.out.1 rfl
     ·exact qg.out v (by omega)
    case measure=>
     simp[intOf]
     omega
   |false=>
    simp only[]
    go_wp2_with fail
    go_ret
    refine⟨false,rfl,⟨(fun q=>by cases q),fun q=> ?_⟩,Ca.out.trans (gJ.out.mono Ca.out.size)⟩
    exact absurd (TC.out.2 (Yj.out.2 q i hlt)) (by simp)
  ·obtain rfl:i=c.n:=by omega
   have qg:=Nu.hid hall
   have HB:=Nu.hid hb
   clear hall hb
   go_wp2_with fail
   go_ret
   exact⟨true,rfl,⟨fun _=>Yj.out.1 qg.out,fun _=>rfl⟩,Ca.out.trans (HB.out.mono Ca.out.size)⟩
end
end
section
open Go.RowKit Lt Pl
def kF (ps:List Int) (e:Nat):Bool:=decide (ps[e]?.getD 0=1)
theorem gN.side {n:Nat} {es:List (Int×Int)} {s:Df.St} {ps:List Int} (hv:Si.Val n es) (hf:Df.VF n es s) (h:gN es s ps) (e:Nat) (he:e<es.length):ps[e]?.getD 0=cU (Lr.df hv hf) (kF ps) e:=by
 have h1:=h.2 e he
 unfold eJ at h1
 unfold cU
 show _=if Lo.tree es s e=true then _ else _
 unfold kF
 by_cases ht:Lo.tree es s e=true
 ·rw[if_pos ht] at h1 ⊢
  exact h1
 ·rw[if_neg ht] at h1 ⊢
  rcases h1 with q|q<;>rw[q]<;>simp
def K0 (n:Int) (es:List (Int×Int)) (s:Df.St) (ps:List Int) (w:World) (e:Ending) (w':World):Prop:=
 ((Si.valid n es=false∧e= .returned (.tuple #[.bool false,.int .i64 1]))∨
   (Si.valid n es=true∧¬oK n es s∧e= .returned (.tuple #[.bool false,.int .i64 80]))∨
   ∃(m:Nat) (hv:Si.Val m es) (hf:Df.VF m es s),n=(m:Int)∧((¬gN es s ps∧e= .returned (.tuple #[.bool false,.int .i64 100]))∨(gN es s ps∧∃b,e= .returned (.tuple #[.bool b,.int .i64 0])∧(b=true↔(Lr.df hv hf).Aligned (kF ps)∧(Lr.df hv hf).LR (kF ps)))))∧
 Below w.heap.size w w'
set_option maxRecDepth 100000 in
set_option maxHeartbeats 16000000 in
theorem xK (n:Int) (ao:Option Addr) (cap:Nat) (es:List (Int×Int)) (f:For) (s:Df.St) (pa:Option Addr) (pc:Nat) (ps:List Int) (w:World) (he:aL w ao es) (hl:es.length≤4611686018427387904) (hF:dF w f s) (hp:iu w pa ps.length pc ps):
 Calls Tryz.prog 19 #[.agg #[.int .i64 n,.slice ao es.length cap],f.val s,.slice pa ps.length pc] w (K0 n es s ps w):=by
 obtain⟨W,hW⟩:∃W,W=(w.alloc (.cells #[.int .i64 n,.slice ao es.length cap] 24)).alloc (.cells #[.slice f.a1 s.par.length f.c1,.slice f.a2 s.ay.length f.c2,.slice f.a3 s.ord.length f.c3,.slice f.a4 s.aJ.length f.c4] 36):=⟨_,rfl⟩
 have hB0:Below w.heap.size w W:=by rw[hW];exact((Below.refl _ _).alloc (Nat.le_refl _) _).alloc (by simp) _
 have g1:W.heap[w.heap.size]? =some (.cells #[.int .i64 n,.slice ao es.length cap] 24 (0,0)):=by
  rw[hW,Below.heap_alloc _ _ _ (by simp)]
  exact heap_alloc_new w _
 have g2:W.heap[w.heap.size+1]? =some (.cells #[.slice f.a1 s.par.length f.c1,.slice f.a2 s.ay.length f.c2,.slice f.a3 s.ord.length f.c3,.slice f.a4 s.aJ.length f.c4] 36 (0,0)):=by
  rw[hW]
  have:=heap_alloc_new (w.alloc (.cells #[.int .i64 n,.slice ao es.length cap] 24)) (.cells #[.slice f.a1 s.par.length f.c1,.slice f.a2 s.ay.length f.c2,.slice f.a3 s.ord.length f.c3,.slice f.a4 s.aJ.length f.c4] 36)
  simpa using this
 have ug:=Nu.hid (Ak n ao cap es f s W (he.later hB0) hl (hF.later hB0))
 unfold For.val at ug
 obtain⟨x0,x1,-⟩:=az g1
 obtain⟨y0,y1,y2,y3,-⟩:=au g2
 rw[hW] at x0 x1 y0 y1 y2 y3 ug
 have HW:=Nu.hid hW
 have dm:=Nu.hid hB0
 have HP:=Nu.hid (hp.later hB0)
 unfold For.val
 clear hW hB0 g1 g2 he hF hp
 go_enter Tryz.func19,Tryz.ntmps19
 go_wp2_with fail
 go_at_call 38
 refine ug.out.mono ?_
 rw[←HW.out]
 intro e1 w1 hrd
 rcases hrd with ⟨hv,rfl,hb⟩|⟨hv,hnf,rfl,hb⟩|⟨c,p,rfl,rfl,rfl,-,-,-,rfl,-,hwk,hb⟩
 ·have HB:=Nu.hid (dm.out.trans (hb.mono dm.out.size))
  clear hb x0 x1 y0 y1 y2 y3
  simp only[]
  go_wp2_with fail
  go_ret2
  exact⟨.inl ⟨hv,rfl⟩,HB.out⟩
 ·have HB:=Nu.hid (dm.out.trans (hb.mono dm.out.size))
  have HNF:=Nu.hid hnf
  clear hb x0 x1 y0 y1 y2 y3 hnf
  simp only[]
  go_wp2_with fail
  go_ret2
  exact⟨.inr (.inl ⟨hv,HNF.out,rfl⟩),HB.out⟩
 ·have HBw:=Nu.hid (dm.out.trans (hb.mono dm.out.size))
  have C3:=Nu.hid (HP.out.later hb)
  have HIP:=Nu.hid (wG hwk (HP.out.later hb))
  have fO:=Nu.hid hwk
  clear hb x0 x1 y0 y1 y2 y3 hwk
  simp only[]
  go_wp2_with fail
  go_at_call 39
  refine HIP.out.mono ?_
  rintro e2 w2 ⟨⟨b,rfl,nM⟩,hb2⟩
  have cz:=Nu.hid (HBw.out.trans (hb2.mono HBw.out.size))
  have aeU:=Nu.hid (fO.out.later hb2)
  have ko:=Nu.hid (C3.out.later hb2)
  have TC:=Nu.hid nM
  clear hb2 nM
  cases b with
  |false=>
   simp only[]
   go_wp2_with fail
   go_ret2
   refine⟨.inr (.inr ⟨c.n,fO.out.val,fO.out.vf,rfl,.inl ⟨fun q=> ?_,rfl⟩⟩),cz.out⟩
   exact absurd (TC.out.2 q) (by simp)
  |true=>
   have hpart:=TC.out.1 rfl
   obtain⟨W3,hW3⟩:∃W3,W3=w2.alloc (.cells #[.pointer (some ⟨p,0,none⟩),.slice pa ps.length pc] 80):=⟨_,rfl⟩
   have hb3:Below w2.heap.size w2 W3:=by rw[hW3];exact(Below.refl _ _).alloc (Nat.le_refl _) _
   have hJ:mQ c p w2.heap.size pa pc ps W3:=by
    refine⟨aeU.out.later hb3,?_,?_⟩
    ·rw[hW3,←hpart.1]
     exact heap_alloc_new w2 _
    ·rw[←hpart.1]
     exact ko.out.later hb3
   have yU:Hid (Calls Tryz.prog 40 #[.pointer (some ⟨w2.heap.size,0,none⟩)] W3 fun e w'=>∃b,e= .returned (.bool b)∧(b=true↔(Lr.df fO.out.val fO.out.vf).Aligned (kF ps))∧Below W3.heap.size W3 w'):=Fv (sd:=kF ps) hJ (hpart.side _ _)
   have Td:Hid (∀V,Below W3.heap.size W3 V→Calls Tryz.prog 41 #[.pointer (some ⟨w2.heap.size,0,none⟩)] V fun e w'=>∃b,e= .returned (.bool b)∧(b=true↔(Lr.df fO.out.val fO.out.vf).LR (kF ps))∧Below V.heap.size V w'):=fun V hV=>Aq (hJ.later hV) (hpart.side _ _)
   have dM:=Nu.hid (cz.out.trans (hb3.mono cz.out.size))
   have S4:=Nu.hid hpart
   have m8:=Nu.hid hW3
   rw[hW3] at yU
   clear hpart hW3 hb3 hJ
   simp only[]
   go_wp2_with fail
   go_at_call 40
   refine yU.out.mono ?_
   rw[←m8.out]
   rintro e3 w4 ⟨b1,rfl,hb1,hb4⟩
   have gJ:=Nu.hid (dM.out.trans (hb4.mono dM.out.size))
   have aV:=Nu.hid hb1
   cases b1 with
   |false=>
    clear hb4 hb1
    simp only[]
    go_wp2_with fail
    go_ret2
    refine⟨.inr (.inr ⟨c.n,fO.out.val,fO.out.vf,rfl,.inr ⟨S4.out,false,rfl,(fun q=>by cases q),fun q=> ?_⟩⟩),gJ.out⟩
    exact absurd (aV.out.2 q.1) (by simp)
   |true=>
    have Tz:=Nu.hid (Td.out w4 hb4)
    clear hb4 hb1
    simp only[]
    go_wp2_with (go_at_call 41;refine Tz.out.mono ?_;rintro e5 w5 ⟨b2,rfl,hb2,hb5⟩;have gj:=Nu.hid (gJ.out.trans (hb5.mono gJ.out.size));have OP:=Nu.hid hb2;clear hb5 hb2)
    go_ret2
    refine⟨.inr (.inr ⟨c.n,fO.out.val,fO.out.vf,rfl,.inr ⟨S4.out,b2,rfl,?_⟩⟩),gj.out⟩
    constructor
    ·exact fun q=>⟨aV.out.1 (by first|rfl|trivial),OP.out.1 q⟩
    ·exact fun q=>OP.out.2 q.2
end
section
open Go.RowKit Go.Sort
theorem Cg {ops:Array Oper} {rest:List Oper} {o:Oper} {a:Act} {Q:Exit→Act→World→Prop} (hgd:o.guard=none) (s x:Operand)
 (ho:o.op= .call { callee:= .builtin .append,args:= #[s,x],argTypes:= #[22,22] }) (W:World) (B:Nat) (v:Value) (l:List (Int×Int)) (y z:Int) (hown:jK W B v l)
 (hB:B≤W.heap.size) (hl:l.length≤8796093022000) (hs:a.eval s=v) (hx:a.eval x= .slice (some ⟨W.heap.size,0,none⟩) 1 1)
 (h:∀v' w',jK w' B v' (l++[(y,z)])→Below B W w'→wpList Tryz.prog ops Q rest (a.put o.dst v') w'):
 wpList Tryz.prog ops Q (o::rest) a (W.alloc (.cells #[.int .i64 y,.int .i64 z] 55)):=by
 obtain⟨i0,hi,hz0,hz1,hz2⟩:=info_parts Tryz.Dw
 have hb0:Below B W (W.alloc (.cells #[.int .i64 y,.int .i64 z] 55)):=(Below.refl _ _).alloc hB _
 refine wpList_append_own _ hgd s x 22 ho B 55 i0 (.agg #[.int .i64 0,.int .i64 0]) 2 16 Tryz.underlying22 hi hz0 hz1 hz2 rfl (by decide) _ _ _ hs (World.ownsRow.alloc hown _) ⟨W.heap.size,0,none⟩ 1 1 [.int .i64 y,.int .i64 z] hx rfl (JM _ _ rfl _ _ _) (by simp[Value.oneCell']) (by unfold maxLen;omega) (by omega) (by simp;omega) ?_
 intro v' w' hown' hg _
 have ho':jK w' B v' (l++[(y,z)]):=by
  unfold jK
  rw[Il,List.length_append]
  exact hown'
 exact h v' w' ho' (hb0.grown hg (by simp;omega) (fun b hb=>(World.ownsRow.lt hown b hb).1))
end
section
open Go.RowKit
namespace Lw
def row (a v:Nat):List (Int×Int):=(List.range' (a+1) (v-(a+1))).map fun b:Nat=>((a:Int),(b:Int))
def iW (N:Nat):Nat→List (Int×Int)
 |0=>[]
 |u+1=>iW N u++row u N
theorem M5 {a v:Nat} (h:a+1≤v):row a (v+1)=row a v++[((a:Int),(v:Int))]:=by
 unfold row
 rw[show v+1-(a+1)=(v-(a+1))+1 by omega,List.range'_1_concat,List.map_append,show a+1+(v-(a+1))=v by omega]
 rfl
end Lw
def LC (N:Nat) (w:World) (e:Ending) (w':World):Prop:=∃ao cap,e= .returned (.agg #[.int .i64 (N:Int),.slice ao (Lw.iW N N).length cap])∧aL w' ao (Lw.iW N N)∧Below w.heap.size w w'
set_option maxRecDepth 100000 in
set_option maxHeartbeats 8000000 in
theorem sM (N:Nat) (hN:N≤10) (w:World):Calls Tryz.prog 28 #[.int .i64 (N:Int)] w (LC N w):=by
 obtain⟨W1,hW1⟩:∃W1,W1=(w.alloc (.cells #[.int .i64 0,.slice none 0 0] 24)).alloc (.cells #[.int .i64 (N:Int),.slice none 0 0] 24):=⟨_,rfl⟩
 have hb1:Below w.heap.size w W1:=by rw[hW1];exact((Below.refl _ _).alloc (Nat.le_refl _) _).alloc (by simp) _
 have hs1:W1.heap.size=w.heap.size+2:=by rw[hW1];simp
 have a0:W1.heap[w.heap.size]? =some (.cells #[.int .i64 0,.slice none 0 0] 24 (0,0)):=by
  rw[hW1,Below.heap_alloc _ _ _ (by simp)]
  exact heap_alloc_new w _
 have a1:W1.heap[w.heap.size+1]? =some (.cells #[.int .i64 (N:Int),.slice none 0 0] 24 (0,0)):=by
  rw[hW1]
  have:=heap_alloc_new (w.alloc (.cells #[.int .i64 0,.slice none 0 0] 24)) (.cells #[.int .i64 (N:Int),.slice none 0 0] 24)
  rw[show(w.alloc (.cells #[.int .i64 0,.slice none 0 0] 24)).heap.size=w.heap.size+1 by simp] at this
  exact this
 have jR:=Nu.hid hW1
 have aV:=Nu.hid hb1
 have Lh:=Nu.hid hs1
 have Cc:=Nu.hid a0
 have Cb:=Nu.hid a1
 clear hW1 hb1 hs1 a0 a1
 go_enter Tryz.func28,Tryz.ntmps28
 go_wp2_with fail
 rw[←jR.out]
 go_loopw [4] (fun uv wr=>∃(u:Nat) (v:Value),uv= .int .i64 (u:Int)∧u≤N∧(Lw.iW N u).length≤u*16∧wr.heap[w.heap.size]? =some (.cells #[.int .i64 0,.slice none 0 0] 24 (0,0))∧wr.heap[w.heap.size+1]? =some (.cells #[.int .i64 (N:Int),v] 24 (0,0))∧jK wr (w.heap.size+2) v (Lw.iW N u)∧Below w.heap.size w wr∧w.heap.size+2≤wr.heap.size) (fun uv _=>N-(intOf uv).toNat)
 case atStart=>exact⟨0,_,rfl,Nat.zero_le _,by simp[Lw.iW],Cc.out,Cb.out,World.ownsRow_nil _ _ _ _,aV.out,by have:=Lh.out;omega⟩
 case round=>
  obtain⟨u,v,rfl,huN,sk,b0,b1,hown,dg,hsz⟩:=hrel
  by_cases hlt:u<N
  ·have i1:(u:Int)<(N:Int):=by omega
   have i2:(u:Int)+1≤11:=by omega
   have HST:Hid ((Lw.iW N u++Lw.row u (u+1)).length≤u*16+(u+1)∧wr.heap[w.heap.size]? =some (.cells #[.int .i64 0,.slice none 0 0] 24 (0,0))∧wr.heap[w.heap.size+1]? =some (.cells #[.int .i64 (N:Int),v] 24 (0,0))∧jK wr (w.heap.size+2) v (Lw.iW N u++Lw.row u (u+1))∧Below w.heap.size w wr∧w.heap.size+2≤wr.heap.size):=by
    have e:Lw.row u (u+1)=[]:=by unfold Lw.row;simp
    rw[e,List.append_nil]
    exact⟨by omega,b0,b1,hown,dg,hsz⟩
   clear b0 b1 hown dg hsz sk
   go_wp2_with fail
   go_loopw [5] (fun vv wr=>∃(x:Nat) (v:Value),vv= .int .i64 (x:Int)∧u+1≤x∧x≤N∧(Lw.iW N u++Lw.row u x).length≤u*16+x∧wr.heap[w.heap.size]? =some (.cells #[.int .i64 0,.slice none 0 0] 24 (0,0))∧wr.heap[w.heap.size+1]? =some (.cells #[.int .i64 (N:Int),v] 24 (0,0))∧jK wr (w.heap.size+2) v (Lw.iW N u++Lw.row u x)∧Below w.heap.size w wr∧w.heap.size+2≤wr.heap.size) (fun vv _=>N-(intOf vv).toNat)
   case atStart=>exact⟨u+1,v,by simp,Nat.le_refl _,hlt,HST.out⟩
   case round=>
    obtain⟨x,v',rfl,hux,hxN,sk,b0,b1,hown,dg,hsz⟩:=hrel
    by_cases hx:x<N
    ·have j1:(x:Int)<(N:Int):=by omega
     have j2:(x:Int)+1≤11:=by omega
     obtain⟨x0,x1,x2⟩:=az b1
     obtain⟨l,hl⟩:∃l,Lw.iW N u++Lw.row u x=l:=⟨_,rfl⟩
     have fN:Lw.iW N u++Lw.row u (x+1)=l++[((u:Int),(x:Int))]:=by rw[Lw.M5 hux,←List.append_assoc,hl]
     rw[hl] at hown sk
     obtain⟨vo,vc,Zk,-,-,-,-⟩:=hown.form
     subst Zk
     have yl:=Nu.hid hown
     have dm:=Nu.hid b0
     have aV:=Nu.hid b1
     have vL:=Nu.hid dg
     have kA:=Nu.hid fN
     have Lj:=Nu.hid sk
     clear b0 b1 hown dg hl fN sk
     go_wp2_with (at_builtin;refine Cg rfl _ _ rfl wr (w.heap.size+2) (.slice vo l.length vc) l (u:Int) (x:Int) yl.out hsz (by have:=Lj.out;omega) rfl rfl ?_;refine Hid.out ?_)
     refine Nu.hid ?_
     intro v5 w5 Kj hb5
     have e0:=(hb5.block w.heap.size (by omega)).trans dm.out
     have e1:=(hb5.block (w.heap.size+1) (by omega)).trans aV.out
     obtain⟨y0,y1,y2⟩:=az e1
     obtain⟨FN,FO,hv5,-,-,-,-⟩:=Kj.form
     rw[List.length_append,List.length_singleton] at hv5
     subst hv5
     have fB:Hid ((w5.setCell ⟨w.heap.size+1,1,none⟩ (.slice FN (l.length+1) FO)).heap[w.heap.size]? =some (.cells #[.int .i64 0,.slice none 0 0] 24 (0,0))∧(w5.setCell ⟨w.heap.size+1,1,none⟩ (.slice FN (l.length+1) FO)).heap[w.heap.size+1]? =some (.cells #[.int .i64 (N:Int),.slice FN (l.length+1) FO] 24 (0,0))∧jK (w5.setCell ⟨w.heap.size+1,1,none⟩ (.slice FN (l.length+1) FO)) (w.heap.size+2) (.slice FN (l.length+1) FO) (l++[((u:Int),(x:Int))])∧Below w.heap.size w (w5.setCell ⟨w.heap.size+1,1,none⟩ (.slice FN (l.length+1) FO))∧w.heap.size+2≤(w5.setCell ⟨w.heap.size+1,1,none⟩ (.slice FN (l.length+1) FO)).heap.size):=by
      refine⟨(heap_setCell_other w5 ⟨w.heap.size+1,1,none⟩ _ _ (by simp)).trans e0,?_,?_,?_,?_⟩
      ·have:=heap_setCell_same w5 (w.heap.size+1) 1 _ _ (.slice FN (l.length+1) FO) e1
       simpa using this
      ·refine og Kj fun g hg hB _=>heap_setCell_other w5 ⟨w.heap.size+1,1,none⟩ g _ (by show g≠w.heap.size+1;omega)
      ·exact((vL.out.trans (hb5.mono (by omega))).setCell (p:=⟨w.heap.size+1,1,none⟩) (by show w.heap.size≤w.heap.size+1;omega) _)
      ·have:=hb5.size
       simp
       omega
     clear e0 e1 Kj hb5 x0 x1 x2
     go_wp2_with fail
     go_roundw
     case rel=>
      obtain⟨r1,r2,r3,r4,r5⟩:=fB.out
      refine⟨x+1,_,by simp,by omega,hx,?_,r1,r2,?_,r4,r5⟩
      ·rw[kA.out]
       have:=Lj.out
       simp
       omega
      ·rw[kA.out]
       exact r3
     case measure=>
      simp[intOf]
      omega
    ·obtain rfl:x=N:=by omega
     have fB:Hid ((Lw.iW x (u+1)).length≤(u+1)*16∧wr.heap[w.heap.size]? =some (.cells #[.int .i64 0,.slice none 0 0] 24 (0,0))∧wr.heap[w.heap.size+1]? =some (.cells #[.int .i64 (x:Int),v'] 24 (0,0))∧jK wr (w.heap.size+2) v' (Lw.iW x (u+1))∧Below w.heap.size w wr∧w.heap.size+2≤wr.heap.size):=⟨by show(Lw.iW x u++Lw.row u x).length≤_;omega,b0,b1,hown,dg,hsz⟩
     clear b0 b1 hown dg hsz sk
     go_wp2_with fail
     go_roundw
     case rel=>exact⟨u+1,v',by simp,hlt,fB.out⟩
     case measure=>
      simp[intOf]
      omega
  ·obtain rfl:u=N:=by omega
   obtain⟨vo,vc,Zk,-,-,hat,-⟩:=hown.form
   subst Zk
   obtain⟨x0,x1,x2⟩:=az b1
   obtain⟨z0,z1,z2⟩:=az b0
   have dm:=Nu.hid b0
   have I2:=Nu.hid hat
   have vL:=Nu.hid dg
   have yl:=Nu.hid hown
   clear b0 b1 hown dg hat sk
   go_wp2_with fail
   refine bodyPost_ret (v:= .agg #[.int .i64 (u:Int),.slice vo (Lw.iW u u).length vc]) (results_cell_row (p:=2) (ty:=24) Tryz.results28 _ _ w.heap.size 24 _ (0,0) _ rfl (gF dm.out _ _) Tryz.underlying24 rfl (by kernel_rfl)) rfl ?_
   refine⟨vo,vc,rfl,?_,?_⟩
   ·have h1:jK ((wr.setCell ⟨w.heap.size,0,none⟩ (.int .i64 (u:Int))).setCell ⟨w.heap.size,1,none⟩ (.slice vo (Lw.iW u u).length vc)) (w.heap.size+2) (.slice vo (Lw.iW u u).length vc) (Lw.iW u u):=og yl.out fun g hg hB _=>by
     rw[heap_setCell_other _ ⟨w.heap.size,1,none⟩ g _ (by show g≠w.heap.size;omega),heap_setCell_other _ ⟨w.heap.size,0,none⟩ g _ (by show g≠w.heap.size;omega)]
    obtain⟨vo',vc',e,-,-,hat,-⟩:=h1.form
    cases e
    exact hat
   ·exact(vL.out.setCell (p:=⟨w.heap.size,0,none⟩) (Nat.le_refl _) _).setCell (p:=⟨w.heap.size,1,none⟩) (Nat.le_refl _) _
end
section
open Go.RowKit Lt Pl
section
variable {c:Wp} (hv:Si.Val c.n c.es) (h:Df.VF c.n c.es c.s)
include h
theorem Wp.EG:∀x∈c.s.ord,∃v:Nat,v<c.n∧x=(v:Int):=fun x hx=>by
 obtain⟨i,hi,hxi⟩:=List.mem_iff_getElem.1 hx
 have hin:i<c.n:=by rw[←h.lens.2.2.1];exact hi
 have e:Df.at_ c.s.ord i=x:=by
  unfold Df.at_
  simp[hi,hxi]
 have:=(h.once i hin).1
 rw[e] at this
 exact⟨x.toNat,by omega,by omega⟩
theorem Wp.EF:c.s.ord.Nodup:=by
 unfold List.Nodup
 rw[List.pairwise_iff_getElem]
 intro i j hi hj hij e
 have hjn:j<c.n:=by rw[←h.lens.2.2.1];exact hj
 refine(h.once j hjn).2 i hij ?_
 unfold Df.at_
 simp[hi,hj,e]
theorem Wp.Po (v:Nat) (dh:v<c.n):(v:Int)∈c.s.ord:=by
 obtain⟨a,ha,e⟩:=h.once.sI dh
 have kP:a<c.s.ord.length:=by rw[h.lens.2.2.1];exact ha
 rw[←e]
 unfold Df.at_
 simp[kP]
theorem Wp.T7:c.s.aJ=(List.range c.es.length).map fun e=>Df.at_ c.s.aJ e:=by
 apply List.ext_getElem?
 intro i
 rw[List.getElem?_map]
 by_cases hi:i<c.es.length
 ·have hil:i<c.s.aJ.length:=by rw[h.lens.2.2.2];exact hi
  rw[List.getElem?_range hi]
  unfold Df.at_
  simp[hil]
 ·rw[List.getElem?_eq_none (by rw[h.lens.2.2.2];omega),List.getElem?_eq_none (by simp;omega)]
  rfl
end
end
section
namespace Lt
def Wy (like:List Int):List Nat→Int→Prop
 |[],x=>bz like x=some (-1)
 |z::ws,x=>x=(z:Int)∧∃y,bz like x=some y∧y≠-1∧Wy like ws y
def tell (l:List Int×List Int) (x:Nat):Option (List Int×List Int):=
 match bz l.1 (x:Int) with
 |none=>none
 |some y=>
  match bz l.2 (x:Int),bz l.2 y,eT l.1 (x:Int) (-1) with
  |some a,some b,some eW=>
   match eT l.2 (x:Int) (a*b) with
   |none=>none
   |some sP=>some (eW,sP)
  |_,_,_=>none
def fX (l:List Int×List Int):List Nat→Option (List Int×List Int)
 |[]=>some l
 |x::ws=>(fX l ws).bind fun r=>tell r x
theorem pY {l:List Int} {x a:Int} (h:bz l x=some a):∃k:Nat,x=(k:Int)∧k<l.length∧l[k]? =some a:=by
 unfold bz at h
 split at h
 ·rename_i h0
  exact⟨x.toNat,by omega,(List.getElem?_eq_some_iff.1 h).1,h⟩
 ·cases h
theorem vY:∀{k:Nat} {like turn:List Int} {x:Int} {r:List Int×List Int},side k like turn x=some r→∃ws:List Nat,Wy like ws x∧fX (like,turn) ws=some r
 |0,_,_,_,_,h=>by cases h
 |k+1,like,turn,x,r,h=>by
  unfold side at h
  cases h1:bz like x with
  |none=>rw[h1] at h;cases h
  |some y=>
   rw[h1] at h
   dsimp only at h
   by_cases hy:y= -1
   ·rw[if_pos hy] at h
    cases h
    exact⟨[],by show bz like x=some (-1);rw[←hy];exact h1,rfl⟩
   ·rw[if_neg hy] at h
    cases h2:side k like turn y with
    |none=>rw[h2] at h;cases h
    |some r1=>
     obtain⟨l1,t1⟩:=r1
     rw[h2] at h
     dsimp only at h
     obtain⟨ws,w1,w2⟩:=vY h2
     obtain⟨z,rfl,hz,-⟩:=pY h1
     refine⟨z::ws,⟨rfl,y,h1,hy,w1⟩,?_⟩
     unfold fX
     rw[w2]
     show tell (l1,t1) z=some r
     unfold tell
     exact h
theorem Wy.lt {like:List Int}:∀{ws:List Nat} {x:Int},Wy like ws x→∀z∈ws,z<like.length
 |[],_,_,z,hz=>by simp at hz
 |a::ws,x,h,z,hz=>by
  obtain⟨rfl,y,h1,_,h3⟩:=h
  rcases List.mem_cons.1 hz with q|q
  ·obtain⟨k,e1,e2,_⟩:=pY h1
   omega
  ·exact h3.lt z q
theorem Wy.unique {like:List Int}:∀{ws us:List Nat} {x:Int},Wy like ws x→Wy like us x→ws=us
 |[],[],_,_,_=>rfl
 |[],b::us,x,h,h'=>by
  obtain⟨_,y,h1,h2,_⟩:=h'
  have h0:bz like x=some (-1):=h
  rw[h0] at h1
  exact absurd (Option.some.inj h1).symm h2
 |a::ws,[],x,h,h'=>by
  obtain⟨_,y,h1,h2,_⟩:=h
  have h0:bz like x=some (-1):=h'
  rw[h0] at h1
  exact absurd (Option.some.inj h1).symm h2
 |a::ws,b::us,x,h,h'=>by
  obtain⟨e1,y,h1,_,h3⟩:=h
  obtain⟨e2,y',h1',_,h3'⟩:=h'
  rw[h1] at h1'
  obtain rfl:=Option.some.inj h1'
  obtain rfl:a=b:=by omega
  rw[Wy.unique h3 h3']
theorem Wy.from {like:List Int}:∀{ws:List Nat} {x:Int},Wy like ws x→∀z∈ws,∃us,us.length≤ws.length∧Wy like us (z:Int)
 |[],_,_,z,hz=>by simp at hz
 |a::ws,x,h,z,hz=>by
  have h':=h
  obtain⟨e1,y,h1,h2,h3⟩:=h
  rcases List.mem_cons.1 hz with q|q
  ·subst q
   rw[e1] at h'
   exact⟨z::ws,Nat.le_refl _,h'⟩
  ·obtain⟨us,k1,k2⟩:=h3.from z q
   exact⟨us,by rw[List.length_cons];omega,k2⟩
theorem Wy.nodup {like:List Int}:∀{ws:List Nat} {x:Int},Wy like ws x→ws.Nodup
 |[],_,_=>List.nodup_nil
 |a::ws,x,h=>by
  have h':=h
  obtain⟨e1,y,h1,h2,h3⟩:=h
  refine List.nodup_cons.2 ⟨fun q=> ?_,h3.nodup⟩
  obtain⟨us,k1,k2⟩:=h3.from a q
  rw[e1] at h'
  have:=congrArg List.length (h'.unique k2)
  rw[List.length_cons] at this
  omega
theorem Wy.len {like:List Int} {ws:List Nat} {x:Int} (h:Wy like ws x):ws.length≤like.length:=fH h.nodup h.lt
end Lt
end
section
open Go.RowKit Go.Sort
theorem Eo {ops:Array Oper} {rest:List Oper} {o:Oper} {a:Act} {Q:Exit→Act→World→Prop} (hgd:o.guard=none) (s x:Operand)
 (ho:o.op= .call { callee:= .builtin .append,args:= #[s,x],argTypes:= #[27,27] }) (W:World) (B:Nat) (v:Value) (l:List Int) (z:Int) (hown:aS W B v l)
 (hB:B≤W.heap.size) (hl:l.length≤17592186044000) (hs:a.eval s=v) (hx:a.eval x= .slice (some ⟨W.heap.size,0,none⟩) 1 1)
 (h:∀v' w',aS w' B v' (l++[z])→(W.alloc (.cells #[.int .i64 z] 3)).grownBy w' v.ownBlock→(v'.ownBlock=v.ownBlock∨v'.ownBlock=some (W.heap.size+1))→Below B W w'→wpList Tryz.prog ops Q rest (a.put o.dst v') w'):
 wpList Tryz.prog ops Q (o::rest) a (W.alloc (.cells #[.int .i64 z] 3)):=by
 obtain⟨i0,hi,hz0,hz1,hz2⟩:=info_parts Tryz.bS
 have hb0:Below B W (W.alloc (.cells #[.int .i64 z] 3)):=(Below.refl _ _).alloc hB _
 refine wpList_append_own_at _ hgd s x 27 ho B 3 i0 (.int .i64 0) 1 8 Tryz.underlying27 hi hz0 hz1 hz2 rfl (by decide) _ _ _ hs (World.ownsRow.alloc hown _) ⟨W.heap.size,0,none⟩ 1 1 [.int .i64 z] hx rfl (cell_one_new _ _ _) (by simp[Value.oneCell']) (by unfold maxLen;omega) (by omega) (by simp;omega) ?_
 intro v' w' hown' hg _ hat
 have ho':aS w' B v' (l++[z]):=by
  unfold aS
  rw[List.length_append,List.map_append]
  exact hown'
 have Us:∀b,v.ownBlock=some b→B≤b:=fun b hb=>(World.ownsRow.lt hown b hb).1
 refine h v' w' ho' hg (by simpa using hat) (hb0.grown hg (by simp;omega) Us)
end
end Go.Proofs.YtnhcggfbkoppnaaGreat
