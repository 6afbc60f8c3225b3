import Derived.Test.YtdjmnpmdmjclhabGreatMg07
import Derived.Test.YtdjmnpmdmjclhabGreatMg00
import Derived.Test.YtdjmnpmdmjclhabGreatMg04
import Derived.Deep.RegionHeld3
import Derived.Deep.QuietTactic
import Derived.BigQuiet
import Derived.Test.YtdjmnpmdmjclhabGreatMg01
namespace Go.Proofs.YtdjmnpmdmjclhabGreat
section
open Go.RowKit Lt
abbrev dF (i:Iv):Value:= .agg #[.int .i64 i.1,.int .i64 i.2]
abbrev fK (p:Pr):Value:= .agg #[.int .i64 p.1.1,.int .i64 p.1.2,.int .i64 p.2.1,.int .i64 p.2.2]
theorem afG (a b c d:Int) (w:World):(Op.equalIn 10000 141 (.agg #[.int .i64 a,.int .i64 b]) (.agg #[.int .i64 c,.int .i64 d])).run Tryz.prog w= .ok (a==c&&b==d) w:=by
 have u3:=Tryz.underlying3
 have a3:=Tryz.isAgg3
 have z3:=Tryz.sizeOf3
 have hS:Tryz.prog.underlying 141=some (.struct (Tryz.prog.fieldsOf 141)):=by kernel_rfl
 rw[show(10000:Nat)=9999+1 from rfl,run_equalIn_agg w 9999 141 _ _ hS (by kernel_rfl)]
 simp only[Program.fieldsOf,Tryz.underlying141]
 go_simp
 by_cases h1:a=c<;>by_cases h2:b=d<;>simp[h1,h2]
set_option maxRecDepth 100000 in
theorem SZ (a b c d a' b' c' d':Int) (w:World):(Op.equalIn 10000 143 (.agg #[.int .i64 a,.int .i64 b,.int .i64 c,.int .i64 d]) (.agg #[.int .i64 a',.int .i64 b',.int .i64 c',.int .i64 d'])).run Tryz.prog w= .ok ((a==a'&&b==b')&&(c==c'&&d==d')) w:=by
 have u3:=Tryz.underlying3
 have a3:=Tryz.isAgg3
 have z3:=Tryz.sizeOf3
 have a4:=Tryz.isAgg141
 have z4:=Tryz.sizeOf141
 have hS:Tryz.prog.underlying 143=some (.struct (Tryz.prog.fieldsOf 143)):=by kernel_rfl
 rw[show(10000:Nat)=9999+1 from rfl,run_equalIn_agg w 9999 143 _ _ hS (by kernel_rfl)]
 simp only[Program.fieldsOf,Tryz.underlying143]
 go_simp
 by_cases h1:a=a'<;>by_cases h2:b=b'<;>by_cases h3:c=c'<;>by_cases h4:d=d'<;>simp[h1,h2,h3,h4]
set_option maxRecDepth 100000 in
set_option maxHeartbeats 4000000 in
theorem mC (w:World):Calls Tryz.prog 112 #[] w fun e w'=>e= .returned (dF aO)∧Below w.heap.size w w':=by
 go_enter Tryz.func112,Tryz.ntmps112
 go_wp2
 have r:=ay (heap_alloc_new w (Obj.cells #[Value.int IntKind.i64 (-1),Value.int IntKind.i64 (-1)] 141))
 obtain⟨r0,r1,-⟩:=r
 refine bodyPost_ret (v:=dF aO) (by simp[results,Tryz.results112,go_sem,r0,r1]) rfl ?_
 exact⟨rfl,(aae _ _).alloc (aad _) _⟩
theorem iI {w:World} {b:Nat} {t:TypeId} {x y z u:Value} (h:w.heap[b]? =some (.cells #[x,y,z,u] t (0,0))) (x' y' z' u':Value):((((w.setCell ⟨b,0,none⟩ x').setCell ⟨b,1,none⟩ y').setCell ⟨b,2,none⟩ z').setCell ⟨b,3,none⟩ u').heap[b]? =some (.cells #[x',y',z',u'] t (0,0)):=by
 have h1:=heap_setCell_same w b 0 _ _ x' h
 have h2:=heap_setCell_same _ b 1 _ _ y' h1
 have h3:=heap_setCell_same _ b 2 _ _ z' h2
 have h4:=heap_setCell_same _ b 3 _ _ u' h3
 simpa using h4
set_option maxRecDepth 100000 in
set_option maxHeartbeats 4000000 in
theorem oC (w:World):Calls Tryz.prog 108 #[] w fun e w'=>e= .returned (fK dG)∧Below w.heap.size w w':=by
 obtain⟨W,hW⟩:∃W,W=w.alloc (.cells #[.int .i64 0,.int .i64 0,.int .i64 0,.int .i64 0] 143):=⟨_,rfl⟩
 have hbl:W.heap[w.heap.size]? =some (.cells #[.int .i64 0,.int .i64 0,.int .i64 0,.int .i64 0] 143 (0,0)):=by rw[hW];exact heap_alloc_new w _
 have hb:Below w.heap.size w W:=by rw[hW];exact(aae _ _).alloc (aad _) _
 have mq:=Nu.hid hbl
 have HB:=Nu.hid hb
 have hacc:=aae W.heap.size W
 have hlt:=lt_of_block hbl
 have HW:=Nu.hid hW
 clear hW hbl hb
 go_enter Tryz.func108,Tryz.ntmps108
 go_wp2_with fail
 rw[←HW.out]
 go_wp2_with (go_at_call 112;refine(mC _).mono ?_;rintro e w1 ⟨rfl,hb1⟩;have hacc:=hacc.trans (hb1.mono hacc.size);obtain⟨q0,q1,q2,q3,qf⟩:=au ((hacc.block _ hlt).trans mq.out);clear hb1)
 obtain⟨r0,r1,r2,r3,-⟩:=au (iI ((hacc.block _ hlt).trans mq.out) (.int .i64 (-1)) (.int .i64 (-1)) (.int .i64 (-1)) (.int .i64 (-1)))
 refine bodyPost_ret (v:=fK dG) (by simp[results,Tryz.results108,go_sem,r0,r1,r2,r3]) rfl ?_
 exact⟨rfl,eA (HB.out.trans (hacc.mono HB.out.size)) (aad _) _ _ _ _⟩
set_option maxRecDepth 100000 in
set_option maxHeartbeats 4000000 in
theorem xW (p:Pr) (w:World):Calls Tryz.prog 165 #[fK p] w fun e w'=>e= .returned (fK (turned p))∧Below w.heap.size w w':=by
 obtain⟨⟨a,b⟩,c,d⟩:=p
 go_enter Tryz.func165,Tryz.ntmps165
 go_wp2
 have hb1:Below w.heap.size w (w.alloc (Obj.cells #[Value.int IntKind.i64 a,Value.int IntKind.i64 b,Value.int IntKind.i64 c,Value.int IntKind.i64 d] 143)):=(aae _ _).alloc (aad _) _
 obtain⟨r0,r1,r2,r3,-⟩:=au (heap_alloc_new (w.alloc (Obj.cells #[Value.int IntKind.i64 a,Value.int IntKind.i64 b,Value.int IntKind.i64 c,Value.int IntKind.i64 d] 143)) (Obj.cells #[Value.int IntKind.i64 c,Value.int IntKind.i64 d,Value.int IntKind.i64 a,Value.int IntKind.i64 b] 143))
 rw[aaM] at r0 r1 r2 r3
 refine bodyPost_ret (v:=fK (turned ((a,b),c,d))) (by simp[results,Tryz.results165,go_sem,r0,r1,r2,r3,turned]) rfl ?_
 exact⟨rfl,hb1.alloc (by simp) _⟩
set_option maxRecDepth 100000 in
set_option maxHeartbeats 4000000 in
theorem fV (i:Iv) (w:World):Calls Tryz.prog 137 #[dF i] w fun e w'=>e= .returned (.bool (decide (i=aO)))∧Below w.heap.size w w':=by
 obtain⟨a,b⟩:=i
 have eqI:=afG
 obtain⟨W,hW⟩:∃W,W=w.alloc (.cells #[.int .i64 a,.int .i64 b] 141):=⟨_,rfl⟩
 have hbl:W.heap[w.heap.size]? =some (.cells #[.int .i64 a,.int .i64 b] 141 (0,0)):=by rw[hW];exact heap_alloc_new w _
 have hb:Below w.heap.size w W:=by rw[hW];exact(aae _ _).alloc (aad _) _
 have hlt:=lt_of_block hbl
 have y0:∀D:LW W,D.val.cell? ⟨w.heap.size,0,none⟩=some (.int .i64 a):=fun D=>(ay ((D.h.block _ hlt).trans hbl)).1
 have y1:∀D:LW W,D.val.cell? ⟨w.heap.size,1,none⟩=some (.int .i64 b):=fun D=>(ay ((D.h.block _ hlt).trans hbl)).2.1
 have bI:Hid (∀D:LW W,Below w.heap.size w D.val):=fun D=>hb.trans (D.h.mono hb.size)
 have HW:=Nu.hid hW
 have hne:=LW.any W
 clear hW hbl hb hlt
 go_enter Tryz.func137,Tryz.ntmps137
 go_wp2_with fail
 rw[←HW.out]
 refine aB (by kernel_rfl) (by kernel_rfl) ?_
 repeat (go_big_quiet_step ((first|(go_at_call 112;exact Calls.lw (mC _)))))
 refine wpQuiet_nil ?_
 rintro _ ⟨D,rfl⟩
 clear y0 y1
 go_wp2
 go_ret
 refine⟨?_,bI.out D⟩
 by_cases h1:a= -1<;>by_cases h2:b= -1<;>simp[aO,h1,h2]
end
section
open Go.RowKit
theorem uh {w V:World} (h:Below w.heap.size w V) (o:Obj):Below w.heap.size w (V.alloc o):=h.alloc h.size o
theorem ug {w V:World} (h:Below w.heap.size w V):Below w.heap.size w V.drew:=h.drew
theorem cg {w:World} {ao:Option Addr} {k ca:Nat} {l:List Int} (h:gI w ao k ca l) {i:Nat} (hi:i<k):∃b o,ao=some ⟨b,o,none⟩∧w.cell? ⟨b,o+i,none⟩=some (.int .i64 (l.getD i (-1))):=h.ints i _ (cQ (-1) (by rw[h.len];exact hi))
def jB (P:Prop) (w:World) (e:Ending) (w':World):Prop:=∃b,e= .returned (.bool b)∧(b=true↔P)∧Below w.heap.size w w'
end
section
namespace Lo
def fst (p:Int→Bool):List Int→List Int
 |[]=>[]
 |x::L=>if p x=true then [] else x::fst p L
def snd (p:Int→Bool):List Int→List Int
 |[]=>[]
 |x::L=>if p x=true then x::L else snd p L
theorem vD (p:Int→Bool):∀L,fst p L++snd p L=L
 |[]=>rfl
 |x::L=>by
  unfold fst snd
  by_cases h:p x=true
  ·rw[if_pos h,if_pos h];rfl
  ·rw[if_neg h,if_neg h,abi,vD p L]
theorem MZ (p:Int→Bool):∀L,∀x∈fst p L,p x=false
 |[],x,hx=>by simp[fst] at hx
 |y::L,x,hx=>by
  unfold fst at hx
  by_cases h:p y=true
  ·rw[if_pos h] at hx;simp at hx
  ·rw[if_neg h] at hx
   rcases aaj.1 hx with rfl|hx
   ·simpa using h
   ·exact MZ p L x hx
theorem GF (p:Int→Bool):∀L x D,snd p L=x::D→p x=true
 |[],x,D,h=>by simp[snd] at h
 |y::L,x,D,h=>by
  unfold snd at h
  by_cases hy:p y=true
  ·rw[if_pos hy] at h
   injection h with h1 _
   rw[←h1]
   exact hy
  ·rw[if_neg hy] at h
   exact GF p L x D h
def put (p:Int→Bool) (h:Int) (L:List Int):List Int:=fst p L++h::snd p L
section
end
noncomputable def bS (n:Nat) (es:List (Int×Int)) (s:Df.St):Nat→List (List Int)
 |0=>List.replicate n []
 |k+1=>(bS n es s k).set (fr es s k) (put (fun x=>decide (nest es s k<nest es s (x.toNat/2))) (Df.at_ s.aJ k) ((bS n es s k).getD (fr es s k) []))
theorem dw (n:Nat) (es:List (Int×Int)) (s:Df.St):∀k,(bS n es s k).length=n
 |0=>by simp[bS]
 |k+1=>by unfold bS;rw[aaT];exact dw n es s k
theorem GW {p:Int→Bool} {h:Int} {L:List Int} {x:Int}:x∈put p h L↔x=h∨x∈L:=by
 have h1:=vD p L
 unfold put
 rw[aal,aaj]
 constructor
 ·rintro(h2|h2|h2)
  ·exact .inr (by rw[←h1];exact aaN _ h2)
  ·exact .inl h2
  ·exact .inr (by rw[←h1];exact aaz _ h2)
 ·rintro(h2|h2)
  ·exact .inr (.inl h2)
  ·rw[←h1] at h2
   rcases aal.1 h2 with h3|h3
   ·exact .inl h3
   ·exact .inr (.inr h3)
theorem Au {p:Int→Bool} {h:Int} {L:List Int}:(put p h L).length=L.length+1:=by
 have h1:=vD p L
 have h2:(fst p L).length+(snd p L).length=L.length:=by rw[←aaA,h1]
 unfold put
 rw[aaA,aar]
 omega
theorem yh {n:Nat} {es:List (Int×Int)} {s:Df.St} (hv:Si.Val n es) (nW:Df.VF n es s):∀k,k≤es.length→∀L∈bS n es s k,(∀x∈L,∃b:Nat,b<k∧x=Df.at_ s.aJ b)∧L.length≤k
 |0,_,L,hL=>by
  unfold bS at hL
  rw[List.mem_replicate] at hL
  rw[hL.2]
  exact⟨fun x hx=>by simp at hx,by simp⟩
 |k+1,hk,L,hL=>by
  have ih:=yh hv nW k (by omega)
  unfold bS at hL
  rcases adB hL with h1|h1
  ·obtain⟨h2,h3⟩:=ih L h1
   exact⟨fun x hx=>by obtain⟨b,hb,e⟩:=h2 x hx;exact⟨b,by omega,e⟩,by omega⟩
  ·have hlt:fr es s k<(bS n es s k).length:=by rw[dw];exact(bK hv nW (by omega)).1
   have hmem:(bS n es s k).getD (fr es s k) []∈bS n es s k:=by
    rw[aai,aac hlt]
    exact aaX hlt
   obtain⟨h2,h3⟩:=ih _ hmem
   rw[h1]
   refine⟨fun x hx=> ?_,by rw[Au];omega⟩
   rcases GW.1 hx with e|hx
   ·exact⟨k,by omega,e⟩
   ·obtain⟨b,hb,e⟩:=h2 x hx
    exact⟨b,by omega,e⟩
end Lo
end
section
open Go.RowKit
def zs (l:List Nat):List Int:=l.map fun b:Nat=>(b:Int)
def upTo (f:Nat→Int) (k:Nat):List Int:=(List.range k).map f
theorem fE (f:Nat→Int) (k:Nat):(upTo f k).length=k:=by simp[upTo]
theorem gT {f:Nat→Int} {k i:Nat} (h:i<k):(upTo f k)[i]? =some (f i):=by
 unfold upTo
 rw[aay,acf h]
 rfl
def Tg (n:Int) (es:List (Int×Int)) (s:Df.St) (A1 A2 A3:List Int) (ls:List (List Int)) (z:Int):Prop:=
 (Si.valid n es=false∧A1=[]∧A2=[]∧A3=[]∧ls=[]∧z=1)∨(Si.valid n es=true∧¬oN n es s∧A1=[]∧A2=[]∧A3=[]∧ls=[]∧z=80)∨
 ∃m:Nat,n=(m:Int)∧Si.Val m es∧Df.VF m es s∧A1=upTo (Lo.low es s) es.length∧A2=upTo (Lo.cz es s) es.length∧A3=upTo (Lo.nest es s) es.length∧ls=Lo.bS m es s es.length∧z=0
def Pa (n:Int) (es:List (Int×Int)) (s:Df.St) (w:World) (r:Ending) (w':World):Prop:=
 ∃v1 v2 v3 vo vs A1 A2 A3 ls z,r= .returned (.tuple #[.agg #[v1,v2,v3,vo],.int .i64 z])∧Tg n es s A1 A2 A3 ls z∧aP w' w.heap.size v1 A1∧aP w' w.heap.size v2 A2∧aP w' w.heap.size v3 A3∧bW w' w.heap.size vo vs ls∧Below w.heap.size w w'
end
section
open Go.RowKit
structure Wp where
 n:Nat
 es:List (Int×Int)
 s:Df.St
 ao:Option Addr
 ca:Nat
 f:For
 lv:Value
 l2:Value
 l3:Value
 vo:Value
 vs:List Value
structure bV (c:Wp) (p:Nat) (W:World):Prop where
 blk:W.heap[p]? =some (.cells #[.int .i64 (c.n:Int),.slice c.ao c.es.length c.ca,.slice c.f.a1 c.n c.f.c1,.slice c.f.a2 c.n c.f.c2,.slice c.f.a3 c.n c.f.c3,.slice c.f.a4 c.es.length c.f.c4,c.lv,c.l2,c.l3,c.vo] 90 (0,0))
 edg:aQ W c.ao c.es
 cG:dI W c.f c.s
 val:Si.Val c.n c.es
 vf:Df.VF c.n c.es c.s
 low:aP W 0 c.lv (upTo (Lo.low c.es c.s) c.es.length)
 out:bW W 0 c.vo c.vs (Lo.bS c.n c.es c.s c.es.length)
section
variable {c:Wp} {p:Nat} {W V:World}
theorem bV.lt (h:bV c p W):p<W.heap.size:=lt_of_block h.blk
theorem bV.later (h:bV c p W) (hb:Below W.heap.size W V):bV c p V:=⟨(hb.block p h.lt).trans h.blk,h.edg.later hb,h.cG.later hb,h.val,h.vf,h.low.later hb,h.out.later hb⟩
theorem bV.c0 (h:bV c p W):W.cell? ⟨p,0,none⟩=some (.int .i64 (c.n:Int)):=by simp[World.cell?,h.blk]
theorem bV.c1 (h:bV c p W):W.cell? ⟨p,1,none⟩=some (.slice c.ao c.es.length c.ca):=by simp[World.cell?,h.blk]
theorem bV.c2 (h:bV c p W):W.cell? ⟨p,2,none⟩=some (.slice c.f.a1 c.n c.f.c1):=by simp[World.cell?,h.blk]
theorem bV.c3 (h:bV c p W):W.cell? ⟨p,3,none⟩=some (.slice c.f.a2 c.n c.f.c2):=by simp[World.cell?,h.blk]
theorem bV.c4 (h:bV c p W):W.cell? ⟨p,4,none⟩=some (.slice c.f.a3 c.n c.f.c3):=by simp[World.cell?,h.blk]
theorem bV.c5 (h:bV c p W):W.cell? ⟨p,5,none⟩=some (.slice c.f.a4 c.es.length c.f.c4):=by simp[World.cell?,h.blk]
theorem bV.c6 (h:bV c p W):W.cell? ⟨p,6,none⟩=some c.lv:=by simp[World.cell?,h.blk]
theorem bV.c9 (h:bV c p W):W.cell? ⟨p,9,none⟩=some c.vo:=by simp[World.cell?,h.blk]
theorem bV.par (h:bV c p W) {v:Nat} (hv:v<c.n):∃b o,c.f.a1=some ⟨b,o,none⟩∧∀V,Below W.heap.size W V→∀i,i<c.n→V.cell? ⟨b,o+i,none⟩=some (.int .i64 (Df.at_ c.s.par i)):=by
 have l:=h.vf.lens
 obtain⟨b,o,e,-⟩:=cg h.cG.l1 (i:=v) (by rw[l.1];exact hv)
 refine⟨b,o,e,fun W hW i hi=> ?_⟩
 obtain⟨b',o',e',d'⟩:=cg (h.cG.later hW).l1 (i:=i) (by rw[l.1];exact hi)
 rw[e] at e'
 cases e'
 exact d'
theorem bV.az (h:bV c p W) {v:Nat} (hv:v<c.n):∃b o,c.f.a2=some ⟨b,o,none⟩∧∀V,Below W.heap.size W V→∀i,i<c.n→V.cell? ⟨b,o+i,none⟩=some (.int .i64 (Df.at_ c.s.az i)):=by
 have l:=h.vf.lens
 obtain⟨b,o,e,-⟩:=cg h.cG.l2 (i:=v) (by rw[l.2.1];exact hv)
 refine⟨b,o,e,fun W hW i hi=> ?_⟩
 obtain⟨b',o',e',d'⟩:=cg (h.cG.later hW).l2 (i:=i) (by rw[l.2.1];exact hi)
 rw[e] at e'
 cases e'
 exact d'
theorem bV.ord (h:bV c p W) {v:Nat} (hv:v<c.n):∃b o,c.f.a3=some ⟨b,o,none⟩∧∀V,Below W.heap.size W V→∀i,i<c.n→V.cell? ⟨b,o+i,none⟩=some (.int .i64 (Df.at_ c.s.ord i)):=by
 have l:=h.vf.lens
 obtain⟨b,o,e,-⟩:=cg h.cG.l3 (i:=v) (by rw[l.2.2.1];exact hv)
 refine⟨b,o,e,fun W hW i hi=> ?_⟩
 obtain⟨b',o',e',d'⟩:=cg (h.cG.later hW).l3 (i:=i) (by rw[l.2.2.1];exact hi)
 rw[e] at e'
 cases e'
 exact d'
theorem bV.aJ (h:bV c p W) {v:Nat} (hv:v<c.es.length):∃b o,c.f.a4=some ⟨b,o,none⟩∧∀V,Below W.heap.size W V→∀i,i<c.es.length→V.cell? ⟨b,o+i,none⟩=some (.int .i64 (Df.at_ c.s.aJ i)):=by
 have l:=h.vf.lens
 obtain⟨b,o,e,-⟩:=cg h.cG.l4 (i:=v) (by rw[l.2.2.2];exact hv)
 refine⟨b,o,e,fun W hW i hi=> ?_⟩
 obtain⟨b',o',e',d'⟩:=cg (h.cG.later hW).l4 (i:=i) (by rw[l.2.2.2];exact hi)
 rw[e] at e'
 cases e'
 exact d'
theorem bV.DX (h:bV c p W) {v:Nat} (hv:v<c.es.length):∃b cap,c.lv= .slice (some ⟨b,0,none⟩) c.es.length cap∧∀V,Below W.heap.size W V→∀i,i<c.es.length→V.cell? ⟨b,i,none⟩=some (.int .i64 (Lo.low c.es c.s i)):=by
 have hl:=h.low
 unfold aP at hl
 rw[fE] at hl
 rcases hl.2 with ⟨_,h0⟩|⟨g,cap,cur,e,_⟩
 ·omega
 ·refine⟨g,cap,e,fun V hV i hi=> ?_⟩
  have hl2:=h.low.later hV
  unfold aP at hl2
  rw[fE,e] at hl2
  have:=abj hl2 (g:=g) rfl i (.int .i64 (Lo.low c.es c.s i)) (by rw[aay,gT hi];rfl)
  have ea:((⟨g,0,none⟩:Addr).add i)=⟨g,i,none⟩:=by
   by_cases h0:i=0<;>simp[Addr.add,h0]
  rw[ea] at this
  exact this
set_option maxRecDepth 100000 in
set_option maxHeartbeats 4000000 in
theorem uH (h:bV c p W) {u:Nat} (hu:u<2*c.es.length):Calls Tryz.prog 65 #[.pointer (some ⟨p,0,none⟩),.int .i64 (u:Int)] W fun e w'=>e= .returned (.int .i64 (Cs.to c.es u:Int))∧w'=W:=by
 have c1:=h.c1
 have cj:=h.val.few
 obtain⟨k,hk⟩:∃k,u/2=k:=⟨_,rfl⟩
 have cU:k<c.es.length:=by omega
 obtain⟨q,hq⟩:∃q,c.es[k]? =some q:=⟨_,aac cU⟩
 obtain⟨b,o,eb,d0,d1⟩:=h.edg k q hq
 have hok:=h.val.each k q hq
 unfold Si.ok at hok
 rw[eb] at c1
 have k1:((u:Int)).tdiv 2=(k:Int):=by rw[aaZ (by omega)];omega
 have k2:(u:Int)/2=(k:Int):=by omega
 have v0:(0:Int)≤(k:Int):=by omega
 have v2:(k:Int)≤4194304:=by omega
 have v1:(k:Int)<(c.es.length:Int):=by omega
 rcases acn u with hm|hm
 ·have hto:(Cs.to c.es u:Int)=q.2:=by
   have:=(Cs.iY hq).2
   rw[show 2*k=u by omega] at this
   rw[this]
   omega
  have k3:((u:Int)).tmod 2=0:=by rw[ab3 (by omega)];omega
  have k4:(u:Int)%2=0:=by omega
  rw[hto]
  clear h hq eb hok hm hto cj
  go_enter Tryz.func65,Tryz.ntmps65
  go_wp2
  go_ret
  exact⟨rfl,rfl⟩
 ·have hto:(Cs.to c.es u:Int)=q.1:=by
   have:=(Cs.nH hq).2
   rw[show 2*k+1=u by omega] at this
   rw[this]
   omega
  have k3:((u:Int)).tmod 2=1:=by rw[ab3 (by omega)];omega
  have k4:(u:Int)%2=1:=by omega
  rw[hto]
  clear h hq eb hok hm hto cj
  go_enter Tryz.func65,Tryz.ntmps65
  go_wp2
  go_ret
  exact⟨rfl,rfl⟩
set_option maxRecDepth 100000 in
set_option maxHeartbeats 4000000 in
theorem lZ (h:bV c p W) {u:Nat} (hu:u<2*c.es.length):Calls Tryz.prog 70 #[.pointer (some ⟨p,0,none⟩),.int .i64 (u:Int)] W fun e w'=>e= .returned (.int .i64 (Cs.fr c.es u:Int))∧w'=W:=by
 have cj:=h.val.few
 have hxt:=Cs.wB u (by omega)
 have hto:=uH h (Cs.uL hu)
 have e1:Cs.to c.es (Cs.twin u)=Cs.fr c.es u:=by
  have h1:=Cs.BJ c.es (Cs.twin u)
  have h2:Cs.twin (Cs.twin u)=u:=by
   unfold Cs.twin
   split<;>split<;>omega
  rw[h2] at h1
  exact h1.symm
 rw[e1] at hto
 have jF:=Nu.hid hto
 clear h hto e1 cj
 go_enter Tryz.func70,Tryz.ntmps70
 go_wp2_with (go_at_call 65;refine jF.out.mono ?_;rintro e w1 ⟨rfl,rfl⟩)
 go_ret
 exact⟨rfl,rfl⟩
theorem eC {u k:Nat} (hk:u/2=k):((u:Int)).tdiv 2=(k:Int)∧(u:Int)/2=(k:Int):=by
 rw[aaZ (by omega)]
 omega
set_option maxRecDepth 100000 in
set_option maxHeartbeats 4000000 in
theorem o8 (h:bV c p W) {u:Nat} (hu:u<2*c.es.length):Calls Tryz.prog 38 #[.pointer (some ⟨p,0,none⟩),.int .i64 (u:Int)] W fun e w'=>e= .returned (.bool (decide (Df.at_ c.s.par (Cs.to c.es u)≠(u:Int))))∧Below W.heap.size W w':=by
 have hl:=Cs.bH h.val hu
 obtain⟨b,o,ef,hc⟩:=h.par hl.2
 have c2:∀D:LW W,D.val.cell? ⟨p,2,none⟩=some (.slice (some ⟨b,o,none⟩) c.n c.f.c1):=fun D=>by have:=(h.later D.h).c2;rwa[ef] at this
 obtain⟨t,ht⟩:∃t,Cs.to c.es u=t:=⟨_,rfl⟩
 rw[ht] at hl ⊢
 obtain⟨x,hx⟩:∃x,Df.at_ c.s.par t=x:=⟨_,rfl⟩
 rw[hx]
 have d2:∀D:LW W,D.val.cell? ⟨b,o+t,none⟩=some (.int .i64 x):=fun D=>by rw[←hx];exact hc D.val D.h _ hl.2
 have jF:Hid (∀D:LW W,Calls Tryz.prog 65 #[.pointer (some ⟨p,0,none⟩),.int .i64 (u:Int)] D.val fun e w'=>e= .returned (.int .i64 (t:Int))∧Below D.val.heap.size D.val w'):=fun D=>(uH (h.later D.h) hu).mono fun e w' ⟨he,hw⟩=>⟨by rw[he,ht],by rw[hw];exact aae _ _⟩
 have t0:(0:Int)≤(t:Int):=by omega
 have t1:(t:Int)<(c.n:Int):=by omega
 have hne:=LW.any W
 have bI:Hid (∀D:LW W,Below W.heap.size W D.val):=fun D=>D.h
 clear h hc ef ht hx
 go_enter Tryz.func38,Tryz.ntmps38
 go_wp2_with fail
 refine aB (by kernel_rfl) (by kernel_rfl) ?_
 repeat (go_big_quiet_step ((first|(go_at_call 65;exact Calls.lw (jF.out _)))))
 refine wpQuiet_nil ?_
 rintro _ ⟨D,rfl⟩
 clear c2 d2
 go_wp2
 go_ret
 refine⟨?_,bI.out D⟩
 by_cases hxu:x=(u:Int)<;>simp[hxu]
set_option maxRecDepth 100000 in
set_option maxHeartbeats 4000000 in
theorem uI (h:bV c p W) {u:Nat} (hu:u<2*c.es.length):Calls Tryz.prog 67 #[.pointer (some ⟨p,0,none⟩),.int .i64 (u:Int)] W fun e w'=>e= .returned (.int .i64 (Df.at_ c.s.az (Cs.fr c.es u)))∧Below W.heap.size W w':=by
 have hl:=Cs.bH h.val hu
 obtain⟨b,o,ef,hc⟩:=h.az hl.1
 have c2:∀D:LW W,D.val.cell? ⟨p,3,none⟩=some (.slice (some ⟨b,o,none⟩) c.n c.f.c2):=fun D=>by have:=(h.later D.h).c3;rwa[ef] at this
 obtain⟨t,ht⟩:∃t,Cs.fr c.es u=t:=⟨_,rfl⟩
 rw[ht] at hl ⊢
 obtain⟨x,hx⟩:∃x,Df.at_ c.s.az t=x:=⟨_,rfl⟩
 rw[hx]
 have d2:∀D:LW W,D.val.cell? ⟨b,o+t,none⟩=some (.int .i64 x):=fun D=>by rw[←hx];exact hc D.val D.h _ hl.1
 have jF:Hid (∀D:LW W,Calls Tryz.prog 70 #[.pointer (some ⟨p,0,none⟩),.int .i64 (u:Int)] D.val fun e w'=>e= .returned (.int .i64 (t:Int))∧Below D.val.heap.size D.val w'):=fun D=>(lZ (h.later D.h) hu).mono fun e w' ⟨he,hw⟩=>⟨by rw[he,ht],by rw[hw];exact aae _ _⟩
 have t0:(0:Int)≤(t:Int):=by omega
 have t1:(t:Int)<(c.n:Int):=by omega
 have hne:=LW.any W
 have bI:Hid (∀D:LW W,Below W.heap.size W D.val):=fun D=>D.h
 clear h hc ef ht hx
 go_enter Tryz.func67,Tryz.ntmps67
 go_wp2_with fail
 refine aB (by kernel_rfl) (by kernel_rfl) ?_
 repeat (go_big_quiet_step ((first|(go_at_call 70;exact Calls.lw (jF.out _)))))
 refine wpQuiet_nil ?_
 rintro _ ⟨D,rfl⟩
 clear c2 d2
 go_wp2
 go_ret
 exact⟨rfl,bI.out D⟩
set_option maxRecDepth 100000 in
set_option maxHeartbeats 4000000 in
theorem sP (h:bV c p W) {u:Nat} (hu:u<2*c.es.length):Calls Tryz.prog 41 #[.pointer (some ⟨p,0,none⟩),.int .i64 (u:Int)] W fun e w'=>e= .returned (.bool (decide (Lo.low c.es c.s (u/2)<Df.at_ c.s.az (Cs.fr c.es u))))∧Below W.heap.size W w':=by
 have cj:=h.val.few
 obtain⟨k,hk⟩:∃k,u/2=k:=⟨_,rfl⟩
 have cU:k<c.es.length:=by omega
 obtain⟨b,cap,ef,hc⟩:=h.DX cU
 have c2:∀D:LW W,D.val.cell? ⟨p,6,none⟩=some (.slice (some ⟨b,0,none⟩) c.es.length cap):=fun D=>by have:=(h.later D.h).c6;rwa[ef] at this
 rw[hk]
 obtain⟨x,hx⟩:∃x,Lo.low c.es c.s k=x:=⟨_,rfl⟩
 obtain⟨y,hy⟩:∃y,Df.at_ c.s.az (Cs.fr c.es u)=y:=⟨_,rfl⟩
 rw[hx,hy]
 have d2:∀D:LW W,D.val.cell? ⟨b,k,none⟩=some (.int .i64 x):=fun D=>by rw[←hx];exact hc D.val D.h _ cU
 have jF:Hid (∀D:LW W,Calls Tryz.prog 67 #[.pointer (some ⟨p,0,none⟩),.int .i64 (u:Int)] D.val fun e w'=>e= .returned (.int .i64 y)∧Below D.val.heap.size D.val w'):=fun D=>(uI (h.later D.h) hu).mono fun e w' ⟨he,hw⟩=>⟨by rw[he,hy],hw⟩
 obtain⟨k1,k2⟩:=eC hk
 have v0:(0:Int)≤(k:Int):=by omega
 have v1:(k:Int)<(c.es.length:Int):=by omega
 have v2:(k:Int)≤4194304:=by omega
 have hne:=LW.any W
 have bI:Hid (∀D:LW W,Below W.heap.size W D.val):=fun D=>D.h
 clear h hc ef hx hy cj
 go_enter Tryz.func41,Tryz.ntmps41
 go_wp2_with fail
 refine aB (by kernel_rfl) (by kernel_rfl) ?_
 repeat (go_big_quiet_step ((first|(go_at_call 67;exact Calls.lw (jF.out _)))))
 refine wpQuiet_nil ?_
 rintro _ ⟨D,rfl⟩
 clear c2 d2
 go_wp2
 go_ret
 exact⟨rfl,bI.out D⟩
end
end
section
namespace Pl
def px:Nat→(Nat→Bool)→Bool
 |0,_=>false
 |n+1,f=>px n f ^^ f n
def fm (m:Nat) (W:Nat→Nat→Bool) (a b:Nat→Bool):Bool:=px m fun e=>px m fun f=>a e&&(b f&&W e f)
end Pl
end
section
namespace Pl
def inc (p q:Nat→Nat) (e v:Nat):Bool:=decide (p e=v)||decide (q e=v)
end Pl
end
section
namespace Pl
structure DF (n m:Nat) where
 fr:Nat→Nat
 go:Nat→Nat
 tree:Nat→Bool
 az:Nat→Int
 bQ:Nat→Nat→Prop
 lt:∀e,e<m→fr e<n∧go e<n
 refl:∀v,v<n→bQ v v
 trans:∀{a b c:Nat},bQ a b→bQ b c→bQ a c
 up:∀{u v:Nat},u<n→v<n→bQ u v→u≠v→az u<az v
 cmp:∀{a b c:Nat},a<n→b<n→c<n→bQ a c→bQ b c→az a≤az b→bQ a b
 dN:∀e,e<m→tree e=true→az (go e)=az (fr e)+1∧bQ (fr e) (go e)
 one:∀e f,e<m→f<m→tree e=true→tree f=true→go e=go f→e=f
 par:∀{e a:Nat},e<m→a<n→tree e=true→bQ a (go e)→a≠go e→bQ a (fr e)
 back:∀e,e<m→tree e=false→bQ (go e) (fr e)∧go e≠fr e
 child:∀{w v:Nat},w<n→v<n→bQ w v→w≠v→∃k,k<m∧tree k=true∧fr k=w∧bQ (go k) v
 simple:∀e f,e<m→f<m→e≠f→¬(fr e=fr f∧go e=go f)∧¬(fr e=go f∧go e=fr f)
 low:∀v,v<n→0≤az v∧az v<n
namespace DF
variable {n m:Nat} (T:DF n m)
theorem ne {e:Nat} (he:e<m):T.fr e≠T.go e:=fun h=>by
 cases ht:T.tree e with
 |true=>have:=(T.dN e he ht).1;rw[←h] at this;omega
 |false=>exact(T.back e he ht).2 h.symm
theorem same {a b c:Nat} (ha:a<n) (hb:b<n) (hc:c<n) (h1:T.bQ a c) (h2:T.bQ b c) (h:T.az a=T.az b):a=b:=
 abw fun hne=>by
  have:=T.up ha hb (T.cmp ha hb hc h1 h2 (by omega)) hne
  omega
theorem le {a b:Nat} (ha:a<n) (hb:b<n) (h:T.bQ a b):T.az a≤T.az b:=by
 by_cases e:a=b
 ·rw[e];omega
 ·have:=T.up ha hb h e;omega
open Classical in
noncomputable def OP (b e:Nat):Bool:=decide (e=b)||(T.tree e&&(decide (T.bQ (T.go e) (T.fr b))&&decide (T.az (T.go b)≤T.az (T.fr e))))
variable {T}
end DF
end Pl
end
section
namespace Pl
namespace DF
variable {n m:Nat} {T:DF n m} {W:Nat→Nat→Bool}
def swp (T:DF n m) (W:Nat→Nat→Bool) (p e f:Nat):Bool:=
 ((T.tree p&&(inc T.fr T.go e (T.go p)&&(decide (e=p)||W e p)))&&inc T.fr T.go f (T.go p)) ^^ ((T.tree p&&inc T.fr T.go e (T.go p))&&(inc T.fr T.go f (T.go p)&&(!decide (f=p)&&W f p)))
def sw (T:DF n m) (W:Nat→Nat→Bool) (e f:Nat):Bool:=W e f ^^ px m (fun p=>swp T W p e f)
noncomputable def oo (T:DF n m) (X:Nat→Nat→Bool) (b c:Nat):Bool:=fm m (fun e f=>decide (T.fr e=T.fr f)&&(!decide (e=f)&&X e f)) (T.OP b) (T.OP c)
noncomputable def oi (T:DF n m) (X:Nat→Nat→Bool) (b c:Nat):Bool:=px m (fun e=>T.OP b e&&(decide (T.fr e=T.go c)&&X e c))
end DF
end Pl
end
section
namespace Pl
namespace DF
variable {n m:Nat} {T:DF n m} {W X:Nat→Nat→Bool}
def aX (T:DF n m) (e b:Nat):Prop:=b<m∧T.tree b=false∧(e=b∨(T.tree e=true∧T.bQ (T.go e) (T.fr b)∧T.az (T.go b)<T.az (T.fr e)))
def lN (T:DF n m) (b e:Nat):Prop:=∃b',T.aX e b'∧T.az (T.go b')<T.az (T.go b)
structure LR (T:DF n m) (sd:Nat→Bool):Prop where
 same:∀{e f b c:Nat},e<m→f<m→e≠f→T.fr e=T.fr f→T.aX e b→T.aX e c→T.lN b f→T.lN c f→sd b=sd c
 EM:∀{e f b c:Nat},e<m→f<m→e≠f→T.fr e=T.fr f→T.aX e b→T.lN b f→T.aX f c→T.lN c e→sd b≠sd c
theorem aX.lt {e b:Nat} (h:T.aX e b):T.az (T.go b)<T.az (T.fr e):=by
 obtain⟨h1,h2,h|⟨_,_,h3⟩⟩:=h
 ·subst h
  obtain⟨b1,b2⟩:=T.back e h1 h2
  exact T.up (T.lt e h1).2 (T.lt e h1).1 b1 b2
 ·exact h3
end DF
end Pl
end
section
namespace Pl
namespace DF
variable {n m:Nat} {T:DF n m}
def cG (T:DF n m) (b e:Nat):Prop:=T.aX e b∧∀b',T.aX e b'→T.az (T.go b)≤T.az (T.go b')
def Aligned (T:DF n m) (sd:Nat→Bool):Prop:=∀{e b c:Nat},e<m→T.tree e=true→T.cG b e→T.cG c e→sd b=sd c
theorem Qo {b c e:Nat} (hb:T.cG b e) (hc:T.cG c e):T.az (T.go b)=T.az (T.go c):=by
 have:=hb.2 c hc.1
 have:=hc.2 b hb.1
 omega
def top (T:DF n m) (b e:Nat):Prop:=(e<m∧T.tree e=true∧T.cG b e)∧∀f,(f<m∧T.tree f=true∧T.cG b f)→(T.az (T.fr e)).toNat≤(T.az (T.fr f)).toNat
theorem DR {e b:Nat} (te:T.tree e=true) (h:T.aX e b):T.bQ (T.go e) (T.fr b)∧T.az (T.go b)<T.az (T.fr e):=by
 obtain⟨_,h2,h|⟨_,h3,h4⟩⟩:=h
 ·subst h;rw[te] at h2;cases h2
 ·exact⟨h3,h4⟩
open Classical in
noncomputable def rep (T:DF n m) (b:Nat):Nat:=
 if h:∃x,T.top b x then
  (if h2:∃c,T.cG c (Classical.choose h) then Classical.choose h2 else b)
 else b
end DF
end Pl
end
end Go.Proofs.YtdjmnpmdmjclhabGreat
