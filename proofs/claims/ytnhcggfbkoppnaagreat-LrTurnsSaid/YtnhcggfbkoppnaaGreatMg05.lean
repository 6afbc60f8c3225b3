import Derived.Test.YtnhcggfbkoppnaaGreatMg03
import Derived.Test.YtnhcggfbkoppnaaGreatMg01
import Derived.Test.YtnhcggfbkoppnaaGreatMg04
import Derived.Laws.AppendOwnNone
import Derived.Deep.RegionHeld3
import Derived.Deep.QuietTactic
import Derived.BigQuiet
import Derived.Test.YtnhcggfbkoppnaaGreatMg00
import Derived.Deep.AppendLies
namespace Go.Proofs.YtnhcggfbkoppnaaGreat
section
open Go.RowKit
structure iu (w:World) (ao:Option Addr) (n ca:Nat) (l:List Int):Prop where
 len:l.length=n
 ints:dc w ao l
 none:ao=none→n=0∧ca=0
section
variable {w w':World} {ao:Option Addr} {n ca:Nat} {l:List Int}
theorem iu.later (h:iu w ao n ca l) (hb:Below w.heap.size w w'):iu w' ao n ca l:=⟨h.len,h.ints.later hb,h.none⟩
theorem aq.ct {g:Nat} (h:aq w g l) (hl:l.length=n):iu w (some ⟨g,0,.none⟩) n ca l:=⟨hl,h.at,fun e=>by cases e⟩
theorem aS.ct {B:Nat} {v:Value} (h:aS w B v l):∃ao ca,v= .slice ao l.length ca∧iu w ao l.length ca l∧(∀x,ao=some x→B≤x.block∧x.block<w.heap.size):=by
 rcases h.2 with ⟨rfl,h0⟩|⟨g,cap,cur,rfl,hB,hh,_⟩
 ·refine⟨.none,0,by rw[h0],⟨rfl,fun j x hj=> ?_,fun _=>⟨h0,rfl⟩⟩,fun x hx=>by cases hx⟩
  have:=(List.getElem?_eq_some_iff.1 hj).1
  omega
 ·obtain⟨ao,ca,e,ha,hb⟩:=h.form
  cases e
  exact⟨_,_,rfl,⟨rfl,ha,fun e=>by cases e⟩,hb⟩
end
theorem vS {ops:Array Oper} {rest:List Oper} {o:Oper} {a:Act} {Q:Exit→Act→World→Prop} (hgd:o.guard=none) (s x:Operand)
 (ho:o.op= .call { callee:= .builtin .append,args:= #[s,x],argTypes:= #[27,27] }) (W:World) (ao:Option Addr) (n ca:Nat) (l:List Int) (hs:a.eval s= .slice (some ⟨W.heap.size,0,none⟩) 0 0) (hx:a.eval x= .slice ao n ca)
 (hr:iu W ao n ca l) (hn:n≤17592186043904)
 (h:∀gb c w',w'.ownsRow W.heap.size 3 1 (.slice (some ⟨gb,0,none⟩) n c) n (l.map (Value.int .i64))→W.heap.size≤gb→gb<w'.heap.size→n≤c→Below W.heap.size W w'→wpList Tryz.prog ops Q rest (a.put o.dst (.slice (some ⟨gb,0,none⟩) n c)) w'):
 wpList Tryz.prog ops Q (o::rest) a (W.alloc (.cells #[] 3)):=by
 obtain⟨i0,hi,hz0,hz1,hz2⟩:=info_parts Tryz.bS
 have gI:(W.alloc (.cells #[] 3)).ownsRow W.heap.size 3 1 (.slice (some ⟨W.heap.size,0,none⟩) 0 0) 0 []:=World.ownsRow_made W #[] 0 (Nat.le_refl _) (Nat.zero_le _) rfl
 have hb0:Below W.heap.size W (W.alloc (.cells #[] 3)):=(Below.refl _ _).alloc (Nat.le_refl _) _
 rcases ao with _|y
 ·obtain⟨rfl,rfl⟩:=hr.none rfl
  have hl:l=[]:=List.length_eq_zero_iff.1 hr.len
  subst hl
  refine wpList_append_own_none hgd s x 27 ho W.heap.size 3 i0 1 Tryz.underlying27 hi _ 0 [] hs gI hx ?_
  exact h _ _ _ gI (Nat.le_refl _) (by simp) (Nat.le_refl _) hb0
 ·refine wpList_append_own _ hgd s x 27 ho W.heap.size 3 i0 (.int .i64 0) 1 8 Tryz.underlying27 hi hz0 hz1 hz2 rfl (by decide) _ 0 [] hs gI y n ca (l.map (Value.int .i64)) hx (by rw[List.length_map,hr.len];omega) ?_ (ints_oneCell .i64 _) (by unfold maxLen;omega) (by rw[Nat.zero_add];omega) (by simp) ?_
  ·intro j u hj
   rw[List.getElem?_map] at hj
   cases AW:l[j]? with
   |none=>rw[AW] at hj;cases hj
   |some z=>
    rw[AW] at hj
    obtain rfl:=Option.some.inj hj
    obtain⟨b,o',e,hc⟩:=hr.ints j z AW
    cases e
    have ea:((⟨b,o',none⟩:Addr).add j)=⟨b,o'+j,none⟩:=by
     by_cases h0:j=0<;>simp[Addr.add,h0]
    rw[ea]
    exact(World.grownBy_alloc W _ none).cell hc (by simp)
  ·intro v' w' hown' hg hiff
   rw[Nat.zero_add,List.nil_append] at hown'
   rcases hown'.2 with ⟨hnil,_⟩|⟨gb,c,cur,rfl,hgb,hh,hlc,_⟩
   ·have:=(hiff.1 hnil).1
    cases this
   ·exact h gb c w' hown' hgb (lt_of_block hh) hlc (hb0.grown hg (by simp) (fun q hq=>by cases hq;exact Nat.le_refl _))
end
section
open Go.RowKit
structure For where
 a1:Option Addr
 a2:Option Addr
 a3:Option Addr
 a4:Option Addr
 c1:Nat
 c2:Nat
 c3:Nat
 c4:Nat
abbrev For.val (f:For) (s:Df.St):Value:= .agg #[.slice f.a1 s.par.length f.c1,.slice f.a2 s.ay.length f.c2,.slice f.a3 s.ord.length f.c3,.slice f.a4 s.aJ.length f.c4]
structure dF (w:World) (f:For) (s:Df.St):Prop where
 l1:iu w f.a1 s.par.length f.c1 s.par
 l2:iu w f.a2 s.ay.length f.c2 s.ay
 l3:iu w f.a3 s.ord.length f.c3 s.ord
 l4:iu w f.a4 s.aJ.length f.c4 s.aJ
 n1:s.par.length≤17592186043904
 n2:s.ay.length≤17592186043904
 n3:s.ord.length≤17592186043904
 n4:s.aJ.length≤17592186043904
theorem dF.later {w w':World} {f:For} {s:Df.St} (h:dF w f s) (hb:Below w.heap.size w w'):dF w' f s:=⟨h.l1.later hb,h.l2.later hb,h.l3.later hb,h.l4.later hb,h.n1,h.n2,h.n3,h.n4⟩
theorem lK.ct {w:World} {B:Nat} {v1 v2 v3 v4:Value} {s:Df.St} (h:lK w B v1 v2 v3 v4 s) (hn:s.par.length≤17592186043904∧s.ay.length≤17592186043904∧s.ord.length≤17592186043904∧s.aJ.length≤17592186043904):
 ∃f:For,v1= .slice f.a1 s.par.length f.c1∧v2= .slice f.a2 s.ay.length f.c2∧v3= .slice f.a3 s.ord.length f.c3∧v4= .slice f.a4 s.aJ.length f.c4∧dF w f s:=by
 obtain⟨a1,c1,e1,h1,_⟩:=h.o1.ct
 obtain⟨a2,c2,e2,h2,_⟩:=h.o2.ct
 obtain⟨a3,c3,e3,h3,_⟩:=h.o3.ct
 obtain⟨a4,c4,e4,h4,_⟩:=h.o4.ct
 exact⟨⟨a1,a2,a3,a4,c1,c2,c3,c4⟩,e1,e2,e3,e4,h1,h2,h3,h4,hn.1,hn.2.1,hn.2.2.1,hn.2.2.2⟩
theorem JB (ty:TypeId) (W:World) (b:Nat) (ao:Option Addr) (n ca:Nat) (l:List Int) (hb:W.heap[b]? =some (.cells #[] 3 (0,0))) (hr:iu W ao n ca l) (hn:n≤17592186043904):
 ∃g c w',(Builtin.append_ #[27,27] ty #[.slice (some ⟨b,0,none⟩) 0 0,.slice ao n ca]).run Tryz.prog W= .ok (.slice (some ⟨g,0,none⟩) n c) w'∧(g=b∨W.heap.size≤g)∧(∀B,B≤b→aS w' B (.slice (some ⟨g,0,none⟩) n c) l)∧g<w'.heap.size∧Below W.heap.size W w':=by
 obtain⟨i0,hi,hz0,hz1,hz2⟩:=info_parts Tryz.bS
 have hlt:=lt_of_block hb
 have gI:∀B,B≤b→W.ownsRow B 3 1 (.slice (some ⟨b,0,none⟩) 0 0) 0 []:=fun B hB=>⟨rfl,.inr ⟨b,0,#[],rfl,hB,hb,Nat.le_refl _,by unfold maxLen;omega,rfl,rfl⟩⟩
 by_cases h0:n=0
 ·subst h0
  have hl:l=[]:=List.length_eq_zero_iff.1 hr.len
  subst hl
  refine⟨b,0,W,?_,.inl rfl,fun B hB=>gI B hB,hlt,Below.refl _ _⟩
  cases ao with
  |none=>
   obtain⟨_,rfl⟩:=hr.none rfl
   exact run_append_owned_none (P:=Tryz.prog) (w:=W) b 27 ty 3 i0 1 Tryz.underlying27 hi _ 0 [] (gI b (Nat.le_refl _))
  |some y=>
   have:=run_append_room_cells (P:=Tryz.prog) W 27 ty 3 i0 Tryz.underlying27 hi b 0 0 0 y 0 ca [] (by simp) (fun j u hj=>by simp at hj) (fun u hu=>by simp at hu) (Nat.le_refl _) (fun j hj=>by simp at hj) (fun j hj=>by simp at hj)
   rw[this]
   simp[World.setCells]
 ·obtain⟨y,hy⟩:∃y,ao=some y:=by
   cases ao with
   |none=>exact absurd (hr.none rfl).1 h0
   |some y=>exact⟨y,rfl⟩
  subst hy
  obtain⟨v',w',hrun,r1,r2⟩:=run_append_arg_grows (P:=Tryz.prog) W 27 ty 3 i0 (.int .i64 0) 1 8 Tryz.underlying27 hi hz0 hz1 hz2 rfl (by decide) ⟨b,0,none⟩ 0 0 [] rfl (fun j u hj=>by simp at hj) y n ca (l.map (Value.int .i64)) (by rw[List.length_map,hr.len];omega) (fun j u hj=>by
   rw[List.getElem?_map] at hj
   cases AW:l[j]? with
   |none=>rw[AW] at hj;cases hj
   |some z=>
    rw[AW] at hj
    obtain rfl:=Option.some.inj hj
    obtain⟨b',o',e,hc⟩:=hr.ints j z AW
    cases e
    have ea:((⟨b',o',none⟩:Addr).add j)=⟨b',o'+j,none⟩:=by
     by_cases h0:j=0<;>simp[Addr.add,h0]
    rw[ea]
    exact hc) (by omega) (by unfold maxLen;omega) (by omega)
  rw[Nat.zero_add,List.nil_append] at r1
  obtain⟨k,hk⟩:∃k,n=k+1:=⟨n-1,by omega⟩
  rw[hk] at r1
  obtain⟨g,c,rfl⟩:=iy r1
  rw[←hk] at r1 hrun
  have hg:=World.ownsRow.lt r1 g rfl
  refine⟨g,c,w',hrun,.inr hg.1,fun B hB=> ?_,hg.2,⟨r2.os,r2.tape,r2.output,r2.size,fun k hk=>r2.block k hk (by simp)⟩⟩
  have:aS w' W.heap.size (.slice (some ⟨g,0,none⟩) n c) l:=by
   unfold aS
   rw[hr.len]
   exact r1
  exact this.lower (by omega)
end
section
open Go.RowKit
theorem tR {w V:World} (h:Below w.heap.size w V) (o:Obj):Below w.heap.size w (V.alloc o):=h.alloc h.size o
theorem tQ {w V:World} (h:Below w.heap.size w V):Below w.heap.size w V.drew:=h.drew
theorem bZ {w:World} {ao:Option Addr} {k ca:Nat} {l:List Int} (h:iu w ao k ca l) {i:Nat} (hi:i<k):∃b o,ao=some ⟨b,o,none⟩∧w.cell? ⟨b,o+i,none⟩=some (.int .i64 (l.getD i (-1))):=h.ints i _ (cP (-1) (by rw[h.len];exact hi))
def jv (P:Prop) (w:World) (e:Ending) (w':World):Prop:=∃b,e= .returned (.bool b)∧(b=true↔P)∧Below w.heap.size w w'
end
section
open Go.RowKit
theorem Ky {n:Nat} {es:List (Int×Int)} (hv:Si.Val n es) {j:Nat} (hj:j<2*es.length):∃e,es[j/2]? =some e∧Si.ok n e∧((j%2=0∧(Cs.fr es j:Int)=e.1∧(Cs.to es j:Int)=e.2)∨(j%2=1∧(Cs.fr es j:Int)=e.2∧(Cs.to es j:Int)=e.1)):=by
 obtain⟨e,he⟩:∃e,es[j/2]? =some e:=⟨_,List.getElem?_eq_getElem (by omega)⟩
 have hok:=hv.each _ e he
 refine⟨e,he,hok,?_⟩
 unfold Si.ok at hok
 rcases Nat.mod_two_eq_zero_or_one j with h|h
 ·left
  obtain⟨g1,g2⟩:=Cs.iR he
  rw[show 2*(j/2)=j by omega] at g1 g2
  exact⟨h,by omega,by omega⟩
 ·right
  obtain⟨g1,g2⟩:=Cs.nw he
  rw[show 2*(j/2)+1=j by omega] at g1 g2
  exact⟨h,by omega,by omega⟩
end
section
open Go.RowKit Go.Sort
set_option maxRecDepth 100000 in
set_option maxHeartbeats 4000000 in
theorem Gg (n:Nat) (ao:Option Addr) (ca:Nat) (es:List (Int×Int)) (j:Nat) (w:World) (he:aL w ao es) (hv:Si.Val n es) (hj:j<2*es.length):
 Calls Tryz.prog 50 #[.agg #[.int .i64 (n:Int),.slice ao es.length ca],.int .i64 (j:Int)] w fun e w'=>e= .returned (.int .i64 (Cs.fr es j:Int))∧Below w.heap.size w w':=by
 have hb0:Below w.heap.size w (w.alloc (.cells #[.int .i64 (n:Int),.slice ao es.length ca] 24)):=(Below.refl _ _).alloc (Nat.le_refl _) _
 have cq:=hv.few
 obtain⟨e,hee,hok,hpar⟩:=Ky hv hj
 obtain⟨b,o,rfl,c0,c1⟩:=(he.later hb0) (j/2) e hee
 obtain⟨jh,mH⟩:∃jh,jh=j/2:=⟨_,rfl⟩
 rw[←mH] at c0 c1 hee
 have hj0:(0:Int)≤(j:Int):=by omega
 have wH:(j:Int).tdiv 2=(jh:Int):=by rw[Int.tdiv_eq_ediv_of_nonneg hj0];omega
 have AD:(j:Int)/2=(jh:Int):=by omega
 have hjd:j/2=jh:=mH.symm
 have hj2:(0:Int)≤(jh:Int):=by omega
 have hj3:(jh:Int)<(es.length:Int):=by omega
 have dm:=Nu.hid hb0
 rcases hpar with ⟨hm,hf,ht⟩|⟨hm,hf,ht⟩
 ·have hm1:(j:Int).tmod 2=0:=by rw[Int.tmod_eq_emod_of_nonneg hj0];omega
  have hm2:(j:Int)%2=0:=by omega
  rw[hf]
  clear he hv hok hee hb0 hf ht mH hm
  go_enter Tryz.func50,Tryz.ntmps50
  go_wp2
  go_ret
  exact⟨rfl,dm.out⟩
 ·have hm1:(j:Int).tmod 2=1:=by rw[Int.tmod_eq_emod_of_nonneg hj0];omega
  have hm2:(j:Int)%2=1:=by omega
  rw[hf]
  clear he hv hok hee hb0 hf ht mH hm
  go_enter Tryz.func50,Tryz.ntmps50
  go_wp2
  go_ret
  exact⟨rfl,dm.out⟩
set_option maxRecDepth 100000 in
set_option maxHeartbeats 4000000 in
theorem Dq (n:Nat) (ao:Option Addr) (ca:Nat) (es:List (Int×Int)) (j:Nat) (w:World) (he:aL w ao es) (hv:Si.Val n es) (hj:j<2*es.length):
 Calls Tryz.prog 35 #[.agg #[.int .i64 (n:Int),.slice ao es.length ca],.int .i64 (j:Int)] w fun e w'=>e= .returned (.int .i64 (Cs.to es j:Int))∧Below w.heap.size w w':=by
 have hb0:Below w.heap.size w (w.alloc (.cells #[.int .i64 (n:Int),.slice ao es.length ca] 24)):=(Below.refl _ _).alloc (Nat.le_refl _) _
 have cq:=hv.few
 have hxt:=Cs.vR j (by omega)
 have hfr:=Gg n ao ca es (Cs.twin j) _ (he.later hb0) hv (Cs.uA hj)
 rw[Cs.Be] at hfr
 have jO:=Nu.hid hfr
 have dm:=Nu.hid hb0
 clear he hv hb0 hfr
 go_enter Tryz.func35,Tryz.ntmps35
 go_wp2_with (go_at_call 50;refine jO.out.mono ?_;rintro e w1 ⟨rfl,hb1⟩)
 go_ret
 exact⟨rfl,dm.out.trans (hb1.mono dm.out.size)⟩
end
section
open Go.RowKit Go.Sort
def bX (w:World) (g:Nat) (l:List Bool):Prop:=w.heap[g]? =some (.cells (l.map Value.bool).toArray 4 (0,0))
section
variable {w w':World} {g:Nat} {l:List Bool}
theorem bX.lt (h:bX w g l):g<w.heap.size:=lt_of_block h
theorem bX.cell (h:bX w g l) {i:Nat} {x:Bool} (hx:l[i]? =some x):w.cell? ⟨g,i,none⟩=some (.bool x):=by
 unfold bX at h
 simp[World.cell?,h,hx]
theorem bX.free (h:bX w g l) (i:Nat):w.frozen? ⟨g,i,none⟩=false:=by
 unfold bX at h
 simp[World.frozen?,h]
theorem bX.set (h:bX w g l) (i:Nat) (x:Bool):bX (w.setCell ⟨g,i,none⟩ (.bool x)) g (l.set i x):=by
 unfold bX at h ⊢
 rw[heap_setCell_same w g i _ _ _ h]
 simp[List.map_set]
theorem bX.later (h:bX w g l) (hb:Below w.heap.size w w'):bX w' g l:=(hb.block g h.lt).trans h
theorem bX.aK {b i:Nat} (h:bX w g l) (hf:g≠b) (x:Value):bX (w.setCell ⟨b,i,none⟩ x) g l:=(cM hf x).trans h
end
end
section
open Go.RowKit
namespace Df
def lv (p:Int):List Int→List Int
 |[]=>[]
 |x::W=>if x=p then x::W else lv p W
end Df
section
end
end
section
open Go.RowKit
theorem eA {w w':World} {B R:Nat} (h:Below B w w') (hR:B≤R) (a b c d:Value):Below B w (dY w' R a b c d):=
 (((h.setCell (p:=⟨R,0,none⟩) hR a).setCell (p:=⟨R,1,none⟩) hR b).setCell (p:=⟨R,2,none⟩) hR c).setCell (p:=⟨R,3,none⟩) hR d
end
section
open Go.RowKit aj
def Fg (b k:Nat):ny:=⟨[],fun v _ _ _ _=>v= .pointer (some ⟨b,k,none⟩)⟩
def qE (j:Nat) (x:Value):ny:=⟨[j],fun v _ _ _ _=>v=x⟩
end
section
open Go.RowKit aj
def pI:ny:=⟨[],fun v _ lo hi w=>v= .slice (some ⟨lo,0,none⟩) 0 0∧lo<hi∧w.heap[lo]? =some (.cells #[] 3 (0,0))⟩
def ig (i j B:Nat) (l:List Int):ny:=⟨[i,j],fun v vs lo hi w=>∃g c b y,v= .slice (some ⟨g,0,none⟩) l.length c∧vs=[.slice (some ⟨b,0,none⟩) 0 0,y]∧(g=b∨(lo≤g∧g<hi))∧aS w B v l⟩
def fj (b B:Nat) (f:For) (s:Df.St):Nat→ny
 |0=>pI
 |1=>Fg b 0
 |2=>qE 1 (.slice f.a1 s.par.length f.c1)
 |3=>ig 0 2 B s.par
 |4=>pI
 |5=>Fg b 1
 |6=>qE 5 (.slice f.a2 s.ay.length f.c2)
 |7=>ig 4 6 B s.ay
 |8=>pI
 |9=>Fg b 2
 |10=>qE 9 (.slice f.a3 s.ord.length f.c3)
 |11=>ig 8 10 B s.ord
 |12=>pI
 |13=>Fg b 3
 |14=>qE 13 (.slice f.a4 s.aJ.length f.c4)
 |15=>ig 12 14 B s.aJ
 |_=>⟨[3,7,11,15],fun v vs _ _ _=>∃x1 x2 x3 x4,vs=[x1,x2,x3,x4]∧v= .agg #[x1,x2,x3,x4]⟩
theorem pI.OZ {v:Value} {vs:List Value} {lo hi:Nat} {w w':World} (hh:hi≤w.heap.size) (hb:Below w.heap.size w w') (h:pI.post v vs lo hi w):pI.post v vs lo hi w':=
 ⟨h.1,h.2.1,(hb.block lo (Nat.lt_of_lt_of_le h.2.1 hh)).trans h.2.2⟩
theorem ig.OZ {i j B:Nat} {l:List Int} {v:Value} {vs:List Value} {lo hi:Nat} {w w':World} (hb:Below w.heap.size w w') (h:(ig i j B l).post v vs lo hi w):(ig i j B l).post v vs lo hi w':=by
 obtain⟨g,c,b,y,h1,h2,h3,h4⟩:=h
 exact⟨g,c,b,y,h1,h2,h3,h4.later hb⟩
theorem nv {i j B lo n ca:Nat} {l:List Int} {t a b:Tmp} {ps:String} {af:Array Edge} {ev:Operand→Value} {U:World} {x y:Value} {ao:Option Addr} (ha:ev (.tmp a)=x) (hb:ev (.tmp b)=y) (hx:x= .slice (some ⟨lo,0,none⟩) 0 0) (hblk:U.heap[lo]? =some (.cells #[] 3 (0,0))) (hB:B≤lo) (hy:y= .slice ao n ca) (hl:iu U ao n ca l) (hn:n≤17592186043904):
 cF Tryz.prog { dst:=some t,op:= .call { callee:= .builtin .append,args:= #[.tmp a,.tmp b],argTypes:= #[27,27] },type:=27,pos:=ps,after:=af,guard:=none } ev U fun v w'=>Below U.heap.size U w'∧(ig i j B l).post v [x,y] U.heap.size w'.heap.size w':=by
 obtain⟨g,c,w',hrun,h1,h2,h3,h4⟩:=JB 27 U lo ao n ca l hblk hl hn
 have hlen:=hl.len
 subst hlen
 refine ah (v:= .slice (some ⟨g,0,none⟩) l.length c) (w':=w') ?_ ⟨h4,g,c,lo,y,rfl,by rw[hx],?_,h2 B hB⟩
 ·simp[execOp,resolve,invoke,builtin,ha,hb,hx,hy,hrun,Result.andThen]
 ·rcases h1 with h1|h1
  ·exact .inl h1
  ·exact .inr ⟨h1,h3⟩
theorem CP {t1 t2:Tmp} {ty:TypeId} {ps:String} {af:Array Edge} {ev:Operand→Value} {V:World} {R x1 x2 x3 x4 l1 l2 l3 l4 d1 d2 d3 d4:Nat} {y1 y2 y3 y4:Value} (h1:ev (.tmp t1)= .pointer (some ⟨R,0,none⟩)) (h2:ev (.tmp t2)= .agg #[.slice (some ⟨x1,0,none⟩) l1 d1,.slice (some ⟨x2,0,none⟩) l2 d2,.slice (some ⟨x3,0,none⟩) l3 d3,.slice (some ⟨x4,0,none⟩) l4 d4])
 (hb:V.heap[R]? =some (.cells #[y1,y2,y3,y4] 36 (0,0))):
 cF Tryz.prog { dst:=none,op:= .store 36 (.tmp t1) (.tmp t2),type:=ty,pos:=ps,after:=af,guard:=none } ev V fun _ w'=>w'=dY V R (.slice (some ⟨x1,0,none⟩) l1 d1) (.slice (some ⟨x2,0,none⟩) l2 d2) (.slice (some ⟨x3,0,none⟩) l3 d3) (.slice (some ⟨x4,0,none⟩) l4 d4):=by
 obtain⟨k0,k1,k2,k3,kf⟩:=au hb
 refine bF ?_ rfl
 unfold dY
 simp[execOp,go_sem,h1,h2,k0,k1,k2,k3,kf]
end
section
open Go.RowKit aj
theorem N8 {tm:Array Value} {V:World} {R:Nat} {y1 y2 y3 y4:Value} (h2:tm.getD 2 undef= .pointer (some ⟨R,0,none⟩)) (hb:V.heap[R]? =some (.cells #[y1,y2,y3,y4] 36 (0,0))):(results Tryz.f20 tm).run Tryz.prog V= .ok (.agg #[y1,y2,y3,y4]) V:=by
 obtain⟨k0,k1,k2,k3,-⟩:=au hb
 have h3:tm[2]?.getD undef= .pointer (some ⟨R,0,none⟩):=by simpa using h2
 simp[results,Tryz.results20,go_sem,h3,k0,k1,k2,k3]
def LA (s:Df.St) (w:World) (e:Ending) (w':World):Prop:=
 ∃v1 v2 v3 v4,e= .returned (.agg #[v1,v2,v3,v4])∧lK w' w.heap.size v1 v2 v3 v4 s∧Below w.heap.size w w'
set_option maxRecDepth 100000 in
set_option maxHeartbeats 8000000 in
theorem KO (f:For) (s:Df.St) (w:World) (h:dF w f s):
 Calls Tryz.prog 20 #[f.val s] w (LA s w):=by
 obtain⟨W,hW⟩:∃W,W=(w.alloc (.cells #[.slice f.a1 s.par.length f.c1,.slice f.a2 s.ay.length f.c2,.slice f.a3 s.ord.length f.c3,.slice f.a4 s.aJ.length f.c4] 36)).alloc (.cells #[.slice none 0 0,.slice none 0 0,.slice none 0 0,.slice none 0 0] 36):=⟨_,rfl⟩
 have hB0:Below w.heap.size w W:=by rw[hW];exact((Below.refl _ _).alloc (Nat.le_refl _) _).alloc (by simp) _
 have hsz:W.heap.size=w.heap.size+2:=by rw[hW];simp
 have g1:W.heap[w.heap.size]? =some (.cells #[.slice f.a1 s.par.length f.c1,.slice f.a2 s.ay.length f.c2,.slice f.a3 s.ord.length f.c3,.slice f.a4 s.aJ.length f.c4] 36 (0,0)):=by
  rw[hW,Below.heap_alloc _ _ _ (by simp)]
  exact heap_alloc_new w _
 have g2:W.heap[w.heap.size+1]? =some (.cells #[.slice none 0 0,.slice none 0 0,.slice none 0 0,.slice none 0 0] 36 (0,0)):=by
  rw[hW]
  exact alloc_at (by simp)
 have hF:=h.later hB0
 have lZ:=Nu.hid hW
 clear h hW
 go_enter Tryz.func20,Tryz.ntmps20
 go_wp2_with fail
 rename_i K1 hK1
 rw[←lZ.out]
 refine wp_region_any (by kernel_rfl) ?_
 have dU:Below W.heap.size W { W with drawn:=W.drawn+1 }:=(Below.refl _ _).drew
 refine aj.any (fj w.heap.size W.heap.size f s) 17 20 (by decide) rfl (by kernel_rfl) ?_ ?_ ?_
 ·intro i hi v vs lo hi' U U' h1 h2 h3
  have hc:i=0∨i=1∨i=2∨i=3∨i=4∨i=5∨i=6∨i=7∨i=8∨i=9∨i=10∨i=11∨i=12∨i=13∨i=14∨i=15∨i=16:=by omega
  rcases hc with rfl|rfl|rfl|rfl|rfl|rfl|rfl|rfl|rfl|rfl|rfl|rfl|rfl|rfl|rfl|rfl|rfl<;>first|exact pI.OZ h1 h2 h3|exact ig.OZ h2 h3|exact h3
 ·intro i o ρ U ev hi ho hb hd aA aR _
  have hb2:Below W.heap.size W U:=dU.trans hb
  have Ih:=hF.later hb2
  have k1:=(hb2.block w.heap.size (by omega)).trans g1
  obtain⟨c0,c1,c2,c3,-⟩:=au k1
  have hnew:∀(t:Tmp) (ps:String) (af:Array Edge) (ev:Operand→Value),cF Tryz.prog { dst:=some t,op:= .buildSlice 27 0 #[],type:=27,pos:=ps,after:=af,guard:=none } ev U fun v w'=>Below U.heap.size U w'∧pI.post v [] U.heap.size w'.heap.size w':=fun t ps af ev=>by
   refine ah (v:= .slice (some ⟨U.heap.size,0,none⟩) 0 0) (w':=U.alloc (.cells #[] 3)) ?_ ⟨(Below.refl _ _).alloc (Nat.le_refl _) _,rfl,by simp,heap_alloc_new _ _⟩
   simp[execOp,go_sem]
  have hc:i=0∨i=1∨i=2∨i=3∨i=4∨i=5∨i=6∨i=7∨i=8∨i=9∨i=10∨i=11∨i=12∨i=13∨i=14∨i=15∨i=16:=by omega
  rcases hc with rfl|rfl|rfl|rfl|rfl|rfl|rfl|rfl|rfl|rfl|rfl|rfl|rfl|rfl|rfl|rfl|rfl<;>obtain rfl:=Option.some.inj ho
  ·exact hnew _ _ _ _
  ·have e1:=aR 1 (by kernel_rfl)
   exact ah (v:= .pointer (some ⟨w.heap.size,0,none⟩)) (w':=U) (by simp[execOp,go_sem,e1]) ⟨Below.refl _ _,rfl⟩
  ·obtain⟨_,_,_,_,_,r4⟩:=hd 1 (by simp[fj,qE])
   have r5:ρ 1= .pointer (some ⟨w.heap.size,0,none⟩):=r4
   exact ah (v:= .slice f.a1 s.par.length f.c1) (w':=U) (by simp[execOp,go_sem,aA 1 4 (by omega) rfl (by decide),r5,c0]) ⟨Below.refl _ _,rfl⟩
  ·obtain⟨lo,hi',q1,q2,q3,r1,r2,r3⟩:=hd 0 (by simp[fj,ig])
   obtain⟨_,_,_,_,_,r4⟩:=hd 2 (by simp[fj,ig])
   exact nv (aA 0 3 (by omega) rfl (by decide)) (aA 2 5 (by omega) rfl (by decide)) r1 r3 q1 r4 Ih.l1 Ih.n1
  ·exact hnew _ _ _ _
  ·have e1:=aR 1 (by kernel_rfl)
   exact ah (v:= .pointer (some ⟨w.heap.size,1,none⟩)) (w':=U) (by simp[execOp,go_sem,e1]) ⟨Below.refl _ _,rfl⟩
  ·obtain⟨_,_,_,_,_,r4⟩:=hd 5 (by simp[fj,qE])
   have r5:ρ 5= .pointer (some ⟨w.heap.size,1,none⟩):=r4
   exact ah (v:= .slice f.a2 s.ay.length f.c2) (w':=U) (by simp[execOp,go_sem,aA 5 8 (by omega) rfl (by decide),r5,c1]) ⟨Below.refl _ _,rfl⟩
  ·obtain⟨lo,hi',q1,q2,q3,r1,r2,r3⟩:=hd 4 (by simp[fj,ig])
   obtain⟨_,_,_,_,_,r4⟩:=hd 6 (by simp[fj,ig])
   exact nv (aA 4 7 (by omega) rfl (by decide)) (aA 6 9 (by omega) rfl (by decide)) r1 r3 q1 r4 Ih.l2 Ih.n2
  ·exact hnew _ _ _ _
  ·have e1:=aR 1 (by kernel_rfl)
   exact ah (v:= .pointer (some ⟨w.heap.size,2,none⟩)) (w':=U) (by simp[execOp,go_sem,e1]) ⟨Below.refl _ _,rfl⟩
  ·obtain⟨_,_,_,_,_,r4⟩:=hd 9 (by simp[fj,qE])
   have r5:ρ 9= .pointer (some ⟨w.heap.size,2,none⟩):=r4
   exact ah (v:= .slice f.a3 s.ord.length f.c3) (w':=U) (by simp[execOp,go_sem,aA 9 12 (by omega) rfl (by decide),r5,c2]) ⟨Below.refl _ _,rfl⟩
  ·obtain⟨lo,hi',q1,q2,q3,r1,r2,r3⟩:=hd 8 (by simp[fj,ig])
   obtain⟨_,_,_,_,_,r4⟩:=hd 10 (by simp[fj,ig])
   exact nv (aA 8 11 (by omega) rfl (by decide)) (aA 10 13 (by omega) rfl (by decide)) r1 r3 q1 r4 Ih.l3 Ih.n3
  ·exact hnew _ _ _ _
  ·have e1:=aR 1 (by kernel_rfl)
   exact ah (v:= .pointer (some ⟨w.heap.size,3,none⟩)) (w':=U) (by simp[execOp,go_sem,e1]) ⟨Below.refl _ _,rfl⟩
  ·obtain⟨_,_,_,_,_,r4⟩:=hd 13 (by simp[fj,qE])
   have r5:ρ 13= .pointer (some ⟨w.heap.size,3,none⟩):=r4
   exact ah (v:= .slice f.a4 s.aJ.length f.c4) (w':=U) (by simp[execOp,go_sem,aA 13 16 (by omega) rfl (by decide),r5,c3]) ⟨Below.refl _ _,rfl⟩
  ·obtain⟨lo,hi',q1,q2,q3,r1,r2,r3⟩:=hd 12 (by simp[fj,ig])
   obtain⟨_,_,_,_,_,r4⟩:=hd 14 (by simp[fj,ig])
   exact nv (aA 12 15 (by omega) rfl (by decide)) (aA 14 17 (by omega) rfl (by decide)) r1 r3 q1 r4 Ih.l4 Ih.n4
  ·obtain⟨_,_,_,_,_,g1,d1,_,_,r1,_⟩:=hd 3 (by simp[fj])
   obtain⟨_,_,_,_,_,g2,d2,_,_,r2,_⟩:=hd 7 (by simp[fj])
   obtain⟨_,_,_,_,_,g3,d3,_,_,r3,_⟩:=hd 11 (by simp[fj])
   obtain⟨_,_,_,_,_,g4,d4,_,_,r4,_⟩:=hd 15 (by simp[fj])
   exact ah (v:= .agg #[ρ 3,ρ 7,ρ 11,ρ 15]) (w':=U) (by simp[execOp,go_sem,aA 3 6 (by omega) rfl (by decide),aA 7 10 (by omega) rfl (by decide),aA 11 14 (by omega) rfl (by decide),aA 15 18 (by omega) rfl (by decide),r1,r2,r3,r4]) ⟨Below.refl _ _,_,_,_,_,rfl,rfl⟩
 ·intro ρ lo hi V a _ A7 aA aR hb hd DJ
  have p2:a.eval (.tmp 2)= .pointer (some ⟨w.heap.size+1,0,none⟩):=aR 2 (by kernel_rfl)
  have p19:=aA 16 19 (by omega) rfl (by decide)
  have hb2:Below W.heap.size W V:=dU.trans hb
  have hk2:=(hb2.block (w.heap.size+1) (by omega)).trans g2
  obtain⟨a1,_,_,m1,n1,_⟩:=hd 0 (by omega)
  obtain⟨a2,_,_,m2,n2,_⟩:=hd 4 (by omega)
  obtain⟨a3,_,_,m3,n3,_⟩:=hd 8 (by omega)
  obtain⟨a4,_,_,m4,n4,_⟩:=hd 12 (by omega)
  obtain⟨b1,_,_,x1,d1,y1,_,r1,s1,t1,u1⟩:=hd 3 (by omega)
  obtain⟨b2,_,_,x2,d2,y2,_,r2,s2,t2,u2⟩:=hd 7 (by omega)
  obtain⟨b3,_,_,x3,d3,y3,_,r3,s3,t3,u3⟩:=hd 11 (by omega)
  obtain⟨b4,_,_,x4,d4,y4,_,r4,s4,t4,u4⟩:=hd 15 (by omega)
  obtain⟨_,_,_,q1,q2,q3,q4,hq,hv⟩:=hd 16 (by omega)
  have hv2:ρ 16= .agg #[ρ 3,ρ 7,ρ 11,ρ 15]:=by
   have e:[ρ 3,ρ 7,ρ 11,ρ 15]=[q1,q2,q3,q4]:=hq
   simp at e
   obtain⟨rfl,rfl,rfl,rfl⟩:=e
   exact hv
  have z1:lo 0=y1:=by
   have e:[ρ 0,ρ 2]=_:=s1
   rw[m1] at e
   injection e with e1
   injection e1 with e2
   injection e2 with e3
   injection e3
  have z2:lo 4=y2:=by
   have e:[ρ 4,ρ 6]=_:=s2
   rw[m2] at e
   injection e with e1
   injection e1 with e2
   injection e2 with e3
   injection e3
  have z3:lo 8=y3:=by
   have e:[ρ 8,ρ 10]=_:=s3
   rw[m3] at e
   injection e with e1
   injection e1 with e2
   injection e2 with e3
   injection e3
  have z4:lo 12=y4:=by
   have e:[ρ 12,ρ 14]=_:=s4
   rw[m4] at e
   injection e with e1
   injection e1 with e2
   injection e2 with e3
   injection e3
  have D:=fun i j (h1:i<17) (h2:j<17) (h3:i≠j)=>DJ i j h1 h2 h3
  have Wb:x1≠x2:=by
   have:=D 0 4 (by omega) (by omega) (by omega)
   have:=D 0 7 (by omega) (by omega) (by omega)
   have:=D 3 4 (by omega) (by omega) (by omega)
   have:=D 3 7 (by omega) (by omega) (by omega)
   omega
  have V9:x1≠x3:=by
   have:=D 0 8 (by omega) (by omega) (by omega)
   have:=D 0 11 (by omega) (by omega) (by omega)
   have:=D 3 8 (by omega) (by omega) (by omega)
   have:=D 3 11 (by omega) (by omega) (by omega)
   omega
  have V5:x1≠x4:=by
   have:=D 0 12 (by omega) (by omega) (by omega)
   have:=D 0 15 (by omega) (by omega) (by omega)
   have:=D 3 12 (by omega) (by omega) (by omega)
   have:=D 3 15 (by omega) (by omega) (by omega)
   omega
  have V0:x2≠x3:=by
   have:=D 4 8 (by omega) (by omega) (by omega)
   have:=D 4 11 (by omega) (by omega) (by omega)
   have:=D 7 8 (by omega) (by omega) (by omega)
   have:=D 7 11 (by omega) (by omega) (by omega)
   omega
  have VZ:x2≠x4:=by
   have:=D 4 12 (by omega) (by omega) (by omega)
   have:=D 4 15 (by omega) (by omega) (by omega)
   have:=D 7 12 (by omega) (by omega) (by omega)
   have:=D 7 15 (by omega) (by omega) (by omega)
   omega
  have VY:x3≠x4:=by
   have:=D 8 12 (by omega) (by omega) (by omega)
   have:=D 8 15 (by omega) (by omega) (by omega)
   have:=D 11 12 (by omega) (by omega) (by omega)
   have:=D 11 15 (by omega) (by omega) (by omega)
   omega
  rw[r1] at u1
  rw[r2] at u2
  rw[r3] at u3
  rw[r4] at u4
  rw[r1,r2,r3,r4] at hv2
  have hown:lK V W.heap.size (.slice (some ⟨x1,0,none⟩) s.par.length d1) (.slice (some ⟨x2,0,none⟩) s.ay.length d2) (.slice (some ⟨x3,0,none⟩) s.ord.length d3) (.slice (some ⟨x4,0,none⟩) s.aJ.length d4) s:=by
   have ap:∀{x y n1 n2 c1 c2:Nat},x≠y→∀b,(Value.slice (some ⟨x,0,none⟩) n1 c1).ownBlock=some b→(Value.slice (some ⟨y,0,none⟩) n2 c2).ownBlock≠some b:=fun h b h1 h2=>h ((Option.some.inj h1).trans (Option.some.inj h2).symm)
   exact⟨u1,u2,u3,u4,ap Wb,ap V9,ap V5,ap V0,ap VZ,ap VY⟩
  obtain⟨z0,hz0⟩:∃z,ρ 16=z:=⟨_,rfl⟩
  have Qp:=hown.same (w':=dY V (w.heap.size+1) (.slice (some ⟨x1,0,none⟩) s.par.length d1) (.slice (some ⟨x2,0,none⟩) s.ay.length d2) (.slice (some ⟨x3,0,none⟩) s.ord.length d3) (.slice (some ⟨x4,0,none⟩) s.aJ.length d4)) fun g hg _=>kH (by omega) _ _ _ _
  have Q9:=eA (hB0.trans (hb2.mono hB0.size)) (R:=w.heap.size+1) (by omega) (.slice (some ⟨x1,0,none⟩) s.par.length d1) (.slice (some ⟨x2,0,none⟩) s.ay.length d2) (.slice (some ⟨x3,0,none⟩) s.ord.length d3) (.slice (some ⟨x4,0,none⟩) s.aJ.length d4)
  have xq:=Nu.hid hk2
  have HR:=Nu.hid (gV hk2 (.slice (some ⟨x1,0,none⟩) s.par.length d1) (.slice (some ⟨x2,0,none⟩) s.ay.length d2) (.slice (some ⟨x3,0,none⟩) s.ord.length d3) (.slice (some ⟨x4,0,none⟩) s.aJ.length d4))
  have OC:=Nu.hid (Qp.lower hB0.size)
  have oO:=Nu.hid Q9
  clear hd DJ D hown Qp Q9 Wb V9 V5 V0 VZ VY u1 u2 u3 u4 z1 z2 z3 z4 hk2 hb hb2 hF g1 g2 hz0 n1 n2 n3 n4
  rw[hv2] at p19
  have p2':a.tmps.getD 2 undef= .pointer (some ⟨w.heap.size+1,0,none⟩):=p2
  clear aA aR
  refine wpAny_ready (rs:=[17]) (by kernel_rfl) (by simp) ?_
  refine AllReady.cons rfl (fun K hK=> ?_) AllReady.nil
  rw[if_pos (by rfl)]
  refine cF.wp (R:=fun _ w'=>w'=dY V (w.heap.size+1) (.slice (some ⟨x1,0,none⟩) s.par.length d1) (.slice (some ⟨x2,0,none⟩) s.ay.length d2) (.slice (some ⟨x3,0,none⟩) s.ord.length d3) (.slice (some ⟨x4,0,none⟩) s.aJ.length d4)) ?_ ?_
  ·exact CP p2 p19 xq.out
  ·rintro v w' rfl
   refine hK _ _ ?_
   clear hK K
   refine wpAny_done (by kernel_rfl) ?_ _
   refine hK1 _ _ (wp_ret ?_)
   exact bodyPost_ret (N8 p2' HR.out) A7 ⟨_,_,_,_,rfl,OC.out,oO.out⟩
end
section
open Go.RowKit
theorem Tryz.Dw:(Tryz.prog.info? 55).map (fun i=>(i.zero,i.size,i.bytes))=some (some (.agg #[.int .i64 0,.int .i64 0]),2,16):=by kernel_rfl
def lg (ps:List (Int×Int)):List Value:=ps.flatMap fun p=>[.int .i64 p.1,.int .i64 p.2]
theorem Il (ps:List (Int×Int)) (p:Int×Int):lg (ps++[p])=lg ps++[.int .i64 p.1,.int .i64 p.2]:=by simp[lg]
theorem nP:∀ps:List (Int×Int),(lg ps).length=ps.length*2
 |[]=>rfl
 |p::ps=>by
  have:=nP ps
  simp[lg] at this ⊢
  omega
theorem wU:∀(ps:List (Int×Int)) (j:Nat) (p:Int×Int),ps[j]? =some p→(lg ps)[j*2]? =some (.int .i64 p.1)∧(lg ps)[j*2+1]? =some (.int .i64 p.2)
 |[],j,p,h=>by simp at h
 |q::ps,0,p,h=>by
  simp at h
  subst h
  simp[lg]
 |q::ps,j+1,p,h=>by
  simp at h
  have:=wU ps j p h
  have e:(j+1)*2=j*2+1+1:=by omega
  rw[e]
  simpa[lg] using this
theorem aas (g j:Nat):((⟨g,0,none⟩:Addr).add j)=⟨g,j,none⟩:=by
 by_cases h:j=0
 ·simp[Addr.add,h]
 ·simp[Addr.add,h]
def jK (w:World) (B:Nat) (v:Value) (es:List (Int×Int)):Prop:=w.ownsRow B 55 2 v es.length (lg es)
theorem jK.form {w:World} {B:Nat} {v:Value} {es:List (Int×Int)} (h:jK w B v es):∃ao cap,v= .slice ao es.length cap∧es.length≤cap∧cap≤maxLen∧aL w ao es∧(∀x,ao=some x→B≤x.block∧x.block<w.heap.size):=by
 have h':=h
 unfold jK at h'
 rcases h.2 with ⟨rfl,h0⟩|⟨g,cap,cur,rfl,hg,hh,hc,hm,_⟩
 ·refine⟨none,0,by rw[h0],by omega,Nat.zero_le _,fun j p hj=> ?_,fun x h=>by cases h⟩
  rw[List.length_eq_zero_iff.1 h0] at hj
  simp at hj
 ·refine⟨_,cap,rfl,hc,hm,fun j p hj=>⟨g,0,rfl,?_⟩,fun x h=>by cases h;exact⟨hg,lt_of_block hh⟩⟩
  have hcl:=World.ownsRow.cells h' (g:=g) rfl
  simp only[aas] at hcl
  obtain⟨h0,h1⟩:=wU es j p hj
  rw[Nat.zero_add]
  exact⟨hcl _ _ h0,hcl _ _ h1⟩
theorem jK.abF {w:World} {B A b:Nat} {v:Value} {ps:List (Int×Int)} (h:jK w B v ps) (hA:A≤b∧b<B) (x y:Value):jK ((w.setCell ⟨b,0,none⟩ x).setCell ⟨b,1,none⟩ y) A v ps:=by
 refine⟨h.1,?_⟩
 rcases h.2 with h|⟨g,cap,cur,e,hgB,hh,hr⟩
 ·exact .inl h
 ·refine .inr ⟨g,cap,cur,e,by omega,?_,hr⟩
  rw[heap_setCell_other _ ⟨b,1,none⟩ g y (by simp;omega),heap_setCell_other _ ⟨b,0,none⟩ g x (by simp;omega)]
  exact hh
theorem JM (W:World) (k:Nat) (hk:W.heap.size=k) (a b:Value) (t:TypeId):∀j u,[a,b][j]? =some u→(W.alloc (.cells #[a,b] t)).cell? ((⟨k,0,none⟩:Addr).add j)=some u:=by
 subst hk
 exact World.news_of_block (cs:= #[a,b]) (t:=t) (fr:=(0,0)) (heap_alloc_new W _)
end
section
open Go.RowKit Go.Sort
theorem Ch {ops:Array Oper} {rest:List Oper} {o:Oper} {a:Act} {Q:Exit→Act→World→Prop} (hgd:o.guard=none) (s x:Operand)
 (ho:o.op= .call { callee:= .builtin .append,args:= #[s,x],argTypes:= #[22,22] }) (W:World) (ao:Option Addr) (cap:Nat) (es:List (Int×Int)) (hs:a.eval s= .slice (some ⟨W.heap.size,0,none⟩) 0 0) (hx:a.eval x= .slice ao es.length cap)
 (he:aL W ao es) (hn:ao=none→cap=0) (hl:es.length*16≤140737488355328)
 (h:∀gb c w',jK w' W.heap.size (.slice (some ⟨gb,0,none⟩) es.length c) es→W.heap.size≤gb→gb<w'.heap.size→Below W.heap.size W w'→wpList Tryz.prog ops Q rest (a.put o.dst (.slice (some ⟨gb,0,none⟩) es.length c)) w'):
 wpList Tryz.prog ops Q (o::rest) a (W.alloc (.cells #[] 55)):=by
 obtain⟨i0,hi,hz0,hz1,hz2⟩:=info_parts Tryz.Dw
 have gI:(W.alloc (.cells #[] 55)).ownsRow W.heap.size 55 2 (.slice (some ⟨W.heap.size,0,none⟩) 0 0) 0 []:=World.ownsRow_made W #[] 0 (Nat.le_refl _) (Nat.zero_le _) rfl
 have hb0:Below W.heap.size W (W.alloc (.cells #[] 55)):=(Below.refl _ _).alloc (Nat.le_refl _) _
 cases ao with
 |none=>
  have hes:es=[]:=by
   cases es with
   |nil=>rfl
   |cons p es=>
    obtain⟨b,o,e,_⟩:=he 0 p rfl
    cases e
  subst hes
  obtain rfl:=hn rfl
  refine wpList_append_own_none hgd s x 22 ho W.heap.size 55 i0 2 Tryz.underlying22 hi _ 0 [] hs gI hx ?_
  exact h _ _ _ gI (Nat.le_refl _) (by simp) hb0
 |some y=>
  refine wpList_append_own _ hgd s x 22 ho W.heap.size 55 i0 (.agg #[.int .i64 0,.int .i64 0]) 2 16 Tryz.underlying22 hi hz0 hz1 hz2 rfl (by decide) _ 0 [] hs gI y es.length cap (lg es) hx (nP es) ?_ ?_ (by unfold maxLen;omega) (by omega) (by simp) ?_
  ·intro j u hj
   have hjl:=(List.getElem?_eq_some_iff.1 hj).1
   rw[nP] at hjl
   obtain⟨p,hp⟩:∃p,es[j/2]? =some p:=⟨_,List.getElem?_eq_getElem (by omega)⟩
   obtain⟨b,o,e,c0,c1⟩:=he (j/2) p hp
   cases e
   obtain⟨f0,f1⟩:=wU es (j/2) p hp
   have ea:((⟨b,o,none⟩:Addr).add j)=⟨b,o+j,none⟩:=by
    by_cases h0:j=0<;>simp[Addr.add,h0]
   rw[ea]
   by_cases hm:j%2=0
   ·have e:j/2*2=j:=by omega
    rw[e] at f0 c0
    rw[f0] at hj
    cases hj
    exact(hb0.cell (p:=⟨b,o+j,none⟩) (block_lt_of_cell c0)).trans c0
   ·have e:j/2*2+1=j:=by omega
    rw[e] at f1
    have e3:o+j/2*2+1=o+j:=by omega
    rw[e3] at c1
    rw[f1] at hj
    cases hj
    exact(hb0.cell (p:=⟨b,o+j,none⟩) (block_lt_of_cell c1)).trans c1
  ·intro u hu
   unfold lg at hu
   obtain⟨p,_,hp⟩:=List.mem_flatMap.1 hu
   simp at hp
   rcases hp with rfl|rfl<;>rfl
  ·intro v' w' hown' hg hiff
   rw[Nat.zero_add,List.nil_append] at hown'
   rcases hown'.2 with ⟨hnil,_⟩|⟨gb,c,cur,rfl,hgb,hh,hlc,_⟩
   ·have:=(hiff.1 hnil).1
    cases this
   ·exact h gb c w' hown' hgb (lt_of_block hh) (hb0.grown hg (by simp) (fun q hq=>by cases hq;exact Nat.le_refl _))
set_option maxRecDepth 100000 in
set_option maxHeartbeats 4000000 in
theorem Gh (n:Int) (ao:Option Addr) (ca:Nat) (es:List (Int×Int)) (w:World) (he:aL w ao es) (hn:ao=none→ca=0) (hl:es.length*16≤140737488355328):
 Calls Tryz.prog 13 #[cK n ao es.length ca] w fun e w'=>∃gb c,e= .returned (.agg #[.int .i64 n,.slice (some ⟨gb,0,none⟩) es.length c])∧jK w' w.heap.size (.slice (some ⟨gb,0,none⟩) es.length c) es∧Below w.heap.size w w':=by
 obtain⟨W,hW⟩:∃W,W=(w.alloc (.cells #[.int .i64 n,.slice ao es.length ca] 24)).alloc (.cells #[.int .i64 0,.slice none 0 0] 24):=⟨_,rfl⟩
 have hB0:Below w.heap.size w W:=by rw[hW];exact((Below.refl _ _).alloc (Nat.le_refl _) _).alloc (by simp) _
 have hsz:W.heap.size=w.heap.size+2:=by rw[hW];simp
 have g1:W.heap[w.heap.size]? =some (.cells #[.int .i64 n,.slice ao es.length ca] 24 (0,0)):=by
  rw[hW,Below.heap_alloc _ _ _ (by simp)]
  exact heap_alloc_new w _
 have g2:W.heap[w.heap.size+1]? =some (.cells #[.int .i64 0,.slice none 0 0] 24 (0,0)):=by
  rw[hW]
  have:=heap_alloc_new (w.alloc (.cells #[.int .i64 n,.slice ao es.length ca] 24)) (.cells #[.int .i64 0,.slice none 0 0] 24)
  simpa using this
 have HE:=Nu.hid (he.later hB0)
 have dm:=Nu.hid hB0
 have nW:=Nu.hid g1
 have kT:=Nu.hid g2
 have HN:=Nu.hid hn
 have vH:=Nu.hid hsz
 clear he hB0 hsz g1 g2 hn
 unfold cK
 go_enter Tryz.func13,Tryz.ntmps13
 go_wp2_with (at_builtin;rw[←hW];refine Hid.out ?_)
 refine Nu.hid ?_
 refine Ch rfl _ _ rfl W ao ca es (by show Value.slice (some ⟨w.heap.size+1+1,0,none⟩) 0 0=_;rw[vH.out]) rfl HE.out HN.out hl ?_
 intro gb c w1 hown hgb hlt hb
 have Uk:=vH.out
 have k1:=(hb.block _ (by omega)).trans nW.out
 have k2:=(hb.block _ (by omega)).trans kT.out
 obtain⟨a0,a1,af⟩:=az k1
 obtain⟨b0,b1,bf⟩:=az k2
 have k3:(w1.setCell ⟨w.heap.size,1,none⟩ (.slice (some ⟨gb,0,none⟩) es.length c)).heap[w.heap.size]? =some (.cells #[.int .i64 n,.slice (some ⟨gb,0,none⟩) es.length c] 24 (0,0)):=by
  rw[heap_setCell_same w1 w.heap.size 1 _ _ _ k1]
  simp
 have k4:(w1.setCell ⟨w.heap.size,1,none⟩ (.slice (some ⟨gb,0,none⟩) es.length c)).heap[w.heap.size+1]? =some (.cells #[.int .i64 0,.slice none 0 0] 24 (0,0)):=(heap_setCell_other w1 ⟨w.heap.size,1,none⟩ (w.heap.size+1) _ (by show w.heap.size+1≠w.heap.size;omega)).trans k2
 obtain⟨e0,e1,ef⟩:=az k3
 obtain⟨f0,f1,ff⟩:=az k4
 have hgr:=gF k4 (.int .i64 n) (.slice (some ⟨gb,0,none⟩) es.length c)
 obtain⟨r0,r1,-⟩:=az hgr
 have hown1:jK (w1.setCell ⟨w.heap.size,1,none⟩ (.slice (some ⟨gb,0,none⟩) es.length c)) (w.heap.size+2) (.slice (some ⟨gb,0,none⟩) es.length c) es:=by
  rw[Uk] at hown
  refine⟨hown.1,?_⟩
  rcases hown.2 with h|⟨g,cap,cur,e,hgB,hh,hr⟩
  ·exact .inl h
  ·exact .inr ⟨g,cap,cur,e,hgB,(heap_setCell_other w1 ⟨w.heap.size,1,none⟩ g _ (by show g≠w.heap.size;omega)).trans hh,hr⟩
 have yl:=Nu.hid (hown1.abF (A:=w.heap.size) (b:=w.heap.size+1) (by omega) (.int .i64 n) (.slice (some ⟨gb,0,none⟩) es.length c))
 have oO:=Nu.hid ((((dm.out.trans (hb.mono dm.out.size)).setCell (p:=⟨w.heap.size,1,none⟩) (Nat.le_refl _) (.slice (some ⟨gb,0,none⟩) es.length c)).setCell (p:=⟨w.heap.size+1,0,none⟩) (by show w.heap.size≤w.heap.size+1;omega) (.int .i64 n)).setCell (p:=⟨w.heap.size+1,1,none⟩) (by show w.heap.size≤w.heap.size+1;omega) (.slice (some ⟨gb,0,none⟩) es.length c))
 have HR0:=Nu.hid r0
 have uh:=Nu.hid r1
 clear hown hb k1 k2 k3 k4 hgr hown1 r0 r1 Uk hW
 go_wp2
 refine bodyPost_ret (v:= .agg #[.int .i64 n,.slice (some ⟨gb,0,none⟩) es.length c]) (by simp[results,Tryz.results13,go_sem,HR0.out,uh.out]) rfl ?_
 exact⟨gb,c,rfl,yl.out,oO.out⟩
end
end Go.Proofs.YtnhcggfbkoppnaaGreat
