import Derived.Test.YtdjmnpmdmjclhabGreatMg03
import Derived.Test.YtdjmnpmdmjclhabGreatMg01
import Derived.BigQuiet
import Derived.Deep.QuietTactic
import Derived.Deep.RegionHeld3
import Derived.Lib.SliceRun
import Derived.Test.YtdjmnpmdmjclhabGreatMg00
import Derived.Shelf.Abstract
import Derived.Laws.AppendOwnNone
import Derived.ArgAppend
import Derived.Deep.DeepAppendRoom
namespace Go.Proofs.YtdjmnpmdmjclhabGreat
section
open Go.RowKit
def cE (w:World) (v:Value) (n:Nat) (es:List (Int×Int)):Prop:=(v= .pointer none∧n=0∧es=[])∨∃B p,v= .pointer (some ⟨p,0,none⟩)∧Si.Val n es∧lQ w B p n es
theorem cE.later {w w':World} {v:Value} {n:Nat} {es:List (Int×Int)} (h:cE w v n es) (hb:Below w.heap.size w w'):cE w' v n es:=by
 rcases h with h|⟨B,p,h1,h2,h3⟩
 ·exact .inl h
 ·exact .inr ⟨B,p,h1,h2,h3.later hb⟩
theorem cE.bounds {w:World} {v:Value} {n:Nat} {es:List (Int×Int)} (h:cE w v n es):n≤1048576∧es.length≤4194304:=by
 rcases h with ⟨_,rfl,rfl⟩|⟨B,p,_,h2,_⟩
 ·simp
 ·have:=h2.hi
  have:=h2.few
  omega
set_option maxRecDepth 100000 in
set_option maxHeartbeats 1000000 in
theorem mm (v:Value) (n:Nat) (es:List (Int×Int)) (w:World) (h:cE w v n es):Calls Tryz.prog 46 #[v] w fun e w'=>e= .returned (.int .i64 (n:Int))∧w'=w:=by
 rcases h with ⟨rfl,rfl,rfl⟩|⟨B,p,rfl,hv,gd,gs,gh,gp,gt,h⟩
 ·go_enter Tryz.func46,Tryz.ntmps46
  go_wp2
  go_ret
  exact⟨rfl,rfl⟩
 ·have c0:=h.blk.c0
  clear h
  go_enter Tryz.func46,Tryz.ntmps46
  go_wp2
  go_ret
  exact⟨rfl,rfl⟩
set_option maxRecDepth 100000 in
set_option maxHeartbeats 1000000 in
theorem zS (v:Value) (n:Nat) (es:List (Int×Int)) (w:World) (h:cE w v n es):Calls Tryz.prog 60 #[v] w fun e w'=>e= .returned (.int .i64 (es.length:Int))∧w'=w:=by
 have hb:=h.bounds
 rcases h with ⟨rfl,rfl,rfl⟩|⟨B,p,rfl,hv,gd,gs,gh,gp,gt,h⟩
 ·go_enter Tryz.func60,Tryz.ntmps60
  go_wp2
  go_ret
  exact⟨rfl,rfl⟩
 ·have c4:=h.blk.c4
  have hdv:(2*(es.length:Int)).tdiv 2=es.length:=by rw[aaZ (by omega)];omega
  clear h
  go_enter Tryz.func60,Tryz.ntmps60
  go_wp2
  go_ret
  exact⟨rfl,rfl⟩
set_option maxRecDepth 100000 in
set_option maxHeartbeats 1000000 in
theorem BI (v:Value) (n:Nat) (es:List (Int×Int)) (x:Int) (w:World) (h:cE w v n es):Calls Tryz.prog 143 #[v,.int .i64 x] w fun e w'=>e= .returned (.bool (decide (0≤x∧x<(n:Int))))∧w'=w:=by
 have HN:=Nu.hid (mm v n es w h)
 clear h
 by_cases h0:0≤x
 ·have hd:decide (0≤x∧x<(n:Int))=decide (x<(n:Int)):=by simp[h0]
  rw[hd]
  go_enter Tryz.func143,Tryz.ntmps143
  go_wp2_with (go_at_call 46;refine HN.out.mono ?_;rintro e w1 ⟨rfl,rfl⟩)
  go_ret
  exact⟨rfl,rfl⟩
 ·have hd:decide (0≤x∧x<(n:Int))=false:=by simp[h0]
  rw[hd]
  go_enter Tryz.func143,Tryz.ntmps143
  go_wp2_with (go_at_call 46;refine HN.out.mono ?_;rintro e w1 ⟨rfl,rfl⟩)
  go_ret
  exact⟨rfl,rfl⟩
set_option maxRecDepth 100000 in
set_option maxHeartbeats 1000000 in
theorem pX (v:Value) (n:Nat) (es:List (Int×Int)) (x:Int) (w:World) (h:cE w v n es):Calls Tryz.prog 105 #[v,.int .i64 x] w fun e w'=>e= .returned (.bool (decide (0≤x∧x<2*(es.length:Int))))∧w'=w:=by
 have HN:=Nu.hid (zS v n es w h)
 have hb:=h.bounds
 clear h
 by_cases h0:0≤x
 ·have hd:decide (0≤x∧x<2*(es.length:Int))=decide (x<2*(es.length:Int)):=by simp[h0]
  rw[hd]
  go_enter Tryz.func105,Tryz.ntmps105
  go_wp2_with (go_at_call 60;refine HN.out.mono ?_;rintro e w1 ⟨rfl,rfl⟩)
  go_ret
  exact⟨rfl,rfl⟩
 ·have hd:decide (0≤x∧x<2*(es.length:Int))=false:=by simp[h0]
  rw[hd]
  go_enter Tryz.func105,Tryz.ntmps105
  go_wp2_with (go_at_call 60;refine HN.out.mono ?_;rintro e w1 ⟨rfl,rfl⟩)
  go_ret
  exact⟨rfl,rfl⟩
set_option maxRecDepth 100000 in
set_option maxHeartbeats 1000000 in
theorem l7 (v:Value) (n:Nat) (es:List (Int×Int)) (x:Int) (w:World) (h:cE w v n es):Calls Tryz.prog 92 #[v,.int .i64 x] w fun e w'=>e= .returned (.int .i64 (Cs.Gu es x))∧w'=w:=by
 have HV:=Nu.hid (pX v n es x w h)
 by_cases hx:0≤x∧x<2*(es.length:Int)
 ·rw[decide_eq_true hx] at HV
  rcases h with ⟨rfl,rfl,rfl⟩|⟨B,p,rfl,hv,gd,gs,gh,gp,gt,h⟩
  ·simp at hx;omega
  ·obtain⟨u,rfl⟩:∃u:Nat,x=(u:Int):=⟨x.toNat,by omega⟩
   obtain⟨x0,x1⟩:=hx
   have c0:=h.blk.c4
   have d0:=h.goes u (by omega)
   rw[Cs.kL (by omega)]
   clear h hv
   go_enter Tryz.func92,Tryz.ntmps92
   go_wp2_with (go_at_call 105;refine HV.out.mono ?_;rintro e w1 ⟨rfl,rfl⟩)
   go_ret
   exact⟨rfl,rfl⟩
 ·rw[decide_eq_false hx] at HV
  rw[Cs.Mi hx]
  clear h hx
  go_enter Tryz.func92,Tryz.ntmps92
  go_wp2_with (go_at_call 105;refine HV.out.mono ?_;rintro e w1 ⟨rfl,rfl⟩)
  go_ret
  exact⟨rfl,rfl⟩
set_option maxRecDepth 100000 in
set_option maxHeartbeats 1000000 in
theorem kF (v:Value) (n:Nat) (es:List (Int×Int)) (x:Int) (w:World) (h:cE w v n es):Calls Tryz.prog 102 #[v,.int .i64 x] w fun e w'=>e= .returned (.int .i64 (Cs.FE es x))∧w'=w:=by
 have HV:=Nu.hid (pX v n es x w h)
 by_cases hx:0≤x∧x<2*(es.length:Int)
 ·rw[decide_eq_true hx] at HV
  rcases h with ⟨rfl,rfl,rfl⟩|⟨B,p,rfl,hv,gd,gs,gh,gp,gt,h⟩
  ·simp at hx;omega
  ·obtain⟨u,rfl⟩:∃u:Nat,x=(u:Int):=⟨x.toNat,by omega⟩
   obtain⟨x0,x1⟩:=hx
   have ht:=Cs.uL (i:=u) (m:=es.length) (by omega)
   have c0:=h.blk.c4
   have cj:=hv.few
   have hxt:=Cs.wB u (by omega)
   have ht0:(0:Int)≤(Cs.twin u:Int):=by omega
   have Fi:(Cs.twin u:Int)<2*(es.length:Int):=by omega
   have d0:=h.goes (Cs.twin u) ht
   rw[Cs.jP (by omega)]
   rw[Cs.PK] at d0
   clear h hv
   go_enter Tryz.func102,Tryz.ntmps102
   go_wp2_with (go_at_call 105;refine HV.out.mono ?_;rintro e w1 ⟨rfl,rfl⟩)
   go_ret
   exact⟨rfl,rfl⟩
 ·rw[decide_eq_false hx] at HV
  rw[Cs.zQ hx]
  clear h hx
  go_enter Tryz.func102,Tryz.ntmps102
  go_wp2_with (go_at_call 105;refine HV.out.mono ?_;rintro e w1 ⟨rfl,rfl⟩)
  go_ret
  exact⟨rfl,rfl⟩
def Pb (n:Nat) (es:List (Int×Int)) (x:Int) (w0 w:World) (e:Ending) (w':World):Prop:=
 ∃ao cap,e= .returned (.slice ao (Cs.gM n es x).length cap)∧cK w0 ao (Cs.gM n es x)∧∃k,w'=w.drewN k
set_option maxRecDepth 100000 in
set_option maxHeartbeats 4000000 in
theorem uW (v:Value) (n:Nat) (es:List (Int×Int)) (x:Int) (w0 w:World) (h0:cE w0 v n es) (hb:Below w0.heap.size w0 w):Calls Tryz.prog 115 #[v,.int .i64 x] w (Pb n es x w0 w):=by
 have HV:=Nu.hid (BI v n es x w (h0.later hb))
 by_cases hx:0≤x∧x<(n:Int)
 ·rw[decide_eq_true hx] at HV
  rcases h0 with ⟨rfl,rfl,rfl⟩|⟨B,p,rfl,hv,gd,gs,gh,gp,gt,h0⟩
  ·omega
  ·obtain⟨u,rfl⟩:∃u:Nat,x=(u:Int):=⟨x.toNat,by omega⟩
   obtain⟨x0,x1⟩:=hx
   have nT:u<n:=by omega
   have h:=h0.same hb.size fun k _ h2=>hb.block k h2
   have c0:=h.blk.c0
   have c1:=h.blk.c1
   have c2:=h.blk.c2
   have d0:=h.deg u nT
   have d1:=h.start u nT
   have hlt:∀i,i<2*es.length→Cs.fr es i<n:=fun i hi=>(Cs.bH hv hi).1
   have hle:=Cs.Ae hlt nT
   have cj:=hv.few
   have pU:=h0.half
   have hcell:∀(j:Nat) (z:Int),(Cs.gM n es u)[j]? =some z→w0.cell? ⟨gh,Cs.st es (2*es.length) u+j,none⟩=some (.int .i64 z):=fun j z hj=>by
    unfold Cs.gM at hj
    rw[aay,Cs.oA nT] at hj
    obtain⟨i,hi,rfl⟩:=Option.map_eq_some_iff.1 hj
    obtain⟨h1,h2,h3⟩:=Cs.nD hi
    have:=pU i h1
    unfold Cs.pos at this
    rw[h2,h3] at this
    exact this
   have eK:(Cs.gM n es u).length=(Cs.out es u (2*es.length)).length:=by rw[Cs.DW,Cs.oA nT]
   have HC:=Nu.hid hcell
   have zH:=Nu.hid eK
   obtain⟨s,hs⟩:∃s,Cs.st es (2*es.length) u=s:=⟨_,rfl⟩
   obtain⟨d,hd⟩:∃d,(Cs.out es u (2*es.length)).length=d:=⟨_,rfl⟩
   rw[hs] at d1 hle HC
   rw[hd] at d0 hle zH
   have s0:(0:Int)≤(s:Int):=by omega
   have s1:(s:Int)≤2*(es.length:Int):=by omega
   have s2:(0:Int)≤(d:Int):=by omega
   have s3:(d:Int)≤2*(es.length:Int)-(s:Int):=by omega
   clear h h0 hb hv hlt pU hcell eK hs hd
   go_enter Tryz.func115,Tryz.ntmps115
   go_wp2_with (go_at_call 143;refine HV.out.mono ?_;rintro e w1 ⟨rfl,rfl⟩)
   go_quiet (fail)
   obtain⟨A,hA⟩:∃A:Option Addr,(if 2*es.length=s then some ⟨gh,0,none⟩ else some ⟨gh,s,none⟩)=A:=⟨_,rfl⟩
   rw[hA]
   have HA:=Nu.hid hA
   clear hA
   go_wp2
   go_ret
   refine⟨A,_,by rw[zH.out];rfl,fun j z hj=> ?_,nq,rfl⟩
   have hjl:=(aas.1 hj).1
   rw[zH.out] at hjl
   have:=HA.out
   rw[if_neg (by omega)] at this
   exact⟨gh,s,this.symm,HC.out j z hj⟩
 ·rw[decide_eq_false hx] at HV
  have ho:Cs.gM n es x=[]:=by unfold Cs.gM;rw[Cs.Qe hx];rfl
  have HO:=Nu.hid ho
  clear h0 hb hx ho
  go_enter Tryz.func115,Tryz.ntmps115
  go_wp2_with (go_at_call 143;refine HV.out.mono ?_;rintro e w1 ⟨rfl,rfl⟩)
  go_ret
  refine⟨none,0,by rw[HO.out];rfl,by rw[HO.out];exact cK.nil _ _,0,rfl⟩
end
section
open Go.RowKit
theorem cQ {l:List Int} {i:Nat} (d:Int) (h:i<l.length):l[i]? =some (l.getD i d):=by
 rw[aai,aac h]
 rfl
theorem aP.lt {w:World} {B:Nat} {v:Value} {l:List Int} (h:aP w B v l) {b:Nat} (hb:v.ownBlock=some b):B≤b∧b<w.heap.size:=aa9 h b hb
section
variable {w:World}
theorem cN {g b i:Nat} (hne:g≠b) (x:Value):(w.setCell ⟨b,i,none⟩ x).heap[g]? =w.heap[g]? :=heap_setCell_other w ⟨b,i,none⟩ g x hne
theorem aP.aK {B b i:Nat} {v:Value} {l:List Int} (h:aP w B v l) (hf:v.ownBlock≠some b) (x:Value):aP (w.setCell ⟨b,i,none⟩ x) B v l:=
 h.same fun _ hg _=>cN (fun e=>hf (by rw[hg,e])) x
theorem aq.aK {g b i:Nat} {l:List Int} (h:aq w g l) (hf:g≠b) (x:Value):aq (w.setCell ⟨b,i,none⟩ x) g l:=(cN hf x).trans h
end
noncomputable def leastOf (P:Nat→Prop):Nat:=open Classical in if h:∃k,P k∧∀j,P j→k≤j then Classical.choose h else 0
theorem OJ {P:Nat→Prop} {k:Nat} (h:P k):∃k,P k∧∀j,P j→k≤j:=by
 induction k using Nat.strongRecOn with
 |_ k ih=>
  by_cases hk:∃j,j<k∧P j
  ·obtain⟨j,hj,hp⟩:=hk
   exact ih j hj hp
  ·refine⟨k,h,fun j hj=> ?_⟩
   rcases ab1 j k with h1|h1
   ·exact absurd ⟨j,h1,hj⟩ hk
   ·exact h1
theorem leastOf_spec {P:Nat→Prop} {k:Nat} (h:P k):P (leastOf P)∧leastOf P≤k:=by
 have hx:=OJ h
 unfold leastOf
 rw[dif_pos hx]
 have:=Classical.choose_spec hx
 exact⟨this.1,this.2 k h⟩
theorem aq.adb {w:World} {B g n:Nat} {l:List Int} (h:aq w g l) (hB:B≤g) (hl:l.length=n) (hm:n≤8388608):aP w B (.slice (some ⟨g,0,none⟩) 0 n) []:=by
 subst hl
 exact⟨by simp,.inr ⟨g,_,_,rfl,hB,h,by simp,by unfold maxLen;omega,by simp,by simp⟩⟩
theorem au {w:World} {R:Nat} {t:TypeId} {a b c d:Value} (h:w.heap[R]? =some (.cells #[a,b,c,d] t (0,0))):w.cell? ⟨R,0,none⟩=some a∧w.cell? ⟨R,1,none⟩=some b∧w.cell? ⟨R,2,none⟩=some c∧w.cell? ⟨R,3,none⟩=some d∧∀i,w.frozen? ⟨R,i,none⟩=false:=by
 refine⟨?_,?_,?_,?_,fun i=> ?_⟩
 ·simp[World.cell?,h]
 ·simp[World.cell?,h]
 ·simp[World.cell?,h]
 ·simp[World.cell?,h]
 ·simp[World.frozen?,h]
theorem Cs.OH {n:Nat} {es:List (Int×Int)} (hv:Si.Val n es) {h:Nat} (hh:h<2*es.length):Cs.fr es h≠Cs.to es h:=by
 obtain⟨p,hp⟩:∃p,es[h/2]? =some p:=⟨_,aac (by omega)⟩
 have ho:=hv.each _ p hp
 unfold Si.ok at ho
 unfold Cs.fr Cs.to
 rw[aai,hp]
 dsimp only[Option.getD_some]
 split<;>omega
theorem sj {W:World} {k M:Nat} (h:W.heap.size=k):aq (W.alloc (.cells (madeCells #[.int .i64 0] M) 3)) k (List.replicate M 0):=by
 subst h
 unfold aq
 rw[heap_alloc_new,←cD]
theorem alloc_at {W:World} {k:Nat} {o:Obj} (h:W.heap.size=k):(W.alloc o).heap[k]? =some o:=by
 subst h
 exact heap_alloc_new W o
end
section
open Go.RowKit
structure lX (w:World) (B:Nat) (v1 v2 v3 v4:Value) (s:Df.St):Prop where
 o1:aP w B v1 s.par
 o2:aP w B v2 s.az
 o3:aP w B v3 s.ord
 o4:aP w B v4 s.aJ
 n12:∀b,v1.ownBlock=some b→v2.ownBlock≠some b
 n13:∀b,v1.ownBlock=some b→v3.ownBlock≠some b
 n14:∀b,v1.ownBlock=some b→v4.ownBlock≠some b
 n23:∀b,v2.ownBlock=some b→v3.ownBlock≠some b
 n24:∀b,v2.ownBlock=some b→v4.ownBlock≠some b
 n34:∀b,v3.ownBlock=some b→v4.ownBlock≠some b
section
variable {w w':World} {B:Nat} {v1 v2 v3 v4:Value} {s:Df.St}
theorem lX.same (h:lX w B v1 v2 v3 v4 s) (hb:∀g,B≤g→g<w.heap.size→w'.heap[g]? =w.heap[g]?):lX w' B v1 v2 v3 v4 s:=
 ⟨h.o1.same fun g hg hl=>hb g (h.o1.lt hg).1 hl,h.o2.same fun g hg hl=>hb g (h.o2.lt hg).1 hl,h.o3.same fun g hg hl=>hb g (h.o3.lt hg).1 hl,h.o4.same fun g hg hl=>hb g (h.o4.lt hg).1 hl,h.n12,h.n13,h.n14,h.n23,h.n24,h.n34⟩
theorem lX.lower {B':Nat} (h:lX w B v1 v2 v3 v4 s) (hB:B'≤B):lX w B' v1 v2 v3 v4 s:=⟨h.o1.lower hB,h.o2.lower hB,h.o3.lower hB,h.o4.lower hB,h.n12,h.n13,h.n14,h.n23,h.n24,h.n34⟩
theorem lX.empty (w:World) (B:Nat):lX w B (.slice none 0 0) (.slice none 0 0) (.slice none 0 0) (.slice none 0 0) ⟨[],[],[],[]⟩:=
 ⟨.nil _ _,.nil _ _,.nil _ _,.nil _ _,(fun _ h=>by cases h),(fun _ h=>by cases h),(fun _ h=>by cases h),(fun _ h=>by cases h),(fun _ h=>by cases h),(fun _ h=>by cases h)⟩
end
theorem cE.val {w:World} {v:Value} {n:Nat} {es:List (Int×Int)} (h:cE w v n es) {i:Nat} (hi:i<2*es.length):Si.Val n es:=by
 rcases h with ⟨_,_,rfl⟩|⟨_,_,_,h,_⟩
 ·simp at hi
 ·exact h
end
section
open Go.RowKit
namespace aj
def dst (ops:Array Oper) (i:Nat):Option Tmp:=(ops[i]?).bind (·.dst)
structure nJ where
 deps:List Nat
 post:Value→List Value→Nat→Nat→World→Prop
def upd (ρ:Nat→Value) (i:Nat) (v:Value):Nat→Value:=fun j=>if j=i then v else ρ j
def sQ (f:Nat→Nat) (i x:Nat):Nat→Nat:=fun j=>if j=i then x else f j
def part (ops:Array Oper) (a0:Act) (ρ:Nat→Value) (L:Nat→Bool):Nat→Act
 |0=>a0
 |i+1=>if L i then (part ops a0 ρ L i).put (dst ops i) (ρ i) else part ops a0 ρ L i
def canon (ops:Array Oper) (a0:Act) (ρ:Nat→Value):Nat→Act
 |0=>a0
 |i+1=>(canon ops a0 ρ i).put (dst ops i) (ρ i)
section
variable {ops:Array Oper} {a0:Act} {ρ:Nat→Value} {L:Nat→Bool}
theorem dc (k:Nat):canon ops a0 ρ k=part ops a0 ρ (fun _=>true) k:=by
 induction k with
 |zero=>rfl
 |succ k ih=>simp[canon,part,ih]
theorem kN (k:Nat):(canon ops a0 ρ k).defers=a0.defers:=by
 induction k with
 |zero=>rfl
 |succ k ih=>
  unfold canon
  cases dst ops k with
  |none=>exact ih
  |some d=>exact ih
theorem NS (a:Act) (d:Option Tmp) (v:Value):(a.put d v).tmps.size=a.tmps.size:=by
 cases d<;>simp[Act.put]
theorem Kf (k:Nat):(part ops a0 ρ L k).tmps.size=a0.tmps.size:=by
 induction k with
 |zero=>rfl
 |succ k ih=>
  unfold part
  split
  ·rw[NS,ih]
  ·exact ih
theorem BM (a:Act) (t:Tmp) (v:Value):(a.put (some t) v).eval (.tmp t)=if t<a.tmps.size then v else undef:=by
 unfold Act.put Act.eval
 dsimp only
 by_cases h:t<a.tmps.size
 ·rw[if_pos h]
  simp[h]
 ·rw[if_neg h]
  simp
  exact fun h'=>absurd h' h
theorem rD (a:Act) (t:Tmp) (d:Option Tmp) (v:Value) (h:d≠some t):(a.put d v).eval (.tmp t)=a.eval (.tmp t):=
 Act.eval_put fun d' hd hx=>by cases hx;exact h hd
theorem fO {t:Tmp} (k:Nat) (h:∀j,j<k→L j=true→dst ops j≠some t):(part ops a0 ρ L k).eval (.tmp t)=a0.eval (.tmp t):=by
 induction k with
 |zero=>rfl
 |succ k ih=>
  have ih':=ih fun j hj=>h j (by omega)
  unfold part
  split
  ·rename_i hL
   rw[rD _ _ _ _ (h k (by omega) hL),ih']
  ·exact ih'
theorem kT {t:Tmp} {j:Nat} (hd:dst ops j=some t) (hone:∀i,i≠j→dst ops i≠some t) (hL:L j=true) (k:Nat) (hj:j<k):(part ops a0 ρ L k).eval (.tmp t)=if t<a0.tmps.size then ρ j else undef:=by
 induction k with
 |zero=>omega
 |succ k ih=>
  unfold part
  by_cases e:j=k
  ·subst e
   rw[if_pos hL,hd,BM,Kf]
  ·have ih':=ih (by omega)
   split
   ·rw[rD _ _ _ _ (hone k (fun h=>e h.symm)),ih']
   ·exact ih'
theorem nC {i n:Nat} {t:Tmp} (hone:∀i j,i≠j→dst ops j=some t→dst ops i≠some t) (hin:i≤n) (h:∀j,j<n→dst ops j=some t→j<i∧L j=true):(part ops a0 ρ L n).eval (.tmp t)=(canon ops a0 ρ i).eval (.tmp t):=by
 rw[dc]
 by_cases hex:∃j,j<n∧dst ops j=some t
 ·obtain⟨j,hj,hd⟩:=hex
  obtain⟨h1,h2⟩:=h j hj hd
  rw[kT hd (fun i hi=>hone i j hi hd) h2 n hj,kT hd (fun i hi=>hone i j hi hd) rfl i h1]
 ·rw[fO n fun j hj _ hd=>hex ⟨j,hj,hd⟩,fO i fun j hj _ hd=>hex ⟨j,by omega,hd⟩]
theorem rW {i n:Nat} {v:Value} (hone:∀i j t,i≠j→dst ops j=some t→dst ops i≠some t) (hi:L i=false) (hin:i<n):
 (part ops a0 ρ L n).put (dst ops i) v=part ops a0 (upd ρ i v) (fun j=>if j=i then true else L j) n:=by
 have low:∀k,k≤i→part ops a0 (upd ρ i v) (fun j=>if j=i then true else L j) k=part ops a0 ρ L k:=by
  intro k
  induction k with
  |zero=>exact fun _=>rfl
  |succ k ih=>
   intro hk
   have e:k≠i:=by omega
   unfold part
   rw[ih (by omega),if_neg e]
   unfold upd
   rw[if_neg e]
 induction n with
 |zero=>omega
 |succ n ih=>
  by_cases e:n=i
  ·subst e
   unfold part
   rw[if_pos rfl,hi,low n (aad _),if_neg (by decide)]
   simp[upd]
  ·have ih':=ih (by omega)
   unfold part
   rw[if_neg e,←ih']
   unfold upd
   rw[if_neg e]
   split
   ·exact Act.put_comm _ _ _ fun d h1 h2=>hone i n d (fun e2=>e e2.symm) h1 h2
   ·rfl
theorem ny {ρ':Nat→Value} {L':Nat→Bool} (hL:∀j,L j=L' j) (h:∀j,L j=true→ρ j=ρ' j) (k:Nat):part ops a0 ρ L k=part ops a0 ρ' L' k:=by
 induction k with
 |zero=>rfl
 |succ k ih=>
  unfold part
  rw[←hL k]
  split
  ·rename_i hk
   rw[ih,h k hk]
  ·exact ih
end
def shape (ops:Array Oper) (n:Nat) (deps:Nat→List Nat):Bool:=
 (List.range ops.size).all fun i=>match ops[i]? with
   |none=>false
   |some o=>(match o.dst with|none=>true|some d=>(List.range ops.size).all fun j=>j==i||dst ops j != some d)&&
    if i<n then
     o.guard.isNone&&(match o.op with| .select _ _=>false|_=>true)&&
     (o.op.operands.toList.all fun x=>match x with
       | .tmp t=>(List.range ops.size).all fun j=>dst ops j != some t||(decide (j<i)&&o.after.toList.any fun e=>Region.binds .any e&&e.on==j)
       |_=>true)&&
     ((deps i).all fun j=>decide (j<i)&&o.after.toList.any fun e=>Region.binds .any e&&e.on==j)&&
     (o.after.all fun e=> !Region.binds .any e||decide (e.on<i))
    else (List.range n).all fun j=>o.after.toList.any fun e=>Region.binds .any e&&e.on==j
def heads (size n:Nat):Array Bool:=(List.replicate n true++List.replicate (size-n) false).toArray
def cF (P:Program) (o:Oper) (ev:Operand→Value) (w:World) (R:Value→World→Prop):Prop:=
 match (execOp ev o).run P w with
 | .ok (.value v) w'=>R v w'
 | .ok .skip w'=>R undef w'
 | .ok (.enter f args) w'=>Calls P f args w' (fun e w''=>∃v,e= .returned v∧R v w'')
 |_=>False
theorem cF.wp {P:Program} {o:Oper} {a:Act} {w:World} {R:Value→World→Prop} {K:Act→World→Prop} {Q:Exit→Act→World→Prop} (h:cF P o a.eval w R) (hK:∀v w',R v w'→K (a.put o.dst v) w'):o.wp P a w K Q:=by
 unfold cF at h
 unfold Oper.wp
 generalize (execOp a.eval o).run P w=r at h ⊢
 cases r with
 |ok n w'=>
  cases n<;>simp only[Oper.upon] at h ⊢
  case value v=>exact hK v w' h
  case skip=>exact hK _ w' h
  case enter f args=>
   refine Calls.mono h fun e w'' he=> ?_
   obtain⟨v,rfl,hv⟩:=he
   exact hK v w'' hv
 |halt x w'=>cases h
theorem ah {P:Program} {o:Oper} {ev:Operand→Value} {w:World} {R:Value→World→Prop} {v:Value} {w':World} (h:(execOp ev o).run P w= .ok (.value v) w') (hR:R v w'):cF P o ev w R:=by
 unfold cF
 rw[h]
 exact hR
theorem bF {P:Program} {o:Oper} {ev:Operand→Value} {w:World} {R:Value→World→Prop} {w':World} (h:(execOp ev o).run P w= .ok .skip w') (hR:R undef w'):cF P o ev w R:=by
 unfold cF
 rw[h]
 exact hR
theorem any {P:Program} {ops:Array Oper} {Q:Exit→Act→World→Prop} {a0:Act} {w0:World} (sp:Nat→nJ) (n N:Nat) (hn:n≤ops.size) (hN:a0.tmps.size=N) (hsh:shape ops n (fun i=>(sp i).deps)=true)
 (KI:∀i,i<n→∀v vs lo hi w w',hi≤w.heap.size→Below w.heap.size w w'→(sp i).post v vs lo hi w→(sp i).post v vs lo hi w')
 (hstep:∀i o (ρ:Nat→Value) w (ev:Operand→Value),i<n→ops[i]? =some o→Below w0.heap.size w0 w→(∀j∈(sp i).deps,∃lo hi,w0.heap.size≤lo∧lo≤hi∧hi≤w.heap.size∧(sp j).post (ρ j) ((sp j).deps.map ρ) lo hi w)→
   (∀j t,j<i→dst ops j=some t→t<N→ev (.tmp t)=ρ j)→(∀t,((List.range i).all fun j=>dst ops j != some t)=true→ev (.tmp t)=a0.eval (.tmp t))→(∀v,ev (.const v)=v)→
   cF P o ev w fun v w'=>Below w.heap.size w w'∧(sp i).post v ((sp i).deps.map ρ) w.heap.size w'.heap.size w')
 (hend:∀(ρ:Nat→Value) (lo hi:Nat→Nat) w a,a=canon ops a0 ρ n→a.defers=a0.defers→(∀j t,j<n→dst ops j=some t→t<N→a.eval (.tmp t)=ρ j)→(∀t,((List.range n).all fun j=>dst ops j != some t)=true→a.eval (.tmp t)=a0.eval (.tmp t))→Below w0.heap.size w0 w→(∀i,i<n→w0.heap.size≤lo i∧lo i≤hi i∧hi i≤w.heap.size∧(sp i).post (ρ i) ((sp i).deps.map ρ) (lo i) (hi i) w)→(∀i j,i<n→j<n→i≠j→hi i≤lo j∨hi j≤lo i)→
   wpAny P .any ops Q (ops.size-n) (heads ops.size n) a w):
 wpAny P .any ops Q ops.size (Array.replicate ops.size false) a0 w0:=by
 have hs:=fun i (hi:i<ops.size)=>aaJ.1 hsh i (aaO.2 hi)
 have hlt:∀{j t},dst ops j=some t→j<ops.size:=fun {j t} h=>by
  rcases ab1 j ops.size with h1|h1
  ·exact h1
  ·unfold dst at h;rw[acM h1] at h;cases h
 have hone:∀i j t,i≠j→dst ops j=some t→dst ops i≠some t:=fun i j t hij hj hi=>by
  have h1:=hs j (hlt hj)
  dsimp only at h1
  cases ho:ops[j]? with
  |none=>rw[ho] at h1;cases h1
  |some o=>
   have hd:o.dst=some t:=by unfold dst at hj;rw[ho] at hj;exact hj
   rw[ho] at h1
   simp only[aaP] at h1
   have h2:=h1.1
   rw[hd] at h2
   have h3:=aaJ.1 h2 i (aaO.2 (hlt hi))
   simp only[ab7,beq_iff_eq,bne_iff_ne] at h3
   rcases h3 with h3|h3
   ·exact hij h3
   ·exact h3 hi
 have hop:∀i,i<n→∃o,ops[i]? =some o∧o.guard=none∧(∀cs b,o.op≠.select cs b)∧
  (∀t,Operand.tmp t∈o.op.operands→∀j,j<ops.size→dst ops j=some t→j<i∧∃e∈o.after,Region.binds .any e=true∧e.on=j)∧
  (∀j∈(sp i).deps,j<i∧∃e∈o.after,Region.binds .any e=true∧e.on=j)∧(∀e∈o.after,Region.binds .any e=true→e.on<i):=fun i hi=>by
  have h1:=hs i (by omega)
  dsimp only at h1
  cases ho:ops[i]? with
  |none=>rw[ho] at h1;cases h1
  |some o=>
   rw[ho] at h1
   simp only[aaP,if_pos hi] at h1
   obtain⟨_,⟨⟨⟨g1,g2⟩,g4⟩,g5⟩,g6⟩:=h1
   refine⟨o,rfl,by simpa using g1,(fun cs b hsel=>by rw[hsel] at g2;cases g2),fun t ht j hj hd=> ?_,fun j hj=> ?_,fun e he hb=> ?_⟩
   ·have h2:=aaJ.1 g4 (.tmp t) (by simpa using ht)
    dsimp only at h2
    have h3:=aaJ.1 h2 j (aaO.2 hj)
    simp only[ab7,bne_iff_ne,aaP,decide_eq_true_eq,abU,beq_iff_eq] at h3
    rcases h3 with h3|⟨h3,e,he,h4⟩
    ·exact absurd hd h3
    ·exact⟨h3,e,by simpa using he,h4⟩
   ·have h2:=aaJ.1 g5 j hj
    simp only[aaP,decide_eq_true_eq,abU,beq_iff_eq] at h2
    obtain⟨h3,e,he,h4⟩:=h2
    exact⟨h3,e,by simpa using he,h4⟩
   ·have h2:=abO.1 g6 e he
    rw[hb] at h2
    simpa using h2
 have KV:∀i o,n≤i→ops[i]? =some o→∀j,j<n→∃e∈o.after,Region.binds .any e=true∧e.on=j:=fun i o hi ho j hj=>by
  have h1:=hs i (aam.1 ho).1
  dsimp only at h1
  rw[ho] at h1
  simp only[aaP,if_neg (Nat.not_lt.2 hi)] at h1
  have h2:=aaJ.1 h1.2 j (aaO.2 hj)
  simp only[aaP,abU,beq_iff_eq] at h2
  obtain⟨e,he,h4⟩:=h2
  exact⟨e,by simpa using he,h4⟩
 have fin:∀(listed:Array Bool),listed.size=ops.size→Region.ready .any ops listed=[]→∀i,i<n→listed.getD i false=true:=by
  intro listed hl hr i
  induction i using Nat.strongRecOn with
  |_ i ih=>
   intro hi
   by_cases hb:listed.getD i false=true
   ·exact hb
   ·exfalso
    have hi':i<listed.size:=by omega
    have h0:listed.getD i true=false:=by
     simp[hi'] at hb ⊢
     exact hb
    obtain⟨o,ho,_,_,_,_,dH⟩:=hop i hi
    have hm:i∈Region.ready .any ops listed:=by
     rw[mem_ready]
     refine⟨h0,o,ho,fun e he hbd=> ?_⟩
     have:=dH e he hbd
     exact ih e.on this (by omega)
    rw[hr] at hm
    cases hm
 have key:∀(fuel:Nat) (listed:Array Bool) (ρ:Nat→Value) (lo hi:Nat→Nat) (w:World),listed.size=ops.size→listed.toList.count false=fuel→Below w0.heap.size w0 w→
  (∀i,n≤i→listed.getD i false=false)→
  (∀i,i<n→listed.getD i false=true→w0.heap.size≤lo i∧lo i≤hi i∧hi i≤w.heap.size∧(sp i).post (ρ i) ((sp i).deps.map ρ) (lo i) (hi i) w∧∀j∈(sp i).deps,listed.getD j false=true)→
  (∀i j,i<n→j<n→listed.getD i false=true→listed.getD j false=true→i≠j→hi i≤lo j∨hi j≤lo i)→
  wpAny P .any ops Q fuel listed (part ops a0 ρ (fun j=>listed.getD j false) n) w:=by
  have last:∀(listed:Array Bool) (ρ:Nat→Value) (lo hi:Nat→Nat) (w:World),listed.size=ops.size→Below w0.heap.size w0 w→
   (∀i,n≤i→listed.getD i false=false)→
   (∀i,i<n→listed.getD i false=true→w0.heap.size≤lo i∧lo i≤hi i∧hi i≤w.heap.size∧(sp i).post (ρ i) ((sp i).deps.map ρ) (lo i) (hi i) w∧∀j∈(sp i).deps,listed.getD j false=true)→
   (∀i j,i<n→j<n→listed.getD i false=true→listed.getD j false=true→i≠j→hi i≤lo j∨hi j≤lo i)→
   (∀i,i<n→listed.getD i false=true)→wpAny P .any ops Q (listed.toList.count false) listed (part ops a0 ρ (fun j=>listed.getD j false) n) w:=by
   intro listed ρ lo hi w hl hb hno hg hd hall
   have e:∀k,k≤n→part ops a0 ρ (fun j=>listed.getD j false) k=canon ops a0 ρ k:=by
    intro k
    induction k with
    |zero=>exact fun _=>rfl
    |succ k ih=>
     intro hk
     unfold part canon
     rw[ih (by omega),hall k (by omega),if_pos rfl]
   have e2:listed=heads ops.size n:=by
    apply Array.ext
    ·simp[heads,hl];omega
    ·intro i h1 h2
     by_cases hi:i<n
     ·have:=hall i hi
      simp[h1] at this
      rw[this]
      simp[heads,hi]
     ·have:=hno i (by omega)
      simp[h1] at this
      rw[this]
      simp[heads,List.getElem_append,hi]
   have e3:(heads ops.size n).toList.count false=ops.size-n:=by simp[heads,List.count_replicate]
   rw[e _ (aad _),e2,e3]
   exact hend ρ lo hi w _ rfl (kN n) (fun j t hj hd ht=>by
    rw[dc,kT hd (fun i hi=>hone i j t hi hd) rfl n hj,if_pos (by rw[hN];exact ht)]) (fun t ht=>by
    rw[dc,fO n fun j hj _=>by
     have:=aaJ.1 ht j (aaO.2 hj)
     simpa using this]) hb (fun i hi=>by
    obtain⟨h1,h2,h3,h4,_⟩:=hg i hi (hall i hi)
    exact⟨h1,h2,h3,h4⟩) fun i j hi hj=>hd i j hi hj (hall i hi) (hall j hj)
  intro fuel
  induction fuel with
  |zero=>
   intro listed ρ lo hi w hl hc hb hno hg hd
   have hall:∀i,i<n→listed.getD i false=true:=fun i hi=>by
    have hm:¬false∈listed.toList:=fun h=>by
     have:=abM.2 h
     omega
    have hi':i<listed.size:=by omega
    by_cases nV:listed[i]=true
    ·simp[hi',nV]
    ·exfalso
     have e:listed[i]=false:=by simpa using nV
     exact hm (by rw[←e];simp)
   have:=last listed ρ lo hi w hl hb hno hg hd hall
   rw[hc] at this
   exact this
  |succ fuel ih=>
   intro listed ρ lo hi w hl hc hb hno hg hd
   by_cases hall:∀i,i<n→listed.getD i false=true
   ·have:=last listed ρ lo hi w hl hb hno hg hd hall
    rw[hc] at this
    exact this
   refine⟨fun hr=>absurd (fin listed hl hr) hall,fun i hi=> ?_⟩
   have Ou:=hi
   rw[mem_ready] at hi
   obtain⟨h0,o,ho,bU⟩:=hi
   have RD:=(aam.1 ho).1
   have hin:i<n:=by
    rcases ab1 i n with h|h
    ·exact h
    ·exact absurd (fun j hj=>by
      obtain⟨e,he,hbd,rfl⟩:=KV i o h ho j hj
      exact bU e he hbd) hall
   have hi':i<listed.size:=by omega
   obtain⟨o',ho',hgd,hsel,hread,II,_⟩:=hop i hin
   rw[ho] at ho'
   cases ho'
   have bP:listed.getD i false=false:=by
    simp[hi'] at h0 ⊢
    exact h0
   have q9:∀j∈(sp i).deps,listed.getD j false=true:=fun j hj=>by
    obtain⟨_,e,he,hbd,rfl⟩:=II j hj
    exact bU e he hbd
   have hev:execOp (part ops a0 ρ (fun j=>listed.getD j false) n).eval o=execOp (canon ops a0 ρ i).eval o:=by
    refine execOp_congr o hsel fun x hx=> ?_
    cases x with
    |tmp t=>
     refine nC (fun i j hij=>hone i j t hij) (by omega) fun j hj hd=> ?_
     obtain⟨h1,e,he,hbd,rfl⟩:=hread t hx j (by omega) hd
     exact⟨h1,bU e he hbd⟩
    |_=>rfl
   have qQ:=hstep i o ρ w (canon ops a0 ρ i).eval hin ho hb (fun j hj=>by
    have hjl:=(II j hj).1
    obtain⟨h1,h2,h3,h4,_⟩:=hg j (by omega) (q9 j hj)
    exact⟨lo j,hi j,h1,h2,h3,h4⟩) (fun j t hj hd ht=>by
    rw[dc,kT hd (fun i hi=>hone i j t hi hd) rfl i hj,if_pos (by rw[hN];exact ht)]) (fun t ht=>by
    rw[dc,fO i fun j hj _=>by
     have:=aaJ.1 ht j (aaO.2 hj)
     simpa using this]) (fun v=>rfl)
   unfold wpOp
   rw[ho]
   dsimp only
   have hw:Region.wanted o (yielded ops (part ops a0 ρ (fun j=>listed.getD j false) n).tmps)=true:=by
    unfold Region.wanted
    rw[hgd]
   rw[if_pos hw]
   refine .inl ?_
   have tP:cF P o (part ops a0 ρ (fun j=>listed.getD j false) n).eval w fun v w'=>Below w.heap.size w w'∧(sp i).post v ((sp i).deps.map ρ) w.heap.size w'.heap.size w':=by
    unfold cF at qQ ⊢
    rw[hev]
    exact qQ
   refine tP.wp fun v w' hv=> ?_
   obtain⟨ij,hpost⟩:=hv
   have BA:o.dst=dst ops i:=by unfold dst;rw[ho];rfl
   have fu:∀j,(listed.setIfInBounds i true).getD j false=if j=i then true else listed.getD j false:=fun j=>by
    by_cases e:j=i
    ·subst e
     rw[if_pos rfl]
     simp[hi']
    ·rw[if_neg e]
     exact getD_set_ne false (fun h=>e h.symm)
   rw[BA,rW hone bP hin,ny (L':=fun j=>(listed.setIfInBounds i true).getD j false) (ρ':=upd ρ i v) (fun j=>(fu j).symm) (fun _ _=>rfl)]
   have hsz:=ij.size
   have hb0:=hb.size
   have QC:∀j,j≠i→listed.getD j false=true→(∀k∈(sp j).deps,listed.getD k false=true)→(sp j).deps.map (upd ρ i v)=(sp j).deps.map ρ:=fun j hj hjl hk=>by
    refine abT fun k hkm=> ?_
    unfold upd
    rw[if_neg]
    intro e
    subst e
    rw[hk k hkm] at bP
    cases bP
   have hdi:(sp i).deps.map (upd ρ i v)=(sp i).deps.map ρ:=abT fun k hkm=>by
    unfold upd
    rw[if_neg]
    intro e
    subst e
    rw[q9 k hkm] at bP
    cases bP
   refine ih (listed.setIfInBounds i true) (upd ρ i v) (sQ lo i w.heap.size) (sQ hi i w'.heap.size) w' (by simpa using hl) ?_ (hb.trans (ij.mono hb0)) (fun j hj=>by rw[fu,if_neg (by omega)];exact hno j hj) ?_ ?_
   ·rw[aco]
    have hi2:i<listed.toList.length:=by simpa using hi'
    have e:listed.toList[i]=false:=by
     simp[hi'] at h0
     simpa using h0
    have hpos:0<listed.toList.count false:=abM.2 (by rw[←e];exact aaX hi2)
    rw[ac2 hi2,e,if_pos (by decide),if_neg (by decide)]
    omega
   ·intro j hj hjl
    rw[fu] at hjl
    by_cases e:j=i
    ·subst e
     unfold sQ
     rw[if_pos rfl,if_pos rfl]
     refine⟨hb0,hsz,aad _,?_,fun k hk=>by rw[fu];split;rfl;exact q9 k hk⟩
     rw[hdi]
     unfold upd
     rw[if_pos rfl]
     exact hpost
    ·rw[if_neg e] at hjl
     obtain⟨h1,h2,h3,h4,h5⟩:=hg j hj hjl
     unfold sQ
     rw[if_neg e,if_neg e]
     refine⟨h1,h2,by omega,?_,fun k hk=>by rw[fu];split;rfl;exact h5 k hk⟩
     rw[QC j e hjl h5]
     unfold upd
     rw[if_neg e]
     exact KI j hj _ _ _ _ w w' h3 ij h4
   ·intro j k hj hk hjl cU hjk
    rw[fu] at hjl cU
    unfold sQ
    by_cases e:j=i
    ·subst e
     rw[if_neg (fun h=>hjk h.symm)] at cU
     rw[if_pos rfl,if_pos rfl,if_neg (fun h=>hjk h.symm),if_neg (fun h=>hjk h.symm)]
     exact .inr (hg k hk cU).2.2.1
    ·rw[if_neg e] at hjl
     by_cases e2:k=i
     ·subst e2
      rw[if_neg e,if_neg e,if_pos rfl,if_pos rfl]
      exact .inl (hg j hj hjl).2.2.1
     ·rw[if_neg e2] at cU
      rw[if_neg e,if_neg e,if_neg e2,if_neg e2]
      exact hd j k hj hk hjl cU hjk
 have hnone:∀j,(Array.replicate ops.size false).getD j false=false:=fun j=>by by_cases hk:j<ops.size<;>simp[hk]
 have h0:part ops a0 (fun _=>undef) (fun j=>(Array.replicate ops.size false).getD j false) n=a0:=by
  have:∀k,part ops a0 (fun _=>undef) (fun j=>(Array.replicate ops.size false).getD j false) k=a0:=by
   intro k
   induction k with
   |zero=>rfl
   |succ k ih=>
    unfold part
    rw[ih,hnone k,if_neg (by decide)]
  exact this _
 have hk:=key ops.size (Array.replicate ops.size false) (fun _=>undef) (fun _=>0) (fun _=>0) w0 (by simp) (by simp) (aae _ _) (fun i _=>hnone i) (fun i _ h=>by rw[hnone i] at h;cases h) (fun i _ _ _ h=>by rw[hnone i] at h;cases h)
 rw[h0] at hk
 exact hk
end aj
end
section
open Go.ChangeShapes Go.WideShapes Go.ChangeAt Go.RowKit
theorem wf_i64 {n:Int} (h:(Lit.int .i64 n).wf=true): -9223372036854775808≤n∧n≤9223372036854775807:=by simpa using bounds_i64 h
end
section
open Go.RowKit
structure gI (w:World) (ao:Option Addr) (n ca:Nat) (l:List Int):Prop where
 len:l.length=n
 ints:cK w ao l
 none:ao=none→n=0∧ca=0
section
variable {w w':World} {ao:Option Addr} {n ca:Nat} {l:List Int}
theorem gI.later (h:gI w ao n ca l) (hb:Below w.heap.size w w'):gI w' ao n ca l:=⟨h.len,h.ints.later hb,h.none⟩
theorem aq.cG {g:Nat} (h:aq w g l) (hl:l.length=n):gI w (some ⟨g,0,.none⟩) n ca l:=⟨hl,h.at,fun e=>by cases e⟩
theorem aP.cG {B:Nat} {v:Value} (h:aP w B v l):∃ao ca,v= .slice ao l.length ca∧gI w ao l.length ca l∧(∀x,ao=some x→B≤x.block∧x.block<w.heap.size):=by
 rcases h.2 with ⟨rfl,h0⟩|⟨g,cap,cur,rfl,hB,hh,_⟩
 ·refine⟨.none,0,by rw[h0],⟨rfl,fun j x hj=> ?_,fun _=>⟨h0,rfl⟩⟩,fun x hx=>by cases hx⟩
  have:=(aas.1 hj).1
  omega
 ·obtain⟨ao,ca,e,ha,hb⟩:=h.form
  cases e
  exact⟨_,_,rfl,⟨rfl,ha,fun e=>by cases e⟩,hb⟩
end
theorem wC {ops:Array Oper} {rest:List Oper} {o:Oper} {a:Act} {Q:Exit→Act→World→Prop} (hgd:o.guard=none) (s x:Operand)
 (ho:o.op= .call { callee:= .builtin .append,args:= #[s,x],argTypes:= #[27,27] }) (W:World) (ao:Option Addr) (n ca:Nat) (l:List Int) (hs:a.eval s= .slice (some ⟨W.heap.size,0,none⟩) 0 0) (hx:a.eval x= .slice ao n ca)
 (hr:gI W ao n ca l) (hn:n≤17592186043904)
 (h:∀gb c w',w'.ownsRow W.heap.size 3 1 (.slice (some ⟨gb,0,none⟩) n c) n (l.map (Value.int .i64))→W.heap.size≤gb→gb<w'.heap.size→n≤c→Below W.heap.size W w'→wpList Tryz.prog ops Q rest (a.put o.dst (.slice (some ⟨gb,0,none⟩) n c)) w'):
 wpList Tryz.prog ops Q (o::rest) a (W.alloc (.cells #[] 3)):=by
 obtain⟨i0,hi,hz0,hz1,hz2⟩:=info_parts Tryz.bO
 have gH:(W.alloc (.cells #[] 3)).ownsRow W.heap.size 3 1 (.slice (some ⟨W.heap.size,0,none⟩) 0 0) 0 []:=ac0 W #[] 0 (aad _) (aax _) rfl
 have hb0:Below W.heap.size W (W.alloc (.cells #[] 3)):=(aae _ _).alloc (aad _) _
 rcases ao with _|y
 ·obtain⟨rfl,rfl⟩:=hr.none rfl
  have hl:l=[]:=abu.1 hr.len
  subst hl
  refine wpList_append_own_none hgd s x 27 ho W.heap.size 3 i0 1 Tryz.underlying27 hi _ 0 [] hs gH hx ?_
  exact h _ _ _ gH (aad _) (by simp) (aad _) hb0
 ·refine wpList_append_own _ hgd s x 27 ho W.heap.size 3 i0 (.int .i64 0) 1 8 Tryz.underlying27 hi hz0 hz1 hz2 rfl (by decide) _ 0 [] hs gH y n ca (l.map (Value.int .i64)) hx (by rw[aa3,hr.len];omega) ?_ (ints_oneCell .i64 _) (by unfold maxLen;omega) (by rw[abv];omega) (by simp) ?_
  ·intro j u hj
   rw[aay] at hj
   cases Bk:l[j]? with
   |none=>rw[Bk] at hj;cases hj
   |some z=>
    rw[Bk] at hj
    obtain rfl:=aak hj
    obtain⟨b,o',e,hc⟩:=hr.ints j z Bk
    cases e
    have ea:((⟨b,o',none⟩:Addr).add j)=⟨b,o'+j,none⟩:=by
     by_cases h0:j=0<;>simp[Addr.add,h0]
    rw[ea]
    exact(ado W _ none).cell hc (by simp)
  ·intro v' w' hown' hg hiff
   rw[abv,aaE] at hown'
   rcases hown'.2 with ⟨hnil,_⟩|⟨gb,c,cur,rfl,hgb,hh,hlc,_⟩
   ·have:=(hiff.1 hnil).1
    cases this
   ·exact h gb c w' hown' hgb (lt_of_block hh) hlc (hb0.grown hg (by simp) (fun q hq=>by cases hq;exact aad _))
end
section
open Go.RowKit
theorem J7 (ty:TypeId) (W:World) (b:Nat) (ao:Option Addr) (n ca:Nat) (l:List Int) (hb:W.heap[b]? =some (.cells #[] 3 (0,0))) (hr:gI W ao n ca l) (hn:n≤17592186043904):
 ∃g c w',(Builtin.append_ #[27,27] ty #[.slice (some ⟨b,0,none⟩) 0 0,.slice ao n ca]).run Tryz.prog W= .ok (.slice (some ⟨g,0,none⟩) n c) w'∧(g=b∨W.heap.size≤g)∧(∀B,B≤b→aP w' B (.slice (some ⟨g,0,none⟩) n c) l)∧g<w'.heap.size∧Below W.heap.size W w':=by
 obtain⟨i0,hi,hz0,hz1,hz2⟩:=info_parts Tryz.bO
 have hlt:=lt_of_block hb
 have gH:∀B,B≤b→W.ownsRow B 3 1 (.slice (some ⟨b,0,none⟩) 0 0) 0 []:=fun B hB=>⟨rfl,.inr ⟨b,0,#[],rfl,hB,hb,aad _,by unfold maxLen;omega,rfl,rfl⟩⟩
 by_cases h0:n=0
 ·subst h0
  have hl:l=[]:=abu.1 hr.len
  subst hl
  refine⟨b,0,W,?_,.inl rfl,fun B hB=>gH B hB,hlt,aae _ _⟩
  cases ao with
  |none=>
   obtain⟨_,rfl⟩:=hr.none rfl
   exact run_append_owned_none (P:=Tryz.prog) (w:=W) b 27 ty 3 i0 1 Tryz.underlying27 hi _ 0 [] (gH b (aad _))
  |some y=>
   have:=run_append_room_cells (P:=Tryz.prog) W 27 ty 3 i0 Tryz.underlying27 hi b 0 0 0 y 0 ca [] (by simp) (fun j u hj=>by simp at hj) (fun u hu=>by simp at hu) (aad _) (fun j hj=>by simp at hj) (fun j hj=>by simp at hj)
   rw[this]
   simp[World.setCells]
 ·obtain⟨y,hy⟩:∃y,ao=some y:=by
   cases ao with
   |none=>exact absurd (hr.none rfl).1 h0
   |some y=>exact⟨y,rfl⟩
  subst hy
  obtain⟨v',w',hrun,r1,r2⟩:=run_append_arg_grows (P:=Tryz.prog) W 27 ty 3 i0 (.int .i64 0) 1 8 Tryz.underlying27 hi hz0 hz1 hz2 rfl (by decide) ⟨b,0,none⟩ 0 0 [] rfl (fun j u hj=>by simp at hj) y n ca (l.map (Value.int .i64)) (by rw[aa3,hr.len];omega) (fun j u hj=>by
   rw[aay] at hj
   cases Bk:l[j]? with
   |none=>rw[Bk] at hj;cases hj
   |some z=>
    rw[Bk] at hj
    obtain rfl:=aak hj
    obtain⟨b',o',e,hc⟩:=hr.ints j z Bk
    cases e
    have ea:((⟨b',o',none⟩:Addr).add j)=⟨b',o'+j,none⟩:=by
     by_cases h0:j=0<;>simp[Addr.add,h0]
    rw[ea]
    exact hc) (by omega) (by unfold maxLen;omega) (by omega)
  rw[abv,aaE] at r1
  obtain⟨k,hk⟩:∃k,n=k+1:=⟨n-1,by omega⟩
  rw[hk] at r1
  obtain⟨g,c,rfl⟩:=iB r1
  rw[←hk] at r1 hrun
  have hg:=aa9 r1 g rfl
  refine⟨g,c,w',hrun,.inr hg.1,fun B hB=> ?_,hg.2,⟨r2.os,r2.tape,r2.output,r2.size,fun k hk=>r2.block k hk (by simp)⟩⟩
  have:aP w' W.heap.size (.slice (some ⟨g,0,none⟩) n c) l:=by
   unfold aP
   rw[hr.len]
   exact r1
  exact this.lower (by omega)
end
section
open Go.RowKit
theorem BV:Tryz.prog.cellsOf 33=2:=by kernel_rfl
theorem BU:Tryz.prog.cellsOf 3=1:=by kernel_rfl
def Tk (e:Int×Int):Prop:=(-9223372036854775808≤e.1∧e.1≤9223372036854775807)∧-9223372036854775808≤e.2∧e.2≤9223372036854775807
end
section
open Go.RowKit
structure For where
 a1:Option Addr
 a2:Option Addr
 a3:Option Addr
 a4:Option Addr
 c1:Nat
 c2:Nat
 c3:Nat
 c4:Nat
abbrev For.val (f:For) (s:Df.St):Value:= .agg #[.slice f.a1 s.par.length f.c1,.slice f.a2 s.az.length f.c2,.slice f.a3 s.ord.length f.c3,.slice f.a4 s.aJ.length f.c4]
structure dI (w:World) (f:For) (s:Df.St):Prop where
 l1:gI w f.a1 s.par.length f.c1 s.par
 l2:gI w f.a2 s.az.length f.c2 s.az
 l3:gI w f.a3 s.ord.length f.c3 s.ord
 l4:gI w f.a4 s.aJ.length f.c4 s.aJ
 n1:s.par.length≤17592186043904
 n2:s.az.length≤17592186043904
 n3:s.ord.length≤17592186043904
 n4:s.aJ.length≤17592186043904
theorem dI.later {w w':World} {f:For} {s:Df.St} (h:dI w f s) (hb:Below w.heap.size w w'):dI w' f s:=⟨h.l1.later hb,h.l2.later hb,h.l3.later hb,h.l4.later hb,h.n1,h.n2,h.n3,h.n4⟩
theorem lX.cG {w:World} {B:Nat} {v1 v2 v3 v4:Value} {s:Df.St} (h:lX w B v1 v2 v3 v4 s) (hn:s.par.length≤17592186043904∧s.az.length≤17592186043904∧s.ord.length≤17592186043904∧s.aJ.length≤17592186043904):
 ∃f:For,v1= .slice f.a1 s.par.length f.c1∧v2= .slice f.a2 s.az.length f.c2∧v3= .slice f.a3 s.ord.length f.c3∧v4= .slice f.a4 s.aJ.length f.c4∧dI w f s:=by
 obtain⟨a1,c1,e1,h1,_⟩:=h.o1.cG
 obtain⟨a2,c2,e2,h2,_⟩:=h.o2.cG
 obtain⟨a3,c3,e3,h3,_⟩:=h.o3.cG
 obtain⟨a4,c4,e4,h4,_⟩:=h.o4.cG
 exact⟨⟨a1,a2,a3,a4,c1,c2,c3,c4⟩,e1,e2,e3,e4,h1,h2,h3,h4,hn.1,hn.2.1,hn.2.2.1,hn.2.2.2⟩
end
section
open Go.RowKit
theorem eA {w w':World} {B R:Nat} (h:Below B w w') (hR:B≤R) (a b c d:Value):Below B w (dY w' R a b c d):=
 (((h.setCell (p:=⟨R,0,none⟩) hR a).setCell (p:=⟨R,1,none⟩) hR b).setCell (p:=⟨R,2,none⟩) hR c).setCell (p:=⟨R,3,none⟩) hR d
end
section
open Go.RowKit aj
def FH (b k:Nat):nJ:=⟨[],fun v _ _ _ _=>v= .pointer (some ⟨b,k,none⟩)⟩
def qM (j:Nat) (x:Value):nJ:=⟨[j],fun v _ _ _ _=>v=x⟩
end
end Go.Proofs.YtdjmnpmdmjclhabGreat
