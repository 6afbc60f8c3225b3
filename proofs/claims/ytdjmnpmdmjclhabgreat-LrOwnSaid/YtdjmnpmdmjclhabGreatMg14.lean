import Derived.Test.YtdjmnpmdmjclhabGreatMg07
import Derived.Test.YtdjmnpmdmjclhabGreatMg04
import Derived.Test.YtdjmnpmdmjclhabGreatMg08
import Derived.Test.YtdjmnpmdmjclhabGreatMg13
import Derived.Test.YtdjmnpmdmjclhabGreatMg01
import Derived.RangeFuncNested
import Derived.RangeFuncBound
import Derived.RangeFuncCalls
import Derived.RangeFuncLeaves
import Derived.RangeFuncBox
import Derived.Shelf.Abstract
import Derived.Shelf.RegionOpen
import Derived.OwnWalkIn
import Derived.TacticsInMore
import Derived.LoopNIn
import Derived.LoopIn
import Derived.Maps.AppendAt
import Derived.Deep.RegionHeld3
import Derived.Test.YtdjmnpmdmjclhabGreatMg05
namespace Go.Proofs.YtdjmnpmdmjclhabGreat
section
open Go.RowKit
structure Wd (w:World) (p:Nat) (av:Value) (n:Nat) (es:List (Int×Int)) (f:For) (s:Df.St):Prop where
 blk:w.heap[p]? =some (.cells #[av,.slice f.a1 n f.c1,.slice f.a2 n f.c2,.slice f.a3 n f.c3,.slice f.a4 es.length f.c4] 158 (0,0))
 Dp:cE w av n es
 val:Si.Val n es
 cG:dI w f s
 vf:Df.VF n es s
section
variable {w w':World} {p:Nat} {av:Value} {n:Nat} {es:List (Int×Int)} {f:For} {s:Df.St}
theorem Wd.lt (h:Wd w p av n es f s):p<w.heap.size:=lt_of_block h.blk
theorem Wd.later (h:Wd w p av n es f s) (hb:Below w.heap.size w w'):Wd w' p av n es f s:=⟨(hb.block p h.lt).trans h.blk,h.Dp.later hb,h.val,h.cG.later hb,h.vf⟩
theorem Wd.c0 (h:Wd w p av n es f s):w.cell? ⟨p,0,none⟩=some av:=by simp[World.cell?,h.blk]
theorem Wd.c1 (h:Wd w p av n es f s):w.cell? ⟨p,1,none⟩=some (.slice f.a1 n f.c1):=by simp[World.cell?,h.blk]
theorem Wd.c2 (h:Wd w p av n es f s):w.cell? ⟨p,2,none⟩=some (.slice f.a2 n f.c2):=by simp[World.cell?,h.blk]
theorem Wd.c3 (h:Wd w p av n es f s):w.cell? ⟨p,3,none⟩=some (.slice f.a3 n f.c3):=by simp[World.cell?,h.blk]
theorem Wd.c4 (h:Wd w p av n es f s):w.cell? ⟨p,4,none⟩=some (.slice f.a4 es.length f.c4):=by simp[World.cell?,h.blk]
theorem Wd.az (h:Wd w p av n es f s) {v:Nat} (hv:v<n):∃b o,f.a2=some ⟨b,o,none⟩∧∀W,Below w.heap.size w W→∀i,i<n→W.cell? ⟨b,o+i,none⟩=some (.int .i64 (Df.at_ s.az i)):=by
 have l:=h.vf.lens
 obtain⟨b,o,e,-⟩:=cg h.cG.l2 (i:=v) (by rw[l.2.1];exact hv)
 refine⟨b,o,e,fun W hW i hi=> ?_⟩
 obtain⟨b',o',e',d'⟩:=cg (h.cG.later hW).l2 (i:=i) (by rw[l.2.1];exact hi)
 rw[e] at e'
 cases e'
 exact d'
theorem Wd.par (h:Wd w p av n es f s) {v:Nat} (hv:v<n):∃b o,f.a1=some ⟨b,o,none⟩∧∀W,Below w.heap.size w W→∀i,i<n→W.cell? ⟨b,o+i,none⟩=some (.int .i64 (Df.at_ s.par i)):=by
 have l:=h.vf.lens
 obtain⟨b,o,e,-⟩:=cg h.cG.l1 (i:=v) (by rw[l.1];exact hv)
 refine⟨b,o,e,fun W hW i hi=> ?_⟩
 obtain⟨b',o',e',d'⟩:=cg (h.cG.later hW).l1 (i:=i) (by rw[l.1];exact hi)
 rw[e] at e'
 cases e'
 exact d'
theorem Wd.ord (h:Wd w p av n es f s) {v:Nat} (hv:v<n):∃b o,f.a3=some ⟨b,o,none⟩∧∀W,Below w.heap.size w W→∀i,i<n→W.cell? ⟨b,o+i,none⟩=some (.int .i64 (Df.at_ s.ord i)):=by
 have l:=h.vf.lens
 obtain⟨b,o,e,-⟩:=cg h.cG.l3 (i:=v) (by rw[l.2.2.1];exact hv)
 refine⟨b,o,e,fun W hW i hi=> ?_⟩
 obtain⟨b',o',e',d'⟩:=cg (h.cG.later hW).l3 (i:=i) (by rw[l.2.2.1];exact hi)
 rw[e] at e'
 cases e'
 exact d'
theorem Wd.aJ (h:Wd w p av n es f s) {v:Nat} (hv:v<es.length):∃b o,f.a4=some ⟨b,o,none⟩∧∀W,Below w.heap.size w W→∀i,i<es.length→W.cell? ⟨b,o+i,none⟩=some (.int .i64 (Df.at_ s.aJ i)):=by
 have l:=h.vf.lens
 obtain⟨b,o,e,-⟩:=cg h.cG.l4 (i:=v) (by rw[l.2.2.2];exact hv)
 refine⟨b,o,e,fun W hW i hi=> ?_⟩
 obtain⟨b',o',e',d'⟩:=cg (h.cG.later hW).l4 (i:=i) (by rw[l.2.2.2];exact hi)
 rw[e] at e'
 cases e'
 exact d'
set_option maxRecDepth 100000 in
set_option maxHeartbeats 16000000 in
theorem yH (i:Nat) (hi:i<2*es.length) (h:Wd w p av n es f s):
 Calls Tryz.prog 99 #[.pointer (some ⟨p,0,none⟩),.int .i64 (i:Int)] w fun e w'=>e= .returned (.int .i64 (Df.at_ s.az (Cs.fr es i)))∧Below w.heap.size w w':=by
 have hl:=Cs.bH h.val hi
 obtain⟨b,o,ef,hc⟩:=h.az hl.1
 have c0:∀D:LW w,D.val.cell? ⟨p,0,none⟩=some av:=fun D=>(h.later D.h).c0
 have c2:∀D:LW w,D.val.cell? ⟨p,2,none⟩=some (.slice (some ⟨b,o,none⟩) n f.c2):=fun D=>by have:=(h.later D.h).c2;rwa[ef] at this
 have d2:∀D:LW w,D.val.cell? ⟨b,o+Cs.fr es i,none⟩=some (.int .i64 (Df.at_ s.az (Cs.fr es i))):=fun D=>hc D.val D.h _ hl.1
 have jV:Hid (∀D:LW w,Calls Tryz.prog 102 #[av,.int .i64 (i:Int)] D.val fun e w'=>e= .returned (.int .i64 (Cs.fr es i:Int))∧Below D.val.heap.size D.val w'):=fun D=>(kF av n es (i:Int) D.val (h.later D.h).Dp).mono fun e w' ⟨he,hw⟩=>⟨by rw[he,Cs.jP hi],by rw[hw];exact aae _ _⟩
 obtain⟨t,ht⟩:∃t,Cs.fr es i=t:=⟨_,rfl⟩
 obtain⟨z,hz⟩:∃z,Df.at_ s.az t=z:=⟨_,rfl⟩
 rw[ht,hz] at d2
 rw[ht] at jV
 rw[ht,hz]
 have t0:(0:Int)≤(t:Int):=by omega
 have t1:(t:Int)<(n:Int):=by have:=hl.1;rw[ht] at this;omega
 have hne:=LW.any w
 clear hl hc h ef ht hz hi
 go_enter Tryz.func99,Tryz.ntmps99
 go_wp2_with fail
 refine aB (by kernel_rfl) (by kernel_rfl) ?_
 repeat (go_big_quiet_step ((first|(go_at_call 102;exact Calls.lw (jV.out _)))))
 refine wpQuiet_nil ?_
 rintro _ ⟨D,rfl⟩
 go_wp2
 go_ret
 exact⟨rfl,D.h⟩
set_option maxRecDepth 100000 in
set_option maxHeartbeats 16000000 in
theorem OL (i:Nat) (hi:i<2*es.length) (h:Wd w p av n es f s):
 Calls Tryz.prog 132 #[.pointer (some ⟨p,0,none⟩),.int .i64 (i:Int)] w fun e w'=>e= .returned (.int .i64 (Df.at_ s.az (Cs.to es i)))∧Below w.heap.size w w':=by
 have hl:=Cs.bH h.val hi
 obtain⟨b,o,ef,hc⟩:=h.az hl.2
 have c0:∀D:LW w,D.val.cell? ⟨p,0,none⟩=some av:=fun D=>(h.later D.h).c0
 have c2:∀D:LW w,D.val.cell? ⟨p,2,none⟩=some (.slice (some ⟨b,o,none⟩) n f.c2):=fun D=>by have:=(h.later D.h).c2;rwa[ef] at this
 have d2:∀D:LW w,D.val.cell? ⟨b,o+Cs.to es i,none⟩=some (.int .i64 (Df.at_ s.az (Cs.to es i))):=fun D=>hc D.val D.h _ hl.2
 have jV:Hid (∀D:LW w,Calls Tryz.prog 92 #[av,.int .i64 (i:Int)] D.val fun e w'=>e= .returned (.int .i64 (Cs.to es i:Int))∧Below D.val.heap.size D.val w'):=fun D=>(l7 av n es (i:Int) D.val (h.later D.h).Dp).mono fun e w' ⟨he,hw⟩=>⟨by rw[he,Cs.kL hi],by rw[hw];exact aae _ _⟩
 obtain⟨t,ht⟩:∃t,Cs.to es i=t:=⟨_,rfl⟩
 obtain⟨z,hz⟩:∃z,Df.at_ s.az t=z:=⟨_,rfl⟩
 rw[ht,hz] at d2
 rw[ht] at jV
 rw[ht,hz]
 have t0:(0:Int)≤(t:Int):=by omega
 have t1:(t:Int)<(n:Int):=by have:=hl.2;rw[ht] at this;omega
 have hne:=LW.any w
 clear hl hc h ef ht hz hi
 go_enter Tryz.func132,Tryz.ntmps132
 go_wp2_with fail
 refine aB (by kernel_rfl) (by kernel_rfl) ?_
 repeat (go_big_quiet_step ((first|(go_at_call 92;exact Calls.lw (jV.out _)))))
 refine wpQuiet_nil ?_
 rintro _ ⟨D,rfl⟩
 go_wp2
 go_ret
 exact⟨rfl,D.h⟩
set_option maxRecDepth 100000 in
set_option maxHeartbeats 16000000 in
theorem LF (i:Nat) (hi:i<2*es.length) (h:Wd w p av n es f s):
 Calls Tryz.prog 131 #[.pointer (some ⟨p,0,none⟩),.int .i64 (i:Int)] w fun e w'=>e= .returned (.bool (Df.at_ s.par (Cs.to es i) != (i:Int)))∧Below w.heap.size w w':=by
 have hl:=Cs.bH h.val hi
 obtain⟨b,o,ef,hc⟩:=h.par hl.2
 have c0:∀D:LW w,D.val.cell? ⟨p,0,none⟩=some av:=fun D=>(h.later D.h).c0
 have c1:∀D:LW w,D.val.cell? ⟨p,1,none⟩=some (.slice (some ⟨b,o,none⟩) n f.c1):=fun D=>by have:=(h.later D.h).c1;rwa[ef] at this
 have d2:∀D:LW w,D.val.cell? ⟨b,o+Cs.to es i,none⟩=some (.int .i64 (Df.at_ s.par (Cs.to es i))):=fun D=>hc D.val D.h _ hl.2
 have jV:Hid (∀D:LW w,Calls Tryz.prog 92 #[av,.int .i64 (i:Int)] D.val fun e w'=>e= .returned (.int .i64 (Cs.to es i:Int))∧Below D.val.heap.size D.val w'):=fun D=>(l7 av n es (i:Int) D.val (h.later D.h).Dp).mono fun e w' ⟨he,hw⟩=>⟨by rw[he,Cs.kL hi],by rw[hw];exact aae _ _⟩
 obtain⟨t,ht⟩:∃t,Cs.to es i=t:=⟨_,rfl⟩
 obtain⟨z,hz⟩:∃z,Df.at_ s.par t=z:=⟨_,rfl⟩
 rw[ht,hz] at d2
 rw[ht] at jV
 rw[ht,hz]
 have t0:(0:Int)≤(t:Int):=by omega
 have t1:(t:Int)<(n:Int):=by have:=hl.2;rw[ht] at this;omega
 have hne:=LW.any w
 clear hl hc h ef ht hz hi
 go_enter Tryz.func131,Tryz.ntmps131
 go_wp2_with fail
 refine aB (by kernel_rfl) (by kernel_rfl) ?_
 repeat (go_big_quiet_step ((first|(go_at_call 92;exact Calls.lw (jV.out _)))))
 refine wpQuiet_nil ?_
 rintro _ ⟨D,rfl⟩
 go_wp2
 go_ret
 exact⟨rfl,D.h⟩
def xV (p:Nat) (v:Int) (w:World) (e:Ending) (w':World):Prop:=
 ∃Bw Bv,e= .returned (.func (.func 129) #[] #[.pointer (some ⟨Bw,0,none⟩),.pointer (some ⟨Bv,0,none⟩)])∧w.heap.size≤Bw∧w.heap.size≤Bv∧
  Boxed w' Bw 123 (.pointer (some ⟨p,0,none⟩))∧Boxed w' Bv 3 (.int .i64 v)∧Below w.heap.size w w'
theorem zW (p:Nat) (v:Int) (w:World):Calls Tryz.prog 97 #[.pointer (some ⟨p,0,none⟩),.int .i64 v] w (xV p v w):=by
 go_enter Tryz.func97,Tryz.ntmps97
 go_wp2
 go_ret
 refine⟨w.heap.size,w.heap.size+1,rfl,aad _,by omega,(acF w _ _).alloc _,?_,((aae _ _).alloc (aad _) _).alloc (by simp) _⟩
 have:=acF (w.alloc (.cells #[.pointer (some ⟨p,0,none⟩)] 123)) 3 (.int .i64 v)
 rwa[aaM] at this
end
end
section
open Go.RowKit
namespace Lo
def gU (p:Int×Int) (h:Int):Int×Int:=if h<p.1 then (h,p.1) else if p.1<h∧h<p.2 then (p.1,h) else p
def nx (p:Int×Int) (hs:List Int):Int×Int:=hs.foldl gU p
def mZ (m:Int) (X:List Int) (p:Int×Int):Prop:=p.1=least m X∧p.2=least m (X.filter fun x=>decide (p.1<x))
theorem Hs {m:Int} {X Y:List Int} (h:∀x,x∈X↔x∈Y):least m X=least m Y:=by
 have h1:=least_le m X
 have h2:=least_le m Y
 rcases eH m X with e1|e1<;>rcases eH m Y with e2|e2
 ·omega
 ·have:=h1.2 _ ((h _).2 e2);have:=h2.1;omega
 ·have:=h2.2 _ ((h _).1 e1);have:=h1.1;omega
 ·have:=h1.2 _ ((h _).2 e2);have:=h2.2 _ ((h _).1 e1);omega
theorem mZ.start (m:Int):mZ m [] (m,m):=⟨rfl,rfl⟩
theorem mZ.more {m:Int} {X:List Int} {p:Int×Int} (h:mZ m X p) (x:Int):mZ m (X++[x]) (gU p x):=by
 obtain⟨a,b⟩:=p
 obtain⟨h1,h2⟩:=h
 dsimp only at h1 h2
 have l1:=least_le m X
 have ha:∀y∈X,a≤y:=fun y hy=>by rw[h1];exact l1.2 y hy
 have hm:a≤m:=by rw[h1];exact l1.1
 have mh:b≤m:=by rw[h2];exact(least_le m _).1
 unfold gU
 dsimp only
 by_cases c1:x<a
 ·rw[if_pos c1]
  refine⟨?_,?_⟩
  ·dsimp only
   rw[jv,←h1]
   omega
  ·dsimp only
   rw[h1]
   refine Hs fun y=> ?_
   rw[abe,aal,aao,decide_eq_true_iff]
   constructor
   ·exact fun hy=>⟨.inl hy,by have:=ha y hy;omega⟩
   ·rintro⟨hy|hy,hlt⟩
    ·exact hy
    ·omega
 ·rw[if_neg c1]
  by_cases c2:a<x∧x<b
  ·rw[if_pos c2]
   refine⟨?_,?_⟩
   ·dsimp only
    rw[jv,←h1]
    omega
   ·dsimp only
    rw[acL,acD (by simpa using c2.1)]
    show x=least m (_++[x])
    rw[jv,←h2]
    omega
  ·rw[if_neg c2]
   refine⟨?_,?_⟩
   ·dsimp only
    rw[jv,←h1]
    omega
   ·dsimp only
    rw[acL]
    by_cases c3:a<x
    ·rw[acD (by simpa using c3)]
     show b=least m (_++[x])
     rw[jv,←h2]
     omega
    ·rw[ac4 (by simpa using c3),adh,abf]
     exact h2
theorem mZ.many {m:Int}:∀(Y X:List Int) (p:Int×Int),mZ m X p→mZ m (X++Y) (nx p Y)
 |[],X,p,h=>by rw[abf];exact h
 |y::Y,X,p,h=>by
  have:=mZ.many Y (X++[y]) (gU p y) (h.more y)
  rw[aaH] at this
  exact this
theorem JL (p:Int×Int) (l:List Int) (x:Int):nx p (l++[x])=gU (nx p l) x:=by
 unfold nx
 rw[adx]
 rfl
end Lo
def Pd (Bl B2:Nat) (p:Int×Int) (w:World) (e:Ending) (w':World):Prop:=
 e= .returned (.tuple #[.int .i64 p.1,.int .i64 p.2])∧Boxed w' Bl 3 (.int .i64 p.1)∧Boxed w' B2 3 (.int .i64 p.2)∧aC (fun k=>k=Bl∨k=B2) w w'
set_option maxRecDepth 100000 in
set_option maxHeartbeats 4000000 in
theorem wU (Bl B2:Nat) (p:Int×Int) (ao:Option Addr) (c:Nat) (hs:List Int) (w:World) (hne:Bl≠B2) (b1:Boxed w Bl 3 (.int .i64 p.1)) (b2:Boxed w B2 3 (.int .i64 p.2)) (hl:hs.length≤8388608)
 (hc:∀V,aC (fun k=>k=Bl∨k=B2) w V→cK V ao hs):
 Calls Tryz.prog 155 #[.slice ao hs.length c,.pointer (some ⟨Bl,0,none⟩),.pointer (some ⟨B2,0,none⟩)] w (Pd Bl B2 (Lo.nx p hs) w):=by
 have HC:=Nu.hid hc
 have aY:=Nu.hid b1
 have ct:=Nu.hid b2
 clear hc b1 b2
 go_enter Tryz.func155,Tryz.ntmps155
 go_wp2
 go_loopw [10] (fun i wr=>∃k:Nat,k≤hs.length∧i= .int .i64 k∧Boxed wr Bl 3 (.int .i64 (Lo.nx p (hs.take k)).1)∧Boxed wr B2 3 (.int .i64 (Lo.nx p (hs.take k)).2)∧aC (fun k=>k=Bl∨k=B2) w wr) (fun i _=>hs.length-(intOf i).toNat)
 case atStart=>exact⟨0,aax _,rfl,aY.out,ct.out,aC.refl _ _⟩
 case round=>
  obtain⟨k,hk,rfl,hb1,hb2,hw⟩:=hrel
  have x1:=hb1.cell
  have x2:=hb2.cell
  have f1:=hb1.frozen
  have f2:=hb2.frozen
  by_cases hlt:k<hs.length
  ·obtain⟨z,hz⟩:∃z,hs[k]? =some z:=⟨_,aac hlt⟩
   obtain⟨b,o,rfl,hcz⟩:=HC.out wr hw k z hz
   have mo:Hid (Lo.nx p (hs.take (k+1))=Lo.gU (Lo.nx p (hs.take k)) z):=by
    show _=_
    rw[abL,hz]
    exact Lo.JL _ _ _
   obtain⟨q,hq⟩:∃q,Lo.nx p (hs.take k)=q:=⟨_,rfl⟩
   obtain⟨a,b'⟩:=q
   rw[hq] at mo x1 x2 hb1 hb2
   dsimp only at x1 x2 hb1 hb2
   have k0:(0:Int)≤(k:Int):=by omega
   have k1:(k:Int)<(hs.length:Int):=by omega
   have HW:=Nu.hid hw
   have Px:=Nu.hid hb1
   have Pv:=Nu.hid hb2
   clear hw hz hq hb1 hb2
   by_cases c1:z<a
   ·have HT:Hid (Lo.gU (a,b') z=(z,a)):=by
     show _=_
     unfold Lo.gU
     rw[if_pos c1]
    go_wp2
    go_roundw
    case rel=>
     refine⟨k+1,by omega,by go_num,?_,?_,(HW.out.setCell (.inl rfl) _).setCell (.inr rfl) _⟩
     ·rw[mo.out,HT.out]
      exact(Boxed.set _ Px.out).other hne _
     ·rw[mo.out,HT.out]
      exact Boxed.set _ (Pv.out.other hne.symm _)
    case measure=>simp[intOf];omega
   ·by_cases c2:a<z
    ·by_cases c3:z<b'
     ·have HT:Hid (Lo.gU (a,b') z=(a,z)):=by
       show _=_
       unfold Lo.gU
       rw[if_neg c1,if_pos ⟨c2,c3⟩]
      go_wp2
      go_roundw
      case rel=>
       refine⟨k+1,by omega,by go_num,?_,?_,HW.out.setCell (.inr rfl) _⟩
       ·rw[mo.out,HT.out]
        exact Px.out.other hne _
       ·rw[mo.out,HT.out]
        exact Boxed.set _ Pv.out
      case measure=>simp[intOf];omega
     ·have HT:Hid (Lo.gU (a,b') z=(a,b')):=by
       show _=_
       unfold Lo.gU
       rw[if_neg c1,if_neg (fun h=>c3 h.2)]
      go_wp2
      go_roundw
      case rel=>exact⟨k+1,by omega,by go_num,by rw[mo.out,HT.out];exact Px.out,by rw[mo.out,HT.out];exact Pv.out,HW.out⟩
      case measure=>simp[intOf];omega
    ·have HT:Hid (Lo.gU (a,b') z=(a,b')):=by
      show _=_
      unfold Lo.gU
      rw[if_neg c1,if_neg (fun h=>c2 h.1)]
     go_wp2
     go_roundw
     case rel=>exact⟨k+1,by omega,by go_num,by rw[mo.out,HT.out];exact Px.out,by rw[mo.out,HT.out];exact Pv.out,HW.out⟩
     case measure=>simp[intOf];omega
  ·have hd:¬((k:Int)<(hs.length:Int)):=by omega
   rw[abk (by omega)] at x1 x2 hb1 hb2
   have HW:=Nu.hid hw
   have Px:=Nu.hid hb1
   have Pv:=Nu.hid hb2
   clear hw hb1 hb2
   go_wp2_with fail
   go_quiet (fail)
   go_wp2
   refine bodyPost_ret (results_tmp2 rfl _ _ _) rfl ?_
   exact⟨rfl,Px.out,Pv.out,HW.out.drewN _⟩
end
section
open Go.RowKit Go.Shelf
attribute [local go_sem] Oper.semAt_some
def kH (n₀:Nat) (w:World) (ao:Option Addr) (l:List Int):Prop:=∀(j:Nat) (x:Int),l[j]? =some x→∃b o:Nat,ao=some ⟨b,o,none⟩∧b<n₀∧w.cell? ⟨b,o+j,none⟩=some (.int .i64 x)
theorem cK.under {w W:World} {ao:Option Addr} {l:List Int} (h:cK w ao l) (hb:Below w.heap.size w W):kH w.heap.size W ao l:=fun j x hj=>by
 obtain⟨b,o,e,hc⟩:=h j x hj
 exact⟨b,o,e,block_lt_of_cell hc,(hb.cell (p:=⟨b,o+j,none⟩) (block_lt_of_cell hc)).trans hc⟩
theorem kH.below {n₀:Nat} {w W:World} {ao:Option Addr} {l:List Int} (h:kH n₀ w ao l) (hb:Below n₀ w W):kH n₀ W ao l:=fun j x hj=>by
 obtain⟨b,o,e,hl,hc⟩:=h j x hj
 exact⟨b,o,e,hl,(hb.cell (p:=⟨b,o+j,none⟩) hl).trans hc⟩
end
section
open Go.RowKit Go.Shelf
attribute [local go_sem] Oper.semAt_some
theorem wF {α:Type} {zs:List α} {k:Nat} {z:α} (h:zs[k]? =some z):zs.take k++[z] <+: zs:=by
 have:zs.take (k+1)=zs.take k++[z]:=by
  rw[abL,h]
  rfl
 rw[←this]
 exact ac8 _ _
abbrev YN (x:Int):Array Value:= #[.int .i64 x]
set_option maxRecDepth 100000 in
set_option maxHeartbeats 2000000 in
theorem UW (Bs n₀ cap:Nat) (S:Nat→Prop) (ao:Option Addr) (zs:List Int) (hz:zs.length≤8388608) (w:World) (hn₀:n₀≤w.heap.size) (hS:¬S Bs) (hB:Boxed w Bs 27 (.slice ao zs.length cap)) (hc:kH n₀ w ao zs):
 uu Tryz.prog 116 #[.pointer (some ⟨Bs,0,none⟩)] YN n₀ S zs w 0:=by
 intro l J Jx W hW _ _ _ hY h0
 have SN:Boxed W Bs 27 (.slice ao zs.length cap):=(hW.block Bs hB.lt).trans hB
 have hcW:=hc.below (hW.mono hn₀)
 have hb0:=SN.cell
 have HN:Hid (n₀≤W.heap.size):=abb hn₀ hW.size
 clear hc hB hW
 refine(callsIn_wide (n:=5)).1 ?_
 refine callsIn_of_wp Tryz.func116 rfl trivial ?_ rfl
 simp only[Tryz.ntmps116,abR,aar,aaS,Nat.reduceAdd,Nat.reduceSub,abA,abB,abS,abK,aaE,abi]
 gi_wp2
 gi_loopw [6] (fun i wr=>∃k:Nat,k≤zs.length∧i= .int .i64 k∧J (zs.take k) wr∧bE n₀ S W wr∧W.heap.size≤wr.heap.size) (fun i _=>zs.length-(intOf i).toNat)
 case atStart=>exact⟨0,aax _,rfl,by simpa using h0,bE.refl _ _ _,aad _⟩
 case round=>
  obtain⟨k,hk,rfl,hJs,fM,hsz⟩:=hrel
  by_cases hlt:k<zs.length
  ·obtain⟨z,hz0⟩:∃z,zs[k]? =some z:=⟨_,aac hlt⟩
   obtain⟨b,o,rfl,C8,hcz⟩:=hcW k z hz0
   have hb1:wr.cell? ⟨Bs,0,none⟩=some (.slice (some ⟨b,o,none⟩) zs.length cap):=fM.cell hb0 hS
   have hc1:wr.cell? ⟨b,o+k,none⟩=some (.int .i64 z):=(fM.1.cell (p:=⟨b,o+k,none⟩) C8).trans hcz
   obtain⟨fn,tmps,assign,body,hy,hR⟩:=hY (zs.take k) z wr (wF hz0) hJs (by omega) 4
   have l9:zs.take (k+1)=zs.take k++[z]:=by
    rw[abL,hz0]
    rfl
   have hk0:(0:Int)≤(k:Int):=by omega
   have hk1:(k:Int)<(zs.length:Int):=by omega
   have mo:=Nu.hid l9
   have HJ:=Nu.hid hJs
   have kK:=Nu.hid fM
   have vS:=Nu.hid hsz
   clear l9 hJs fM hY hcz hz0 hsz
   gi_wp2
   refine hR.mono ?_
   rintro e W3 ⟨mO,(⟨rfl,hJ3,hk3⟩|⟨rfl,hJx3⟩)⟩
   ·have Cp:=Nu.hid hJ3
    have uD:=Nu.hid hk3
    have vT:=Nu.hid mO.size
    clear hJ3 hk3 mO
    gi_wp2
    go_roundw
    case rel=>exact⟨k+1,by omega,by go_num,by rw[mo.out];exact Cp.out,kK.out.trans uD.out,abb vS.out vT.out⟩
    case measure=>simp[intOf];omega
   ·have Jz:=Nu.hid hJx3
    clear hJx3
    gi_wp2
    refine bodyPost_ret (results_none rfl _ _ _) rfl ?_
    exact⟨⟨_,rfl⟩,.inr ⟨_,by rw[←mo.out];exact ac8 _ _,Jz.out⟩⟩
  ·have hd:¬((k:Int)<(zs.length:Int)):=by omega
   have HJ:Hid (J zs wr):=by
    show J zs wr
    rw[abk (by omega)] at hJs
    exact hJs
   clear hJs fM hY
   gi_wp2
   go_end0
   exact⟨⟨_,rfl⟩,.inl HJ.out⟩
end
section
open Go.RowKit
section
variable {P:Program} {ops:Array Oper} {md:Region.Mode} {C:World→Prop}
theorem wpIn_of_quiet {l n:Nat} {o:Oper} {a:Act} {K:Act→Prop} {K':Act→World→Prop} {Q':Exit→Act→World→Prop} {w:World} (hnd:∀c,o.op≠.defer c) (hw:C w) (h:∀a w',C w'→K a→K' a w') (hh:o.quiet P a C K):o.wpIn (Fence.wide.inRound l) n P a w K' Q':=by
 obtain⟨v,h1,h2⟩:=hh
 have h3:=h1 w hw
 unfold Oper.quietAt at h3
 unfold Oper.wpIn
 refine⟨fun _ _=>trivial,?_⟩
 rw[Oper.semAt_plain _ _ _ hnd]
 generalize (execOp a.eval o).run P w=r at*
 cases r with
 |ok x w'=>
  cases x<;>simp only[Oper.quietUpon] at h3<;>simp only[Oper.uponIn]
  case value u=>
   obtain⟨e1,e2⟩:=h3
   rw[e1,e2]
   exact h _ _ hw h2
  case skip=>
   obtain⟨e1,e2⟩:=h3
   rw[e1,←e2]
   exact h _ _ hw h2
  case enter f args=>
   obtain⟨e1,hc⟩:=h3
   rw[e1]
   refine⟨(fun hd=>by cases hd),acJ l (callsIn_wide.2 (hc.mono fun e w'' ⟨he,hw''⟩=> ?_))⟩
   subst he
   exact h _ _ hw'' h2
 |halt x w'=>simp only[Oper.quietUpon] at h3
theorem zV {l n i:Nat} {a:Act} {K:Act→Prop} {K':Act→World→Prop} {Q':Exit→Act→World→Prop} {w:World} (hnd:∀(i:Nat) (o:Oper) c,ops[i]? =some o→o.op≠.defer c) (hC:C w) (h:∀a w',C w'→K a→K' a w') (hh:qOp P ops C i K a):wpOpIn (Fence.wide.inRound l) n P ops Q' i K' a w:=by
 unfold qOp at hh
 unfold wpOpIn
 split
 ·rename_i ho;simp only[ho] at hh;exact h _ _ hC hh
 ·rename_i o ho
  simp only[ho] at hh
  split
  ·rename_i hw;simp only[hw,if_true] at hh;exact wpIn_of_quiet (fun c=>hnd i o c ho) hC h hh
  ·rename_i hw;simp only[hw] at hh;exact⟨fun _ _=>trivial,h _ _ hC hh⟩
theorem wpAnyIn_of_quiet {l n:Nat} {Q:Act→Prop} {Q':Exit→Act→World→Prop} (hnd:∀(i:Nat) (o:Oper) c,ops[i]? =some o→o.op≠.defer c) (hQ:∀a w,C w→Q a→Q' .normal a w):∀(fuel:Nat) (listed:Array Bool) (a:Act) (w:World),C w→
 wpAnyQ P md ops C Q fuel listed a→wpAnyIn (Fence.wide.inRound l) n P md ops Q' fuel listed a w
 |0,_,_,_,hw,h=>⟨h.1,hQ _ _ hw h.2⟩
 |fuel+1,_,_,_,hw,h=>⟨fun h0=>hQ _ _ hw (h.1 h0),fun i hi=>zV hnd hw (fun a' w' hw'=>wpAnyIn_of_quiet hnd hQ fuel _ a' w' hw') (h.2 i hi)⟩
def qL (o:Oper):Bool:=match o.op with| .defer _=>false|_=>true
end
theorem fZ {P:Program} {id l n:Nat} {Q:Exit→Act→World→Prop} {a:Act} {w:World} {os:List Oper} (hm:P.follows .mixedOrders=true) (hB:Region.lexB .any os.toArray=true) (hd:os.all qL=true)
 (h:wpQuiet P os.toArray (fun w'=>∃D:LW w,w'=D.val) (fun a'=>∀w',(∃D:LW w,w'=D.val)→Q .normal a' w') os a):(Code.region id os.toArray true).wpIn (Fence.wide.inRound l) n P Q a w:=by
 have hnd:∀(i:Nat) (o:Oper) c,os.toArray[i]? =some o→o.op≠.defer c:=fun i o c ho e=>by
  have:=aaJ.1 hd o (aaG (by simpa using ho))
  unfold qL at this
  rw[e] at this
  cases this
 simp only[Region.lexB,aaP] at hB
 refine wpIn_region_any hm (wpAnyIn_of_quiet (C:=fun w'=>∃D:LW w,w'=D.val) (Q:=fun a'=>∀w',(∃D:LW w,w'=D.val)→Q .normal a' w') hnd (fun _ w' hw' h=>h w' hw') _ _ _ _ ⟨⟨w.drew,(aae _ _).drew⟩,rfl⟩ ?_)
 have:=wpAnyQ_lex (P:=P) (C:=fun w'=>∃D:LW w,w'=D.val) (md:= .any) hB.1 os.toArray.toList 0 (Array.replicate os.toArray.size false) a (by simp) (by simpa using hB.2) (by simpa using h)
 simpa using this
end
section
open Go.RowKit Go.Shelf
theorem wS {n:Nat} {es:List (Int×Int)} {v:Nat} (hv:v<n) {x:Int}:x∈Cs.gM n es v↔∃i:Nat,x=(i:Int)∧i<2*es.length∧Cs.fr es i=v:=by
 unfold Cs.gM
 rw[Cs.oA hv,aa2]
 constructor
 ·rintro⟨i,hi,rfl⟩
  obtain⟨j,hj⟩:=ab8 hi
  obtain⟨h1,h2,_⟩:=Cs.nD hj
  exact⟨i,rfl,h1,h2⟩
 ·rintro⟨i,rfl,h1,h2⟩
  exact⟨i,aaG (Cs.Mr h1 h2),rfl⟩
theorem yG {α:Type} (q:α→Bool) {pre zs:List α} (h:pre <+: zs):pre.filter q <+: zs.filter q:=h.filter q
theorem pY {α:Type} (q:α→Bool) (pre:List α) (x:α):(pre++[x]).filter q=if q x=true then pre.filter q++[x] else pre.filter q:=by
 rw[acL]
 by_cases h:q x=true
 ·rw[if_pos h,acD h];rfl
 ·rw[if_neg h,ac4 h];simp
theorem yg {β:Type} {B B':Nat} {J:β→World→Prop} (h:OwnFrom B J) (hB:B≤B'):OwnFrom B' J:=fun s X Y row hs hg hr=>h s X Y row hs hg (fun r e=>⟨abb hB (hr r e).1,(hr r e).2⟩)
theorem Kg {β:Type} {B:Nat} {J:β→World→Prop} (h:OwnFrom B J) {t:β} {X Y:World} (hs:J t X) (hb:Below X.heap.size X Y):J t Y:=
 h t X Y none hs ⟨hb.os,hb.tape,hb.output,hb.size,fun k hk _=>hb.block k hk⟩ (fun r e=>by cases e)
namespace Lo
end Lo
theorem D6 {B:Nat} {A X:World} (h:Below A.heap.size A X):KeepsFrom B A X:=⟨h.size,fun k _ _ h0 _=>(h.block k (aam.1 h0).1).trans h0⟩
def Jm (n:Nat) (es:List (Int×Int)) (x:Int) (w0 w:World) (e:Ending) (w':World):Prop:=
 ∃Bs ao cap,e= .returned (.func (.func 116) #[] #[.pointer (some ⟨Bs,0,none⟩)])∧Bs=w.heap.size∧Boxed w' Bs 27 (.slice ao (Cs.gM n es x).length cap)∧cK w0 ao (Cs.gM n es x)∧Below w.heap.size w w'
set_option maxRecDepth 100000 in
set_option maxHeartbeats 2000000 in
theorem Jc (v:Value) (n:Nat) (es:List (Int×Int)) (x:Int) (w0 w:World) (h:cE w0 v n es) (hb:Below w0.heap.size w0 w):Calls Tryz.prog 90 #[v,.int .i64 x] w (Jm n es x w0 w):=by
 have HL:=Nu.hid (uW v n es x w0 w h hb)
 clear h hb
 go_enter Tryz.func90,Tryz.ntmps90
 go_wp2_with (go_at_call 115;refine HL.out.mono ?_;rintro e w1 ⟨ao,cap,rfl,hi,k,hw⟩;have HI:=Nu.hid hi;have HW:=Nu.hid hw;clear hi hw)
 go_ret
 have hw:=HW.out
 have hi:=HI.out
 subst hw
 exact⟨w.heap.size,ao,cap,rfl,rfl,acF (w.drewN k) _ _,hi,(below_drewN (aae _ _) k).alloc (aad _) _⟩
end
section
open Go.RowKit Go.Shelf
attribute [local go_sem] Oper.semAt_some
namespace Lo
def wb (s:Df.St) (h:Int):Bool:=decide (Df.at_ s.aJ (h.toNat/2)=h)
def FD (n:Nat) (es:List (Int×Int)) (s:Df.St) (v:Nat):List Int:=(Cs.gM n es v).filter (wb s)
end Lo
set_option maxRecDepth 100000 in
set_option maxHeartbeats 4000000 in
theorem I1 {p:Nat} {av:Value} {n:Nat} {es:List (Int×Int)} {f:For} {s:Df.St} (v Bw Bv:Nat) (S:Nat→Prop) (w0 w:World) (hd:Wd w0 p av n es f s) (hb:Below w0.heap.size w0 w) (hv:v<n)
 (bw:Boxed w Bw 123 (.pointer (some ⟨p,0,none⟩))) (bv:Boxed w Bv 3 (.int .i64 (v:Int))) (hSw:¬S Bw) (hS:∀b,S b→b<w.heap.size∨w.heap.size+4≤b):
 uu Tryz.prog 129 #[.pointer (some ⟨Bw,0,none⟩),.pointer (some ⟨Bv,0,none⟩)] YN w0.heap.size S (Lo.FD n es s v) w 2:=by
 intro l J Jx W hW hW2 hJ hJx hY h0
 have sN:∀X,Below w0.heap.size w0 X→Wd X p av n es f s:=fun X hX=>hd.later hX
 have hzl:(Cs.gM n es v).length≤8388608:=by
  rw[Cs.DW]
  have:=Cs.E5 (n:=n) (es:=es) (v:=(v:Int))
  have:=hd.val.few
  omega
 have dS:Below w0.heap.size w0 W:=hb.trans (hW.mono hb.size)
 have Yr:Boxed W Bw 123 (.pointer (some ⟨p,0,none⟩)):=(hW.block Bw bw.lt).trans bw
 have Ys:Boxed W Bv 3 (.int .i64 (v:Int)):=(hW.block Bv bv.lt).trans bv
 have VK:∀b,S b→b<W.heap.size∨W.heap.size+2≤b:=fun b hs=>by
  have h1:=hS b hs
  have h2:=hW.size
  omega
 have adZ:w0.heap.size≤W.heap.size:=dS.size
 obtain⟨Y,Sr⟩:∃Y,Y=W.alloc (.cells #[.func (.yield l) #[] #[]] 92):=⟨_,rfl⟩
 have VB:Below W.heap.size W Y:=by rw[Sr];exact(aae _ _).alloc (aad _) _
 have byY:Boxed Y W.heap.size 92 (.func (.yield l) #[] #[]):=by rw[Sr];exact acF _ _ _
 have alv:Y.heap.size=W.heap.size+1:=by rw[Sr];simp
 have V0:Boxed Y Bw 123 (.pointer (some ⟨p,0,none⟩)):=(VB.block Bw Yr.lt).trans Yr
 have bvY:Boxed Y Bv 3 (.int .i64 (v:Int)):=(VB.block Bv Ys.lt).trans Ys
 have C9:Below w0.heap.size w0 Y:=dS.trans (VB.mono adZ)
 have WS:Hid (∀X,Below Y.heap.size Y X→Calls Tryz.prog 90 #[av,.int .i64 (v:Int)] X (Jm n es (v:Int) w0 X)):=fun X hX=>Jc av n es (v:Int) w0 X hd.Dp (C9.trans (hX.mono C9.size))
 have HS:Hid (∀X,Below Y.heap.size Y X→(X.cell? ⟨Bw,0,none⟩=some (.pointer (some ⟨p,0,none⟩))∧X.cell? ⟨Bv,0,none⟩=some (.int .i64 (v:Int))∧X.cell? ⟨p,0,none⟩=some av∧Below Y.heap.size Y X)):=fun X hX=>
  ⟨acG ((hX.block Bw V0.lt).trans V0),acG ((hX.block Bv bvY.lt).trans bvY),(sN X (C9.trans (hX.mono C9.size))).c0,hX⟩
 have hbd:Below Y.heap.size Y Y.drew:=(aae _ _).drew
 have HYE:=Nu.hid Sr
 have aaY:=hd.Dp
 have hval:=hd.val
 have gP:=hd.vf
 refine(callsIn_wide (n:=9)).1 ?_
 refine callsIn_of_wp_marks Tryz.func129 rfl trivial ?_ rfl
 simp only[Tryz.ntmps129,abR,aar,aaS,Nat.reduceAdd,Nat.reduceSub,abA,abB,abS,abK,aaE,abi]
 refine wpIn_wide.2 ?_
 clear Sr
 go_wp2_with fail
 rw[←HYE.out]
 go_region_held3 (fun X=>X.cell? ⟨Bw,0,none⟩=some (.pointer (some ⟨p,0,none⟩))∧X.cell? ⟨Bv,0,none⟩=some (.int .i64 (v:Int))∧X.cell? ⟨p,0,none⟩=some av∧Below Y.heap.size Y X)
  (exact HS.out _ (by first|assumption|exact hbd))
  ((go_at_call 90;refine(WS.out _ (by first|assumption|exact hbd)).mono ?_;rintro e w1 ⟨Bs,ao,cap,rfl,tT,MT,hints,hb1⟩;have HBS:Hid (Bs=Y.heap.size):=tT;clear tT;have hb2:Below Y.heap.size Y w1:=acr (by first|assumption|exact hbd) (hb1.mono (acp (by first|assumption|exact hbd)))))
 all_goals
  clear WS HS hbd HYE aaY hW bw bv hS hb
  go_wp2
  refine(wpIn_wide (n:=9)).1 ?_
  have tT:=HBS.out
  have alu:Y.heap.size≤w1.heap.size:=hb2.size
  have BD:Below w0.heap.size w0 w1:=C9.trans (hb2.mono C9.size)
  have hW1:Below W.heap.size W w1:=VB.trans (hb2.mono (by omega))
  have by1:Boxed w1 W.heap.size 92 (.func (.yield l) #[] #[]):=(hb2.block _ byY.lt).trans byY
  have V3:Boxed w1 Bw 123 (.pointer (some ⟨p,0,none⟩)):=(hb2.block _ V0.lt).trans V0
  have hSs:¬S Bs:=fun hs=>by
   have h1:=VK Bs hs
   have h2:=tT
   omega
  have hSy:¬S W.heap.size:=fun hs=>by
   have:=VK _ hs
   omega
  have QD:kH w0.heap.size w1 ao (Cs.gM n es v):=hints.under BD
  have hJ1:OwnFrom w1.heap.size J:=yg hJ (by omega)
  have SK:OwnFrom w1.heap.size Jx:=yg hJx (by omega)
  clear tT
  refine sr (n:=9) (gf:=116) (lb:= #[.pointer (some ⟨Bs,0,none⟩)]) (by rfl) (enters_of Tryz.func116 (by kernel_rfl) rfl)
   (UW Bs w0.heap.size cap S ao (Cs.gM n es v) hzl w1 (by omega) hSs MT QD) (by omega) (fun _=>rfl)
   (fun pre A=>J (pre.filter (Lo.wb s)) A∧bE w0.heap.size S w1 A) (fun c pre A=>c= .ret∧Jx (pre.filter (Lo.wb s)) A)
   (ab0 (fun pre X Z row hs hg hr=>hJ1 (pre.filter (Lo.wb s)) X Z row hs hg hr) (bE.own (by omega) (by omega)))
   (fun c pre X Z row hs hg hr=>⟨hs.1,SK (pre.filter (Lo.wb s)) X Z row hs.2 hg hr⟩)
   ⟨Kg hJ h0 hW1,bE.refl _ _ _⟩
   (fun x a' _=>a'={ tmps:= #[.func (.yield l) #[] #[],.pointer (some ⟨Bw,0,none⟩),.pointer (some ⟨Bv,0,none⟩),.pointer (some ⟨W.heap.size,0,none⟩),.int .i64 x,.pointer (some ⟨p,0,none⟩),.pointer (some ⟨p,0,none⟩),.pointer (some ⟨p,0,none⟩),av,.int .i64 (v:Int),
     .func (.func 116) #[] #[.pointer (some ⟨Bs,0,none⟩)],.int .i64 x,undef,undef,undef,undef,undef,undef,undef,undef,undef,undef,undef,undef,undef,undef,undef,undef,undef],defers:=[] })
   (fun x a'=>ownFrom_pure _ _) ?assign ?body ?done ?stop
  case assign=>
   intro l2 pre x A K _ hi hK
   gi_wp2
   exact hK _ _ (ab6 _ _) (bE.refl _ _ _) hi rfl
  case body=>
   rintro l2 pre x a' A ⟨hl2,-⟩ _ hpx ⟨VO,hkp⟩ rfl
   obtain⟨i,rfl,hi,hfr⟩:=(wS hv).1 (hpx.subset (aaz pre (aao.2 rfl)))
   have hA:=sN A (BD.trans hkp.1)
   obtain⟨b4,o4,e4,d4⟩:=hA.aJ (v:=i/2) (by omega)
   have c4:=hA.c4
   rw[e4] at c4
   have d4i:=d4 A (aae _ _) (i/2) (by omega)
   have cw:=hkp.cell V3.cell hSw
   have cy:=hkp.cell by1.cell hSy
   have hsz:w1.heap.size≤A.heap.size:=hkp.1.size
   have i0:(0:Int)≤(i:Int):=by omega
   obtain⟨jh,mP⟩:∃jh,i/2=jh:=⟨_,rfl⟩
   have xd:(i:Int).tdiv 2=(jh:Int):=by rw[aaZ i0];omega
   have A7:(i:Int)/2=(jh:Int):=by omega
   have j0:(0:Int)≤(jh:Int):=by omega
   have j1:(jh:Int)<(es.length:Int):=by omega
   have cj:=hval.few
   have H9:Lo.wb s (i:Int)=decide (Df.at_ s.aJ (i/2)=(i:Int)):=rfl
   obtain⟨z,hz⟩:∃z,Df.at_ s.aJ (i/2)=z:=⟨_,rfl⟩
   rw[hz] at d4i H9
   rw[mP] at d4i
   have HWB:=Nu.hid H9
   have ot:=Nu.hid hkp
   by_cases hzi:z=(i:Int)
   ·subst hzi
    have hw1:Lo.wb s (i:Int)=true:=H9.trans (decide_eq_true rfl)
    have hpf:(pre.filter (Lo.wb s))++[(i:Int)] <+: Lo.FD n es s v:=by
     have:=yG (Lo.wb s) hpx
     rw[pY,if_pos hw1] at this
     exact this
    have HF:Hid ((pre++[(i:Int)]).filter (Lo.wb s)=pre.filter (Lo.wb s)++[(i:Int)]):=by
     show _=_
     rw[pY,if_pos hw1]
    obtain⟨fn,tmps,assign,body,hy,hR⟩:=hY (pre.filter (Lo.wb s)) (i:Int) A hpf VO (by have:=MT.lt;have h2:=HBS.out;omega) 6
    have vS:Hid (W.heap.size≤w1.heap.size):=by show _≤_;omega
    clear H9 hkp hY hpx VO hpf hw1 hz d4 hA sN hJ1 SK QD hSs hSy VK hfr
    gi_wp2
    refine hR.mono ?_
    rintro e W3 ⟨mO,(⟨rfl,hJ3,hk3⟩|⟨rfl,hJx3⟩)⟩
    ·have HKF:=Nu.hid mO
     have Cp:=Nu.hid hJ3
     have uD:=Nu.hid hk3
     clear mO hJ3 hk3
     gi_wp2
     exact⟨uX HKF.out vS.out,uD.out,by rw[HF.out];exact Cp.out,ot.out.trans uD.out⟩
    ·have HKF:=Nu.hid mO
     have Cp:=Nu.hid hJx3
     clear mO hJx3
     gi_wp2
     exact⟨uX HKF.out vS.out,rfl,by rw[HF.out];exact Cp.out⟩
   ·have hw0:Lo.wb s (i:Int)=false:=H9.trans (decide_eq_false hzi)
    have HF:Hid ((pre++[(i:Int)]).filter (Lo.wb s)=pre.filter (Lo.wb s)):=by
     show _=_
     rw[pY,if_neg (by rw[hw0];decide)]
    have HJ:=Nu.hid VO
    clear H9 hkp hY hpx VO hw0 hz d4 hA sN hJ1 SK QD hSs hSy VK hfr
    gi_wp2
    refine⟨fun _ h=>(by cases h),?_⟩
    gi_wp2
    exact⟨ab6 _ _,bE.refl _ _ _,by rw[HF.out];exact HJ.out,ot.out⟩
  case done=>
   rintro D A hD ⟨hJz,Oo⟩ hK
   gi_wp2
   refine⟨by simp,.inl ⟨_,_,rfl,run_takeDeferred hK,?_⟩⟩
   exact⟨_,results_none rfl _ _ _,⟨_,rfl⟩,.inl (hJ.putObj _ hJz (by omega) hK rfl)⟩
  case stop=>
   rintro D c pre A hD hpre ⟨rfl,hJz⟩ hK
   gi_wp2
   refine⟨by simp,.inl ⟨_,_,rfl,run_takeDeferred hK,?_⟩⟩
   exact⟨_,results_none rfl _ _ _,⟨_,rfl⟩,.inr ⟨_,yG _ hpre,hJx.putObj _ hJz (by omega) hK rfl⟩⟩
end
section
open Go.RowKit
namespace aj
theorem cF.wpIn {P:Program} {l n:Nat} {o:Oper} {a:Act} {w:World} {R:Value→World→Prop} {K:Act→World→Prop} {Q:Exit→Act→World→Prop} (hnd:∀c,o.op≠.defer c) (h:cF P o a.eval w R) (hK:∀v w',R v w'→K (a.put o.dst v) w'):o.wpIn (Fence.wide.inRound l) n P a w K Q:=by
 unfold cF at h
 unfold Oper.wpIn
 refine⟨fun _ _=>trivial,?_⟩
 rw[Oper.semAt_plain _ _ _ hnd]
 generalize (execOp a.eval o).run P w=r at h ⊢
 cases r with
 |ok x w'=>
  cases x<;>simp only[Oper.uponIn] at h ⊢
  case value v=>exact hK v w' h
  case skip=>exact hK _ w' h
  case enter f args=>
   refine⟨(fun hd=>by cases hd),acJ l (callsIn_wide.2 (Calls.mono h fun e w'' he=> ?_))⟩
   obtain⟨v,rfl,hv⟩:=he
   exact hK v w'' hv
 |halt x w'=>cases h
theorem B6 {P:Program} {l n:Nat} {ops:Array Oper} {Q:Exit→Act→World→Prop} {a0:Act} {w0:World} (val:Nat→Value) (C:(Nat→Bool)→World→Prop) (N:Nat) (hN:a0.tmps.size=N) (hsh:shape ops ops.size (fun _=>[])=true) (BC:ops.all qL=true)
 (tV:C (fun _=>false) w0)
 (hstep:∀i o (L:Nat→Bool) w (ev:Operand→Value),ops[i]? =some o→L i=false→C L w→(∀e∈o.after,Region.binds .any e=true→L e.on=true)→(∀j o',ops[j]? =some o'→L j=true→∀e∈o'.after,Region.binds .any e=true→L e.on=true)→
   (∀j t,j<i→dst ops j=some t→t<N→ev (.tmp t)=val j)→(∀t,((List.range i).all fun j=>dst ops j != some t)=true→ev (.tmp t)=a0.eval (.tmp t))→(∀v,ev (.const v)=v)→(∀f,ev (.func f)= .func (.func f) #[] #[])→
   cF P o ev w fun v w'=>v=val i∧C (bR L i) w')
 (hend:∀L w,(∀i,i<ops.size→L i=true)→C L w→Q .normal (canon ops a0 val ops.size) w):
 wpAnyIn (Fence.wide.inRound l) n P .any ops Q ops.size (Array.replicate ops.size false) a0 w0:=by
 have hs:=fun i (hi:i<ops.size)=>aaJ.1 hsh i (aaO.2 hi)
 have hlt:∀{j t},dst ops j=some t→j<ops.size:=fun {j t} h=>by
  rcases ab1 j ops.size with h1|h1
  ·exact h1
  ·unfold dst at h;rw[acM h1] at h;cases h
 have hone:∀i j t,i≠j→dst ops j=some t→dst ops i≠some t:=fun i j t hij hj hi=>by
  have h1:=hs j (hlt hj)
  dsimp only at h1
  cases ho:ops[j]? with
  |none=>rw[ho] at h1;cases h1
  |some o=>
   have hd:o.dst=some t:=by unfold dst at hj;rw[ho] at hj;exact hj
   rw[ho] at h1
   simp only[aaP] at h1
   have h2:=h1.1
   rw[hd] at h2
   have h3:=aaJ.1 h2 i (aaO.2 (hlt hi))
   simp only[ab7,beq_iff_eq,bne_iff_ne] at h3
   rcases h3 with h3|h3
   ·exact hij h3
   ·exact h3 hi
 have hop:∀i,i<ops.size→∃o,ops[i]? =some o∧o.guard=none∧(∀cs b,o.op≠.select cs b)∧
  (∀t,Operand.tmp t∈o.op.operands→∀j,j<ops.size→dst ops j=some t→j<i∧∃e∈o.after,Region.binds .any e=true∧e.on=j)∧(∀e∈o.after,Region.binds .any e=true→e.on<i):=fun i hi=>by
  have h1:=hs i hi
  dsimp only at h1
  cases ho:ops[i]? with
  |none=>rw[ho] at h1;cases h1
  |some o=>
   rw[ho] at h1
   simp only[aaP,if_pos hi] at h1
   obtain⟨_,⟨⟨⟨g1,g2⟩,g4⟩,_⟩,g6⟩:=h1
   refine⟨o,rfl,by simpa using g1,(fun cs b hsel=>by rw[hsel] at g2;cases g2),fun t ht j hj hd=> ?_,fun e he hb=> ?_⟩
   ·have h2:=aaJ.1 g4 (.tmp t) (by simpa using ht)
    dsimp only at h2
    have h3:=aaJ.1 h2 j (aaO.2 hj)
    simp only[ab7,bne_iff_ne,aaP,decide_eq_true_eq,abU,beq_iff_eq] at h3
    rcases h3 with h3|⟨h3,e,he,h4⟩
    ·exact absurd hd h3
    ·exact⟨h3,e,by simpa using he,h4⟩
   ·have h2:=abO.1 g6 e he
    rw[hb] at h2
    simpa using h2
 have fin:∀(listed:Array Bool),listed.size=ops.size→Region.ready .any ops listed=[]→∀i,i<ops.size→listed.getD i false=true:=by
  intro listed hl hr i
  induction i using Nat.strongRecOn with
  |_ i ih=>
   intro hi
   by_cases hb:listed.getD i false=true
   ·exact hb
   ·exfalso
    have hi':i<listed.size:=by omega
    have h0:listed.getD i true=false:=by
     simp[hi'] at hb ⊢
     exact hb
    obtain⟨o,ho,_,_,_,dH⟩:=hop i hi
    have hm:i∈Region.ready .any ops listed:=by
     rw[mem_ready]
     refine⟨h0,o,ho,fun e he hbd=> ?_⟩
     have:=dH e he hbd
     exact ih e.on this (by omega)
    rw[hr] at hm
    cases hm
 have key:∀(fuel:Nat) (listed:Array Bool) (w:World),listed.size=ops.size→listed.toList.count false=fuel→C (fun j=>listed.getD j false) w→(∀j o',ops[j]? =some o'→listed.getD j false=true→∀e∈o'.after,Region.binds .any e=true→listed.getD e.on false=true)→
  wpAnyIn (Fence.wide.inRound l) n P .any ops Q fuel listed (part ops a0 val (fun j=>listed.getD j false) ops.size) w:=by
  intro fuel
  induction fuel with
  |zero=>
   intro listed w hl hc hC hdc
   have hall:∀i,i<ops.size→listed.getD i false=true:=fun i hi=>by
    have hm:¬false∈listed.toList:=fun h=>by
     have:=abM.2 h
     omega
    have hi':i<listed.size:=by omega
    by_cases nV:listed[i]=true
    ·simp[hi',nV]
    ·exfalso
     have e:listed[i]=false:=by simpa using nV
     exact hm (by rw[←e];simp)
   refine⟨?_,by rw[oy hall];exact hend _ _ hall hC⟩
   refine adl.2 fun i hi=> ?_
   rw[mem_ready] at hi
   obtain⟨h0,o,ho,_⟩:=hi
   have h1:=hall i (aam.1 ho).1
   have hi':i<listed.size:=by have:=(aam.1 ho).1;omega
   simp[hi'] at h0 h1
   rw[h0] at h1
   cases h1
  |succ fuel ih=>
   intro listed w hl hc hC hdc
   refine⟨fun hr=>by rw[oy (fin listed hl hr)];exact hend _ _ (fin listed hl hr) hC,fun i hi=> ?_⟩
   rw[mem_ready] at hi
   obtain⟨h0,o,ho,bU⟩:=hi
   have hin:=(aam.1 ho).1
   have hi':i<listed.size:=by omega
   obtain⟨o',ho',hgd,hsel,hread,_⟩:=hop i hin
   rw[ho] at ho'
   cases ho'
   have bP:listed.getD i false=false:=by
    simp[hi'] at h0 ⊢
    exact h0
   have hev:execOp (part ops a0 val (fun j=>listed.getD j false) ops.size).eval o=execOp (canon ops a0 val i).eval o:=by
    refine execOp_congr o hsel fun x hx=> ?_
    cases x with
    |tmp t=>
     refine nC (fun i j hij=>hone i j t hij) (by omega) fun j hj hd=> ?_
     obtain⟨h1,e,he,hbd,rfl⟩:=hread t hx j (by omega) hd
     exact⟨h1,bU e he hbd⟩
    |_=>rfl
   have qQ:=hstep i o (fun j=>listed.getD j false) w (canon ops a0 val i).eval ho bP hC bU hdc (fun j t hj hd ht=>by
    rw[dc,kT hd (fun i hi=>hone i j t hi hd) rfl i hj,if_pos (by rw[hN];exact ht)]) (fun t ht=>by
    rw[dc,fO i fun j hj _=>by
     have:=aaJ.1 ht j (aaO.2 hj)
     simpa using this]) (fun v=>rfl) (fun f=>rfl)
   unfold wpOpIn
   rw[ho]
   dsimp only
   have hw:Region.wanted o (yielded ops (part ops a0 val (fun j=>listed.getD j false) ops.size).tmps)=true:=by
    unfold Region.wanted
    rw[hgd]
   rw[if_pos hw]
   have hnd:∀c,o.op≠.defer c:=fun c e=>by
    have:=abO.1 BC o (Array.mem_of_getElem? ho)
    unfold qL at this
    rw[e] at this
    cases this
   have tP:cF P o (part ops a0 val (fun j=>listed.getD j false) ops.size).eval w fun v w'=>v=val i∧C (bR (fun j=>listed.getD j false) i) w':=by
    unfold cF at qQ ⊢
    rw[hev]
    exact qQ
   refine tP.wpIn hnd fun v w' hv=> ?_
   obtain⟨rfl,hC'⟩:=hv
   have BA:o.dst=dst ops i:=by unfold dst;rw[ho];rfl
   have fu:∀j,(listed.setIfInBounds i true).getD j false=if j=i then true else listed.getD j false:=fun j=>by
    by_cases e:j=i
    ·subst e
     rw[if_pos rfl]
     simp[hi']
    ·rw[if_neg e]
     exact getD_set_ne false (fun h=>e h.symm)
   rw[BA,rW hone bP hin,ny (L':=fun j=>(listed.setIfInBounds i true).getD j false) (ρ':=val) (fun j=>(fu j).symm) (fun j _=>by unfold upd;split;rename_i e;rw[e];rfl)]
   refine ih (listed.setIfInBounds i true) w' (by simpa using hl) ?_ ?_ ?_
   ·rw[aco]
    have hi2:i<listed.toList.length:=by simpa using hi'
    have e:listed.toList[i]=false:=by
     simp[hi'] at h0
     simpa using h0
    have hpos:0<listed.toList.count false:=abM.2 (by rw[←e];exact aaX hi2)
    rw[ac2 hi2,e,if_pos (by decide),if_neg (by decide)]
    omega
   ·have e:(fun j=>(listed.setIfInBounds i true).getD j false)=bR (fun j=>listed.getD j false) i:=funext fun j=>by rw[fu];rfl
    rw[e]
    exact hC'
   ·intro j o' hj hjl e he ru
    rw[fu] at hjl ⊢
    by_cases e1:e.on=i
    ·rw[if_pos e1]
    ·rw[if_neg e1]
     by_cases e2:j=i
     ·subst e2
      rw[ho] at hj
      cases hj
      exact bU e he ru
     ·rw[if_neg e2] at hjl
      exact hdc j o' hj hjl e he ru
 have hnone:∀j,(Array.replicate ops.size false).getD j false=false:=fun j=>by by_cases hk:j<ops.size<;>simp[hk]
 have h0:part ops a0 val (fun j=>(Array.replicate ops.size false).getD j false) ops.size=a0:=by
  have:∀k,part ops a0 val (fun j=>(Array.replicate ops.size false).getD j false) k=a0:=by
   intro k
   induction k with
   |zero=>rfl
   |succ k ih=>
    unfold part
    rw[ih,hnone k,if_neg (by decide)]
  exact this _
 have hk:=key ops.size (Array.replicate ops.size false) w0 (by simp) (by simp) (by rw[show(fun j=>(Array.replicate ops.size false).getD j false)=fun _=>false from funext hnone];exact tV) (fun j o' _ h=>by rw[hnone j] at h;cases h)
 rw[h0] at hk
 exact hk
theorem YP {P:Program} {l n:Nat} {ops:Array Oper} {Q:Exit→Act→World→Prop} {a0:Act} {w0:World} (val:Nat→Value) (C:(Nat→Bool)→World→Prop) (N:Nat) (hN:a0.tmps.size=N) (hsh:shape ops ops.size (fun _=>[])=true) (BC:ops.all qL=true)
 (tV:C (fun _=>false) w0)
 (hstep:∀i o (L:Nat→Bool) w (ev:Operand→Value),ops[i]? =some o→L i=false→C L w→(∀e∈o.after,Region.binds .any e=true→L e.on=true)→(∀j o',ops[j]? =some o'→L j=true→∀e∈o'.after,Region.binds .any e=true→L e.on=true)→
   (∀j t,j<i→dst ops j=some t→t<N→ev (.tmp t)=val j)→(∀t,((List.range i).all fun j=>dst ops j != some t)=true→ev (.tmp t)=a0.eval (.tmp t))→(∀v,ev (.const v)=v)→(∀f,ev (.func f)= .func (.func f) #[] #[])→
   cF P o ev w fun v w'=>v=val i∧C (bR L i) w')
 (hend:∀L w a,(∀i,i<ops.size→L i=true)→C L w→Q .normal a w):
 wpAnyIn (Fence.wide.inRound l) n P .any ops Q ops.size (Array.replicate ops.size false) a0 w0:=
 B6 val C N hN hsh BC tV hstep (fun L w h1 h2=>hend L w _ h1 h2)
end aj
end
end Go.Proofs.YtdjmnpmdmjclhabGreat
