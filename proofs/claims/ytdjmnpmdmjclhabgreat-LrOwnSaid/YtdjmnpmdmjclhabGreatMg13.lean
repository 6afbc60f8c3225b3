import Derived.Test.YtdjmnpmdmjclhabGreatMg11
import Derived.Test.YtdjmnpmdmjclhabGreatMg08
import Derived.Laws.AppendOwnNone
import Derived.Test.YtdjmnpmdmjclhabGreatMg12
import Derived.Maps.AppendAt
import Derived.Sort.Grow
import Derived.Deep.AppendLies
import Derived.Test.YtdjmnpmdmjclhabGreatMg06
import Derived.Test.YtdjmnpmdmjclhabGreatMg00
import Derived.RangeFuncNested
import Derived.RangeFuncBound
import Derived.RangeFuncCalls
import Derived.RangeFuncLeaves
import Derived.RangeFuncBox
import Derived.Shelf.Abstract
import Derived.Shelf.RegionOpen
import Derived.OwnWalkIn
import Derived.TacticsInMore
import Derived.LoopNIn
import Derived.LoopIn
namespace Go.Proofs.YtdjmnpmdmjclhabGreat
section
namespace Lt
open Pl
section
variable {n m:Nat} {T:DF n m} {U tp:List Int} {Told abD:Nat→Prop} {sd:Nat→Bool} {s:Bool} {P P':Nat→Nat→Prop}
structure Sk (T:DF n m) (U:List Int) (Told:Nat→Prop):Prop where
 len:U.length=n
 up:∀x,x<n→∃y:Nat,y<n∧g U x=(y:Int)∧T.bQ y x∧(y=x→¬Told x)∧∀z,z<n→T.bQ z x→T.az y<T.az z→Told z
theorem Sk.start (hl:U.length=n) (h:∀x,x<n→g U x=(x:Int)):Sk T U (fun _=>False):=
 ⟨hl,fun x hx=>⟨x,hx,h x hx,T.refl x hx,fun _ q=>q,fun z hz ha hlt=>by have:=T.le hz hx ha;omega⟩⟩
theorem Sk.short (h:Sk T U Told) {x y z:Nat} (hx:x<n) (hy:g U x=(y:Int)) (hne:y≠x) (hz:g U y=(z:Int)):Sk T (U.set x (z:Int)) Told:=by
 obtain⟨y',y1,y2,y3,y4,y5⟩:=h.up x hx
 obtain rfl:y'=y:=by omega
 obtain⟨z',z1,z2,z3,z4,z5⟩:=h.up y' y1
 obtain rfl:z'=z:=by omega
 refine⟨by rw[aaT];exact h.len,fun a ha=> ?_⟩
 by_cases q:a=x
 ·subst q
  refine⟨z',z1,dW (by rw[h.len];exact hx),T.trans z3 y3,fun e=> ?_,fun b hb hba hlt=> ?_⟩
  ·have:=T.up y1 hx y3 hne
   have:=T.le z1 y1 z3
   rw[e] at this
   omega
  ·by_cases k:T.az y'<T.az b
   ·exact y5 b hb hba k
   ·exact z5 b hb (T.cmp hb y1 hx hba y3 (by omega)) hlt
 ·rw[aU q]
  exact h.up a ha
theorem Sk.tell (h:Sk T U Told) {e:Nat} (he:e<m) (te:T.tree e=true):Sk T (U.set (T.go e) (T.fr e:Int)) (fun z=>Told z∨z=T.go e):=by
 obtain⟨l1,l2⟩:=T.lt e he
 obtain⟨t1,t2⟩:=T.dN e he te
 refine⟨by rw[aaT];exact h.len,fun a ha=> ?_⟩
 by_cases q:a=T.go e
 ·rw[q]
  refine⟨T.fr e,l1,dW (by rw[h.len];exact l2),t2,fun k=>absurd k (T.ne he),fun z hz KD hlt=> .inr ?_⟩
  have:=T.le hz l2 KD
  exact T.same hz l2 l2 KD (T.refl _ l2) (by omega)
 ·rw[aU q]
  obtain⟨y,y1,y2,y3,y4,y5⟩:=h.up a ha
  exact⟨y,y1,y2,y3,fun k=>fun w=>w.elim (y4 k) q,fun z hz KD hlt=> .inl (y5 z hz KD hlt)⟩
structure fJ (T:DF n m) (sd:Nat→Bool) (s:Bool) (P:Nat→Nat→Prop) (tp:List Int) (Told:Nat→Prop):Prop where
 len:tp.length=m
 told:∀x,Told x→∃e b,e<m∧T.tree e=true∧T.go e=x∧P e b∧sd b=s∧T.aX e b
 all:∀e b,e<m→T.tree e=true→P e b→sd b=s→T.aX e b→Told (T.go e)
 val:∀e b,e<m→P e b→sd b=s→T.aX e b→∃c,T.aX e c∧sd c=s∧g tp e=T.az (T.go c)∧∀d,T.aX e d→sd d=s→T.az (T.go d)≤g tp e
 none:∀e,e<m→(∀b,P e b→sd b=s→¬T.aX e b)→g tp e= -1
theorem fJ.congr (h:fJ T sd s P tp Told) (hp:∀e b,e<m→T.aX e b→sd b=s→(P e b↔P' e b)):fJ T sd s P' tp Told:=
 ⟨h.len,fun x hx=>by
   obtain⟨e,b,h1,h2,h3,h4,h5,h6⟩:=h.told x hx
   exact⟨e,b,h1,h2,h3,(hp e b h1 h6 h5).1 h4,h5,h6⟩,
   fun e b he te hb hs hr=>h.all e b he te ((hp e b he hr hs).2 hb) hs hr,
   fun e b he hb hs hr=>h.val e b he ((hp e b he hr hs).2 hb) hs hr,
   fun e he hn=>h.none e he fun b hb hs hr=>hn b ((hp e b he hr hs).1 hb) hs hr⟩
theorem fJ.start (hl:tp.length=m) (h:∀e,e<m→g tp e= -1):fJ T sd s (fun _ _=>False) tp (fun _=>False):=
 ⟨hl,fun _ q=>q.elim,fun _ _ _ _ q=>q.elim,fun _ _ _ q=>q.elim,fun e he _=>h e he⟩
def PB (T:DF n m) (Q:Nat→Prop) (b:Nat) (h:Int) (e c:Nat):Prop:=Q c∨(c=b∧(e=b∨h<T.az (T.go e)))
theorem OY {e b:Nat} (te:T.tree e=false) (h:T.aX e b):e=b:=by
 obtain⟨_,_,q|⟨q,_⟩⟩:=h
 ·exact q
 ·rw[te] at q;cases q
theorem kQ {e b:Nat} (h:T.aX e b) (hne:e≠b):T.tree e=true∧T.bQ (T.go e) (T.fr b)∧T.az (T.go b)<T.az (T.fr e):=by
 obtain⟨_,_,q|q⟩:=h
 ·exact absurd q hne
 ·exact q
theorem kP {e b:Nat} (te:T.tree e=true) (tb:T.tree b=false):e≠b:=fun q=>by rw[q,tb] at te;cases te
theorem fJ.begin {Q:Nat→Prop} {b:Nat} (h:fJ T sd s (fun _ c=>Q c) tp Told) (hb:b<m) (tb:T.tree b=false) (hs:sd b=s):fJ T sd s (PB T Q b (T.az (T.fr b))) (tp.set b (T.az (T.go b))) Told:=by
 have hrb:T.aX b b:=⟨hb,tb,.inl rfl⟩
 have up:∀e,e<m→T.aX e b→e≠b→¬T.az (T.fr b)<T.az (T.go e):=fun e he hr hne hlt=>by
  have:=T.le (T.lt e he).2 (T.lt b hb).1 (kQ hr hne).2.1
  omega
 refine⟨by rw[aaT];exact h.len,fun x hx=> ?_,fun e c he te hp hsc hr=> ?_,fun e c he hp hsc hr=> ?_,fun e he hn=> ?_⟩
 ·obtain⟨e,c,h1,h2,h3,h4,h5,h6⟩:=h.told x hx
  exact⟨e,c,h1,h2,h3,.inl h4,h5,h6⟩
 ·rcases hp with q|⟨rfl,q⟩
  ·exact h.all e c he te q hsc hr
  ·rcases q with q|q
   ·exact absurd q (kP te tb)
   ·exact absurd q (up e he hr (kP te tb))
 ·by_cases hne:e=b
  ·subst hne
   rw[dW (by rw[h.len];exact hb)]
   exact⟨e,hrb,hs,rfl,fun d hd _=>by rw[OY tb hd];exact abE _⟩
  ·rw[aU hne]
   rcases hp with q|⟨rfl,q⟩
   ·exact h.val e c he q hsc hr
   ·rcases q with q|q
    ·exact absurd q hne
    ·exact absurd q (up e he hr hne)
 ·by_cases hne:e=b
  ·subst hne
   exact absurd hrb (hn e (.inr ⟨rfl,.inl rfl⟩) hs)
  ·rw[aU hne]
   exact h.none e he fun c hc=>hn c (.inl hc)
theorem fJ.skip {Q:Nat→Prop} {b:Nat} {h1 h2:Int} (h:fJ T sd s (PB T Q b h1) tp Told) (hle:h2≤h1) (hT:∀e,e<m→T.tree e=true→T.aX e b→h2<T.az (T.go e)→T.az (T.go e)≤h1→Told (T.go e)):fJ T sd s (PB T Q b h2) tp Told:=by
 have mono:∀e c,PB T Q b h1 e c→PB T Q b h2 e c:=fun e c q=>by
  rcases q with q|⟨q,q2|q2⟩
  ·exact .inl q
  ·exact .inr ⟨q,.inl q2⟩
  ·exact .inr ⟨q,.inr (by omega)⟩
 refine⟨h.len,fun x hx=> ?_,fun e c he te hp hsc hr=> ?_,fun e c he hp hsc hr=> ?_,fun e he hn=> ?_⟩
 ·obtain⟨e,c,k1,k2,k3,k4,k5,k6⟩:=h.told x hx
  exact⟨e,c,k1,k2,k3,mono _ _ k4,k5,k6⟩
 ·rcases hp with q|⟨rfl,q⟩
  ·exact h.all e c he te (.inl q) hsc hr
  ·by_cases k:T.az (T.go e)≤h1
   ·rcases q with q|q
    ·exact h.all e c he te (.inr ⟨rfl,.inl q⟩) hsc hr
    ·exact hT e he te hr q k
   ·exact h.all e c he te (.inr ⟨rfl,.inr (by omega)⟩) hsc hr
 ·rcases hp with q|⟨rfl,q⟩
  ·exact h.val e c he (.inl q) hsc hr
  ·by_cases hne:e=c
   ·exact h.val e c he (.inr ⟨rfl,.inl hne⟩) hsc hr
   ·rcases q with q|q
    ·exact absurd q hne
    ·by_cases k:T.az (T.go e)≤h1
     ·obtain⟨te,-⟩:=kQ hr hne
      obtain⟨e',d,k1,k2,k3,k4,k5,k6⟩:=h.told _ (hT e he te hr q k)
      obtain rfl:=T.one e' e k1 he k2 te k3
      exact h.val e' d he k4 k5 k6
     ·exact h.val e c he (.inr ⟨rfl,.inr (by omega)⟩) hsc hr
 ·exact h.none e he fun c hc=>hn c (mono e c hc)
theorem fJ.tell {Q:Nat→Prop} {b e:Nat} {h1:Int} (h:fJ T sd s (PB T Q b h1) tp Told) (he:e<m) (te:T.tree e=true) (hr:T.aX e b) (hs:sd b=s) (hh:T.az (T.go e)=h1) (hn:¬Told (T.go e))
 (hi:∀d,T.aX e d→sd d=s→T.az (T.go b)<T.az (T.go d)→Q d):fJ T sd s (PB T Q b (h1-1)) (tp.set e (T.az (T.go b))) (fun z=>Told z∨z=T.go e):=by
 have hb:=hr.1
 have tb:=hr.2.1
 have mono:∀e c,PB T Q b h1 e c→PB T Q b (h1-1) e c:=fun e c q=>by
  rcases q with q|⟨q,q2|q2⟩
  ·exact .inl q
  ·exact .inr ⟨q,.inl q2⟩
  ·exact .inr ⟨q,.inr (by omega)⟩
 have it:∀e',e'<m→e'≠b→T.aX e' b→h1-1<T.az (T.go e')→¬h1<T.az (T.go e')→e'=e:=fun e' he' hne hr' k1 k2=>by
  obtain⟨t1,a1,_⟩:=kQ hr' hne
  obtain⟨_,a2,_⟩:=kQ hr (kP te tb)
  exact T.one e' e he' he t1 te (T.same (T.lt e' he').2 (T.lt e he).2 (T.lt b hb).1 a1 a2 (by omega))
 refine⟨by rw[aaT];exact h.len,fun x hx=> ?_,fun e' c he' qo hp hsc hr'=> ?_,fun e' c he' hp hsc hr'=> ?_,fun e' he' hn'=> ?_⟩
 ·rcases hx with hx|rfl
  ·obtain⟨e',c,k1,k2,k3,k4,k5,k6⟩:=h.told x hx
   exact⟨e',c,k1,k2,k3,mono _ _ k4,k5,k6⟩
  ·exact⟨e,b,he,te,rfl,.inr ⟨rfl,.inr (by omega)⟩,hs,hr⟩
 ·rcases hp with q|⟨rfl,q⟩
  ·exact .inl (h.all e' c he' qo (.inl q) hsc hr')
  ·by_cases k:h1<T.az (T.go e')
   ·exact .inl (h.all e' c he' qo (.inr ⟨rfl,.inr k⟩) hsc hr')
   ·rcases q with q|q
    ·exact absurd q (kP qo tb)
    ·exact .inr (by rw[it e' he' (kP qo tb) hr' q k])
 ·by_cases hne:e'=e
  ·subst hne
   rw[dW (by rw[h.len];exact he)]
   refine⟨b,hr,hs,rfl,fun d hd aM=>Int.not_lt.1 fun hlt=>hn ?_⟩
   exact h.all e' d he te (.inl (hi d hd aM hlt)) aM hd
  ·rw[aU hne]
   rcases hp with q|⟨rfl,q⟩
   ·exact h.val e' c he' (.inl q) hsc hr'
   ·rcases q with q|q
    ·exact h.val e' c he' (.inr ⟨rfl,.inl q⟩) hsc hr'
    ·by_cases k:h1<T.az (T.go e')
     ·exact h.val e' c he' (.inr ⟨rfl,.inr k⟩) hsc hr'
     ·by_cases hb':e'=c
      ·exact h.val e' c he' (.inr ⟨rfl,.inl hb'⟩) hsc hr'
      ·exact absurd (it e' he' hb' hr' q k) hne
 ·by_cases hne:e'=e
  ·subst hne
   exact absurd hr (hn' b (.inr ⟨rfl,.inr (by omega)⟩) hs)
  ·rw[aU hne]
   exact h.none e' he' fun c hc=>hn' c (mono e' c hc)
theorem fJ.done {Q:Nat→Prop} {b:Nat} {h1:Int} (h:fJ T sd s (PB T Q b h1) tp Told) (hle:h1≤T.az (T.go b)+1):fJ T sd s (fun _ c=>Q c∨c=b) tp Told:=
 h.congr fun e c he hr _=>by
  constructor
  ·rintro(q|⟨q,_⟩)
   ·exact .inl q
   ·exact .inr q
  ·rintro(q|q)
   ·exact .inl q
   ·subst q
    refine .inr ⟨rfl,?_⟩
    by_cases hne:e=c
    ·exact .inl hne
    ·obtain⟨t1,_,a2⟩:=kQ hr hne
     have:=(T.dN e he t1).1
     exact .inr (by omega)
theorem fJ.other {Q:Nat→Prop} {b:Nat} (h:fJ T sd s (fun _ c=>Q c) tp Told) (hs:sd b≠s):fJ T sd s (fun _ c=>Q c∨c=b) tp Told:=
 h.congr fun e c _ _ hsc=>⟨.inl,fun q=>q.elim id fun q=>absurd (by rw[←q];exact hsc) hs⟩
theorem fJ.top {Q:Nat→Prop} (h:fJ T sd s (fun _ c=>Q c) tp Told) (hq:∀c,c<m→T.tree c=false→Q c) {e:Nat} (he:e<m):m7 T sd s e (g tp e):=by
 by_cases k:∃b,sd b=s∧T.aX e b
 ·obtain⟨b,k1,k2⟩:=k
  obtain⟨c,c1,c2,c3,c4⟩:=h.val e b he (hq b k2.1 k2.2.1) k1 k2
  exact .inr ⟨c,c1,c2,c3.symm,c4⟩
 ·exact .inl ⟨h.none e he fun b _ hs hr=>k ⟨b,hs,hr⟩,fun b hr hs=>k ⟨b,hs,hr⟩⟩
theorem J8 {e b d:Nat} (he:e<m) (te:T.tree e=true) (hb:T.aX e b) (hd:T.aX e d) (hlt:T.az (T.go b)<T.az (T.go d)):T.bQ (T.go b) (T.go d)∧T.go b≠T.go d:=by
 have key:∀{c:Nat},T.aX e c→T.bQ (T.go c) (T.fr e):=fun {c} hc=>by
  obtain⟨_,a2,a3⟩:=kQ hc (kP te hc.2.1)
  exact T.cmp (T.lt c hc.1).2 (T.lt e he).1 (T.lt c hc.1).1 (T.back c hc.1 hc.2.1).1 (T.trans (T.dN e he te).2 a2) (by omega)
 exact⟨T.cmp (T.lt b hb.1).2 (T.lt d hd.1).2 (T.lt e he).1 (key hb) (key hd) (by omega),fun q=>by rw[q] at hlt;omega⟩
end
end Lt
end
section
open Go.RowKit Lt Pl
def wD (n:Nat):List Int:=(List.range n).map fun z:Nat=>(z:Int)
theorem uJ (n:Nat):(wD n).length=n:=by simp[wD]
theorem UJ {n x:Nat} (h:x<n):g (wD n) x=(x:Int):=by
 unfold g wD
 rw[aay,acf h]
 rfl
theorem PI {n i:Nat} (h:i<n):(wD i++List.replicate (n-i) 0).set i (i:Int)=wD (i+1)++List.replicate (n-(i+1)) 0:=by
 rw[ade _ _ (by rw[uJ];exact aad _),uJ,acP,show n-i=(n-(i+1))+1 by omega,adq,List.set_cons_zero]
 unfold wD
 rw[adI,abl,aaH]
 rfl
set_option maxRecDepth 100000 in
set_option maxHeartbeats 4000000 in
theorem CS (n:Nat) (hn:n≤8388608) (w:World):Calls Tryz.prog 68 #[.int .i64 (n:Int)] w fun e w'=>∃G,e= .returned (.slice (some ⟨G,0,none⟩) n n)∧aq w' G (wD n)∧w.heap.size≤G∧Below w.heap.size w w':=by
 obtain⟨i0,hi,hz0,hz1,hz2⟩:=info_parts Tryz.bO
 go_enter Tryz.func68,Tryz.ntmps68
 go_wp2_with (at_make;refine wpList_make_full _ rfl _ _ 130 rfl w.heap.size 3 i0 (.int .i64 0) 1 Tryz.underlying130 hi hz0 hz1 _ _ _ _ n rfl rfl rfl rfl (by rw[hz2];omega) (by unfold maxLen;omega) (aad _) ?_;refine aaB ?_)
 refine Nu.hid ?_
 intro w2 hrow hg2
 rw[cD] at hrow
 have hik:=dy hrow
 have hb2:Below w.heap.size w w2:=(aae _ _).grown hg2 (aad _) (fun j hj=>by cases hj)
 have fX:Hid (aq w2 w.heap.size (wD 0++List.replicate (n-0) 0)):=hik
 have ct:=Nu.hid hb2
 clear hrow hg2 hik hb2
 go_wp2_with fail
 go_loopw [9] (fun iv wr=>∃i:Nat,iv= .int .i64 (i:Int)∧i≤n∧aq wr w.heap.size (wD i++List.replicate (n-i) 0)∧Below w.heap.size w wr) (fun iv _=>n-(intOf iv).toNat)
 case atStart=>exact⟨0,rfl,aax _,fX.out,ct.out⟩
 case round=>
  obtain⟨i,rfl,hin,Ot,hb⟩:=hrel
  by_cases hlt:i<n
  ·obtain⟨z,hz⟩:∃z,(wD i++List.replicate (n-i) 0)[i]? =some z:=⟨_,aac (by rw[aaA,uJ];simp;omega)⟩
   have y1:wr.cell? ⟨w.heap.size,i,none⟩=some (.int .i64 z):=Ot.cell hz
   have y2:wr.frozen? ⟨w.heap.size,i,none⟩=false:=Ot.free i
   have i0:(0:Int)≤(i:Int):=by omega
   have i1:(i:Int)<(n:Int):=by omega
   have i2:(i:Int)+1≤8388608:=by omega
   have uE:Hid (aq (wr.setCell ⟨w.heap.size,i,none⟩ (.int .i64 (i:Int))) w.heap.size (wD (i+1)++List.replicate (n-(i+1)) 0)):=by
    rw[←PI hlt]
    exact Ot.set i _
   have dm:=Nu.hid (hb.setCell (p:=⟨w.heap.size,i,none⟩) (aad _) (.int .i64 (i:Int)))
   clear Ot hb hz
   go_wp2_with fail
   go_roundw
   case rel=>exact⟨i+1,by simp,by omega,uE.out,dm.out⟩
   case measure=>
    simp[intOf]
    omega
  ·obtain rfl:i=n:=by omega
   have uE:=Nu.hid Ot
   have dm:=Nu.hid hb
   clear Ot hb
   go_wp2_with fail
   go_ret
   refine⟨_,rfl,?_,aad _,dm.out⟩
   have:=uE.out
   rw[acP,List.replicate_zero,abf] at this
   exact this
section
variable {n m:Nat} {T:DF n m} {U:List Int} {Told:Nat→Prop}
def CC (T:DF n m) (Told:Nat→Prop) (G x:Nat) (w:World) (e:Ending) (w':World):Prop:=
 ∃(r:Nat) (U':List Int),e= .returned (.int .i64 (r:Int))∧r<n∧Sk T U' Told∧aq w' G U'∧T.bQ r x∧¬Told r∧(∀z,z<n→T.bQ z x→T.az r<T.az z→Told z)∧aC (fun b=>b=G) w w'
set_option maxRecDepth 100000 in
set_option maxHeartbeats 4000000 in
theorem GG (h:Sk T U Told) {G x:Nat} (hx:x<n) {w:World} (hi:aq w G U):Calls Tryz.prog 69 #[.slice (some ⟨G,0,none⟩) n n,.int .i64 (x:Int)] w (CC T Told G x w):=by
 have HS:=Nu.hid h
 have HI:=Nu.hid hi
 clear h hi
 go_enter Tryz.func69,Tryz.ntmps69
 go_wp2_with fail
 go_loopw [1] (fun vv wr=>∃(v:Nat) (U':List Int),vv= .int .i64 (v:Int)∧v<n∧Sk T U' Told∧aq wr G U'∧T.bQ v x∧(∀z,z<n→T.bQ z x→T.az v<T.az z→Told z)∧aC (fun b=>b=G) w wr) (fun vv _=>(T.az (intOf vv).toNat).toNat)
 case atStart=>exact⟨x,U,rfl,hx,HS.out,HI.out,T.refl x hx,fun z hz ha hlt=>by have:=T.le hz hx ha;omega,aC.refl _ _⟩
 case round=>
  obtain⟨v,U',rfl,hv,hsk,CZ,jL,hall,hwr⟩:=hrel
  obtain⟨y,y1,y2,y3,y4,y5⟩:=hsk.up v hv
  have hU:U'[v]? =some (y:Int):=by
   have hl:v<U'.length:=by rw[hsk.len];exact hv
   unfold g at y2
   rw[aac hl] at y2 ⊢
   exact congrArg some y2
  have z1:wr.cell? ⟨G,v,none⟩=some (.int .i64 (y:Int)):=CZ.cell hU
  have z2:wr.frozen? ⟨G,v,none⟩=false:=CZ.free v
  have v0:(0:Int)≤(v:Int):=by omega
  have v1:(v:Int)<(n:Int):=by omega
  have w0:(0:Int)≤(y:Int):=by omega
  have w1:(y:Int)<(n:Int):=by omega
  by_cases hne:y=v
  ·subst hne
   have HF:Hid (CC T Told G x w (.returned (.int .i64 (y:Int))) wr):=⟨y,U',rfl,hv,hsk,CZ,jL,y4 rfl,hall,hwr⟩
   clear hsk CZ jL hall hwr y2 y3 y4 y5 hU
   go_wp2_with fail
   go_ret
   exact HF.out
  ·obtain⟨u,u1,u2,u3,u4,u5⟩:=hsk.up y y1
   have hUy:U'[y]? =some (u:Int):=by
    have hl:y<U'.length:=by rw[hsk.len];exact y1
    unfold g at u2
    rw[aac hl] at u2 ⊢
    exact congrArg some u2
   have z3:wr.cell? ⟨G,y,none⟩=some (.int .i64 (u:Int)):=CZ.cell hUy
   have hyb:((y:Int)==(v:Int))=false:=by simp only[beq_eq_false_iff_ne,ne_eq];omega
   have XK:=hsk.short hv y2 hne u2
   have hi':aq (wr.setCell ⟨G,v,none⟩ (.int .i64 (u:Int))) G (U'.set v (u:Int)):=CZ.set v _
   have z4:(wr.setCell ⟨G,v,none⟩ (.int .i64 (u:Int))).cell? ⟨G,v,none⟩=some (.int .i64 (u:Int)):=hi'.cell (by rw[aaq,if_pos rfl,if_pos (by rw[hsk.len];exact hv)])
   have hlt:=T.up y1 hv y3 hne
   have hle:=T.le u1 y1 u3
   have h0:=(T.low u u1).1
   have fB:Hid (u<n∧Sk T (U'.set v (u:Int)) Told∧aq (wr.setCell ⟨G,v,none⟩ (.int .i64 (u:Int))) G (U'.set v (u:Int))∧T.bQ u x∧(∀z,z<n→T.bQ z x→T.az u<T.az z→Told z)∧aC (fun b=>b=G) w (wr.setCell ⟨G,v,none⟩ (.int .i64 (u:Int)))):=by
    refine⟨u1,XK,hi',T.trans u3 (T.trans y3 jL),fun z hz ha hlz=> ?_,hwr.setCell rfl _⟩
    by_cases k1:T.az v<T.az z
    ·exact hall z hz ha k1
    ·have hzv:=T.cmp hz hv hx ha jL (by omega)
     by_cases k2:T.az y<T.az z
     ·exact y5 z hz hzv k2
     ·exact u5 z hz (T.cmp hz y1 hv hzv y3 (by omega)) hlz
   have HM:Hid ((T.az u).toNat<(T.az v).toNat):=by show _<_;omega
   clear hsk CZ jL hall hwr y2 y3 y4 y5 hU u2 u3 u4 u5 hUy XK hi' hlt hle h0 hne
   go_wp2_with fail
   go_roundw
   case rel=>exact⟨u,U'.set v (u:Int),rfl,fB.out⟩
   case measure=>
    have:=HM.out
    simpa[intOf] using this
end
end
section
open Go.RowKit Lt
structure mY (c:Wp) (p j:Nat) (pa:Option Addr) (pc:Nat) (ps:List Int) (W:World):Prop where
 wk:bV c p W
 blk:W.heap[j]? =some (.cells #[.pointer (some ⟨p,0,none⟩),.slice pa c.es.length pc] 66 (0,0))
 nk:gI W pa c.es.length pc ps
section
variable {c:Wp} {p j:Nat} {pa:Option Addr} {pc:Nat} {ps:List Int} {W V:World}
theorem mY.later (h:mY c p j pa pc ps W) (hb:Below W.heap.size W V):mY c p j pa pc ps V:=⟨h.wk.later hb,(hb.block j (lt_of_block h.blk)).trans h.blk,h.nk.later hb⟩
theorem mY.cells (h:mY c p j pa pc ps W):W.cell? ⟨j,0,none⟩=some (.pointer (some ⟨p,0,none⟩))∧W.cell? ⟨j,1,none⟩=some (.slice pa c.es.length pc):=⟨(ay h.blk).1,(ay h.blk).2.1⟩
theorem mY.at (h:mY c p j pa pc ps W) {e:Nat} (he:e<c.es.length):∃b o,pa=some ⟨b,o,none⟩∧∀V,Below W.heap.size W V→∀i,i<c.es.length→V.cell? ⟨b,o+i,none⟩=some (.int .i64 (ps[i]?.getD 0)):=by
 obtain⟨b,o,e1,-⟩:=cg h.nk he
 refine⟨b,o,e1,fun V hV i hi=> ?_⟩
 obtain⟨b',o',e2,d'⟩:=cg (h.later hV).nk hi
 rw[e1] at e2
 cases e2
 have hil:i<ps.length:=by rw[h.nk.len];exact hi
 have hg:ps.getD i (-1)=ps[i]?.getD 0:=by simp[hil]
 rw[←hg]
 exact d'
end
theorem J6 {U:World} (B:Nat) (v:Value) (l:List Int) (z:Int) (hR:aP U B v l) (hB:B≤U.heap.size) (g:Nat) (hg:U.heap[g]? =some (.cells #[.int .i64 z] 3 (0,0))) (hl:l.length≤17592186044000):
 ∃v' w',(∀(o:Oper) (ev:Operand→Value) (s x:Operand),o.op= .call { callee:= .builtin .append,args:= #[s,x],argTypes:= #[27,27] }→o.type=27→ev s=v→ev x= .slice (some ⟨g,0,none⟩) 1 1→(execOp ev o).run Tryz.prog U= .ok (.value v') w')∧aP w' B v' (l++[z])∧U.grownBy w' v.ownBlock∧(v'.ownBlock=v.ownBlock∨v'.ownBlock=some U.heap.size):=by
 obtain⟨i1,hi1,hy0,hy1,hy2⟩:=info_parts Tryz.bO
 obtain⟨v',w',hr,h2,h3,_,h5⟩:=run_append_own_at (P:=Tryz.prog) U B 27 27 3 i1 (.int .i64 0) 1 8 Tryz.underlying27 hi1 hy0 hy1 hy2 rfl (by decide) v l.length (l.map (Value.int .i64)) hR ⟨g,0,none⟩ 1 1 [.int .i64 z] rfl (abZ hg) (by simp[Value.oneCell']) (by unfold maxLen;omega) (by omega) hB
 refine⟨v',w',fun o ev s x ho ht hs hx=> ?_,?_,h3,h5⟩
 ·unfold execOp
  simp only[ho,ht,resolve,invoke,builtin,Sem.run_bind,Sem.run_pure,adA,adF,ace,adD,hs,hx,hr]
 ·unfold aP
  rw[aaA,abl]
  exact h2
end
section
open Go.RowKit
theorem nv {ops:Array Oper} {rest:List Oper} {o:Oper} {a:Act} {Q:Exit→Act→World→Prop} (hgd:o.guard=none) (s x:Operand)
 (ho:o.op= .call { callee:= .builtin .append,args:= #[s,x],argTypes:= #[37,37] }) (W:World) (ao:Option Addr) (n ca:Nat) (l:List Int) (hs:a.eval s= .slice (some ⟨W.heap.size,0,none⟩) 0 0) (hx:a.eval x= .slice ao n ca)
 (hr:gI W ao n ca l) (hn:n≤17592186043904)
 (h:∀gb c w',w'.ownsRow W.heap.size 3 1 (.slice (some ⟨gb,0,none⟩) n c) n (l.map (Value.int .i64))→W.heap.size≤gb→gb<w'.heap.size→n≤c→Below W.heap.size W w'→wpList Tryz.prog ops Q rest (a.put o.dst (.slice (some ⟨gb,0,none⟩) n c)) w'):
 wpList Tryz.prog ops Q (o::rest) a (W.alloc (.cells #[] 3)):=by
 obtain⟨i0,hi,hz0,hz1,hz2⟩:=info_parts Tryz.bO
 have gH:(W.alloc (.cells #[] 3)).ownsRow W.heap.size 3 1 (.slice (some ⟨W.heap.size,0,none⟩) 0 0) 0 []:=ac0 W #[] 0 (aad _) (aax _) rfl
 have hb0:Below W.heap.size W (W.alloc (.cells #[] 3)):=(aae _ _).alloc (aad _) _
 rcases ao with _|y
 ·obtain⟨rfl,rfl⟩:=hr.none rfl
  have hl:l=[]:=abu.1 hr.len
  subst hl
  refine wpList_append_own_none hgd s x 37 ho W.heap.size 3 i0 1 Tryz.underlying37 hi _ 0 [] hs gH hx ?_
  exact h _ _ _ gH (aad _) (by simp) (aad _) hb0
 ·refine wpList_append_own _ hgd s x 37 ho W.heap.size 3 i0 (.int .i64 0) 1 8 Tryz.underlying37 hi hz0 hz1 hz2 rfl (by decide) _ 0 [] hs gH y n ca (l.map (Value.int .i64)) hx (by rw[aa3,hr.len];omega) ?_ (ints_oneCell .i64 _) (by unfold maxLen;omega) (by rw[abv];omega) (by simp) ?_
  ·intro j u hj
   rw[aay] at hj
   cases Bk:l[j]? with
   |none=>rw[Bk] at hj;cases hj
   |some z=>
    rw[Bk] at hj
    obtain rfl:=aak hj
    obtain⟨b,o',e,hc⟩:=hr.ints j z Bk
    cases e
    have ea:((⟨b,o',none⟩:Addr).add j)=⟨b,o'+j,none⟩:=by
     by_cases h0:j=0<;>simp[Addr.add,h0]
    rw[ea]
    exact(ado W _ none).cell hc (by simp)
  ·intro v' w' hown' hg hiff
   rw[abv,aaE] at hown'
   rcases hown'.2 with ⟨hnil,_⟩|⟨gb,c,cur,rfl,hgb,hh,hlc,_⟩
   ·have:=(hiff.1 hnil).1
    cases this
   ·exact h gb c w' hown' hgb (lt_of_block hh) hlc (hb0.grown hg (by simp) (fun q hq=>by cases hq;exact aad _))
set_option maxRecDepth 100000 in
set_option maxHeartbeats 4000000 in
theorem GZ (ao:Option Addr) (n ca:Nat) (l:List Int) (w:World) (h:gI w ao n ca l) (hn:n≤17592186043904):
 Calls Tryz.prog 39 #[.slice ao n ca] w fun e w'=>∃bo cb,e= .returned (.slice bo n cb)∧aP w' w.heap.size (.slice bo n cb) l∧Below w.heap.size w w':=by
 have HR:=Nu.hid h
 have hnil:=fun w=>ac9 (P:=Tryz.prog) w 37 3 ao n ca 0 0 Tryz.underlying37
 rcases ao with _|y
 ·obtain⟨rfl,rfl⟩:=h.none rfl
  have hl:l=[]:=abu.1 h.len
  subst hl
  clear h
  go_enter Tryz.func39,Tryz.ntmps39
  go_wp2
  go_ret
  exact⟨none,0,rfl,aP.nil _ _,aae _ _⟩
 ·clear h
  go_enter Tryz.func39,Tryz.ntmps39
  go_wp2_with (at_builtin;refine nv rfl _ _ rfl w (some y) n ca l rfl rfl HR.out hn ?_;refine aaB ?_)
  refine Nu.hid ?_
  intro gb c w1 hrow hgb hlt hc hb
  have HX:=Nu.hid hrow
  have HB:=Nu.hid hb
  clear hrow hb hgb
  go_wp2
  go_ret
  refine⟨some ⟨gb,0,none⟩,c,rfl,?_,HB.out⟩
  unfold aP
  rw[HR.out.len]
  exact HX.out
end
section
open Go.RowKit Go.Shelf
def bE (n₀:Nat) (S:Nat→Prop) (W W':World):Prop:=Below n₀ W W'∧∀(b:Nat) (o:Obj),W.heap[b]? =some o→o.isCells=true→¬S b→W'.heap[b]? =some o
section
variable {n₀:Nat} {S:Nat→Prop} {A B C W W':World}
theorem bE.refl (n₀:Nat) (S:Nat→Prop) (W:World):bE n₀ S W W:=⟨aae _ _,fun _ _ h _ _=>h⟩
theorem bE.trans (h:bE n₀ S A B) (k:bE n₀ S B C):bE n₀ S A C:=⟨h.1.trans k.1,fun b o hb ho hs=>k.2 b o (h.2 b o hb ho hs) ho hs⟩
theorem bE.cell (h:bE n₀ S W W') {a:Addr} {v:Value} (hc:W.cell? a=some v) (hs:¬S a.block):W'.cell? a=some v:=by
 obtain⟨o,ho,hcl⟩:=cells_of_cell hc
 exact(adj ((h.2 _ _ ho hcl hs).trans ho.symm)).trans hc
theorem bE.boxed (h:bE n₀ S W W') {b:Nat} {t:TypeId} {v:Value} (hb:Boxed W b t v) (hs:¬S b):Boxed W' b t v:=h.2 b _ hb rfl hs
theorem bE.grow (h:bE n₀ S A B) (hb:Below B.heap.size B C) (hn:n₀≤B.heap.size):bE n₀ S A C:=⟨h.1.trans (hb.mono hn),fun b o hA ho hs=>by
 have:=h.2 b o hA ho hs
 exact(hb.block b (aam.1 this).1).trans this⟩
theorem bE.put (hn:n₀≤A.heap.size) {l:Nat} {o o':Obj} (hl:A.heap.size≤l) (h:W.heap[l]? =some o) (h1:o.isCells=false) (h2:o.isWalk=false):bE n₀ S W (W.putObj l o'):=
 ⟨belowK_b (w:=A) hn W l o o' hl h h1 h2,fun b o2 hb ho _=>by
   have:b≠l:=fun e=>by subst e;rw[h] at hb;cases hb;rw[h1] at ho;cases ho
   exact(aby this).trans hb⟩
theorem bE.own {β:Type} {B':Nat} (hn:n₀≤A.heap.size) (hB:n₀≤B'):OwnFrom B' (fun (_:β) W=>bE n₀ S A W):=fun _ X Y row hs hg hr=>
 ⟨hs.1.grown hg (abb hn hs.1.size) (fun k e=>by have:=(hr k e).1;omega),fun b o hb ho hS=>by
   have hX:=hs.2 b o hb ho hS
   refine(hg.block b (aam.1 hX).1 (fun e=> ?_)).trans hX
   obtain⟨_,o',ho',hc⟩:=hr b e.symm
   rw[hX] at ho'
   cases ho'
   rw[ho] at hc
   cases hc⟩
theorem uX {B₁ B₂:Nat} (h:KeepsFrom B₁ W W') (hB:B₁≤B₂):KeepsFrom B₂ W W':=⟨h.size,fun k o hk h0 ho=>h.same k o (abb hB hk) h0 ho⟩
theorem My {B₁ l:Nat} (hl:l<B₁) (o:Obj) (W:World):KeepsFrom B₁ W (W.putObj l o):=⟨by simp,fun k o' hk h0 _=>(aby (by omega)).trans h0⟩
end
theorem RoundIn.deep {m m':Nat} {P:Program} {l:Nat} {f:FuncId} {tmps:Array Value} {assign body:Code} {w:World} {R:Ending→World→Prop} (h:RoundIn Fence.wide m P l f tmps assign body w R):RoundIn Fence.wide m' P l f tmps assign body w R:=
 ⟨h.1,fun c cs _=>h.2 c cs (room_wide _)⟩
def uu {α:Type} (P:Program) (g:Nat) (lb:Array Value) (encs:α→Array Value) (n₀:Nat) (S:Nat→Prop) (zs:List α) (w:World) (m:Nat):Prop:=
 ∀(l:Nat) (J Jx:List α→World→Prop) (W:World),Below w.heap.size w W→W.heap.size≤w.heap.size+2→OwnFrom W.heap.size J→OwnFrom W.heap.size Jx→
  (∀pre x W1,pre++[x] <+: zs→J pre W1→W.heap.size+m≤W1.heap.size→∀d,YieldAt Fence.wide d P l (encs x) W1 fun e W'=>KeepsFrom W.heap.size W1 W'∧
    ((e= .returned (.bool true)∧J (pre++[x]) W'∧bE n₀ S W1 W')∨(e= .returned (.bool false)∧Jx (pre++[x]) W')))→
  J [] W→Calls P g (#[.func (.yield l) #[] #[]]++lb) W fun e W'=>(∃v,e= .returned v)∧(J zs W'∨∃pre,pre <+: zs∧Jx pre W')
abbrev PC (ro:Option Nat):Fence:={ Fence.wide with round:=ro }
abbrev ox (fn:FuncId) (a:Act) (ps:Array Tmp) (assign body:Code) (d:Nat) (st:LoopState) (pe:Option Code):Loop:={ state:=st,pending:=pe,fn,tmps:=a.tmps,params:=ps,assign,body,defers:=d }
theorem Hx {α:Type} (ro:Option Nat) {n:Nat} {P:Program} {g:Operand} {ps:Array Tmp} {assign body:Code} {Q:Exit→Act→World→Prop} {a:Act} {w:World} {l d B:Nat} {mark:List Deferred} {Wf:Nat→World}
 {gf:Nat} {lb:Array Value} (hg:a.eval g= .func (.func gf) #[] lb) (eg:∀args w,(callFunc gf args).run P w= .ok (.enter gf args) w)
 {encs:α→Array Value} {n₀:Nat} {S:Nat→Prop} {zs:List α} {w0:World} {m:Nat} (hseq:uu P gf lb encs n₀ S zs w0 m)
 (hen:∀fn,(Instr.enterLoop fn a.tmps ps assign body ro).run P w= .ok (l,mark) (Wf fn)) (aef:∀fn,(Wf fn).heap[l]? =some (.loop (ox fn a ps assign body d .ready none)))
 (dz:∀fn,(Wf fn).heap.size=l+1) (hbl:∀fn,Below w0.heap.size w0 (Wf fn)) (hls:l+1≤w0.heap.size+2) (mg:w.heap.size≤l) (hBl:B≤l) (hn:n₀≤w.heap.size) (hps:∀x,(encs x).size=ps.size)
 (I:List α→World→Prop) (Ix:Code→List α→World→Prop) (hI:OwnFrom l I) (hIx:∀c,OwnFrom l (Ix c)) (h0:∀fn,I [] (Wf fn)) (Ax:α→Act→World→Prop) (hAx:∀x a',OwnFrom l (fun (_:Unit) W=>Ax x a' W))
 (hassign:∀(pre:List α) (x:α) (W:World) (K:Act→World→Prop),pre++[x] <+: zs→l+1+m≤W.heap.size→I pre W→(∀a' W',KeepsFrom B W W'→bE n₀ S W W'→I pre W'→Ax x a' W'→K a' W')→
   assign.wpIn (Fence.wide.inRound l) (n-1-1) P (Exit.then K (fun _ _ _=>False)) { tmps:=(ps.zip (encs x)).foldl (fun t (p,v)=>t.setIfInBounds p v) a.tmps,defers:=[] } W)
 (hbody:∀(pre:List α) (x:α) (a':Act) (W:World),(∃r,W.heap[l]? =some (.loop r))→pre++[x] <+: zs→l+1+m≤W.heap.size→I pre W→Ax x a' W→body.wpIn (Fence.wide.inRound l) (n-1-1) P (ownPostG B (bE n₀ S) I Ix (pre++[x]) W) a' W)
 (hdone:∀(W:World),I zs W→Q .normal { a with defers:=mark++a.defers } W)
 (hstop:∀(c:Code) (pre:List α) (W:World),pre <+: zs→Ix c pre W→c.wpIn (PC ro) n P Q { a with defers:=mark++a.defers } W):
 (Code.rangeFunc g ps assign body).wpIn (PC ro) n P Q a w:=by
 refine wpIn_rangeFunc ?_
 intro fn _
 have hsz:=dz fn
 refine⟨l,mark,Wf fn,{ target:= .fn (.func gf) lb,args:= #[.func (.yield l) #[] #[]] },Wf fn,gf,#[.func (.yield l) #[] #[]]++lb,Wf fn,hen fn,?_,fun _ _=>trivial,?_,(fun h=>by cases h),?_⟩
 ·simp only[resolve,hg]
  simp[go_sem]
 ·simp[invoke,go_sem,eg]
 refine CallsIn.mono (R:=fun e W'=>(∃v,e= .returned v)∧((I zs W'∧W'.heap[l]? =some (.loop (ox fn a ps assign body d .ready none)))∨∃pre,pre <+: zs∧∃c,Ix c pre W'∧W'.heap[l]? =some (.loop (ox fn a ps assign body d .done (some c))))) ?_ ?_
 ·have dZ:=hseq l (fun pre W=>I pre W∧W.heap[l]? =some (.loop (ox fn a ps assign body d .ready none)))
   (fun pre W=>∃c,Ix c pre W∧W.heap[l]? =some (.loop (ox fn a ps assign body d .done (some c)))) (Wf fn) (hbl fn) (by omega)
   (fun s X Y row hs hg' hr=>⟨hI s X Y row hs.1 hg' (fun r e=>⟨by have:=(hr r e).1;omega,(hr r e).2⟩),(hg'.block l (aam.1 hs.2).1 (fun e=>by have:=(hr l e.symm).1;omega)).trans hs.2⟩)
   (fun s X Y row ⟨c,hc,hl⟩ hg' hr=>⟨c,hIx c s X Y row hc hg' (fun r e=>⟨by have:=(hr r e).1;omega,(hr r e).2⟩),(hg'.block l (aam.1 hl).1 (fun e=>by have:=(hr l e.symm).1;omega)).trans hl⟩)
   ?_ ⟨h0 fn,aef fn⟩
  ·exact(callsIn_wide (n:=n-1)).2 dZ
  ·rintro pre x W hpx ⟨hi,hl⟩ hW dd
   have hy:=run_yield (P:=P) (args:=encs x) hl (hps x)
   refine⟨fn,_,assign,body,hy,RoundIn.deep (m:=n-1-1) ?_⟩
   refine roundIn_of_wpIn (F:=Fence.wide) trivial (hassign pre x W _ hpx (by omega) hi ?_)
   clear hy
   intro a' Wa Ru aeF hia OB
   have hla:=Ru.same _ _ hBl hl rfl
   have aex:l<Wa.heap.size:=(aam.1 hla).1
   refine⟨_,run_beginRound hla rfl,?_⟩
   obtain⟨W2,hW2⟩:∃W2,W2=Wa.putObj l (.loop { ox fn a ps assign body d .ready none with state:= .busy }):=⟨_,rfl⟩
   have hl2:W2.heap[l]? =some (.loop { ox fn a ps assign body d .ready none with state:= .busy }):=by rw[hW2];exact World.putObj_heap_same aex
   have hk2:bE n₀ S Wa W2:=by rw[hW2];exact bE.put hn mg hla rfl rfl
   have hf2:KeepsFrom (l+1) Wa W2:=by rw[hW2];exact My (Nat.lt_succ_self _) _ _
   have hi2:I pre W2:=by rw[hW2];exact hI.putObj _ hia (aad _) hla rfl
   have hx2:Ax x a' W2:=by rw[hW2];exact(hAx x a').putObj (s:=()) _ OB (aad _) hla rfl
   rw[←hW2]
   have A8:W.heap.size≤W2.heap.size:=abb Ru.size hf2.size
   refine wpIn_mono (hbody pre x a' W2 ⟨_,hl2⟩ hpx (by omega) hi2 hx2) ?_
   have fin:∀(jump:Option Code) (W3:World),KeepsFrom B W2 W3→∃W4,(Instr.endRound l jump).run P W3= .ok (.bool jump.isNone) W4∧W4=W3.putObj l (.loop (ox fn a ps assign body d (if jump.isNone then .ready else .done) jump))∧
    W3.heap[l]? =some (.loop { ox fn a ps assign body d .ready none with state:= .busy })∧W4.heap[l]? =some (.loop (ox fn a ps assign body d (if jump.isNone then .ready else .done) jump))∧KeepsFrom (Wf fn).heap.size W W4:=fun jump W3 hk3=>by
    have hl3:=hk3.same _ _ hBl hl2 rfl
    refine⟨_,run_endRound (P:=P) jump hl3,rfl,hl3,World.putObj_heap_same (aam.1 hl3).1,?_⟩
    rw[hsz]
    exact(((uX Ru (by omega)).trans hf2).trans (uX hk3 (by omega))).trans (My (Nat.lt_succ_self _) _ _)
   rintro e a3 W3 hp
   cases e with
   |normal=>
    obtain⟨hk3,aeG,C3⟩:=hp
    obtain⟨W4,hr,e4,hl3,hl4,Bz⟩:=fin none W3 hk3
    refine⟨_,_,hr,Bz,.inl ⟨rfl,⟨?_,hl4⟩,?_⟩⟩
    ·rw[e4];exact hI.putObj _ C3 (aad _) hl3 rfl
    ·rw[e4];exact((aeF.trans hk2).trans aeG).trans (bE.put hn mg hl3 rfl rfl)
   |ret=>
    obtain⟨hk3,C3⟩:=hp
    obtain⟨W4,hr,e4,hl3,hl4,Bz⟩:=fin (some .ret) W3 hk3
    exact⟨_,_,hr,Bz,.inr ⟨rfl,.ret,by rw[e4];exact(hIx _).putObj _ C3 (aad _) hl3 rfl,hl4⟩⟩
   |exit id=>
    obtain⟨hk3,C3⟩:=hp
    obtain⟨W4,hr,e4,hl3,hl4,Bz⟩:=fin (some (.exit id)) W3 hk3
    exact⟨_,_,hr,Bz,.inr ⟨rfl,.exit id,by rw[e4];exact(hIx _).putObj _ C3 (aad _) hl3 rfl,hl4⟩⟩
   |goto t=>
    obtain⟨hk3,C3⟩:=hp
    obtain⟨W4,hr,e4,hl3,hl4,Bz⟩:=fin (some (.goto t)) W3 hk3
    exact⟨_,_,hr,Bz,.inr ⟨rfl,.goto t,by rw[e4];exact(hIx _).putObj _ C3 (aad _) hl3 rfl,hl4⟩⟩
   |panic ch=>exact hp.elim
   |outgrown=>exact hp.elim
 ·rintro e W2 ⟨⟨v,rfl⟩,(⟨hi,hl⟩|⟨pre,hpre,c,hi,hl⟩)⟩
  ·exact⟨none,_,run_endLoop (P:=P) hl (by simp),hdone _ (hI.putObj _ hi (aad _) hl rfl)⟩
  ·exact⟨some c,_,run_endLoop (P:=P) hl (by simp),hstop c pre _ hpre ((hIx c).putObj _ hi (aad _) hl rfl)⟩
theorem sr {α:Type} {n:Nat} {P:Program} {g:Operand} {ps:Array Tmp} {assign body:Code} {Q:Exit→Act→World→Prop} {a:Act} {w:World}
 {gf:Nat} {lb:Array Value} (hg:a.eval g= .func (.func gf) #[] lb) (eg:∀args w,(callFunc gf args).run P w= .ok (.enter gf args) w)
 {encs:α→Array Value} {n₀:Nat} {S:Nat→Prop} {zs:List α} {m:Nat} (hseq:uu P gf lb encs n₀ S zs w m) (hn:n₀≤w.heap.size) (hps:∀x,(encs x).size=ps.size)
 (I:List α→World→Prop) (Ix:Code→List α→World→Prop) (hI:OwnFrom w.heap.size I) (hIx:∀c,OwnFrom w.heap.size (Ix c)) (h0:I [] w) (Ax:α→Act→World→Prop) (hAx:∀x a',OwnFrom w.heap.size (fun (_:Unit) W=>Ax x a' W))
 (hassign:∀(l:Nat) (pre:List α) (x:α) (W:World) (K:Act→World→Prop),pre++[x] <+: zs→I pre W→(∀a' W',KeepsFrom w.heap.size W W'→bE n₀ S W W'→I pre W'→Ax x a' W'→K a' W')→
   assign.wpIn (Fence.wide.inRound l) (n-1-1) P (Exit.then K (fun _ _ _=>False)) { tmps:=(ps.zip (encs x)).foldl (fun t (p,v)=>t.setIfInBounds p v) a.tmps,defers:=[] } W)
 (hbody:∀(l:Nat) (pre:List α) (x:α) (a':Act) (W:World),w.heap.size≤l∧w.heap.size+2+m≤W.heap.size→(∃r,W.heap[l]? =some (.loop r))→pre++[x] <+: zs→I pre W→Ax x a' W→body.wpIn (Fence.wide.inRound l) (n-1-1) P (ownPostG w.heap.size (bE n₀ S) I Ix (pre++[x]) W) a' W)
 (hdone:∀(D:Nat) (W:World),w.heap.size≤D→I zs W→W.heap[D]? =some (.deferred (some []))→Q .normal { a with defers:={ target:= .collected D,args:= #[] }::a.defers } W)
 (hstop:∀(D:Nat) (c:Code) (pre:List α) (W:World),w.heap.size≤D→pre <+: zs→Ix c pre W→W.heap[D]? =some (.deferred (some []))→c.wpIn Fence.wide n P Q { a with defers:={ target:= .collected D,args:= #[] }::a.defers } W):
 (Code.rangeFunc g ps assign body).wpIn Fence.wide n P Q a w:=by
 have up:∀{β:Type} {J:β→World→Prop},OwnFrom w.heap.size J→OwnFrom (w.heap.size+1) J:=fun hJ s X Y row hs hg' hr=>hJ s X Y row hs hg' (fun r e=>⟨by have:=(hr r e).1;omega,(hr r e).2⟩)
 have dO:∀{X Y:World} {row:Option Nat},X.heap[w.heap.size]? =some (.deferred (some []))→X.grownBy Y row→(∀r,row=some r→w.heap.size+1≤r∧∃o:Obj,X.heap[r]? =some o∧o.isCells=false)→Y.heap[w.heap.size]? =some (.deferred (some [])):=fun hk hg' hr=>
  (hg'.block _ (aam.1 hk).1 (fun e=>by have:=(hr _ e.symm).1;omega)).trans hk
 have hkk:∀{X Y:World},KeepsFrom w.heap.size X Y→X.heap[w.heap.size]? =some (.deferred (some []))→Y.heap[w.heap.size]? =some (.deferred (some [])):=fun h hk=>h.same _ _ (aad _) hk rfl
 refine Hx none (l:=w.heap.size+1) (d:=w.heap.size) (B:=w.heap.size) (mark:=[{ target:= .collected w.heap.size,args:= #[] }]) (w0:=w)
  (Wf:=fun fn=>(w.alloc (.deferred (some []))).alloc (.loop (ox fn a ps assign body w.heap.size .ready none))) hg eg hseq (fun fn=>run_enterLoop_outer _ _ _ _ _)
  (fun fn=>by have:=adk (w.alloc (.deferred (some []))) (.loop (ox fn a ps assign body w.heap.size .ready none));rwa[aaM] at this)
  (fun fn=>by simp) (fun fn=>(((aae _ w).alloc (aad _) _).alloc (by simp) _)) (by omega) (by omega) (by omega) hn hps
  (fun pre W=>I pre W∧W.heap[w.heap.size]? =some (.deferred (some []))) (fun c pre W=>Ix c pre W∧W.heap[w.heap.size]? =some (.deferred (some [])))
  (fun s X Y row hs hg' hr=>⟨up hI s X Y row hs.1 hg' hr,dO hs.2 hg' hr⟩) (fun c s X Y row hs hg' hr=>⟨up (hIx c) s X Y row hs.1 hg' hr,dO hs.2 hg' hr⟩)
  (fun fn=>⟨hI.alloc _ (hI.alloc _ h0),(aap _ _ _ (by simp)).trans (adk w _)⟩) Ax (fun x a'=>up (hAx x a'))
  (fun pre x W K hpx _ hi hK=>hassign _ pre x W K hpx hi.1 (fun a' W' h1 h2 h3 h4=>hK a' W' h1 h2 ⟨h3,hkk h1 hi.2⟩ h4))
  (fun pre x a' W hl hpx hsz hi OB=>wpIn_mono (hbody _ pre x a' W ⟨by omega,by omega⟩ hl hpx hi.1 OB) ?_)
  (fun W hi=>hdone _ W (aad _) hi.1 hi.2) (fun c pre W hp hi=>hstop _ c pre W (aad _) hp hi.1 hi.2)
 rintro e a3 W3 hp
 cases e with
 |normal=>exact⟨hp.1,hp.2.1,hp.2.2,hkk hp.1 hi.2⟩
 |ret=>exact⟨hp.1,hp.2,hkk hp.1 hi.2⟩
 |exit id=>exact⟨hp.1,hp.2,hkk hp.1 hi.2⟩
 |goto t=>exact⟨hp.1,hp.2,hkk hp.1 hi.2⟩
 |panic ch=>exact hp
 |outgrown=>exact hp
theorem aaf {α:Type} {n:Nat} {P:Program} {g:Operand} {ps:Array Tmp} {assign body:Code} {Q:Exit→Act→World→Prop} {a:Act} {w:World} {l₀:Nat} {r₀:Loop} (hl₀:w.heap[l₀]? =some (.loop r₀))
 {gf:Nat} {lb:Array Value} (hg:a.eval g= .func (.func gf) #[] lb) (eg:∀args w,(callFunc gf args).run P w= .ok (.enter gf args) w)
 {encs:α→Array Value} {n₀:Nat} {S:Nat→Prop} {zs:List α} {m:Nat} (hseq:uu P gf lb encs n₀ S zs w m) (hn:n₀≤w.heap.size) (hps:∀x,(encs x).size=ps.size)
 (I:List α→World→Prop) (Ix:Code→List α→World→Prop) (hI:OwnFrom w.heap.size I) (hIx:∀c,OwnFrom w.heap.size (Ix c)) (h0:I [] w) (Ax:α→Act→World→Prop) (hAx:∀x a',OwnFrom w.heap.size (fun (_:Unit) W=>Ax x a' W))
 (hassign:∀(l:Nat) (pre:List α) (x:α) (W:World) (K:Act→World→Prop),pre++[x] <+: zs→I pre W→(∀a' W',KeepsFrom w.heap.size W W'→bE n₀ S W W'→I pre W'→Ax x a' W'→K a' W')→
   assign.wpIn (Fence.wide.inRound l) (n-1-1) P (Exit.then K (fun _ _ _=>False)) { tmps:=(ps.zip (encs x)).foldl (fun t (p,v)=>t.setIfInBounds p v) a.tmps,defers:=[] } W)
 (hbody:∀(l:Nat) (pre:List α) (x:α) (a':Act) (W:World),w.heap.size≤l∧l+1+m≤W.heap.size→(∃r,W.heap[l]? =some (.loop r))→pre++[x] <+: zs→I pre W→Ax x a' W→body.wpIn (Fence.wide.inRound l) (n-1-1) P (ownPostG w.heap.size (bE n₀ S) I Ix (pre++[x]) W) a' W)
 (hdone:∀(W:World),I zs W→Q .normal a W)
 (hstop:∀(c:Code) (pre:List α) (W:World),pre <+: zs→Ix c pre W→c.wpIn (Fence.wide.inRound l₀) n P Q a W):
 (Code.rangeFunc g ps assign body).wpIn (Fence.wide.inRound l₀) n P Q a w:=
 Hx (some l₀) (l:=w.heap.size) (d:=r₀.defers) (B:=w.heap.size) (mark:=[]) (w0:=w) (Wf:=fun fn=>w.alloc (.loop (ox fn a ps assign body r₀.defers .ready none))) hg eg hseq (fun fn=>run_enterLoop_inner hl₀ _ _ _ _ _)
  (fun fn=>adk w _) (fun fn=>by simp) (fun fn=>(aae _ w).alloc (aad _) _) (by omega) (aad _) (aad _) hn hps I Ix hI hIx (fun fn=>hI.alloc _ h0) Ax hAx
  (fun pre x W K hpx _ hi hK=>hassign _ pre x W K hpx hi hK) (fun pre x a' W hl hpx hsz hi OB=>hbody _ pre x a' W ⟨aad _,hsz⟩ hl hpx hi OB) hdone hstop
end
end Go.Proofs.YtdjmnpmdmjclhabGreat
