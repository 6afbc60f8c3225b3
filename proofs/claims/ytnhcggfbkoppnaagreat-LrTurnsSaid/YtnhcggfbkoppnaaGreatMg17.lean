import Derived.Test.YtnhcggfbkoppnaaGreatMg16
import Derived.Test.YtnhcggfbkoppnaaGreatMg14
import Derived.Laws.AppendOwnNone
import Derived.Maps.AppendAt
import Derived.Sort.Grow
import Derived.Deep.AppendLies
import Derived.Test.YtnhcggfbkoppnaaGreatMg03
import Derived.Test.YtnhcggfbkoppnaaGreatMg00
import Derived.Deep.QuietTactic
import Derived.BigQuiet
import Derived.BigRegion
namespace Go.Proofs.YtnhcggfbkoppnaaGreat
section
open Go.RowKit Lt
def eJ (t:Bool) (x:Int):Prop:=if t=true then x=0 else x=1∨x= -1
instance (t:Bool) (x:Int):Decidable (eJ t x):=by unfold eJ;infer_instance
def gN (es:List (Int×Int)) (s:Df.St) (ps:List Int):Prop:=ps.length=es.length∧∀e,e<es.length→eJ (Lo.tree es s e) (ps[e]?.getD 0)
theorem BF {es:List (Int×Int)} {s:Df.St} {n e:Nat} (h:Df.VF n es s) (he:e<es.length):decide (Df.at_ s.par (Cs.to es (Lo.oh s e))≠((Lo.oh s e:Nat):Int))= !Lo.tree es s e:=by
 obtain⟨h1,-,-,-⟩:=Lo.cN h he
 unfold Lo.tree Lo.bJ
 rw[h1]
 simp
set_option maxRecDepth 100000 in
theorem GS (x:Int) (b:Bool) (w:World):Calls Tryz.prog 66 #[.int .i64 x,.bool b] w fun e w'=>e= .returned (.bool (decide (eJ (!b) x)))∧Below w.heap.size w w':=by
 cases b with
 |false=>
  go_enter Tryz.func66,Tryz.ntmps66
  go_wp2
  go_ret
  refine⟨?_,Below.refl _ _⟩
  unfold eJ
  simp
  rfl
 |true=>
  by_cases h1:x=1
  ·subst h1
   go_enter Tryz.func66,Tryz.ntmps66
   go_wp2
   go_ret
   exact⟨rfl,Below.refl _ _⟩
  ·have hb:(x==1)=false:=by simp only[beq_eq_false_iff_ne,ne_eq];exact h1
   go_enter Tryz.func66,Tryz.ntmps66
   go_wp2
   go_ret
   refine⟨?_,Below.refl _ _⟩
   unfold eJ
   simp[h1]
   rfl
section
variable {c:Wp} {p:Nat} {W:World}
set_option maxRecDepth 100000 in
set_option maxHeartbeats 4000000 in
theorem wG (h:bV c p W) {pa:Option Addr} {pc:Nat} {ps:List Int} (hp:iu W pa ps.length pc ps):
 Calls Tryz.prog 39 #[.pointer (some ⟨p,0,none⟩),.slice pa ps.length pc] W fun e w'=>(∃b,e= .returned (.bool b)∧(b=true↔gN c.es c.s ps))∧Below W.heap.size W w':=by
 have cq:=h.val.few
 have x5:=h.c5
 by_cases hlen:ps.length=c.es.length
 ·rw[hlen] at hp ⊢
  have fO:=Nu.hid h
  have HP:=Nu.hid hp
  have Lj:=Nu.hid hlen
  clear h hp hlen
  go_enter Tryz.func39,Tryz.ntmps39
  go_wp2_with fail
  go_loopw [22] (fun iv wr=>∃i:Nat,iv= .int .i64 (i:Int)∧i≤c.es.length∧(∀e,e<i→eJ (Lo.tree c.es c.s e) (ps[e]?.getD 0))∧Below W.heap.size W wr) (fun iv _=>c.es.length-(intOf iv).toNat)
  case atStart=>exact⟨0,rfl,Nat.zero_le _,fun e he=>absurd he (by omega),Below.refl _ _⟩
  case round=>
   obtain⟨i,rfl,UA,hall,hb⟩:=hrel
   by_cases hlt:i<c.es.length
   ·have hw:=fO.out.later hb
    obtain⟨h1,-,h3,h4⟩:=Lo.cN hw.vf hlt
    have kZ:=BF hw.vf hlt
    obtain⟨q,hq⟩:∃q,Lo.oh c.s i=q:=⟨_,rfl⟩
    rw[hq] at h1 h3 h4 kZ
    obtain⟨bo,oo,eo,kX⟩:=hw.aJ hlt
    have z1:=kX wr (Below.refl _ _) i hlt
    rw[h1] at z1
    rw[eo]
    obtain⟨bp,op,ep,-⟩:=bZ HP.out (i:=i) hlt
    have y1:∀D:LW wr,D.val.cell? ⟨bp,op+i,none⟩=some (.int .i64 (ps[i]?.getD 0)):=fun D=>by
     obtain⟨b',o',e',d'⟩:=bZ (HP.out.later (hb.trans (D.h.mono hb.size))) (i:=i) hlt
     rw[ep] at e'
     cases e'
     have hg:Df.at_ ps i=ps[i]?.getD 0:=by
      have hil:i<ps.length:=by rw[Lj.out];exact hlt
      unfold Df.at_
      simp[hil]
     rw[←hg]
     exact d'
    rw[ep]
    obtain⟨z,hz⟩:∃z,ps[i]?.getD 0=z:=⟨_,rfl⟩
    obtain⟨tr,qH⟩:∃tr,Lo.tree c.es c.s i=tr:=⟨_,rfl⟩
    rw[qH] at kZ
    have HB:Hid (∀D:LW wr,Calls Tryz.prog 67 #[.pointer (some ⟨p,0,none⟩),.int .i64 (q:Int)] D.val fun e w'=>e= .returned (.bool (!tr))∧Below D.val.heap.size D.val w'):=fun D=>by
     have:=oV (fO.out.later (hb.trans (D.h.mono hb.size))) h3
     rw[kZ] at this
     exact this
    have HI:Hid (∀D:LW wr,Calls Tryz.prog 66 #[.int .i64 z,.bool (!tr)] D.val fun e w'=>e= .returned (.bool (decide (eJ tr z)))∧Below D.val.heap.size D.val w'):=fun D=>by
     have:=GS z (!tr) D.val
     rw[Bool.not_not] at this
     exact this
    have HOK:Hid (eJ (Lo.tree c.es c.s i) (ps[i]?.getD 0)↔eJ tr z):=by rw[qH,hz];exact Iff.rfl
    rw[hz] at y1
    have hne:=LW.any wr
    have i0:(0:Int)≤(i:Int):=by omega
    have i1:(i:Int)<(c.es.length:Int):=by omega
    have i2:(i:Int)+1≤4194304:=by omega
    have qg:=Nu.hid hall
    have jy:=Nu.hid hb
    by_cases hok:eJ tr z
    ·have hd:decide (eJ tr z)=true:=by simp[hok]
     rw[hd] at HI
     have HK:=Nu.hid (HOK.out.2 hok)
     clear hall hb hw h1 h3 h4 kZ hq kX eo ep hz qH hok hd
     go_wp2_with fail
     refine aC (by kernel_rfl) (by kernel_rfl) ?_
     repeat (go_big_quiet_step ((first|(go_at_call 67;exact Calls.lw (HB.out _))|(go_at_call 66;exact Calls.lw (HI.out _)))))
     refine wpQuiet_nil ?_
     rintro _ ⟨D,rfl⟩
     have I1:Hid (Below W.heap.size W D.val):=jy.out.trans (D.h.mono jy.out.size)
     go_wp2_with fail
     go_roundw
     case rel=>
      refine⟨i+1,by simp,by omega,fun e he=> ?_,I1.out⟩
      by_cases ay:e=i
      ·rw[ay];exact HK.out
      ·exact qg.out e (by omega)
     case measure=>
      simp[intOf]
      omega
    ·have hd:decide (eJ tr z)=false:=by simp[hok]
     rw[hd] at HI
     have HK:=Nu.hid (fun q=>hok (HOK.out.1 q))
     clear hall hb hw h1 h3 h4 kZ hq kX eo ep hz qH hok hd
     go_wp2_with fail
     refine aC (by kernel_rfl) (by kernel_rfl) ?_
     repeat (go_big_quiet_step ((first|(go_at_call 67;exact Calls.lw (HB.out _))|(go_at_call 66;exact Calls.lw (HI.out _)))))
     refine wpQuiet_nil ?_
     rintro _ ⟨D,rfl⟩
     have I1:Hid (Below W.heap.size W D.val):=jy.out.trans (D.h.mono jy.out.size)
     go_wp2_with fail
     go_ret
     refine⟨⟨false,rfl,?_⟩,I1.out⟩
     constructor
     ·intro q;cases q
     ·intro q;exact absurd (q.2 i hlt) HK.out
   ·obtain rfl:i=c.es.length:=by omega
    have HB:=Nu.hid hb
    have qg:=Nu.hid hall
    clear hb hall
    go_wp2_with fail
    go_ret
    exact⟨⟨true,rfl,fun _=>⟨Lj.out,qg.out⟩,fun _=>rfl⟩,HB.out⟩
 ·have hd:(((ps.length:Nat):Int)==((c.es.length:Nat):Int))=false:=by
   simp only[beq_eq_false_iff_ne,ne_eq]
   omega
  have HN:Hid (¬gN c.es c.s ps):=fun q=>hlen q.1
  clear h hp
  go_enter Tryz.func39,Tryz.ntmps39
  go_wp2_with fail
  go_ret
  refine⟨⟨false,rfl,?_⟩,Below.refl _ _⟩
  constructor
  ·intro q;cases q
  ·intro q;exact absurd q HN.out
end
end
section
namespace Lt
open Pl
section
variable {n m:Nat} {T:DF n m} {U tp:List Int} {Told aat:Nat→Prop} {sd:Nat→Bool} {s:Bool} {P P':Nat→Nat→Prop}
structure Sk (T:DF n m) (U:List Int) (Told:Nat→Prop):Prop where
 len:U.length=n
 up:∀x,x<n→∃y:Nat,y<n∧g U x=(y:Int)∧T.bP y x∧(y=x→¬Told x)∧∀z,z<n→T.bP z x→T.ay y<T.ay z→Told z
theorem Sk.start (hl:U.length=n) (h:∀x,x<n→g U x=(x:Int)):Sk T U (fun _=>False):=
 ⟨hl,fun x hx=>⟨x,hx,h x hx,T.refl x hx,fun _ q=>q,fun z hz ha hlt=>by have:=T.le hz hx ha;omega⟩⟩
theorem Sk.short (h:Sk T U Told) {x y z:Nat} (hx:x<n) (hy:g U x=(y:Int)) (hne:y≠x) (hz:g U y=(z:Int)):Sk T (U.set x (z:Int)) Told:=by
 obtain⟨y',y1,y2,y3,y4,y5⟩:=h.up x hx
 obtain rfl:y'=y:=by omega
 obtain⟨z',z1,z2,z3,z4,z5⟩:=h.up y' y1
 obtain rfl:z'=z:=by omega
 refine⟨by rw[List.length_set];exact h.len,fun a ha=> ?_⟩
 by_cases q:a=x
 ·subst q
  refine⟨z',z1,dW (by rw[h.len];exact hx),T.trans z3 y3,fun e=> ?_,fun b hb hba hlt=> ?_⟩
  ·have:=T.up y1 hx y3 hne
   have:=T.le z1 y1 z3
   rw[e] at this
   omega
  ·by_cases k:T.ay y'<T.ay b
   ·exact y5 b hb hba k
   ·exact z5 b hb (T.cmp hb y1 hx hba y3 (by omega)) hlt
 ·rw[aU q]
  exact h.up a ha
theorem Sk.tell (h:Sk T U Told) {e:Nat} (he:e<m) (te:T.tree e=true):Sk T (U.set (T.go e) (T.fr e:Int)) (fun z=>Told z∨z=T.go e):=by
 obtain⟨l1,l2⟩:=T.lt e he
 obtain⟨t1,t2⟩:=T.dP e he te
 refine⟨by rw[List.length_set];exact h.len,fun a ha=> ?_⟩
 by_cases q:a=T.go e
 ·rw[q]
  refine⟨T.fr e,l1,dW (by rw[h.len];exact l2),t2,fun k=>absurd k (T.ne he),fun z hz J4 hlt=> .inr ?_⟩
  have:=T.le hz l2 J4
  exact T.same hz l2 l2 J4 (T.refl _ l2) (by omega)
 ·rw[aU q]
  obtain⟨y,y1,y2,y3,y4,y5⟩:=h.up a ha
  exact⟨y,y1,y2,y3,fun k=>fun w=>w.elim (y4 k) q,fun z hz J4 hlt=> .inl (y5 z hz J4 hlt)⟩
structure fK (T:DF n m) (sd:Nat→Bool) (s:Bool) (P:Nat→Nat→Prop) (tp:List Int) (Told:Nat→Prop):Prop where
 len:tp.length=m
 told:∀x,Told x→∃e b,e<m∧T.tree e=true∧T.go e=x∧P e b∧sd b=s∧T.aY e b
 all:∀e b,e<m→T.tree e=true→P e b→sd b=s→T.aY e b→Told (T.go e)
 val:∀e b,e<m→P e b→sd b=s→T.aY e b→∃c,T.aY e c∧sd c=s∧g tp e=T.ay (T.go c)∧∀d,T.aY e d→sd d=s→T.ay (T.go d)≤g tp e
 none:∀e,e<m→(∀b,P e b→sd b=s→¬T.aY e b)→g tp e= -1
theorem fK.congr (h:fK T sd s P tp Told) (hp:∀e b,e<m→T.aY e b→sd b=s→(P e b↔P' e b)):fK T sd s P' tp Told:=
 ⟨h.len,fun x hx=>by
   obtain⟨e,b,h1,h2,h3,h4,h5,h6⟩:=h.told x hx
   exact⟨e,b,h1,h2,h3,(hp e b h1 h6 h5).1 h4,h5,h6⟩,
   fun e b he te hb hs hr=>h.all e b he te ((hp e b he hr hs).2 hb) hs hr,
   fun e b he hb hs hr=>h.val e b he ((hp e b he hr hs).2 hb) hs hr,
   fun e he hn=>h.none e he fun b hb hs hr=>hn b ((hp e b he hr hs).1 hb) hs hr⟩
theorem fK.start (hl:tp.length=m) (h:∀e,e<m→g tp e= -1):fK T sd s (fun _ _=>False) tp (fun _=>False):=
 ⟨hl,fun _ q=>q.elim,fun _ _ _ _ q=>q.elim,fun _ _ _ q=>q.elim,fun e he _=>h e he⟩
def PB (T:DF n m) (Q:Nat→Prop) (b:Nat) (h:Int) (e c:Nat):Prop:=Q c∨(c=b∧(e=b∨h<T.ay (T.go e)))
theorem Od {e b:Nat} (te:T.tree e=false) (h:T.aY e b):e=b:=by
 obtain⟨_,_,q|⟨q,_⟩⟩:=h
 ·exact q
 ·rw[te] at q;cases q
theorem kG {e b:Nat} (h:T.aY e b) (hne:e≠b):T.tree e=true∧T.bP (T.go e) (T.fr b)∧T.ay (T.go b)<T.ay (T.fr e):=by
 obtain⟨_,_,q|q⟩:=h
 ·exact absurd q hne
 ·exact q
theorem kE {e b:Nat} (te:T.tree e=true) (tb:T.tree b=false):e≠b:=fun q=>by rw[q,tb] at te;cases te
theorem fK.begin {Q:Nat→Prop} {b:Nat} (h:fK T sd s (fun _ c=>Q c) tp Told) (hb:b<m) (tb:T.tree b=false) (hs:sd b=s):fK T sd s (PB T Q b (T.ay (T.fr b))) (tp.set b (T.ay (T.go b))) Told:=by
 have hrb:T.aY b b:=⟨hb,tb,.inl rfl⟩
 have up:∀e,e<m→T.aY e b→e≠b→¬T.ay (T.fr b)<T.ay (T.go e):=fun e he hr hne hlt=>by
  have:=T.le (T.lt e he).2 (T.lt b hb).1 (kG hr hne).2.1
  omega
 refine⟨by rw[List.length_set];exact h.len,fun x hx=> ?_,fun e c he te hp hsc hr=> ?_,fun e c he hp hsc hr=> ?_,fun e he hn=> ?_⟩
 ·obtain⟨e,c,h1,h2,h3,h4,h5,h6⟩:=h.told x hx
  exact⟨e,c,h1,h2,h3,.inl h4,h5,h6⟩
 ·rcases hp with q|⟨rfl,q⟩
  ·exact h.all e c he te q hsc hr
  ·rcases q with q|q
   ·exact absurd q (kE te tb)
   ·exact absurd q (up e he hr (kE te tb))
 ·by_cases hne:e=b
  ·subst hne
   rw[dW (by rw[h.len];exact hb)]
   exact⟨e,hrb,hs,rfl,fun d hd _=>by rw[Od tb hd];exact Int.le_refl _⟩
  ·rw[aU hne]
   rcases hp with q|⟨rfl,q⟩
   ·exact h.val e c he q hsc hr
   ·rcases q with q|q
    ·exact absurd q hne
    ·exact absurd q (up e he hr hne)
 ·by_cases hne:e=b
  ·subst hne
   exact absurd hrb (hn e (.inr ⟨rfl,.inl rfl⟩) hs)
  ·rw[aU hne]
   exact h.none e he fun c hc=>hn c (.inl hc)
theorem fK.skip {Q:Nat→Prop} {b:Nat} {h1 h2:Int} (h:fK T sd s (PB T Q b h1) tp Told) (hle:h2≤h1) (hT:∀e,e<m→T.tree e=true→T.aY e b→h2<T.ay (T.go e)→T.ay (T.go e)≤h1→Told (T.go e)):fK T sd s (PB T Q b h2) tp Told:=by
 have mono:∀e c,PB T Q b h1 e c→PB T Q b h2 e c:=fun e c q=>by
  rcases q with q|⟨q,q2|q2⟩
  ·exact .inl q
  ·exact .inr ⟨q,.inl q2⟩
  ·exact .inr ⟨q,.inr (by omega)⟩
 refine⟨h.len,fun x hx=> ?_,fun e c he te hp hsc hr=> ?_,fun e c he hp hsc hr=> ?_,fun e he hn=> ?_⟩
 ·obtain⟨e,c,k1,k2,k3,k4,k5,k6⟩:=h.told x hx
  exact⟨e,c,k1,k2,k3,mono _ _ k4,k5,k6⟩
 ·rcases hp with q|⟨rfl,q⟩
  ·exact h.all e c he te (.inl q) hsc hr
  ·by_cases k:T.ay (T.go e)≤h1
   ·rcases q with q|q
    ·exact h.all e c he te (.inr ⟨rfl,.inl q⟩) hsc hr
    ·exact hT e he te hr q k
   ·exact h.all e c he te (.inr ⟨rfl,.inr (by omega)⟩) hsc hr
 ·rcases hp with q|⟨rfl,q⟩
  ·exact h.val e c he (.inl q) hsc hr
  ·by_cases hne:e=c
   ·exact h.val e c he (.inr ⟨rfl,.inl hne⟩) hsc hr
   ·rcases q with q|q
    ·exact absurd q hne
    ·by_cases k:T.ay (T.go e)≤h1
     ·obtain⟨te,-⟩:=kG hr hne
      obtain⟨e',d,k1,k2,k3,k4,k5,k6⟩:=h.told _ (hT e he te hr q k)
      obtain rfl:=T.one e' e k1 he k2 te k3
      exact h.val e' d he k4 k5 k6
     ·exact h.val e c he (.inr ⟨rfl,.inr (by omega)⟩) hsc hr
 ·exact h.none e he fun c hc=>hn c (mono e c hc)
theorem fK.tell {Q:Nat→Prop} {b e:Nat} {h1:Int} (h:fK T sd s (PB T Q b h1) tp Told) (he:e<m) (te:T.tree e=true) (hr:T.aY e b) (hs:sd b=s) (hh:T.ay (T.go e)=h1) (hn:¬Told (T.go e))
 (hi:∀d,T.aY e d→sd d=s→T.ay (T.go b)<T.ay (T.go d)→Q d):fK T sd s (PB T Q b (h1-1)) (tp.set e (T.ay (T.go b))) (fun z=>Told z∨z=T.go e):=by
 have hb:=hr.1
 have tb:=hr.2.1
 have mono:∀e c,PB T Q b h1 e c→PB T Q b (h1-1) e c:=fun e c q=>by
  rcases q with q|⟨q,q2|q2⟩
  ·exact .inl q
  ·exact .inr ⟨q,.inl q2⟩
  ·exact .inr ⟨q,.inr (by omega)⟩
 have it:∀e',e'<m→e'≠b→T.aY e' b→h1-1<T.ay (T.go e')→¬h1<T.ay (T.go e')→e'=e:=fun e' he' hne hr' k1 k2=>by
  obtain⟨t1,a1,_⟩:=kG hr' hne
  obtain⟨_,a2,_⟩:=kG hr (kE te tb)
  exact T.one e' e he' he t1 te (T.same (T.lt e' he').2 (T.lt e he).2 (T.lt b hb).1 a1 a2 (by omega))
 refine⟨by rw[List.length_set];exact h.len,fun x hx=> ?_,fun e' c he' qh hp hsc hr'=> ?_,fun e' c he' hp hsc hr'=> ?_,fun e' he' hn'=> ?_⟩
 ·rcases hx with hx|rfl
  ·obtain⟨e',c,k1,k2,k3,k4,k5,k6⟩:=h.told x hx
   exact⟨e',c,k1,k2,k3,mono _ _ k4,k5,k6⟩
  ·exact⟨e,b,he,te,rfl,.inr ⟨rfl,.inr (by omega)⟩,hs,hr⟩
 ·rcases hp with q|⟨rfl,q⟩
  ·exact .inl (h.all e' c he' qh (.inl q) hsc hr')
  ·by_cases k:h1<T.ay (T.go e')
   ·exact .inl (h.all e' c he' qh (.inr ⟨rfl,.inr k⟩) hsc hr')
   ·rcases q with q|q
    ·exact absurd q (kE qh tb)
    ·exact .inr (by rw[it e' he' (kE qh tb) hr' q k])
 ·by_cases hne:e'=e
  ·subst hne
   rw[dW (by rw[h.len];exact he)]
   refine⟨b,hr,hs,rfl,fun d hd aN=>Int.not_lt.1 fun hlt=>hn ?_⟩
   exact h.all e' d he te (.inl (hi d hd aN hlt)) aN hd
  ·rw[aU hne]
   rcases hp with q|⟨rfl,q⟩
   ·exact h.val e' c he' (.inl q) hsc hr'
   ·rcases q with q|q
    ·exact h.val e' c he' (.inr ⟨rfl,.inl q⟩) hsc hr'
    ·by_cases k:h1<T.ay (T.go e')
     ·exact h.val e' c he' (.inr ⟨rfl,.inr k⟩) hsc hr'
     ·by_cases hb':e'=c
      ·exact h.val e' c he' (.inr ⟨rfl,.inl hb'⟩) hsc hr'
      ·exact absurd (it e' he' hb' hr' q k) hne
 ·by_cases hne:e'=e
  ·subst hne
   exact absurd hr (hn' b (.inr ⟨rfl,.inr (by omega)⟩) hs)
  ·rw[aU hne]
   exact h.none e' he' fun c hc=>hn' c (mono e' c hc)
theorem fK.done {Q:Nat→Prop} {b:Nat} {h1:Int} (h:fK T sd s (PB T Q b h1) tp Told) (hle:h1≤T.ay (T.go b)+1):fK T sd s (fun _ c=>Q c∨c=b) tp Told:=
 h.congr fun e c he hr _=>by
  constructor
  ·rintro(q|⟨q,_⟩)
   ·exact .inl q
   ·exact .inr q
  ·rintro(q|q)
   ·exact .inl q
   ·subst q
    refine .inr ⟨rfl,?_⟩
    by_cases hne:e=c
    ·exact .inl hne
    ·obtain⟨t1,_,a2⟩:=kG hr hne
     have:=(T.dP e he t1).1
     exact .inr (by omega)
theorem fK.other {Q:Nat→Prop} {b:Nat} (h:fK T sd s (fun _ c=>Q c) tp Told) (hs:sd b≠s):fK T sd s (fun _ c=>Q c∨c=b) tp Told:=
 h.congr fun e c _ _ hsc=>⟨.inl,fun q=>q.elim id fun q=>absurd (by rw[←q];exact hsc) hs⟩
theorem fK.top {Q:Nat→Prop} (h:fK T sd s (fun _ c=>Q c) tp Told) (hq:∀c,c<m→T.tree c=false→Q c) {e:Nat} (he:e<m):mU T sd s e (g tp e):=by
 by_cases k:∃b,sd b=s∧T.aY e b
 ·obtain⟨b,k1,k2⟩:=k
  obtain⟨c,c1,c2,c3,c4⟩:=h.val e b he (hq b k2.1 k2.2.1) k1 k2
  exact .inr ⟨c,c1,c2,c3.symm,c4⟩
 ·exact .inl ⟨h.none e he fun b _ hs hr=>k ⟨b,hs,hr⟩,fun b hr hs=>k ⟨b,hs,hr⟩⟩
theorem JC {e b d:Nat} (he:e<m) (te:T.tree e=true) (hb:T.aY e b) (hd:T.aY e d) (hlt:T.ay (T.go b)<T.ay (T.go d)):T.bP (T.go b) (T.go d)∧T.go b≠T.go d:=by
 have key:∀{c:Nat},T.aY e c→T.bP (T.go c) (T.fr e):=fun {c} hc=>by
  obtain⟨_,a2,a3⟩:=kG hc (kE te hc.2.1)
  exact T.cmp (T.lt c hc.1).2 (T.lt e he).1 (T.lt c hc.1).1 (T.back c hc.1 hc.2.1).1 (T.trans (T.dP e he te).2 a2) (by omega)
 exact⟨T.cmp (T.lt b hb.1).2 (T.lt d hd.1).2 (T.lt e he).1 (key hb) (key hd) (by omega),fun q=>by rw[q] at hlt;omega⟩
end
end Lt
end
section
open Go.RowKit Lt Pl
def vT (n:Nat):List Int:=(List.range n).map fun z:Nat=>(z:Int)
theorem uw (n:Nat):(vT n).length=n:=by simp[vT]
theorem TL {n x:Nat} (h:x<n):g (vT n) x=(x:Int):=by
 unfold g vT
 rw[List.getElem?_map,List.getElem?_range h]
 rfl
theorem OT {n i:Nat} (h:i<n):(vT i++List.replicate (n-i) 0).set i (i:Int)=vT (i+1)++List.replicate (n-(i+1)) 0:=by
 rw[List.set_append_right _ _ (by rw[uw];exact Nat.le_refl _),uw,Nat.sub_self,show n-i=(n-(i+1))+1 by omega,List.replicate_succ,List.set_cons_zero]
 unfold vT
 rw[List.range_succ,List.map_append,List.append_assoc]
 rfl
set_option maxRecDepth 100000 in
set_option maxHeartbeats 4000000 in
theorem Cr (n:Nat) (hn:n≤8388608) (w:World):Calls Tryz.prog 103 #[.int .i64 (n:Int)] w fun e w'=>∃G,e= .returned (.slice (some ⟨G,0,none⟩) n n)∧aq w' G (vT n)∧w.heap.size≤G∧Below w.heap.size w w':=by
 obtain⟨i0,hi,hz0,hz1,hz2⟩:=info_parts Tryz.bS
 go_enter Tryz.func103,Tryz.ntmps103
 go_wp2_with (at_make;refine wpList_make_full _ rfl _ _ 156 rfl w.heap.size 3 i0 (.int .i64 0) 1 Tryz.underlying156 hi hz0 hz1 _ _ _ _ n rfl rfl rfl rfl (by rw[hz2];omega) (by unfold maxLen;omega) (Nat.le_refl _) ?_;refine Hid.out ?_)
 refine Nu.hid ?_
 intro w2 hrow hg2
 rw[cD] at hrow
 have hik:=dy hrow
 have hb2:Below w.heap.size w w2:=(Below.refl _ _).grown hg2 (Nat.le_refl _) (fun j hj=>by cases hj)
 have fY:Hid (aq w2 w.heap.size (vT 0++List.replicate (n-0) 0)):=hik
 have cz:=Nu.hid hb2
 clear hrow hg2 hik hb2
 go_wp2_with fail
 go_loopw [9] (fun iv wr=>∃i:Nat,iv= .int .i64 (i:Int)∧i≤n∧aq wr w.heap.size (vT i++List.replicate (n-i) 0)∧Below w.heap.size w wr) (fun iv _=>n-(intOf iv).toNat)
 case atStart=>exact⟨0,rfl,Nat.zero_le _,fY.out,cz.out⟩
 case round=>
  obtain⟨i,rfl,hin,NM,hb⟩:=hrel
  by_cases hlt:i<n
  ·obtain⟨z,hz⟩:∃z,(vT i++List.replicate (n-i) 0)[i]? =some z:=⟨_,List.getElem?_eq_getElem (by rw[List.length_append,uw];simp;omega)⟩
   have y1:wr.cell? ⟨w.heap.size,i,none⟩=some (.int .i64 z):=NM.cell hz
   have y2:wr.frozen? ⟨w.heap.size,i,none⟩=false:=NM.free i
   have i0:(0:Int)≤(i:Int):=by omega
   have i1:(i:Int)<(n:Int):=by omega
   have i2:(i:Int)+1≤8388608:=by omega
   have uk:Hid (aq (wr.setCell ⟨w.heap.size,i,none⟩ (.int .i64 (i:Int))) w.heap.size (vT (i+1)++List.replicate (n-(i+1)) 0)):=by
    rw[←OT hlt]
    exact NM.set i _
   have dM:=Nu.hid (hb.setCell (p:=⟨w.heap.size,i,none⟩) (Nat.le_refl _) (.int .i64 (i:Int)))
   clear NM hb hz
   go_wp2_with fail
   go_roundw
   case rel=>exact⟨i+1,by simp,by omega,uk.out,dM.out⟩
   case measure=>
    simp[intOf]
    omega
  ·obtain rfl:i=n:=by omega
   have uk:=Nu.hid NM
   have dM:=Nu.hid hb
   clear NM hb
   go_wp2_with fail
   go_ret
   refine⟨_,rfl,?_,Nat.le_refl _,dM.out⟩
   have:=uk.out
   rw[Nat.sub_self,List.replicate_zero,List.append_nil] at this
   exact this
section
variable {n m:Nat} {T:DF n m} {U:List Int} {Told:Nat→Prop}
def Ce (T:DF n m) (Told:Nat→Prop) (G x:Nat) (w:World) (e:Ending) (w':World):Prop:=
 ∃(r:Nat) (U':List Int),e= .returned (.int .i64 (r:Int))∧r<n∧Sk T U' Told∧aq w' G U'∧T.bP r x∧¬Told r∧(∀z,z<n→T.bP z x→T.ay r<T.ay z→Told z)∧aF (fun b=>b=G) w w'
set_option maxRecDepth 100000 in
set_option maxHeartbeats 4000000 in
theorem F5 (h:Sk T U Told) {G x:Nat} (hx:x<n) {w:World} (hi:aq w G U):Calls Tryz.prog 104 #[.slice (some ⟨G,0,none⟩) n n,.int .i64 (x:Int)] w (Ce T Told G x w):=by
 have HS:=Nu.hid h
 have HI:=Nu.hid hi
 clear h hi
 go_enter Tryz.func104,Tryz.ntmps104
 go_wp2_with fail
 go_loopw [1] (fun vv wr=>∃(v:Nat) (U':List Int),vv= .int .i64 (v:Int)∧v<n∧Sk T U' Told∧aq wr G U'∧T.bP v x∧(∀z,z<n→T.bP z x→T.ay v<T.ay z→Told z)∧aF (fun b=>b=G) w wr) (fun vv _=>(T.ay (intOf vv).toNat).toNat)
 case atStart=>exact⟨x,U,rfl,hx,HS.out,HI.out,T.refl x hx,fun z hz ha hlt=>by have:=T.le hz hx ha;omega,aF.refl _ _⟩
 case round=>
  obtain⟨v,U',rfl,hv,hsk,Cz,jE,hall,hwr⟩:=hrel
  obtain⟨y,y1,y2,y3,y4,y5⟩:=hsk.up v hv
  have hU:U'[v]? =some (y:Int):=by
   have hl:v<U'.length:=by rw[hsk.len];exact hv
   unfold g at y2
   rw[List.getElem?_eq_getElem hl] at y2 ⊢
   exact congrArg some y2
  have z1:wr.cell? ⟨G,v,none⟩=some (.int .i64 (y:Int)):=Cz.cell hU
  have z2:wr.frozen? ⟨G,v,none⟩=false:=Cz.free v
  have v0:(0:Int)≤(v:Int):=by omega
  have v1:(v:Int)<(n:Int):=by omega
  have w0:(0:Int)≤(y:Int):=by omega
  have w1:(y:Int)<(n:Int):=by omega
  by_cases hne:y=v
  ·subst hne
   have HF:Hid (Ce T Told G x w (.returned (.int .i64 (y:Int))) wr):=⟨y,U',rfl,hv,hsk,Cz,jE,y4 rfl,hall,hwr⟩
   clear hsk Cz jE hall hwr y2 y3 y4 y5 hU
   go_wp2_with fail
   go_ret
   exact HF.out
  ·obtain⟨u,u1,u2,u3,u4,u5⟩:=hsk.up y y1
   have hUy:U'[y]? =some (u:Int):=by
    have hl:y<U'.length:=by rw[hsk.len];exact y1
    unfold g at u2
    rw[List.getElem?_eq_getElem hl] at u2 ⊢
    exact congrArg some u2
   have z3:wr.cell? ⟨G,y,none⟩=some (.int .i64 (u:Int)):=Cz.cell hUy
   have hyb:((y:Int)==(v:Int))=false:=by simp only[beq_eq_false_iff_ne,ne_eq];omega
   have WE:=hsk.short hv y2 hne u2
   have hi':aq (wr.setCell ⟨G,v,none⟩ (.int .i64 (u:Int))) G (U'.set v (u:Int)):=Cz.set v _
   have z4:(wr.setCell ⟨G,v,none⟩ (.int .i64 (u:Int))).cell? ⟨G,v,none⟩=some (.int .i64 (u:Int)):=hi'.cell (by rw[List.getElem?_set,if_pos rfl,if_pos (by rw[hsk.len];exact hv)])
   have hlt:=T.up y1 hv y3 hne
   have hle:=T.le u1 y1 u3
   have h0:=(T.low u u1).1
   have fB:Hid (u<n∧Sk T (U'.set v (u:Int)) Told∧aq (wr.setCell ⟨G,v,none⟩ (.int .i64 (u:Int))) G (U'.set v (u:Int))∧T.bP u x∧(∀z,z<n→T.bP z x→T.ay u<T.ay z→Told z)∧aF (fun b=>b=G) w (wr.setCell ⟨G,v,none⟩ (.int .i64 (u:Int)))):=by
    refine⟨u1,WE,hi',T.trans u3 (T.trans y3 jE),fun z hz ha hlz=> ?_,hwr.setCell rfl _⟩
    by_cases k1:T.ay v<T.ay z
    ·exact hall z hz ha k1
    ·have hzv:=T.cmp hz hv hx ha jE (by omega)
     by_cases k2:T.ay y<T.ay z
     ·exact y5 z hz hzv k2
     ·exact u5 z hz (T.cmp hz y1 hv hzv y3 (by omega)) hlz
   have HM:Hid ((T.ay u).toNat<(T.ay v).toNat):=by show _<_;omega
   clear hsk Cz jE hall hwr y2 y3 y4 y5 hU u2 u3 u4 u5 hUy WE hi' hlt hle h0 hne
   go_wp2_with fail
   go_roundw
   case rel=>exact⟨u,U'.set v (u:Int),rfl,fB.out⟩
   case measure=>
    have:=HM.out
    simpa[intOf] using this
end
end
section
open Go.RowKit Lt
structure mQ (c:Wp) (p j:Nat) (pa:Option Addr) (pc:Nat) (ps:List Int) (W:World):Prop where
 wk:bV c p W
 blk:W.heap[j]? =some (.cells #[.pointer (some ⟨p,0,none⟩),.slice pa c.es.length pc] 80 (0,0))
 mZ:iu W pa c.es.length pc ps
section
variable {c:Wp} {p j:Nat} {pa:Option Addr} {pc:Nat} {ps:List Int} {W V:World}
theorem mQ.later (h:mQ c p j pa pc ps W) (hb:Below W.heap.size W V):mQ c p j pa pc ps V:=⟨h.wk.later hb,(hb.block j (lt_of_block h.blk)).trans h.blk,h.mZ.later hb⟩
theorem mQ.cells (h:mQ c p j pa pc ps W):W.cell? ⟨j,0,none⟩=some (.pointer (some ⟨p,0,none⟩))∧W.cell? ⟨j,1,none⟩=some (.slice pa c.es.length pc):=⟨(az h.blk).1,(az h.blk).2.1⟩
theorem mQ.at (h:mQ c p j pa pc ps W) {e:Nat} (he:e<c.es.length):∃b o,pa=some ⟨b,o,none⟩∧∀V,Below W.heap.size W V→∀i,i<c.es.length→V.cell? ⟨b,o+i,none⟩=some (.int .i64 (ps[i]?.getD 0)):=by
 obtain⟨b,o,e1,-⟩:=bZ h.mZ he
 refine⟨b,o,e1,fun V hV i hi=> ?_⟩
 obtain⟨b',o',e2,d'⟩:=bZ (h.later hV).mZ hi
 rw[e1] at e2
 cases e2
 have hil:i<ps.length:=by rw[h.mZ.len];exact hi
 have hg:ps.getD i (-1)=ps[i]?.getD 0:=by simp[hil]
 rw[←hg]
 exact d'
end
theorem JA {U:World} (B:Nat) (v:Value) (l:List Int) (z:Int) (hR:aS U B v l) (hB:B≤U.heap.size) (g:Nat) (hg:U.heap[g]? =some (.cells #[.int .i64 z] 3 (0,0))) (hl:l.length≤17592186044000):
 ∃v' w',(∀(o:Oper) (ev:Operand→Value) (s x:Operand),o.op= .call { callee:= .builtin .append,args:= #[s,x],argTypes:= #[27,27] }→o.type=27→ev s=v→ev x= .slice (some ⟨g,0,none⟩) 1 1→(execOp ev o).run Tryz.prog U= .ok (.value v') w')∧aS w' B v' (l++[z])∧U.grownBy w' v.ownBlock∧(v'.ownBlock=v.ownBlock∨v'.ownBlock=some U.heap.size):=by
 obtain⟨i1,hi1,hy0,hy1,hy2⟩:=info_parts Tryz.bS
 obtain⟨v',w',hr,h2,h3,_,h5⟩:=run_append_own_at (P:=Tryz.prog) U B 27 27 3 i1 (.int .i64 0) 1 8 Tryz.underlying27 hi1 hy0 hy1 hy2 rfl (by decide) v l.length (l.map (Value.int .i64)) hR ⟨g,0,none⟩ 1 1 [.int .i64 z] rfl (World.news_of_block hg) (by simp[Value.oneCell']) (by unfold maxLen;omega) (by omega) hB
 refine⟨v',w',fun o ev s x ho ht hs hx=> ?_,?_,h3,h5⟩
 ·unfold execOp
  simp only[ho,ht,resolve,invoke,builtin,Sem.run_bind,Sem.run_pure,Result.andThen_ok,List.map_toArray,List.map_cons,List.map_nil,hs,hx,hr]
 ·unfold aS
  rw[List.length_append,List.map_append]
  exact h2
end
section
open Go.RowKit
def Bu.Max (l:List Int) (k:Nat) (m:Int):Prop:=(∃j,j<k∧l[j]? =some m)∧∀(j:Nat) (z:Int),j<k→l[j]? =some z→z≤m
theorem Bu.Max.more {l:List Int} {k:Nat} {m y:Int} (h:Bu.Max l k m) (hy:l[k]? =some y):Bu.Max l (k+1) (if y>m then y else m):=by
 obtain⟨⟨j,hj,e⟩,h2⟩:=h
 by_cases c:y>m
 ·rw[if_pos c]
  refine⟨⟨k,by omega,hy⟩,fun i z hi hz=> ?_⟩
  by_cases hk:i=k
  ·subst hk;rw[hy] at hz;cases hz;exact Int.le_refl _
  ·have:=h2 i z (by omega) hz;omega
 ·rw[if_neg c]
  refine⟨⟨j,by omega,e⟩,fun i z hi hz=> ?_⟩
  by_cases hk:i=k
  ·subst hk;rw[hy] at hz;cases hz;omega
  ·exact h2 i z (by omega) hz
set_option maxRecDepth 100000 in
set_option maxHeartbeats 4000000 in
theorem Pz (ao:Option Addr) (ca n:Nat) (l:List Int) (w:World) (hn:l.length=n) (h0:0<n) (hl:n≤17592186043904) (ha:dc w ao l):
 Calls Tryz.prog 167 #[.slice ao n ca] w fun e w'=>∃m,e= .returned (.int .i64 m)∧Bu.Max l n m∧w'=w:=by
 obtain⟨x,hx⟩:∃x,l[0]? =some x:=⟨_,List.getElem?_eq_getElem (by omega)⟩
 obtain⟨b,o,rfl,c0⟩:=ha 0 x hx
 have HA:=Nu.hid ha
 have HN:=Nu.hid hn
 have HX:=Nu.hid hx
 have i0:(0:Int)<(n:Int):=by omega
 have i1:¬((n:Int)<1):=by omega
 rw[Nat.add_zero] at c0
 clear ha hn hx
 go_enter Tryz.func167,Tryz.ntmps167
 go_wp2
 go_loopw [3,4] (fun mv c wr=>∃(k:Nat) (m:Int),0<k∧k≤n∧c= .int .i64 k∧mv= .int .i64 m∧Bu.Max l k m∧wr=w) (fun _ c _=>n-(intOf c).toNat)
 case atStart=>exact⟨1,x,by omega,by omega,rfl,rfl,⟨⟨0,by omega,HX.out⟩,fun j z hj hz=>by
  obtain rfl:j=0:=by omega
  rw[HX.out] at hz
  cases hz
  exact Int.le_refl _⟩,rfl⟩
 case round=>
  obtain⟨k,m,hk0,hk,rfl,rfl,hm,rfl⟩:=hrel
  have HM:=Nu.hid hm
  clear hm
  by_cases hlt:k<n
  ·have oA:(k:Int)<(n:Int):=by omega
   have hki:(0:Int)≤(k:Int):=by omega
   obtain⟨y,hy⟩:∃y,l[k]? =some y:=⟨_,List.getElem?_eq_getElem (by have:=HN.out;omega)⟩
   obtain⟨b',o',e',ck⟩:=HA.out k y hy
   cases e'
   have HY:=Nu.hid hy
   clear hy
   obtain⟨q,hq⟩:∃q,q=(if y>m then y else m):=⟨_,rfl⟩
   have HQ:=Nu.hid (HM.out.more HY.out)
   rw[←hq] at HQ
   go_wp2
   rw[←hq]
   go_roundw
   case rel=>exact⟨k+1,q,by omega,by omega,by go_num,rfl,HQ.out,trivial⟩
   case measure=>simp[intOf];omega
  ·have hd:¬((k:Int)<(n:Int)):=by omega
   obtain rfl:k=n:=by omega
   go_wp2
   go_ret
   exact⟨m,rfl,HM.out,rfl⟩
end
section
open Go.RowKit
structure Bu.FK (ks:List Int) (i K:Nat) (C:List Int):Prop where
 len:C.length=K
 put:∀k,k<K→C[k]? =some ((ks.take i).count (k:Int):Int)
theorem Bu.FK.start (ks:List Int) (K:Nat):Bu.FK ks 0 K (List.replicate K 0):=⟨by simp,fun k hk=>by simp[hk]⟩
theorem Bu.FK.step {ks:List Int} {i K k:Nat} {C:List Int} (h:Bu.FK ks i K C) (hi:ks[i]? =some (k:Int)) (hk:k<K):Bu.FK ks (i+1) K (C.set k (((ks.take i).count (k:Int):Int)+1)):=by
 refine⟨by rw[List.length_set];exact h.len,fun j hj=> ?_⟩
 rw[List.getElem?_set,Bu.iJ hi]
 by_cases e:k=j
 ·subst e
  rw[if_pos rfl,if_pos (by rw[h.len];exact hk),if_pos rfl]
  simp
 ·rw[if_neg e,if_neg (by omega),h.put j hj]
  simp
def TJ (m0:Int) (ks:List Int) (w:World) (e:Ending) (w':World):Prop:=
 (ks=[]∧e= .returned (.slice none 0 0)∧w'=w)∨
 ∃(g K:Nat) (C:List Int),0<ks.length∧e= .returned (.slice (some ⟨g,0,none⟩) K K)∧w.heap.size≤g∧g<w'.heap.size∧aB w' g C∧Bu.FK ks ks.length K C∧(K:Int)≤m0+1∧(∀z∈ks,z<(K:Int))∧Below w.heap.size w w'
set_option maxRecDepth 100000 in
set_option maxHeartbeats 4000000 in
theorem Ir (ao:Option Addr) (ca n:Nat) (ks:List Int) (w:World) (hn:ks.length=n) (hl:n≤17592186043904) (ha:dc w ao ks) (m0:Int) (hm0:m0≤4194304) (hin:Bu.In m0 ks):
 Calls Tryz.prog 159 #[.slice ao n ca] w (TJ m0 ks w):=by
 by_cases h0:n=0
 ·subst h0
  go_enter Tryz.func159,Tryz.ntmps159
  go_wp2
  go_ret
  exact .inl ⟨List.length_eq_zero_iff.1 hn,rfl,rfl⟩
 obtain⟨i0,hi,hz0,hz1,hz2⟩:=info_parts Tryz.bS
 have HM:=Nu.hid (Pz ao ca n ks w hn (by omega) hl ha)
 have HA:=Nu.hid ha
 have HN:=Nu.hid hn
 have mW:=Nu.hid hin
 have j0:((n:Int)==0)=false:=by simp;omega
 clear ha hn hin
 go_enter Tryz.func159,Tryz.ntmps159
 go_wp2_with (go_at_call 167;refine HM.out.mono ?_;rintro e w1 ⟨m,rfl,hm,hw1⟩;obtain rfl:=hw1.symm;have HMX:=Nu.hid hm;clear hm;refine Hid.out ?_)
 refine Nu.hid ?_
 have hmb:0≤m∧m≤m0:=by
  obtain⟨⟨j,hj,e⟩,-⟩:=HMX.out
  exact mW.out m (List.mem_of_getElem? e)
 obtain⟨M,rfl⟩:∃M:Nat,m=(M:Int):=⟨m.toNat,by omega⟩
 have lM:Hid (∀z∈ks,z<((M+1:Nat):Int)):=fun z hz=>by
  obtain⟨j,hj,rfl⟩:=List.getElem_of_mem hz
  have:=HMX.out.2 j _ (by have:=HN.out;omega) (List.getElem?_eq_getElem hj)
  omega
 clear HM
 go_wp2_with (at_make;refine wpList_make_full _ rfl _ _ 27 rfl w.heap.size 3 i0 (.int .i64 0) 1 Tryz.underlying27 hi hz0 hz1 _ _ _ _ (M+1) rfl rfl rfl rfl (by rw[hz2];omega) (by unfold maxLen;omega) (Nat.le_refl _) ?_;refine Hid.out ?_)
 refine Nu.hid ?_
 intro w2 hrow hg2
 rw[cD] at hrow
 have hik:=(dy hrow).ins
 have hb2:Below w.heap.size w w2:=(Below.refl _ _).grown hg2 (Nat.le_refl _) (fun j hj=>by cases hj)
 have fY:=Nu.hid hik
 have cz:=Nu.hid hb2
 clear hrow hg2 hik hb2
 obtain⟨K,hK⟩:∃K,M+1=K:=⟨_,rfl⟩
 rw[hK] at fY lM ⊢
 have xq:Hid ((K:Int)≤m0+1):=by show _≤_;omega
 have hK2:K≤4194305:=by omega
 clear hK hmb
 go_wp2
 go_loopw [15] (fun c wr=>∃(i:Nat) (C:List Int),i≤n∧c= .int .i64 i∧Bu.FK ks i K C∧aB wr w.heap.size C∧Below w.heap.size w wr) (fun c _=>n-(intOf c).toNat)
 case atStart=>exact⟨0,_,Nat.zero_le _,rfl,Bu.FK.start ks K,fY.out,cz.out⟩
 case round=>
  obtain⟨i,C,hin,rfl,hC,CB,hb⟩:=hrel
  have hsz:=CB.lt
  have HC:=Nu.hid hC
  have HIC:=Nu.hid CB
  have HB:=Nu.hid hb
  by_cases hlt:i<n
  ·have hk0:(0:Int)≤(i:Int):=by omega
   have hk1:(i:Int)<(n:Int):=by omega
   obtain⟨x,hx⟩:∃x,ks[i]? =some x:=⟨_,List.getElem?_eq_getElem (by have:=HN.out;omega)⟩
   have hx0:=mW.out x (List.mem_of_getElem? hx)
   have hx1:=lM.out x (List.mem_of_getElem? hx)
   obtain⟨k,rfl⟩:∃k:Nat,x=(k:Int):=⟨x.toNat,by omega⟩
   have Ux:k<K:=by omega
   obtain⟨b,o,rfl,c0⟩:=(HA.out.later HB.out) i _ hx
   have oC:=hC.put k Ux
   have hcl:((ks.take i).count (k:Int))≤i:=Nat.le_trans List.count_le_length (by simp;omega)
   have jL:=Nu.hid (hC.step hx Ux)
   obtain⟨q,hq⟩:∃q,(ks.take i).count (k:Int)=q:=⟨_,rfl⟩
   rw[hq] at oC hcl jL
   have BW:=Nu.hid (CB.set (i:=k) (by rw[hC.len];exact Ux) ((q:Int)+1))
   have I0:=Nu.hid (hb.setCell (p:=⟨w.heap.size,k,none⟩) (Nat.le_refl _) (.int .i64 ((q:Int)+1)))
   have c1:=CB.cell oC
   have f1:=CB.free k
   have k0:(0:Int)≤(k:Int):=by omega
   have k1:(k:Int)<(K:Int):=by omega
   clear hC CB hb hx oC hq
   go_wp2
   go_roundw
   case rel=>exact⟨i+1,_,by omega,by go_num,jL.out,BW.out,I0.out⟩
   case measure=>simp[intOf];omega
  ·have hd:¬((i:Int)<(n:Int)):=by omega
   obtain rfl:i=n:=by omega
   clear hC CB hb
   go_wp2
   go_ret
   exact .inr ⟨w.heap.size,K,C,by have:=HN.out;omega,rfl,Nat.le_refl _,hsz,HIC.out,by rw[HN.out];exact HC.out,xq.out,lM.out,HB.out⟩
end
section
open Go.RowKit
structure Bu.I3 (ks:List Int) (i K:Nat) (F:List Int):Prop where
 len:F.length=K
 put:∀k,k<K→F[k]? =some ((Bu.less ks (k:Int)+(ks.take i).count (k:Int):Nat):Int)
theorem Bu.I3.step {ks:List Int} {i K k:Nat} {F:List Int} (h:Bu.I3 ks i K F) (hi:ks[i]? =some (k:Int)) (hk:k<K):Bu.I3 ks (i+1) K (F.set k ((Bu.rk ks i:Int)+1)):=by
 refine⟨by rw[List.length_set];exact h.len,fun j hj=> ?_⟩
 rw[List.getElem?_set,Bu.iJ hi,Bu.wh hi]
 by_cases e:k=j
 ·subst e
  rw[if_pos rfl,if_pos (by rw[h.len];exact hk),if_pos rfl]
  congr 1
 ·rw[if_neg e,if_neg (by omega),h.put j hj]
  congr 1
structure Bu.Half (ks:List Int) (k K:Nat) (F:List Int):Prop where
 len:F.length=K
 lo:∀j,j<k→F[j]? =some (Bu.less ks (j:Int):Int)
 hi:∀j,k≤j→j<K→F[j]? =some (ks.count (j:Int):Int)
theorem Bu.Half.step {ks:List Int} {k K:Nat} {F:List Int} (h:Bu.Half ks k K F) (hk:k<K):Bu.Half ks (k+1) K (F.set k (Bu.less ks (k:Int):Int)):=by
 refine⟨by rw[List.length_set];exact h.len,fun j hj=> ?_,fun j hj hjK=> ?_⟩
 ·rw[List.getElem?_set]
  by_cases e:k=j
  ·subst e;rw[if_pos rfl,if_pos (by rw[h.len];exact hk)]
  ·rw[if_neg e,h.lo j (by omega)]
 ·rw[List.getElem?_set,if_neg (by omega),h.hi j (by omega) hjK]
def Vj (ks:List Int) (w:World) (e:Ending) (w':World):Prop:=
 ∃g:Nat,e= .returned (.slice (some ⟨g,0,none⟩) ks.length ks.length)∧w.heap.size≤g∧aq w' g (Bu.pz ks)∧Below w.heap.size w w'
theorem aq.other {w:World} {g:Nat} {l:List Int} (h:aq w g l) {b i:Nat} (hb:g≠b) (x:Value):aq (w.setCell ⟨b,i,none⟩ x) g l:=(heap_setCell_other w ⟨b,i,none⟩ g x hb).trans h
theorem qw {α:Type} {l R:List α} {i:Nat} {x:α} (hl:R.length=l.length) (h:∀j,j<i→R[j]? =l[j]?) (hx:l[i]? =some x):∀j,j<i+1→(R.set i x)[j]? =l[j]? :=fun j hj=>by
 have hil:=(List.getElem?_eq_some_iff.1 hx).1
 rw[List.getElem?_set]
 by_cases e:i=j
 ·subst e;rw[if_pos rfl,if_pos (by omega),hx]
 ·rw[if_neg e,h j (by omega)]
set_option maxRecDepth 100000 in
set_option maxHeartbeats 8000000 in
theorem JG (ao:Option Addr) (ca n:Nat) (ks:List Int) (w:World) (hn:ks.length=n) (hl:n≤17592186043904) (ha:dc w ao ks) (hin:Bu.In 4194304 ks):
 Calls Tryz.prog 143 #[.slice ao n ca] w (Vj ks w):=by
 obtain⟨i0,hi,hz0,hz1,hz2⟩:=info_parts Tryz.bS
 have HM:=Nu.hid (Ir ao ca n ks w hn hl ha 4194304 (by decide) hin)
 have HA:=Nu.hid ha
 have HN:=Nu.hid hn
 have mW:=Nu.hid hin
 clear ha hn hin
 by_cases h0:n=0
 ·subst h0
  have Tc:Hid (Calls Tryz.prog 159 #[.slice ao 0 ca] w fun e w'=>e= .returned (.slice none 0 0)∧w'=w):=HM.out.mono (by
   rintro e w1 (⟨-,h1,h2⟩|⟨g,K,C,h1,-⟩)
   ·exact⟨h1,h2⟩
   ·have:=HN.out;omega)
  clear HM
  go_enter Tryz.func143,Tryz.ntmps143
  go_wp2_with (go_at_call 159;refine Tc.out.mono ?_;rintro e w1 ⟨rfl,hw1⟩;obtain rfl:=hw1.symm;refine Hid.out ?_)
  refine Nu.hid ?_
  go_wp2
  go_loopw [4,14] (fun a c wr=>c= .int .i64 0∧wr=w) (fun _ c _=>0)
  case atStart=>exact⟨rfl,rfl⟩
  case round=>
   obtain⟨rfl,rfl⟩:=hrel
   go_wp2_with (at_make;refine wpList_make_full _ rfl _ _ 27 rfl wr.heap.size 3 i0 (.int .i64 0) 1 Tryz.underlying27 hi hz0 hz1 _ _ _ _ 0 rfl rfl rfl rfl (by rw[hz2];omega) (by unfold maxLen;omega) (Nat.le_refl _) ?_;refine Hid.out ?_)
   refine Nu.hid ?_
   intro w2 hrow hg2
   rw[cD] at hrow
   have fY:=Nu.hid (dy hrow)
   have cz:Hid (Below wr.heap.size wr w2):=(Below.refl _ _).grown hg2 (Nat.le_refl _) (fun j hj=>by cases hj)
   clear hrow hg2
   go_wp2
   go_loopw [32] (fun c wx=>c= .int .i64 0∧wx=w2) (fun c _=>0)
   case atStart=>exact⟨rfl,rfl⟩
   case round=>
    obtain⟨rfl,rfl⟩:=hrel
    go_wp2
    go_ret
    refine⟨_,by rw[HN.out];rfl,Nat.le_refl _,?_,cz.out⟩
    have:Bu.pz ks=[]:=List.length_eq_zero_iff.1 (by rw[Bu.nH,HN.out])
    rw[this]
    exact fY.out
 ·have Tc:Hid (Calls Tryz.prog 159 #[.slice ao n ca] w fun e w'=>∃(g K:Nat) (C:List Int),e= .returned (.slice (some ⟨g,0,none⟩) K K)∧w.heap.size≤g∧g<w'.heap.size∧aB w' g C∧Bu.FK ks ks.length K C∧(K:Int)≤4194304+1∧(∀z∈ks,z<(K:Int))∧Below w.heap.size w w'):=HM.out.mono (by
   rintro e w1 (⟨h1,-⟩|⟨g,K,C,-,h⟩)
   ·exact absurd (by rw[←HN.out,h1];rfl) h0
   ·exact⟨g,K,C,h⟩)
  clear HM
  go_enter Tryz.func143,Tryz.ntmps143
  go_wp2_with (go_at_call 159;refine Tc.out.mono ?_;rintro e w1 ⟨g,K,C,rfl,hg,mJ,CB,hC,hK,xR,hb1⟩;refine Hid.out ?_)
  refine Nu.hid ?_
  have lM:=Nu.hid xR
  have aV:=Nu.hid hb1
  have H0:Hid (Bu.Half ks 0 K C):=⟨hC.len,fun j hj=>by omega,fun j _ hj=>by have:=hC.put j hj;rw[List.take_length] at this;exact this⟩
  have Yk:=Nu.hid CB
  have HZ:Hid (Bu.less ks 0=0):=Bu.JT mW.out
  clear xR hb1 hC CB Tc
  go_wp2
  go_loopw [4,14] (fun a c wr=>∃(k:Nat) (F:List Int),k≤K∧c= .int .i64 k∧a= .int .i64 (Bu.less ks (k:Int):Int)∧Bu.Half ks k K F∧aB wr g F∧Below w.heap.size w wr) (fun _ c _=>K-(intOf c).toNat)
  case atStart=>exact⟨0,C,Nat.zero_le _,rfl,by rw[show((0:Nat):Int)=0 by rfl,HZ.out];rfl,H0.out,Yk.out,aV.out⟩
  case round=>
   obtain⟨k,F,Ux,rfl,rfl,hF,yD,hb⟩:=hrel
   have hsz:=yD.lt
   have HF:=Nu.hid hF
   have HIF:=Nu.hid yD
   have HB:=Nu.hid hb
   have eH:=Bu.GG ks (k:Int)
   rw[HN.out] at eH
   by_cases hlt:k<K
   ·have hk0:(0:Int)≤(k:Int):=by omega
    have hk1:(k:Int)<(K:Int):=by omega
    have oC:=hF.hi k (Nat.le_refl _) hlt
    have hcl:ks.count (k:Int)≤n:=by rw[←HN.out];exact List.count_le_length
    have jL:=Nu.hid (hF.step hlt)
    have hls:=Bu.Ap ks (k:Int)
    obtain⟨q,hq⟩:∃q,ks.count (k:Int)=q:=⟨_,rfl⟩
    obtain⟨r,hr⟩:∃r,Bu.less ks (k:Int)=r:=⟨_,rfl⟩
    rw[hq] at oC hcl hls
    rw[hr] at eH hls jL ⊢
    have HLS:Hid (Bu.less ks ((k+1:Nat):Int)=r+q):=by
     have e:((k+1:Nat):Int)=(k:Int)+1:=by omega
     show _=_
     rw[e]
     exact hls
    have BW:=Nu.hid (yD.set (i:=k) (by rw[hF.len];exact hlt) (r:Int))
    have I0:=Nu.hid (hb.setCell (p:=⟨g,k,none⟩) (by exact hg) (.int .i64 (r:Int)))
    have c1:=yD.cell oC
    have f1:=yD.free k
    clear hF yD hb oC hq hr hls
    go_wp2
    go_roundw
    case rel=>exact⟨k+1,_,by omega,by go_num,by rw[HLS.out];go_num,jL.out,BW.out,I0.out⟩
    case measure=>simp[intOf];omega
   ·have hd:¬((k:Int)<(K:Int)):=by omega
    obtain rfl:k=K:=by omega
    have H1:Hid (Bu.I3 ks 0 k F):=⟨hF.len,fun j hj=>by rw[hF.lo j hj];simp⟩
    clear hF yD hb
    go_wp2_with (at_make;refine wpList_make_full _ rfl _ _ 27 rfl wr.heap.size 3 i0 (.int .i64 0) 1 Tryz.underlying27 hi hz0 hz1 _ _ _ _ n rfl rfl rfl rfl (by rw[hz2];omega) (by unfold maxLen;omega) (Nat.le_refl _) ?_;refine Hid.out ?_)
    refine Nu.hid ?_
    intro w2 hrow hg2
    rw[cD] at hrow
    have fY:=Nu.hid (dy hrow)
    have hb2:Below wr.heap.size wr w2:=(Below.refl _ _).grown hg2 (Nat.le_refl _) (fun j hj=>by cases hj)
    have afH:=Nu.hid (HIF.out.later hb2)
    have cz:=Nu.hid (HB.out.trans (hb2.mono HB.out.size))
    have hsw:=HB.out.size
    obtain⟨G,hG⟩:∃G,G=wr.heap.size:=⟨_,rfl⟩
    rw[←hG] at fY hsz hsw ⊢
    have hgG:g≠G:=by omega
    have hGg:G≠g:=by omega
    clear hrow hg2 hb2 HIF H0 Yk hG
    go_wp2
    go_loopw [32] (fun c wx=>∃(i:Nat) (F R:List Int),i≤n∧c= .int .i64 i∧Bu.I3 ks i k F∧R.length=n∧(∀j,j<i→R[j]? =(Bu.pz ks)[j]?)∧aB wx g F∧aq wx G R∧Below w.heap.size w wx) (fun c _=>n-(intOf c).toNat)
    case atStart=>exact⟨0,F,_,Nat.zero_le _,rfl,H1.out,by simp,fun j hj=>by omega,afH.out,fY.out,cz.out⟩
    case round=>
     obtain⟨i,F',R,hin,rfl,hF,CM,hR,yD,CA,hb⟩:=hrel
     have HR:=Nu.hid hR
     have OG:=Nu.hid CA
     have dM:=Nu.hid hb
     by_cases hlt:i<n
     ·have hk0:(0:Int)≤(i:Int):=by omega
      have hk1:(i:Int)<(n:Int):=by omega
      obtain⟨x,hx⟩:∃x,ks[i]? =some x:=⟨_,List.getElem?_eq_getElem (by have:=HN.out;omega)⟩
      have hx0:=mW.out x (List.mem_of_getElem? hx)
      have hx1:=lM.out x (List.mem_of_getElem? hx)
      obtain⟨z,rfl⟩:∃z:Nat,x=(z:Int):=⟨x.toNat,by omega⟩
      have J3:z<k:=by omega
      obtain⟨b,o,rfl,c0⟩:=(HA.out.later dM.out) i _ hx
      have oC:=hF.put z J3
      rw[←Bu.wh hx] at oC
      have hrl:=Bu.EB (ks:=ks) (i:=i) (by rw[HN.out];exact hlt)
      rw[HN.out] at hrl
      have Kf:=Bu.Dp (ks:=ks) (i:=i) (by rw[HN.out];exact hlt)
      have jL:=Nu.hid (hF.step hx J3)
      obtain⟨q,hq⟩:∃q,Bu.rk ks i=q:=⟨_,rfl⟩
      rw[hq] at oC hrl jL Kf
      obtain⟨y,hy⟩:∃y,R[i]? =some y:=⟨_,List.getElem?_eq_getElem (by omega)⟩
      have su:=Nu.hid (qw (by rw[CM,Bu.nH,HN.out]) hR Kf)
      have c1:=yD.cell oC
      have c2:=CA.cell hy
      have f2:=CA.free i
      have hF2:=yD.other (i:=i) hgG (.int .i64 (q:Int))
      have hR2:=CA.set i (q:Int)
      have c3:=hF2.cell oC
      have f3:=hF2.free z
      have Tr:=Nu.hid (hF2.set (i:=z) (by rw[hF.len];exact J3) ((q:Int)+1))
      have SR:=Nu.hid (hR2.other (i:=z) hGg (.int .i64 ((q:Int)+1)))
      have gJ:=Nu.hid ((hb.setCell (p:=⟨G,i,none⟩) (by show _≤G;omega) (.int .i64 (q:Int))).setCell (p:=⟨g,z,none⟩) (by exact hg) (.int .i64 ((q:Int)+1)))
      have z0:(0:Int)≤(z:Int):=by omega
      have z1:(z:Int)<(k:Int):=by omega
      have SQ:Hid ((R.set i (q:Int)).length=n):=by show _=_;simp[CM]
      clear hF yD CA hb hR hx oC hq Kf hy hF2 hR2
      go_wp2
      go_roundw
      case rel=>exact⟨i+1,_,_,by omega,by go_num,jL.out,SQ.out,su.out,Tr.out,SR.out,gJ.out⟩
      case measure=>simp[intOf];omega
     ·have hd:¬((i:Int)<(n:Int)):=by omega
      obtain rfl:i=n:=by omega
      clear hF yD CA hb
      go_wp2
      go_ret
      refine⟨G,by rw[HN.out];rfl,hsw,?_,dM.out⟩
      have e:R=Bu.pz ks:=List.ext_getElem? fun j=>by
       by_cases hj:j<i
       ·exact HR.out j hj
       ·rw[List.getElem?_eq_none (by omega),List.getElem?_eq_none (by rw[Bu.nH,HN.out];omega)]
      rw[←e]
      exact OG.out
end
end Go.Proofs.YtnhcggfbkoppnaaGreat
