import Derived.Test.YtnhcggfbkoppnaaGreatMg39
import Derived.Test.YtnhcggfbkoppnaaGreatMg11
import Derived.Test.YtnhcggfbkoppnaaGreatMg38
import Derived.Test.YtnhcggfbkoppnaaGreatMg22
import Derived.Test.YtnhcggfbkoppnaaGreatMg25
import Derived.Test.YtnhcggfbkoppnaaGreatMg36
import Derived.Test.YtnhcggfbkoppnaaGreatMg09
import Derived.Test.YtnhcggfbkoppnaaGreatMg05
import Derived.Test.YtnhcggfbkoppnaaGreatMg10
import Derived.Test.YtnhcggfbkoppnaaGreatMg07
import Derived.Test.YtnhcggfbkoppnaaGreatMg01
import Derived.Test.YtnhcggfbkoppnaaGreatMg04
import Derived.Deep.Slices
namespace Go.Proofs.YtnhcggfbkoppnaaGreat
section
open Lt Pl
namespace Lw
open Df
def iI:List (Int×Int):=[(0,1),(0,2),(0,3),(1,2),(1,3),(2,3)]
def s4:St:=⟨[-1,0,6,10],[0,1,2,3],[0,1,2,3],[0,3,5,6,9,10]⟩
def gQ:List (Int×Int):=[(0,1),(0,2),(0,3),(0,4),(1,2),(1,3),(1,4),(2,3),(2,4),(3,4)]
def p4:List Int:=[0,1,1,0,-1,0]
theorem is4:iW 4 4=iI:=by decide
theorem is5:iW 5 5=gQ:=by decide
theorem ng:Si.Val (4:Nat) iI:=by
 refine⟨by decide,by decide,by decide,fun j p hj=> ?_,fun j p q hp hq=> ?_⟩
 ·match j,hj with
  |0,hj=>cases hj;unfold Si.ok;decide
  |1,hj=>cases hj;unfold Si.ok;decide
  |2,hj=>cases hj;unfold Si.ok;decide
  |3,hj=>cases hj;unfold Si.ok;decide
  |4,hj=>cases hj;unfold Si.ok;decide
  |5,hj=>cases hj;unfold Si.ok;decide
 ·match j,hp,hq with
  |0,hp,hq=>cases hp;cases hq;unfold Si.lt;decide
  |1,hp,hq=>cases hp;cases hq;unfold Si.lt;decide
  |2,hp,hq=>cases hp;cases hq;unfold Si.lt;decide
  |3,hp,hq=>cases hp;cases hq;unfold Si.lt;decide
  |4,hp,hq=>cases hp;cases hq;unfold Si.lt;decide
theorem FM:Si.Val (5:Nat) gQ:=by
 refine⟨by decide,by decide,by decide,fun j p hj=> ?_,fun j p q hp hq=> ?_⟩
 ·match j,hj with
  |0,hj=>cases hj;unfold Si.ok;decide
  |1,hj=>cases hj;unfold Si.ok;decide
  |2,hj=>cases hj;unfold Si.ok;decide
  |3,hj=>cases hj;unfold Si.ok;decide
  |4,hj=>cases hj;unfold Si.ok;decide
  |5,hj=>cases hj;unfold Si.ok;decide
  |6,hj=>cases hj;unfold Si.ok;decide
  |7,hj=>cases hj;unfold Si.ok;decide
  |8,hj=>cases hj;unfold Si.ok;decide
  |9,hj=>cases hj;unfold Si.ok;decide
 ·match j,hp,hq with
  |0,hp,hq=>cases hp;cases hq;unfold Si.lt;decide
  |1,hp,hq=>cases hp;cases hq;unfold Si.lt;decide
  |2,hp,hq=>cases hp;cases hq;unfold Si.lt;decide
  |3,hp,hq=>cases hp;cases hq;unfold Si.lt;decide
  |4,hp,hq=>cases hp;cases hq;unfold Si.lt;decide
  |5,hp,hq=>cases hp;cases hq;unfold Si.lt;decide
  |6,hp,hq=>cases hp;cases hq;unfold Si.lt;decide
  |7,hp,hq=>cases hp;cases hq;unfold Si.lt;decide
  |8,hp,hq=>cases hp;cases hq;unfold Si.lt;decide
theorem Ja:Wk 4 iI 4 s4:=by
 obtain⟨k1,h1⟩:=LI (es:=iI) 30 (s:=(St.start 4 iI.length).reach 0 (-1) 0) (L:=Cs.out iI 0 (2*iI.length)) (s':=s4) (by decide)
 exact .pass (.pass (.pass (.walk .zero (by decide) h1) (by decide)) (by decide)) (by decide)
theorem Cj:VF 4 iI s4:=Ja.vf ng
theorem YK:gN iI s4 p4:=by
 refine⟨by decide,fun e he=> ?_⟩
 match e,he with
 |0,_=>decide
 |1,_=>decide
 |2,_=>decide
 |3,_=>decide
 |4,_=>decide
 |5,_=>decide
theorem Fp {b:Nat} (hb:b<6) (tb:Lo.tree iI s4 b=false):b=1∨b=2∨b=4:=by
 match b,hb with
 |0,_=>exact absurd tb (by decide)
 |1,_=>exact .inl rfl
 |2,_=>exact .inr (.inl rfl)
 |3,_=>exact absurd tb (by decide)
 |4,_=>exact .inr (.inr rfl)
 |5,_=>exact absurd tb (by decide)
theorem Xm:at_ s4.ay (Lo.bJ iI s4 1)=0∧at_ s4.ay (Lo.bJ iI s4 2)=0∧at_ s4.ay (Lo.bJ iI s4 4)=1:=by decide
theorem lr4 (sd:Nat→Bool):(Lr.df ng Cj).LR sd:=by
 have h0:∀{b f:Nat},b<6→Lo.tree iI s4 b=false→(Lr.df ng Cj).lA b f→b=4:=fun {b f} hb tb ⟨d,hd,hlt⟩=>by
  have wO:=((Lr.df ng Cj).low _ ((Lr.df ng Cj).lt d hd.1).2).1
  have h4:=Xm
  have e1:(Lr.df ng Cj).ay ((Lr.df ng Cj).go b)=at_ s4.ay (Lo.bJ iI s4 b):=rfl
  rw[e1] at hlt
  rcases Fp hb tb with rfl|rfl|rfl
  ·omega
  ·omega
  ·rfl
 refine⟨fun {e f b c} he hf hne hfr hb hc ab ac=> ?_,fun {e f b c} he hf hne hfr hb ab hc ac=> ?_⟩
 ·rw[h0 hb.1 hb.2.1 ab,h0 hc.1 hc.2.1 ac]
 ·exfalso
  obtain rfl:=h0 hb.1 hb.2.1 ab
  obtain rfl:=h0 hc.1 hc.2.1 ac
  have key:∀{x:Nat},x<6→(Lr.df ng Cj).aY x 4→x=4∨x=5:=fun {x} hx hr=>by
   rcases hr.2.2 with q|⟨q1,_,q3⟩
   ·exact .inl q
   ·have JH:Lo.tree iI s4 x=true:=q1
    have q3':at_ s4.ay (Lo.bJ iI s4 4)<at_ s4.ay (Lo.fr iI s4 x):=q3
    match x,hx with
    |0,_=>exact absurd q3' (by decide)
    |1,_=>exact absurd JH (by decide)
    |2,_=>exact absurd JH (by decide)
    |3,_=>exact absurd q3' (by decide)
    |4,_=>exact .inl rfl
    |5,_=>exact .inr rfl
  have Xl:Lo.fr iI s4 e=Lo.fr iI s4 f:=hfr
  rcases key he hb with rfl|rfl<;>rcases key hf hc with rfl|rfl
  ·exact hne rfl
  ·exact absurd Xl (by decide)
  ·exact absurd Xl (by decide)
  ·exact hne rfl
theorem al4:(Lr.df ng Cj).Aligned (kF p4):=by
 intro e b c he te hb hc
 have hh:=DF.PC hb hc
 have h4:=Xm
 have e1:at_ s4.ay (Lo.bJ iI s4 b)=at_ s4.ay (Lo.bJ iI s4 c):=hh
 rcases Fp hb.1.1 hb.1.2.1 with rfl|rfl|rfl<;>rcases Fp hc.1.1 hc.1.2.1 with rfl|rfl|rfl<;>first|rfl|omega
theorem Yy {s:St} {r:Option (List Int)} (hs:Wk 4 iI 4 s) (h:fE 4 iI s r):r.isSome=true:=by
 obtain rfl:=hs.unique Ja
 obtain⟨r',h1,h2⟩:=fE.ex ng Cj
 obtain rfl:=h.unique h1
 rcases h2 with ⟨_,q⟩|⟨sd,q,_⟩
 ·exact absurd (lr4 fun _=>true) (q _)
 ·rw[q];rfl
def s5:St:=⟨[-1,0,8,14,18],[0,1,2,3,4],[0,1,2,3,4],[0,3,5,7,8,11,13,14,17,18]⟩
theorem OS:Wk 5 gQ 5 s5:=by
 obtain⟨k1,h1⟩:=LI (es:=gQ) 40 (s:=(St.start 5 gQ.length).reach 0 (-1) 0) (L:=Cs.out gQ 0 (2*gQ.length)) (s':=s5) (by decide)
 exact .pass (.pass (.pass (.pass (.walk .zero (by decide) h1) (by decide)) (by decide)) (by decide)) (by decide)
theorem Yw:VF 5 gQ s5:=OS.vf FM
theorem no5 (sd:Nat→Bool):¬(Lr.df FM Yw).LR sd:=fun h=>by
 obtain⟨T,hT⟩:∃T,T=Lr.df FM Yw:=⟨_,rfl⟩
 rw[←hT] at h
 have ht:∀e,T.tree e=Lo.tree gQ s5 e:=fun e=>by rw[hT];rfl
 have hf:∀e,T.fr e=Lo.fr gQ s5 e:=fun e=>by rw[hT];rfl
 have hg:∀e,T.go e=Lo.bJ gQ s5 e:=fun e=>by rw[hT];rfl
 have hh:∀z,T.ay z=at_ s5.ay z:=fun z=>by rw[hT];rfl
 have own:∀b,b<gQ.length→Lo.tree gQ s5 b=false→T.aY b b:=fun b hb tb=>⟨hb,by rw[ht];exact tb,.inl rfl⟩
 have r9:∀b,b<gQ.length→Lo.tree gQ s5 b=false→Lo.fr gQ s5 b=4→at_ s5.ay (Lo.bJ gQ s5 b)<3→T.aY 9 b:=fun b hb tb fb lb=>by
  refine⟨hb,by rw[ht];exact tb,.inr ⟨by rw[ht];decide,?_,?_⟩⟩
  ·rw[hg,hf,fb,show Lo.bJ gQ s5 9=4 by decide]
   exact T.refl 4 (by decide)
  ·rw[hg,hf,hh,hh,show at_ s5.ay (Lo.fr gQ s5 9)=3 by decide]
   exact lb
 have a34:T.bP 3 4:=by
  have:=(T.dP 9 (by decide) (by rw[ht];decide)).2
  rw[hf,hg,show Lo.fr gQ s5 9=3 by decide,show Lo.bJ gQ s5 9=4 by decide] at this
  exact this
 have r7:∀b,b<gQ.length→Lo.tree gQ s5 b=false→(Lo.fr gQ s5 b=3∨Lo.fr gQ s5 b=4)→at_ s5.ay (Lo.bJ gQ s5 b)<2→T.aY 7 b:=fun b hb tb fb lb=>by
  refine⟨hb,by rw[ht];exact tb,.inr ⟨by rw[ht];decide,?_,?_⟩⟩
  ·rw[hg,hf,show Lo.bJ gQ s5 7=3 by decide]
   rcases fb with q|q<;>rw[q]
   ·exact T.refl 3 (by decide)
   ·exact a34
  ·rw[hg,hf,hh,hh,show at_ s5.ay (Lo.fr gQ s5 7)=2 by decide]
   exact lb
 have ab:∀b f c,T.aY f c→at_ s5.ay (Lo.bJ gQ s5 c)<at_ s5.ay (Lo.bJ gQ s5 b)→T.lA b f:=fun b f c hc hlt=>⟨c,hc,by rw[hg,hg,hh,hh];exact hlt⟩
 have n5:=own 5 (by decide) (by decide)
 have q1:sd 6=sd 8:=h.same (e:=9) (f:=2) (by decide) (by decide) (by decide) (by rw[hf,hf];decide) (r9 6 (by decide) (by decide) (by decide) (by decide)) (r9 8 (by decide) (by decide) (by decide) (by decide)) (ab 6 2 2 (own 2 (by decide) (by decide)) (by decide)) (ab 8 2 2 (own 2 (by decide) (by decide)) (by decide))
 have q2:sd 8≠sd 5:=h.yY (e:=9) (f:=5) (by decide) (by decide) (by decide) (by rw[hf,hf];decide) (r9 8 (by decide) (by decide) (by decide) (by decide)) (ab 8 5 5 n5 (by decide)) n5 (ab 5 9 3 (r9 3 (by decide) (by decide) (by decide) (by decide)) (by decide))
 have q3:sd 5=sd 6:=h.same (e:=7) (f:=1) (by decide) (by decide) (by decide) (by rw[hf,hf];decide) (r7 5 (by decide) (by decide) (by decide) (by decide)) (r7 6 (by decide) (by decide) (by decide) (by decide)) (ab 5 1 1 (own 1 (by decide) (by decide)) (by decide)) (ab 6 1 1 (own 1 (by decide) (by decide)) (by decide))
 exact q2 (by rw[←q1,←q3])
theorem Yx {s:St} {r:Option (List Int)} (hs:Wk 5 gQ 5 s) (h:fE 5 gQ s r):r.isSome=false:=by
 obtain rfl:=hs.unique OS
 obtain⟨r',h1,h2⟩:=fE.ex FM Yw
 obtain rfl:=h.unique h1
 rcases h2 with ⟨q,_⟩|⟨sd,q,q1,_⟩
 ·rw[q];rfl
 ·exact absurd q1 (no5 sd)
end Lw
end
section
open Go.RowKit Lt
def MB (m:Nat) (w:World) (e:Ending) (w':World):Prop:=∃L U,e= .returned (.agg #[.slice (some ⟨L,0,none⟩) m m,.slice (some ⟨U,0,none⟩) m m])∧aq w' L (List.replicate m (-1))∧aq w' U (List.replicate m 1)∧w.heap.size≤L∧w.heap.size≤U∧L≠U∧Below w.heap.size w w'
set_option maxRecDepth 100000 in
set_option maxHeartbeats 4000000 in
theorem Ct (m:Nat) (hm:m≤8388608) (w:World):Calls Tryz.prog 86 #[.int .i64 (m:Int)] w (MB m w):=by
 have HR:Hid (∀(x:Int) (b:Nat) (W:World),aq W b [x]→Calls Tryz.prog 87 #[.slice (some ⟨b,0,none⟩) 1 1,.int .i64 (m:Int)] W (vC x m W)):=fun x b W h=>qB x m b 1 hm W h
 obtain⟨W1,hW1⟩:∃W1,W1=(w.alloc (.cells #[.slice none 0 0,.slice none 0 0] 138)).alloc (.cells #[.int .i64 (-1)] 3):=⟨_,rfl⟩
 have hb1:Below w.heap.size w W1:=by rw[hW1];exact((Below.refl _ _).alloc (Nat.le_refl _) _).alloc (by simp) _
 have k1:W1.heap[w.heap.size]? =some (.cells #[.slice none 0 0,.slice none 0 0] 138 (0,0)):=by
  rw[hW1,Below.heap_alloc _ _ _ (by simp)]
  exact heap_alloc_new w _
 have hi1:aq W1 (w.heap.size+1) [-1]:=by
  rw[hW1]
  have:=heap_alloc_new (w.alloc (.cells #[.slice none 0 0,.slice none 0 0] 138)) (.cells #[.int .i64 (-1)] 3)
  rw[show(w.alloc (.cells #[.slice none 0 0,.slice none 0 0] 138)).heap.size=w.heap.size+1 by simp] at this
  exact this
 have nY:=Nu.hid (HR.out (-1) (w.heap.size+1) W1 hi1)
 have aV:=Nu.hid hb1
 have C8:=Nu.hid k1
 have jR:=Nu.hid hW1
 rw[hW1] at nY
 have xS:W1.heap.size=w.heap.size+2:=by rw[hW1];simp
 have vH:=Nu.hid xS
 clear hm hi1 hb1 k1 xS hW1
 go_enter Tryz.func86,Tryz.ntmps86
 go_wp2_with (go_at_call 87;refine nY.out.mono ?_;rw[←jR.out];rintro e W3 ⟨g1,rfl,hi1,hg1,hb1⟩;have mX:=Nu.hid hi1;have nW:=Nu.hid hg1;have dM:=Nu.hid hb1;clear hi1 hg1 hb1;have uq:=Nu.hid (HR.out 1 W3.heap.size (W3.alloc (.cells #[.int .i64 1] 3)) (heap_alloc_new W3 _));clear nY)
 go_at_call 87
 refine uq.out.mono ?_
 rintro e W4 ⟨g2,rfl,hi2,hg2,hb2⟩
 have b2:Below W3.heap.size W3 W4:=((Below.refl _ _).alloc (Nat.le_refl _) _).trans (hb2.mono (by simp))
 have s1:=vH.out
 have s3:=dM.out.size
 have s4:=b2.size
 have g1l:=mX.out.lt
 have i1:=mX.out.later b2
 have kk:W4.heap[w.heap.size]? =some (.cells #[.slice none 0 0,.slice none 0 0] 138 (0,0)):=(b2.block _ (by omega)).trans ((dM.out.block _ (by omega)).trans C8.out)
 have CJ:Below w.heap.size w W4:=(aV.out.trans (dM.out.mono (by omega))).trans (b2.mono (by have:=aV.out.size;omega))
 have adI:W3.heap.size≤g2:=by
  have:(W3.alloc (.cells #[.int .i64 1] 3)).heap.size=W3.heap.size+1:=by simp
  omega
 have rD:Hid (∀W5,(∀b,b≠w.heap.size→W5.heap[b]? =W4.heap[b]?)→Below w.heap.size w W5→MB m w (.returned (.agg #[.slice (some ⟨g1,0,none⟩) m m,.slice (some ⟨g2,0,none⟩) m m])) W5):=fun W5 h5 hb5=>by
  have:=nW.out
  refine⟨g1,g2,rfl,(h5 g1 (by omega)).trans i1,(h5 g2 (by omega)).trans hi2,by omega,by omega,by omega,hb5⟩
 have vM:=Nu.hid CJ
 obtain⟨x0,x1,x2⟩:=az kk
 have VE:=Nu.hid kk
 clear hi2 hg2 hb2 i1 CJ b2 adI s1 s3 s4 g1l kk
 simp only[]
 go_wp2
 refine bodyPost_ret (v:= .agg #[.slice (some ⟨g1,0,none⟩) m m,.slice (some ⟨g2,0,none⟩) m m]) (results_cell_row (p:=2) (ty:=138) Tryz.results86 _ _ w.heap.size 138 _ (0,0) _ rfl (gF VE.out _ _) Tryz.underlying138 rfl (by kernel_rfl)) rfl ?_
 refine rD.out _ (fun b hb=> ?_) ?_
 ·rw[heap_setCell_other _ ⟨w.heap.size,1,none⟩ b _ hb,heap_setCell_other _ ⟨w.heap.size,0,none⟩ b _ hb]
 ·exact(vM.out.setCell (p:=⟨w.heap.size,0,none⟩) (Nat.le_refl _) _).setCell (p:=⟨w.heap.size,1,none⟩) (Nat.le_refl _) _
end
section
open Go.RowKit Lt
def Vm (c:Wp) (p:Nat) (w:World) (e:Ending) (w':World):Prop:=∃t L U Z,e= .returned (.pointer (some ⟨t,0,none⟩))∧aQ c p t w (fun b=>b=t∨b=L∨b=U∨b=Z) (Lt.start c.es.length) L U Z (.slice none 0 0) (.slice none 0 0) w'
set_option maxRecDepth 100000 in
set_option maxHeartbeats 4000000 in
theorem Ae {c:Wp} {p:Nat} {w:World} (h:bV c p w):Calls Tryz.prog 47 #[.pointer (some ⟨p,0,none⟩)] w (Vm c p w):=by
 have cq:=h.val.few
 have x5:=h.c5
 have HS:=Nu.hid (Ct c.es.length (by omega) w)
 have HR:Hid (∀(x:Int) (b:Nat) (W:World),aq W b [x]→Calls Tryz.prog 87 #[.slice (some ⟨b,0,none⟩) 1 1,.int .i64 (c.es.length:Int)] W (vC x c.es.length W)):=fun x b W h=>qB x c.es.length b 1 (by omega) W h
 have fO:=Nu.hid h
 clear h cq
 go_enter Tryz.func47,Tryz.ntmps47
 go_wp2_with (go_at_call 86;refine HS.out.mono ?_;rintro e W2 ⟨L,U,rfl,i1,i2,l1,l2,l3,b2⟩;have mX:=Nu.hid i1;have fY:=Nu.hid i2;have HL:=Nu.hid (And.intro l1 (And.intro l2 l3));have cz:=Nu.hid b2;clear i1 i2 l1 l2 l3 b2;have uq:=Nu.hid (HR.out (-1) W2.heap.size (W2.alloc (.cells #[.int .i64 (-1)] 3)) (heap_alloc_new W2 _)))
 go_at_call 87
 refine uq.out.mono ?_
 rintro e W4 ⟨Z,rfl,i3,l4,b4⟩
 have uk:=Nu.hid i3
 have HL4:=Nu.hid l4
 have gJ:=Nu.hid b4
 clear i3 l4 b4 uq
 simp only[]
 go_wp2
 go_ret
 obtain⟨l1,l2,l3⟩:=HL.out
 have l4:W2.heap.size+1≤Z:=by have:=HL4.out;simpa using this
 have b4:Below W2.heap.size W2 W4:=((Below.refl _ _).alloc (Nat.le_refl _) _).trans (gJ.out.mono (by simp))
 have s2:=cz.out.size
 have s4:=b4.size
 have z1:=mX.out.lt
 have z2:=fY.out.lt
 have z3:=uk.out.lt
 have bb:Below w.heap.size w W4:=cz.out.trans (b4.mono s2)
 have b5:∀o,Below W4.heap.size W4 (W4.alloc o):=fun o=>(Below.refl _ _).alloc (Nat.le_refl _) o
 have hsz:∀o,(W4.alloc o).heap.size=W4.heap.size+1:=fun o=>by simp
 refine⟨W4.heap.size,L,U,Z,rfl,fO.out,bb.trans ((b5 _).mono bb.size),heap_alloc_new W4 _,(mX.out.later b4).later (b5 _),(fY.out.later b4).later (b5 _),uk.out.later (b5 _),by simp[Lt.start],by simp[Lt.start],by simp[Lt.start],dV.nil _ _,dV.nil _ _,.inl rfl,.inr (.inl rfl),.inr (.inr (.inl rfl)),.inr (.inr (.inr rfl)),(fun b hb=>by cases hb),(fun b hb=>by cases hb),?_,?_,?_,(fun b hb=>by cases hb),(fun b hb=>by cases hb),(fun b hb=>by cases hb)⟩
 ·rintro b (rfl|rfl|rfl|rfl)<;>omega
 ·rintro b (rfl|rfl|rfl|rfl)<;>rw[hsz]<;>omega
 ·refine⟨?_,?_,?_,?_,?_,?_⟩<;>omega
end
section
open Go.RowKit Lt Pl
def Oi (n:Int) (es:List (Int×Int)) (w:World) (e:Ending) (w':World):Prop:=
 ((Si.valid n es=false∧e= .returned (.tuple #[.slice none 0 0,.bool false,.int .i64 1]))∨
   ∃(m:Nat) (s:Df.St) (r:Option (List Int)),n=(m:Int)∧Si.Val m es∧Df.Wk m es m s∧fE m es s r∧
    ((r=none∧e= .returned (.tuple #[.slice none 0 0,.bool false,.int .i64 0]))∨∃l g,r=some l∧l.length=es.length∧e= .returned (.tuple #[.slice (some ⟨g,0,none⟩) es.length es.length,.bool true,.int .i64 0])∧aq w' g l∧w.heap.size≤g))∧
 Below w.heap.size w w'
set_option maxRecDepth 100000 in
set_option maxHeartbeats 16000000 in
theorem Ai (n:Int) (ao:Option Addr) (cap:Nat) (es:List (Int×Int)) (w:World) (he:aL w ao es) (hl:es.length≤4611686018427387904):
 Calls Tryz.prog 29 #[.agg #[.int .i64 n,.slice ao es.length cap]] w (Oi n es w):=by
 obtain⟨W,hW⟩:∃W,W=w.alloc (.cells #[.int .i64 n,.slice ao es.length cap] 24):=⟨_,rfl⟩
 have hB0:Below w.heap.size w W:=by rw[hW];exact(Below.refl _ _).alloc (Nat.le_refl _) _
 have g1:W.heap[w.heap.size]? =some (.cells #[.int .i64 n,.slice ao es.length cap] 24 (0,0)):=by rw[hW];exact heap_alloc_new w _
 have hs0:W.heap.size=w.heap.size+1:=by rw[hW];simp
 have HC:=Nu.hid (Bk n ao cap es W (he.later hB0) hl)
 unfold cK at HC
 obtain⟨x0,x1,-⟩:=az g1
 have HW:=Nu.hid hW
 have dm:=Nu.hid hB0
 have nW:=Nu.hid g1
 have HE:=Nu.hid (he.later hB0)
 have HS0:=Nu.hid hs0
 clear hB0 g1 he hs0
 rw[hW] at x0 x1 HC
 clear hW
 go_enter Tryz.func29,Tryz.ntmps29
 go_wp2_with fail
 go_at_call 22
 refine HC.out.mono ?_
 rw[←HW.out]
 rintro e w1 ⟨v1,v2,v3,v4,s,z,rfl,hown,nK,hb1⟩
 have hlen:s.par.length≤17592186043904∧s.ay.length≤17592186043904∧s.ord.length≤17592186043904∧s.aJ.length≤17592186043904:=by
  rcases nK with ⟨m,rfl,hv,hwk,-⟩|⟨-,rfl,-⟩
  ·obtain⟨l1,l2,l3,l4⟩:=(hwk.vf hv).lens
   have:=hv.hi
   have:=hv.few
   omega
  ·simp
 obtain⟨f,rfl,rfl,rfl,rfl,hF⟩:=hown.ct hlen
 obtain⟨Y,hY⟩:∃Y,Y=w1.alloc (.cells #[.slice f.a1 s.par.length f.c1,.slice f.a2 s.ay.length f.c2,.slice f.a3 s.ord.length f.c3,.slice f.a4 s.aJ.length f.c4] 36):=⟨_,rfl⟩
 have tI:Below w1.heap.size w1 Y:=by rw[hY];exact(Below.refl _ _).alloc (Nat.le_refl _) _
 have f1:Y.heap[w1.heap.size]? =some (.cells #[.slice f.a1 s.par.length f.c1,.slice f.a2 s.ay.length f.c2,.slice f.a3 s.ord.length f.c3,.slice f.a4 s.aJ.length f.c4] 36 (0,0)):=by rw[hY];exact heap_alloc_new w1 _
 have H8:Below W.heap.size W Y:=hb1.trans (tI.mono hb1.size)
 have Da:Hid (Below w.heap.size w Y):=dm.out.trans (H8.mono dm.out.size)
 have k1:=(H8.block _ (lt_of_block nW.out)).trans nW.out
 obtain⟨y0,y1,-⟩:=az k1
 obtain⟨u0,u1,u2,u3,-⟩:=au f1
 have HFY:=Nu.hid (hF.later tI)
 have HEY:=Nu.hid (HE.out.later H8)
 have HY:=Nu.hid hY
 rw[hY] at y0 y1 u0 u1 u2 u3
 have HSY:=Nu.hid H8.size
 clear hown hF hlen hY tI f1 k1 hb1 H8 x0 x1 HC
 rcases nK with ⟨m,rfl,hv,hwk,rfl⟩|⟨hv,-,rfl⟩
 ·have HV:=Nu.hid hv
  have fO:=Nu.hid hwk
  have ug:=Nu.hid (Ak (m:Int) ao cap es f s Y HEY.out hl HFY.out)
  unfold For.val at ug
  rw[HY.out] at ug
  clear hv hwk
  simp only[]
  go_wp2_with fail
  go_at_call 38
  refine ug.out.mono ?_
  rw[←HY.out]
  intro e1 w3 hrd
  obtain⟨c,p,hc1,rfl,rfl,hc4,hc5,hc6,rfl,hpl,GW,hb3⟩:∃(c:Wp) (p:Nat),(m:Int)=(c.n:Int)∧c.es=es∧c.s=s∧c.ao=ao∧c.ca=cap∧c.f=f∧e1= .returned (.tuple #[.pointer (some ⟨p,0,none⟩),.int .i64 0])∧Y.heap.size≤p∧bV c p w3∧Below Y.heap.size Y w3:=by
   rcases hrd with ⟨q,_⟩|⟨_,q,_⟩|q
   ·rw[Si.bL.2 HV.out] at q
    cases q
   ·exact absurd ⟨m,rfl,HV.out,fO.out.vf HV.out⟩ q
   ·exact q
  obtain rfl:m=c.n:=by omega
  have gO:=GW.vf
  obtain⟨r,PW,-⟩:=fE.ex GW.val gO
  have CZ:=Nu.hid PW
  obtain⟨k0,hk0⟩:=PW
  obtain⟨k,hk1,hk2⟩:∃k,k0≤k∧2*c.es.length+1≤k:=⟨k0+(2*c.es.length+1),by omega,by omega⟩
  have jZ:Lt.test c.env k c.es.length=some r:=hk0 k hk1
  have HNT:=Nu.hid (Ae GW)
  have IL:=Nu.hid GW
  have dM:Hid (Below w.heap.size w w3):=Da.out.trans (hb3.mono Da.out.size)
  have CY:=Nu.hid jZ
  have CX:=Nu.hid gO
  have C9:=Nu.hid (Wp.Bi IL.out.val CX.out)
  clear hrd hk0 hk1 hc1 hc4 hc5 hc6 hb3 jZ gO GW hpl ug
  simp only[]
  go_wp2_with fail
  go_at_call 47
  refine HNT.out.mono ?_
  rintro e2 w4 ⟨t,L,U,Z,rfl,hT⟩
  have HT:=Nu.hid hT
  have hst:∃q,trees c.env k c.s.ord (Lt.start c.es.length)=some q∧((q=none∧r=none)∨∃st l,q=some st∧r=some l∧sides c.env k c.s.aJ st.like st.turn []=some l):=by
   have h1:=CY.out
   unfold Lt.test at h1
   cases hq:trees c.env k c.env.ord (Lt.start c.es.length) with
   |none=>rw[hq] at h1;cases h1
   |some q=>
    rw[hq] at h1
    cases q with
    |none=>exact⟨none,hq,.inl ⟨rfl,(Option.some.inj h1).symm⟩⟩
    |some st=>
     dsimp only at h1
     cases hs:sides c.env k c.env.aJ st.like st.turn [] with
     |none=>rw[hs] at h1;cases h1
     |some l=>
      rw[hs] at h1
      exact⟨some st,hq,.inr ⟨st,l,rfl,(Option.some.inj h1).symm,hs⟩⟩
  obtain⟨q,wJ,yB⟩:=hst
  have Vp:=Nu.hid (Jh C9.out hT sV hk2 (Wp.EG CX.out) (Wp.EF CX.out) (fun _ _ _ q=>q) wJ)
  have gJ:Hid (∀V,Below w3.heap.size w3 V→Below w.heap.size w V):=fun V hV=>dM.out.trans (hV.mono dM.out.size)
  have WA:=dM.out.size
  rcases yB with ⟨rfl,rfl⟩|⟨st,l,rfl,rfl,hsl⟩
  ·clear hT wJ
   simp only[]
   go_wp2_with (go_at_call 48;refine Vp.out.mono ?_;rintro e3 w5 ⟨st',rfl,Qk⟩;have Vy:=Nu.hid Qk;clear Qk)
   go_ret3
   obtain⟨-,L',U',Z',oY,qo,h5⟩:=Vy.out
   exact⟨.inr ⟨c.n,c.s,none,rfl,IL.out.val,fO.out,CZ.out,.inl ⟨rfl,rfl⟩⟩,gJ.out _ h5.aI⟩
  ·obtain⟨fin',G',hI⟩:=Jj C9.out hk2 (sV (T:=Lr.df IL.out.val CX.out) (E:=c.env) (oe:=c.oe)) (Wp.EG CX.out) (Wp.EF CX.out) (fun _ _ _ q=>q) wJ
   have S5:Hid (Pm st.turn):=fun z x hz=>by
    have hzl:=(List.getElem?_eq_some_iff.1 hz).1
    rw[hI.lk.lt] at hzl
    have:=hI.lk.tn z hzl
    unfold g at this
    rw[hz] at this
    exact this
   have HSL:=Nu.hid hsl
   clear hT wJ hsl hI
   simp only[]
   go_wp2_with (go_at_call 48;refine Vp.out.mono ?_;rintro e3 w5 ⟨rfl,Qk⟩;have Vy:=Nu.hid Qk;clear Qk)
   have hPA:Calls Tryz.prog 49 #[.pointer (some ⟨t,0,none⟩)] w5 fun e w'=>∃g,e= .returned (.slice (some ⟨g,0,none⟩) c.es.length c.es.length)∧aq w' g l∧l.length=c.es.length∧w5.heap.size≤g∧Below w3.heap.size w3 w':=by
    obtain⟨-,L',U',Z',oY,qo,h5⟩:=Vy.out
    exact yz h5 S5.out HSL.out
   have HPA:=Nu.hid hPA
   clear hPA
   go_at_call 49
   refine HPA.out.mono ?_
   rintro e6 w6 ⟨g6,rfl,hi6,QG,hg6,cg⟩
   have HI6:=Nu.hid hi6
   have HL6:=Nu.hid QG
   have jQ:=Nu.hid cg
   have uo:Hid (w.heap.size≤g6):=by
    obtain⟨-,L',U',Z',oY,qo,h5⟩:=Vy.out
    have:=h5.aI.size
    show _≤_
    omega
   clear hi6 QG hg6 cg
   simp only[]
   go_wp2_with fail
   go_ret3
   exact⟨.inr ⟨c.n,c.s,some l,rfl,IL.out.val,fO.out,CZ.out,.inr ⟨l,g6,rfl,HL6.out,rfl,HI6.out,uo.out⟩⟩,gJ.out _ jQ.out⟩
 ·have HV:=Nu.hid hv
  clear hv y0 y1 u0 u1 u2 u3
  simp only[]
  go_wp2_with fail
  go_ret3
  refine⟨.inl ⟨HV.out,rfl⟩,?_⟩
  have:=Da.out
  rw[HY.out] at this
  exact this
end
section
open Go.RowKit Lt Pl
def II (n:Int) (es:List (Int×Int)) (w:World) (e:Ending) (w':World):Prop:=
 ((Si.valid n es=false∧e= .returned (.tuple #[.bool false,.int .i64 1]))∨
   ∃(m:Nat) (s:Df.St) (r:Option (List Int)),n=(m:Int)∧Si.Val m es∧Df.Wk m es m s∧fE m es s r∧e= .returned (.tuple #[.bool r.isSome,.int .i64 0]))∧
 Below w.heap.size w w'
set_option maxRecDepth 100000 in
set_option maxHeartbeats 4000000 in
theorem uL (n:Int) (ao:Option Addr) (cap:Nat) (es:List (Int×Int)) (w:World) (he:aL w ao es) (hl:es.length≤4611686018427387904):
 Calls Tryz.prog 12 #[.agg #[.int .i64 n,.slice ao es.length cap]] w (II n es w):=by
 obtain⟨W,hW⟩:∃W,W=w.alloc (.cells #[.int .i64 n,.slice ao es.length cap] 24):=⟨_,rfl⟩
 have hB0:Below w.heap.size w W:=by rw[hW];exact(Below.refl _ _).alloc (Nat.le_refl _) _
 have g1:W.heap[w.heap.size]? =some (.cells #[.int .i64 n,.slice ao es.length cap] 24 (0,0)):=by rw[hW];exact heap_alloc_new w _
 have HC:=Nu.hid (Ai n ao cap es W (he.later hB0) hl)
 obtain⟨x0,x1,-⟩:=az g1
 have HW:=Nu.hid hW
 have dm:=Nu.hid hB0
 clear hB0 g1 he
 rw[hW] at x0 x1 HC
 clear hW
 go_enter Tryz.func12,Tryz.ntmps12
 go_wp2_with fail
 go_at_call 29
 refine HC.out.mono ?_
 rw[←HW.out]
 rintro e w1 ⟨nK,hb1⟩
 have aV:Hid (Below w.heap.size w w1):=dm.out.trans (hb1.mono dm.out.size)
 clear hb1 x0 x1 HC
 rcases nK with ⟨hv,rfl⟩|⟨m,s,r,hn,hv,hwk,pN,⟨rfl,rfl⟩|⟨l,g6,rfl,-,rfl,-,-⟩⟩
 ·simp only[]
  go_wp2_with fail
  go_ret2
  exact⟨.inl ⟨hv,rfl⟩,aV.out⟩
 ·have H:=Nu.hid (And.intro hn (And.intro hv (And.intro hwk pN)))
  clear hn hv hwk pN
  simp only[]
  go_wp2_with fail
  go_ret2
  obtain⟨hn,hv,hwk,pN⟩:=H.out
  exact⟨.inr ⟨m,s,none,hn,hv,hwk,pN,rfl⟩,aV.out⟩
 ·have H:=Nu.hid (And.intro hn (And.intro hv (And.intro hwk pN)))
  clear hn hv hwk pN
  simp only[]
  go_wp2_with fail
  go_ret2
  obtain⟨hn,hv,hwk,pN⟩:=H.out
  exact⟨.inr ⟨m,s,some l,hn,hv,hwk,pN,rfl⟩,aV.out⟩
end
section
open Go.RowKit Lt Pl
theorem Pd (ao:Option Addr) (cap:Nat) (w:World) (he:aL w ao Lw.iI):Calls Tryz.prog 12 #[.agg #[.int .i64 4,.slice ao 6 cap]] w fun e w'=>e= .returned (.tuple #[.bool true,.int .i64 0])∧Below w.heap.size w w':=
 (uL 4 ao cap Lw.iI w he (by decide)).mono fun e w' ⟨hc,hb⟩=>by
   rcases hc with ⟨hv,_⟩|⟨m,s,r,hm,hv,hwk,pN,rfl⟩
   ·have h1:Si.valid 4 Lw.iI=true:=Si.bL.2 Lw.ng
    rw[h1] at hv
    cases hv
   ·obtain rfl:m=4:=by omega
    rw[Lw.Yy hwk pN]
    exact⟨rfl,hb⟩
theorem Pc (ao:Option Addr) (cap:Nat) (w:World) (he:aL w ao Lw.gQ):Calls Tryz.prog 12 #[.agg #[.int .i64 5,.slice ao 10 cap]] w fun e w'=>e= .returned (.tuple #[.bool false,.int .i64 0])∧Below w.heap.size w w':=
 (uL 5 ao cap Lw.gQ w he (by decide)).mono fun e w' ⟨hc,hb⟩=>by
   rcases hc with ⟨hv,_⟩|⟨m,s,r,hm,hv,hwk,pN,rfl⟩
   ·have h1:Si.valid 5 Lw.gQ=true:=Si.bL.2 Lw.FM
    rw[h1] at hv
    cases hv
   ·obtain rfl:m=5:=by omega
    rw[Lw.Yx hwk pN]
    exact⟨rfl,hb⟩
theorem U6 (w:World):Calls Tryz.prog 28 #[.int .i64 4] w fun e w'=>∃ao cap,e= .returned (.agg #[.int .i64 4,.slice ao 6 cap])∧aL w' ao Lw.iI∧Below w.heap.size w w':=
 (sM 4 (by omega) w).mono fun e w' ⟨ao,cap,h1,h2,h3⟩=>by
   rw[Lw.is4] at h1 h2
   exact⟨ao,cap,h1,h2,h3⟩
theorem U4 (w:World):Calls Tryz.prog 28 #[.int .i64 5] w fun e w'=>∃ao cap,e= .returned (.agg #[.int .i64 5,.slice ao 10 cap])∧aL w' ao Lw.gQ∧Below w.heap.size w w':=
 (sM 5 (by omega) w).mono fun e w' ⟨ao,cap,h1,h2,h3⟩=>by
   rw[Lw.is5] at h1 h2
   exact⟨ao,cap,h1,h2,h3⟩
theorem I9 (ao:Option Addr) (cap:Nat) (w:World) (he:aL w ao Lw.iI):Calls Tryz.prog 16 #[.agg #[.int .i64 4,.slice ao 6 cap]] w fun e w'=>∃a1 a2 a3 a4 c1 c2 c3 c4,e= .returned (.agg #[.slice a1 4 c1,.slice a2 4 c2,.slice a3 4 c3,.slice a4 6 c4])∧dF w' ⟨a1,a2,a3,a4,c1,c2,c3,c4⟩ Lw.s4∧Below w.heap.size w w':=
 (Jw 4 ao cap Lw.iI w he Lw.ng).mono fun e w' ⟨f,s,h1,h2,h3,h4⟩=>by
   obtain rfl:=h2.unique Lw.Ja
   exact⟨f.a1,f.a2,f.a3,f.a4,f.c1,f.c2,f.c3,f.c4,h1,h3,h4⟩
theorem TK (ao:Option Addr) (cap:Nat) (a1 a2 a3 a4:Option Addr) (c1 c2 c3 c4:Nat) (gp:Nat) (w:World) (he:aL w ao Lw.iI) (hF:dF w ⟨a1,a2,a3,a4,c1,c2,c3,c4⟩ Lw.s4) (hp:aq w gp Lw.p4):
 Calls Tryz.prog 19 #[.agg #[.int .i64 4,.slice ao 6 cap],.agg #[.slice a1 4 c1,.slice a2 4 c2,.slice a3 4 c3,.slice a4 6 c4],.slice (some ⟨gp,0,none⟩) 6 6] w fun e w'=>e= .returned (.tuple #[.bool true,.int .i64 0])∧Below w.heap.size w w':=
 (xK 4 ao cap Lw.iI ⟨a1,a2,a3,a4,c1,c2,c3,c4⟩ Lw.s4 (some ⟨gp,0,none⟩) 6 Lw.p4 w he (by decide) hF (hp.ct rfl)).mono fun e w' ⟨hc,hb⟩=>by
   rcases hc with ⟨hv,_⟩|⟨_,hn,_⟩|⟨m,hv,hf,hm,⟨hn,_⟩|⟨_,b,rfl,nM⟩⟩
   ·have h1:Si.valid 4 Lw.iI=true:=Si.bL.2 Lw.ng
    rw[h1] at hv
    cases hv
   ·exact absurd ⟨4,rfl,Lw.ng,Lw.Cj⟩ hn
   ·exact absurd Lw.YK hn
   ·obtain rfl:m=4:=by omega
    have:b=true:=nM.2 ⟨Lw.al4,Lw.lr4 _⟩
    subst this
    exact⟨rfl,hb⟩
set_option maxRecDepth 100000 in
set_option maxHeartbeats 8000000 in
theorem Er (w:World):Calls Tryz.prog 9 #[] w fun e w'=>e= .returned (.bool true)∧Below w.heap.size w w':=by
 have Tz:Hid (∀V,Calls Tryz.prog 28 #[.int .i64 4] V fun e w'=>∃ao cap,e= .returned (.agg #[.int .i64 4,.slice ao 6 cap])∧aL w' ao Lw.iI∧Below V.heap.size V w'):=U6
 have HC5:=Nu.hid U4
 go_enter Tryz.func9,Tryz.ntmps9
 go_wp2_with fail
 go_at_call 28
 refine(Tz.out _).mono ?_
 rintro e w1 ⟨o1,c1,rfl,aA,hb1⟩
 have C3:=Nu.hid (Pd o1 c1 w1 aA)
 have aV:=Nu.hid hb1
 clear aA hb1
 simp only[]
 go_wp2_with fail
 go_at_call 12
 refine C3.out.mono ?_
 rintro e w2 ⟨rfl,hb2⟩
 have cz:=Nu.hid (aV.out.trans (hb2.mono aV.out.size))
 clear hb2 C3
 simp only[]
 go_wp2_with fail
 go_at_call 28
 refine(HC5.out _).mono ?_
 rintro e w3 ⟨o3,c3,rfl,he3,hb3⟩
 have OB:=Nu.hid (Pc o3 c3 w3 he3)
 have dM:=Nu.hid (cz.out.trans (hb3.mono cz.out.size))
 clear he3 hb3
 simp only[]
 go_wp2_with fail
 go_at_call 12
 refine OB.out.mono ?_
 rintro e w4 ⟨rfl,hb4⟩
 have gJ:=Nu.hid (dM.out.trans (hb4.mono dM.out.size))
 clear hb4 OB
 simp only[]
 go_wp2_with fail
 go_at_call 28
 refine(Tz.out _).mono ?_
 rintro e w5 ⟨o5,c5,rfl,he5,hb5⟩
 have HE5:=Nu.hid he5
 have gj:=Nu.hid (gJ.out.trans (hb5.mono gJ.out.size))
 clear he5 hb5
 simp only[]
 go_wp2_with fail
 go_at_call 28
 refine(Tz.out _).mono ?_
 rintro e w6 ⟨o6,c6,rfl,he6,cg⟩
 have FD:=Nu.hid (HE5.out.later cg)
 have Oy:=Nu.hid (I9 o6 c6 w6 he6)
 have jQ:=Nu.hid (gj.out.trans (cg.mono gj.out.size))
 clear he6 cg
 simp only[]
 go_wp2_with fail
 go_at_call 16
 refine Oy.out.mono ?_
 rintro e w7 ⟨a1,a2,a3,a4,d1,d2,d3,d4,rfl,hF,kO⟩
 obtain⟨W8,uW⟩:∃W8,W8=w7.alloc (.cells #[.int .i64 0,.int .i64 1,.int .i64 1,.int .i64 0,.int .i64 (-1),.int .i64 0] 3):=⟨_,rfl⟩
 have dH:Below w7.heap.size w7 W8:=by rw[uW];exact(Below.refl _ _).alloc (Nat.le_refl _) _
 have hp8:aq W8 w7.heap.size Lw.p4:=by rw[uW];exact heap_alloc_new w7 _
 have HV8:=Nu.hid (TK o5 c5 a1 a2 a3 a4 d1 d2 d3 d4 w7.heap.size W8 ((FD.out.later kO).later dH) (hF.later dH) hp8)
 have Lz:Hid (Below w.heap.size w W8):=by
  have h1:=jQ.out.trans (kO.mono jQ.out.size)
  exact h1.trans (dH.mono h1.size)
 have HW8:=Nu.hid uW
 rw[uW] at HV8
 clear hF kO uW dH hp8 Oy
 simp only[]
 go_wp2_with fail
 go_at_call 19
 refine HV8.out.mono ?_
 rw[←HW8.out]
 rintro e w9 ⟨rfl,gw⟩
 have HB9:=Nu.hid (Lz.out.trans (gw.mono Lz.out.size))
 clear gw HV8
 simp only[]
 go_wp2_with fail
 go_ret
 exact⟨rfl,HB9.out⟩
end
section
open Go.RowKit Lt Pl
theorem Al {n m:Nat} {T:DF n m} {sd Jv:Nat→Bool} (h:∀b c,b<m→c<m→T.tree b=false→T.tree c=false→(sd b=sd c↔Jv b=Jv c)) (hl:T.LR sd):T.LR Jv:=
 ⟨fun {_ _ b c} he hf hne hfr hb hc ab ac=>(h b c hb.1 hc.1 hb.2.1 hc.2.1).1 (hl.same he hf hne hfr hb hc ab ac),fun {_ _ b c} he hf hne hfr hb ab hc ac q=>hl.yY he hf hne hfr hb ab hc ac ((h b c hb.1 hc.1 hb.2.1 hc.2.1).2 q)⟩
theorem BK {n m:Nat} {T:DF n m} {sd Jv:Nat→Bool} (h:∀b c,b<m→c<m→T.tree b=false→T.tree c=false→(sd b=sd c↔Jv b=Jv c)) (hl:T.Aligned sd):T.Aligned Jv:=by
 intro e b c he te hb hc
 exact(h b c hb.1.1 hc.1.1 hb.1.2.1 hc.1.2.1).1 (hl he te hb hc)
def Ee (n:Int) (es:List (Int×Int)) (s:Df.St) (ps:List Int):Prop:=∃(m:Nat) (hv:Si.Val m es) (hf:Df.VF m es s),n=(m:Int)∧(Lr.df hv hf).Aligned (kF ps)∧(Lr.df hv hf).LR (kF ps)
open Classical in
noncomputable def qp (n:Int) (es:List (Int×Int)) (s:Df.St) (ps:List Int):Bool×Int:=
 if Si.valid n es=false then (false,1) else if ¬oK n es s then (false,80) else if ¬gN es s ps then (false,100) else (decide (Ee n es s ps),0)
open Classical in
theorem xL (n:Int) (ao:Option Addr) (cap:Nat) (es:List (Int×Int)) (a1 a2 a3 a4:Option Addr) (c1 c2 c3 c4:Nat) (s:Df.St) (pa:Option Addr) (pc k:Nat) (ps:List Int) (w:World) (he:aL w ao es) (hl:es.length≤4611686018427387904) (hF:dF w ⟨a1,a2,a3,a4,c1,c2,c3,c4⟩ s) (hp:iu w pa k pc ps):
 Calls Tryz.prog 19 #[.agg #[.int .i64 n,.slice ao es.length cap],.agg #[.slice a1 s.par.length c1,.slice a2 s.ay.length c2,.slice a3 s.ord.length c3,.slice a4 s.aJ.length c4],.slice pa k pc] w fun e w'=>e= .returned (.tuple #[.bool (qp n es s ps).1,.int .i64 (qp n es s ps).2])∧Below w.heap.size w w':=by
 have hk:=hp.len
 subst hk
 refine(xK n ao cap es ⟨a1,a2,a3,a4,c1,c2,c3,c4⟩ s pa pc ps w he hl hF hp).mono fun e w' ⟨hc,hb⟩=>⟨?_,hb⟩
 unfold qp
 rcases hc with ⟨hv,rfl⟩|⟨hv,hn,rfl⟩|⟨m,hv,hf,rfl,⟨hn,rfl⟩|⟨hp,b,rfl,nM⟩⟩
 ·rw[if_pos hv]
 ·rw[if_neg (by rw[hv];simp),if_pos hn]
 ·rw[if_neg (by rw[Si.bL.2 hv];simp),if_neg (fun q=>q ⟨m,rfl,hv,hf⟩),if_pos hn]
 ·rw[if_neg (by rw[Si.bL.2 hv];simp),if_neg (fun q=>q ⟨m,rfl,hv,hf⟩),if_neg (fun q=>q hp)]
  have:b=decide (Ee (m:Int) es s ps):=by
   have hiff:b=true↔Ee (m:Int) es s ps:=by
    rw[nM]
    constructor
    ·rintro⟨q1,q2⟩
     exact⟨m,hv,hf,rfl,@q1,q2⟩
    ·rintro⟨m',hv',hf',hm,q1,q2⟩
     obtain rfl:m=m':=by omega
     exact⟨@q1,q2⟩
   cases b with
   |false=>symm;rw[decide_eq_false_iff_not];exact fun q=>by cases hiff.2 q
   |true=>symm;rw[decide_eq_true_iff];exact hiff.1 rfl
  rw[this]
def fq (x:Int):Int:=if x=1∨x= -1 then -x else x
theorem zE {ps:List Int} {e:Nat}:(ps.map fq)[e]?.getD 0=fq (ps[e]?.getD 0):=by
 rw[List.getElem?_map]
 cases ps[e]? with
 |none=>rfl
 |some x=>rfl
theorem EI {t:Bool} {x:Int}:eJ t (fq x)↔eJ t x:=by
 unfold eJ fq
 split<;>split<;>omega
theorem EP {es:List (Int×Int)} {s:Df.St} {ps:List Int}:gN es s (ps.map fq)↔gN es s ps:=by
 unfold gN
 simp only[List.length_map,zE,EI]
theorem uD {es:List (Int×Int)} {s:Df.St} {ps:List Int} (h:gN es s ps) {b c:Nat} (hb:b<es.length) (hc:c<es.length) (tb:Lo.tree es s b=false) (tc:Lo.tree es s c=false):kF ps b=kF ps c↔kF (ps.map fq) b=kF (ps.map fq) c:=by
 have h1:=h.2 b hb
 have h2:=h.2 c hc
 unfold eJ at h1 h2
 rw[if_neg (by rw[tb];simp)] at h1
 rw[if_neg (by rw[tc];simp)] at h2
 unfold kF
 rw[zE,zE]
 rcases h1 with q1|q1<;>rcases h2 with q2|q2<;>rw[q1,q2]<;>decide
open Classical in
theorem Jc (n:Int) (es:List (Int×Int)) (s:Df.St) (ps:List Int):qp n es s (ps.map fq)=qp n es s ps:=by
 unfold qp
 rw[EP]
 by_cases hp:gN es s ps
 ·have:Ee n es s (ps.map fq)↔Ee n es s ps:=by
   constructor
   ·rintro⟨m,hv,hf,hm,q1,q2⟩
    exact⟨m,hv,hf,hm,BK (fun b c hb hc tb tc=>(uD hp hb hc tb tc).symm) @q1,Al (fun b c hb hc tb tc=>(uD hp hb hc tb tc).symm) q2⟩
   ·rintro⟨m,hv,hf,hm,q1,q2⟩
    exact⟨m,hv,hf,hm,BK (fun b c hb hc tb tc=>uD hp hb hc tb tc) @q1,Al (fun b c hb hc tb tc=>uD hp hb hc tb tc) q2⟩
  simp only[this]
 ·rw[if_pos hp,if_pos hp]
open Classical in
theorem Jd {m:Nat} {es:List (Int×Int)} {s:Df.St} {l:List Int} (hv:Si.Val m es) (hw:Df.Wk m es m s) (ht:fE m es s (some l)):qp m es s l=(true,0):=by
 have hf:=hw.vf hv
 obtain⟨r,h1,h2⟩:=fE.ex hv hf
 obtain rfl:=ht.unique h1
 rcases h2 with ⟨q,_⟩|⟨sd,q,q1,q2⟩
 ·cases q
 ·obtain rfl:=Option.some.inj q
  have hat:∀e,e<es.length→((List.range es.length).map (cU (Lr.df hv hf) sd))[e]?.getD 0=cU (Lr.df hv hf) sd e:=fun e he=>by
   rw[List.getElem?_map,List.getElem?_range he]
   rfl
  have aN:∀b,b<es.length→(Lr.df hv hf).tree b=false→kF ((List.range es.length).map (cU (Lr.df hv hf) sd)) b=sd b:=fun b hb tb=>by
   unfold kF
   rw[hat b hb,ni tb]
   cases sd b<;>simp
  have hp:gN es s ((List.range es.length).map (cU (Lr.df hv hf) sd)):=by
   refine⟨by simp,fun e he=> ?_⟩
   rw[hat e he]
   unfold eJ cU
   show if Lo.tree es s e=true then _ else _
   cases ht:Lo.tree es s e with
   |true=>show(if Lo.tree es s e=true then _ else _)=_;rw[if_pos ht]
   |false=>
    rw[if_neg (by simp)]
    have:(if (Lr.df hv hf).tree e=true then (0:Int) else if sd e=true then 1 else -1)=if sd e=true then 1 else -1:=if_neg (by show ¬Lo.tree es s e=true;rw[ht];simp)
    rw[this]
    cases sd e<;>simp
  have kP:Ee m es s ((List.range es.length).map (cU (Lr.df hv hf) sd)):=
   ⟨m,hv,hf,rfl,BK (fun b c hb hc tb tc=>by rw[aN b hb tb,aN c hc tc]) @q2,Al (fun b c hb hc tb tc=>by rw[aN b hb tb,aN c hc tc]) q1⟩
  unfold qp
  rw[if_neg (by rw[Si.bL.2 hv];simp),if_neg (fun q=>q ⟨m,rfl,hv,hf⟩),if_neg (fun q=>q hp)]
  simp[kP]
end
section
open Go.RowKit Lt Pl
set_option maxRecDepth 100000 in
theorem Gl (ao:Option Addr) (n ca:Nat) (l:List Int) (w:World) (h:iu w ao n ca l) (hn:n≤17592186043904):
 Calls Tryz.prog 21 #[.slice ao n ca] w fun e w'=>∃gb cb,e= .returned (.slice (some ⟨gb,0,none⟩) n cb)∧aB w' gb l∧w.heap.size≤gb∧Below w.heap.size w w':=by
 have HR:=Nu.hid h
 clear h
 go_enter Tryz.func21,Tryz.ntmps21
 go_wp2_with (at_builtin;refine m9 rfl _ _ rfl w ao n ca l rfl rfl HR.out hn ?_;refine Hid.out ?_)
 refine Nu.hid ?_
 intro gb c w1 hrow hgb hlt hc hb
 have HX:=Nu.hid (lU hrow)
 have HB:=Nu.hid hb
 have HG:=Nu.hid hgb
 clear hrow hb hgb
 go_wp2
 go_ret
 exact⟨gb,c,rfl,HX.out,HG.out,HB.out⟩
theorem aB.Wc {w:World} {g n ca:Nat} {l:List Int} (h:aB w g l) (hl:l.length=n):iu w (some ⟨g,0,none⟩) n ca l:=⟨hl,fun j x hj=>⟨g,0,rfl,by rw[Nat.zero_add];exact h.cell hj⟩,fun e=>by cases e⟩
def IE (n:Int) (es:List (Int×Int)) (w:World) (e:Ending) (w':World):Prop:=
 ((∃z,e= .returned (.tuple #[.slice none 0 0,.bool false,.int .i64 z]))∨∃(m:Nat) (s:Df.St) (l:List Int) (g:Nat),n=(m:Int)∧Si.Val m es∧Df.Wk m es m s∧fE m es s (some l)∧l.length=es.length∧e= .returned (.tuple #[.slice (some ⟨g,0,none⟩) es.length es.length,.bool true,.int .i64 0])∧aq w' g l)∧Below w.heap.size w w'
set_option maxRecDepth 100000 in
set_option maxHeartbeats 4000000 in
theorem OU (n:Int) (ao:Option Addr) (ca:Nat) (es:List (Int×Int)) (w:World) (he:aL w ao es) (hn:ao=none→ca=0) (hl:es.length*16≤140737488355328):
 Calls Tryz.prog 11 #[.agg #[.int .i64 n,.slice ao es.length ca]] w (IE n es w):=by
 obtain⟨W,hW⟩:∃W,W=w.alloc (.cells #[.int .i64 n,.slice ao es.length ca] 24):=⟨_,rfl⟩
 have hB0:Below w.heap.size w W:=by rw[hW];exact(Below.refl _ _).alloc (Nat.le_refl _) _
 have g1:W.heap[w.heap.size]? =some (.cells #[.int .i64 n,.slice ao es.length ca] 24 (0,0)):=by rw[hW];exact heap_alloc_new w _
 have HC:=Nu.hid (DZ n ao ca es W (he.later hB0) hn hl)
 obtain⟨x0,x1,-⟩:=az g1
 have HW:=Nu.hid hW
 have dm:=Nu.hid hB0
 clear hB0 g1 he
 rw[hW] at x0 x1 HC
 clear hW
 go_enter Tryz.func11,Tryz.ntmps11
 go_wp2_with fail
 go_at_call 13
 refine HC.out.mono ?_
 rw[←HW.out]
 rintro e w1 ⟨gb,cb,rfl,aA,hb1⟩
 have aV:=Nu.hid (dm.out.trans (hb1.mono dm.out.size))
 have HT:=Nu.hid (Ai n (some ⟨gb,0,none⟩) cb es w1 aA (by omega))
 clear aA hb1 x0 x1 HC
 simp only[]
 go_wp2_with fail
 go_at_call 29
 refine HT.out.mono ?_
 rintro e w2 ⟨nK,hb2⟩
 have cz:=Nu.hid (aV.out.trans (hb2.mono aV.out.size))
 clear hb2 HT
 rcases nK with ⟨hv,rfl⟩|⟨m,s,r,hn',hv,hwk,pN,⟨rfl,rfl⟩|⟨l,g6,rfl,eH,rfl,hi,-⟩⟩
 ·simp only[]
  go_wp2_with fail
  go_ret3
  exact⟨.inl ⟨_,rfl⟩,cz.out⟩
 ·clear hn' hv hwk pN
  simp only[]
  go_wp2_with fail
  go_ret3
  exact⟨.inl ⟨_,rfl⟩,cz.out⟩
 ·have H:=Nu.hid (And.intro hn' (And.intro hv (And.intro hwk (And.intro pN (And.intro eH hi)))))
  clear hn' hv hwk pN eH hi
  simp only[]
  go_wp2_with fail
  go_ret3
  obtain⟨h1,h2,h3,h4,h5,h6⟩:=H.out
  exact⟨.inr ⟨m,s,l,g6,h1,h2,h3,h4,h5,rfl,h6⟩,cz.out⟩
end
section
open Go.ChangeShapes Go.WideShapes Go.ChangeAt Go.RowKit
theorem KV:Tryz.prog.bytesOf 55=16:=by kernel_rfl
theorem Iy:Tryz.prog.cellsOf 24=2:=by kernel_rfl
theorem Iz:Tryz.prog.cellsOf 22=1:=by kernel_rfl
section
variable {H:Type} {enc:TypeId×Value→H} {W:World} {base:Nat} {sp:Nat→Bool} {held:Bool}
def vA (cs:List Value):Prop:=∃a b:Int,cs=[.int .i64 a,.int .i64 b]∧Sn (a,b)
theorem Es {fuel:Nat} {cs:List Value} {x y:DataW H×List MemPlace} (hl:cs.length=2) (h0:DataW.trod enc Tryz.prog W base sp held fuel 3 ((cs.drop 0).take 1)=some x) (h1:DataW.trod enc Tryz.prog W base sp held fuel 3 ((cs.drop 1).take 1)=some y):vA cs:=by
 match cs,hl with
 |[u,v],_=>
  obtain⟨a,e0,_,w0⟩:=DataW.trod_int Tryz.underlying3 h0
  obtain⟨b,e1,_,w1⟩:=DataW.trod_int Tryz.underlying3 h1
  simp at e0 e1
  subst e0
  subst e1
  exact⟨a,b,rfl,bounds_i64 w0,bounds_i64 w1⟩
theorem FP {e:TypeId} {f0 f1:Field} (he:Tryz.prog.underlying e=some (.struct #[f0,f1])) (ce:Tryz.prog.cellsOf e=2) (o0:f0.offset=0) (o1:f1.offset=1) (t0:f0.type=3) (t1:f1.type=3)
 {fuel:Nat} {cs:List Value} {x:DataW H×List MemPlace} (h:DataW.trod enc Tryz.prog W base sp held fuel e cs=some x):vA cs:=by
 obtain⟨xs,m,_,_,hl,hx,hf⟩:=DataW.trod_struct he h
 rw[ce] at hl
 match xs,hx with
 |[y0,y1],_=>
  have g0:=hf 0 f0 rfl
  have g1:=hf 1 f1 rfl
  simp only[o0,o1,t0,t1,Bz] at g0 g1
  exact Es hl g0 g1
theorem MN {fuel:Nat} {cs:List Value} {x:DataW H×List MemPlace} (h:DataW.trod enc Tryz.prog W base sp held fuel 55 cs=some x):vA cs:=FP Tryz.underlying55 BA rfl rfl rfl rfl h
theorem Nk {e:TypeId} {f0 f1:Field} (he:Tryz.prog.underlying e=some (.struct #[f0,f1])) (o0:f0.offset=0) (o1:f1.offset=1) (t0:f0.type=3) (t1:f1.type=22) (c1:Tryz.prog.cellsOf 22=1)
 {fuel:Nat} {u v:Value} {x:DataW H×List MemPlace} (h:DataW.trod enc Tryz.prog W base sp held fuel e [u,v]=some x):
 ∃(m:Nat) (y0 y1:DataW H×List MemPlace),DataW.trod enc Tryz.prog W base sp held m 3 [u]=some y0∧DataW.trod enc Tryz.prog W base sp held m 22 [v]=some y1∧x.1= .agg [y0.1,y1.1]:=by
 obtain⟨xs,m,_,J7,hl,hx,hf⟩:=DataW.trod_struct he h
 match xs,hx with
 |[y0,y1],_=>
  have g0:=hf 0 f0 rfl
  have g1:=hf 1 f1 rfl
  simp only[o0,o1,t0,t1,Bz,c1] at g0 g1
  exact⟨m,y0,y1,by simpa using g0,by simpa using g1,by rw[J7];rfl⟩
structure BP (w:World) (ao:Option Addr) (len cap:Nat) (qs:List (Int×Int)):Prop where
 hlen:qs.length=len
 hat:aL w ao qs
 hnil:ao=none→qs=[]∧cap=0
 hwf:∀(j:Nat) (p:Int×Int),qs[j]? =some p→Sn p
 hfit:len≤cap
theorem Nd {t e:TypeId} {fuel:Nat} {a:Option Addr} {len cap:Nat} {x:DataW H×List MemPlace} (ht:Tryz.prog.underlying t=some (.slice e)) (ce:Tryz.prog.cellsOf e=2)
 (hel:∀(n:Nat) (cs:List Value) (y:DataW H×List MemPlace),DataW.trod enc Tryz.prog W base (fun _=>true) held n e cs=some y→vA cs) (h:DataW.trod enc Tryz.prog W base (fun _=>true) held fuel t [.slice a len cap]=some x):
 ∃qs,BP W a len cap qs∧((x.1= .nil∧qs=[])∨∃es rest,x.1= .slice es rest∧len≤es.length):=by
 rcases Deep.open_slice ht h with ⟨hcs,hx⟩|⟨ad,l,c,m,n,D,Pl,hcs,_,hl,hm,hmm,rfl,hcell⟩
 ·simp at hcs
  obtain⟨rfl,rfl,rfl⟩:=hcs
  subst hx
  exact⟨[],⟨rfl,aL.nil _ _,fun _=>⟨rfl,rfl⟩,fun j p hj=>by simp at hj,Nat.le_refl _⟩,.inl ⟨rfl,rfl⟩⟩
 ·simp at hcs
  obtain⟨rfl,rfl,rfl⟩:=hcs
  have hmc:m=cap:=by simpa using hmm
  have each:∀i,i<m→∃q:Int×Int,W.cell? (ad.add (i*2))=some (.int .i64 q.1)∧W.cell? (ad.add (i*2+1))=some (.int .i64 q.2)∧Sn q:=fun i hi=>by
   obtain⟨cs',h1,h2⟩:=hcell i hi
   rw[ce] at h1
   obtain⟨_,hlen,hc⟩:=World.cells?_some h1
   obtain⟨u,v,rfl,hw⟩:=hel n cs' _ h2
   have e0:=hc 0 (by omega)
   have e1:=hc 1 (by omega)
   rw[Deep.add_add] at e0 e1
   exact⟨(u,v),by simpa using e0,by simpa using e1,hw⟩
  obtain⟨q,hq⟩:=Deep.choose_lt each
  refine⟨(List.range len).map q,⟨by simp,fun j p hj=> ?_,fun h=>(by cases h),fun j p hj=> ?_,hl⟩,.inr ⟨_,_,rfl,by simp⟩⟩
  ·have hi:j<len:=by
    have:=(List.getElem?_eq_some_iff.1 hj).1
    simpa using this
   simp[hi] at hj
   subst hj
   obtain⟨c0,c1,_⟩:=hq j (by omega)
   obtain⟨b,o,s⟩:=ad
   have hsp:s=none:=by
    obtain⟨c00,_⟩:=hq 0 (by omega)
    simpa[Addr.add] using World.cell?_spot c00
   subst hsp
   have ea:∀k,((⟨b,o,none⟩:Addr).add k)=⟨b,o+k,none⟩:=fun k=>by
    by_cases h0:k=0<;>simp[Addr.add,h0]
   rw[ea] at c0 c1
   exact⟨b,o,rfl,c0,by rw[←Nat.add_assoc] at c1;exact c1⟩
  ·have hi:j<len:=by
    have:=(List.getElem?_eq_some_iff.1 hj).1
    simpa using this
   simp[hi] at hj
   subst hj
   exact(hq j (by omega)).2.2
end
end
end Go.Proofs.YtnhcggfbkoppnaaGreat
