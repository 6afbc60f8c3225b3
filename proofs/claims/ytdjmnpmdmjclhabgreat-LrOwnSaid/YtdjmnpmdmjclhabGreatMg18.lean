import Derived.Test.YtdjmnpmdmjclhabGreatMg17
import Derived.Test.YtdjmnpmdmjclhabGreatMg16
namespace Go.Proofs.YtdjmnpmdmjclhabGreat
section
open Go.RowKit Go.Shelf Lt Pl
attribute [local go_sem] Oper.semAt_some
def uO (s:Bool):Int:=if s=true then 1 else -1
structure Cb (c:Wp) (p j:Nat) (pa:Option Addr) (pc:Nat) (ps:List Int) (s:Bool) (GI bj bs bi bt bu TP UP:Nat) (vs:List Value) (W V:World):Prop where
 jd:mY c p j pa pc ps W
 rows:bW W 0 (.slice (some ⟨GI,0,none⟩) c.n c.n) vs (eJ c.n c.es c.s c.es.length)
 aI:Below W.heap.size W V
 kj:Boxed V bj 64 (.pointer (some ⟨j,0,none⟩))
 ks:Boxed V bs 3 (.int .i64 (uO s))
 ki:Boxed V bi 72 (.slice (some ⟨GI,0,none⟩) c.n c.n)
 kt:Boxed V bt 27 (.slice (some ⟨TP,0,none⟩) c.es.length c.es.length)
 ku:Boxed V bu 130 (.slice (some ⟨UP,0,none⟩) c.n c.n)
 lo:W.heap.size≤bj∧W.heap.size≤bs∧W.heap.size≤bi∧W.heap.size≤bt∧W.heap.size≤bu∧W.heap.size≤TP∧W.heap.size≤UP
 ne:TP≠UP∧bj≠TP∧bj≠UP∧bs≠TP∧bs≠UP∧bi≠TP∧bi≠UP∧bt≠TP∧bt≠UP∧bu≠TP∧bu≠UP
theorem Cb.keep {c:Wp} {p j:Nat} {pa:Option Addr} {pc:Nat} {ps:List Int} {s:Bool} {GI bj bs bi bt bu TP UP:Nat} {vs:List Value} {W V X:World} (h:Cb c p j pa pc ps s GI bj bs bi bt bu TP UP vs W V) (hk:bE W.heap.size (fun b=>b=TP∨b=UP) V X):Cb c p j pa pc ps s GI bj bs bi bt bu TP UP vs W X:=by
 obtain⟨n0,n1,n2,n3,n4,n5,n6,n7,n8,n9,n10⟩:=h.ne
 exact⟨h.jd,h.rows,h.aI.trans hk.1,hk.boxed h.kj (by omega),hk.boxed h.ks (by omega),hk.boxed h.ki (by omega),hk.boxed h.kt (by omega),hk.boxed h.ku (by omega),h.lo,h.ne⟩
theorem Cb.cs {c:Wp} {p j:Nat} {pa:Option Addr} {pc:Nat} {ps:List Int} {s:Bool} {GI bj bs bi bt bu TP UP:Nat} {vs:List Value} {W X:World} (h:Cb c p j pa pc ps s GI bj bs bi bt bu TP UP vs W X):
 X.cell? ⟨bj,0,none⟩=some (.pointer (some ⟨j,0,none⟩))∧X.cell? ⟨j,0,none⟩=some (.pointer (some ⟨p,0,none⟩))∧X.cell? ⟨j,1,none⟩=some (.slice pa c.es.length pc)∧X.cell? ⟨p,2,none⟩=some (.slice c.f.a1 c.n c.f.c1)∧X.cell? ⟨p,3,none⟩=some (.slice c.f.a2 c.n c.f.c2)∧
 X.cell? ⟨bs,0,none⟩=some (.int .i64 (uO s))∧X.cell? ⟨bi,0,none⟩=some (.slice (some ⟨GI,0,none⟩) c.n c.n)∧X.cell? ⟨bt,0,none⟩=some (.slice (some ⟨TP,0,none⟩) c.es.length c.es.length)∧X.cell? ⟨bu,0,none⟩=some (.slice (some ⟨UP,0,none⟩) c.n c.n):=by
 have hj:=h.jd.later h.aI
 exact⟨h.kj.cell,hj.cells.1,hj.cells.2,hj.wk.c2,hj.wk.c3,h.ks.cell,h.ki.cell,h.kt.cell,h.ku.cell⟩
theorem EI {S:Nat→Prop} {A B C:World} (h:aC S A B) (k:aC S B C):aC S A C:=h.trans k
theorem Af {n m:Nat} {T:DF n m} {U:List Int} {Told:Nat→Prop} (h:Sk T U Told) {G x r:Nat} (hx:x<n) (hr:vP T Told x r) {w:World} (hi:aq w G U):Calls Tryz.prog 69 #[.slice (some ⟨G,0,none⟩) n n,.int .i64 (x:Int)] w fun e w'=>e= .returned (.int .i64 (r:Int))∧(∃U',Sk T U' Told∧aq w' G U')∧aC (fun b=>b=G) w w':=
 (GG h hx hi).mono fun e w' ⟨r',U',h1,h2,h3,h4,h5,h6,h7,h8⟩=>by
   have:r'=r:=vP.unique hx ⟨h2,h5,h6,h7⟩ hr
   subst this
   exact⟨h1,⟨U',h3,h4⟩,h8⟩
def Qt (n:Nat) (es:List (Int×Int)) (s:Df.St) (i d:Nat):Prop:=d<es.length∧Lo.tree es s d=false∧∃a,i≤a∧a<n∧Df.at_ s.ord a=(Lo.bJ es s d:Int)
def VU (es:List (Int×Int)) (s:Df.St) (v:Nat):List Nat:=(List.range es.length).filter fun e=> !Lo.tree es s e&&decide (Lo.bJ es s e=v)
theorem I7 {es:List (Int×Int)} {s:Df.St} {v d:Nat}:d∈VU es s v↔d<es.length∧Lo.tree es s d=false∧Lo.bJ es s d=v:=by
 unfold VU
 rw[abe,aaO]
 simp
theorem Qt.next {n:Nat} {es:List (Int×Int)} {s:Df.St} {x v d:Nat} (hx:x<n) (hv:Df.at_ s.ord x=(v:Int)):Qt n es s x d↔Qt n es s (x+1) d∨d∈VU es s v:=by
 rw[I7]
 constructor
 ·rintro⟨h1,h2,a,a1,a2,a3⟩
  by_cases e:a=x
  ·subst e
   rw[hv] at a3
   exact .inr ⟨h1,h2,by omega⟩
  ·exact .inl ⟨h1,h2,a,by omega,a2,a3⟩
 ·rintro(⟨h1,h2,a,a1,a2,a3⟩|⟨h1,h2,h3⟩)
  ·exact⟨h1,h2,a,by omega,a2,a3⟩
  ·exact⟨h1,h2,x,aad _,hx,by rw[hv,h3]⟩
theorem Qt.above {n:Nat} {es:List (Int×Int)} {s:Df.St} (hv:Si.Val n es) (h:Df.VF n es s) {x b d:Nat} (hx:x<n) (hb:Df.at_ s.ord x=(Lo.bJ es s b:Int)) (hd:d<es.length) (td:Lo.tree es s d=false) (jL:(Lr.df hv h).bQ (Lo.bJ es s b) (Lo.bJ es s d)) (hne:Lo.bJ es s b≠Lo.bJ es s d):Qt n es s (x+1) d:=by
 obtain⟨a,ha,e⟩:=h.once.sZ (Lo.bK hv h hd).2
 have hle:=Lo.B7 h hx ha hb e jL
 refine⟨hd,td,a,?_,ha,e⟩
 by_cases q:a=x
 ·subst q
  rw[hb] at e
  omega
 ·omega
section
variable {c:Wp} {p j:Nat} {pa:Option Addr} {pc:Nat} {ps:List Int} {W:World} {s:Bool} {GI:Nat} {vs:List Value} {sd:Nat→Bool}
set_option maxRecDepth 100000 in
set_option maxHeartbeats 16000000 in
theorem Nx (h:mY c p j pa pc ps W) (hps:∀e,e<c.es.length→ps[e]?.getD 0=eF (Lr.df h.wk.val h.wk.vf) sd e) (hrows:bW W 0 (.slice (some ⟨GI,0,none⟩) c.n c.n) vs (eJ c.n c.es c.s c.es.length)):
 Calls Tryz.prog 43 #[.pointer (some ⟨j,0,none⟩),.int .i64 (uO s),.slice (some ⟨GI,0,none⟩) c.n c.n] W fun e w'=>∃TP tp,e= .returned (.slice (some ⟨TP,0,none⟩) c.es.length c.es.length)∧aq w' TP tp∧tp.length=c.es.length∧(∀e,e<c.es.length→m7 (Lr.df h.wk.val h.wk.vf) sd s e (g tp e))∧W.heap.size≤TP∧Below W.heap.size W w':=by
 have cj:=h.wk.val.few
 have hhi:=h.wk.val.hi
 obtain⟨sv,Fj⟩:∃sv,sv=uO s:=⟨_,rfl⟩
 rw[←Fj]
 have HR:Hid (∀(x:Int) (b:Nat) (V:World),aq V b [x]→Calls Tryz.prog 50 #[.slice (some ⟨b,0,none⟩) 1 1,.int .i64 (c.es.length:Int)] V (vM x c.es.length V)):=fun x b V hV=>qI x c.es.length b 1 (by omega) V hV
 have HN:Hid (∀V,Calls Tryz.prog 68 #[.int .i64 (c.n:Int)] V fun e w'=>∃G,e= .returned (.slice (some ⟨G,0,none⟩) c.n c.n)∧aq w' G (wD c.n)∧V.heap.size≤G∧Below V.heap.size V w'):=fun V=>CS c.n (by omega) V
 have UA:Hid (∀X,Calls Tryz.prog 40 #[.slice c.f.a3 c.n c.f.c3] X (o7 c.f.a3 c.n c.f.c3 X)):=fun X=>kO _ _ _ X
 obtain⟨W1,hW1⟩:∃W1,W1=(((W.alloc (.cells #[.pointer (some ⟨j,0,none⟩)] 64)).alloc (.cells #[.int .i64 sv] 3)).alloc (.cells #[.slice (some ⟨GI,0,none⟩) c.n c.n] 72)).alloc (.cells #[.int .i64 (-1)] 3):=⟨_,rfl⟩
 have hs1:W1.heap.size=W.heap.size+4:=by rw[hW1];simp
 have hb1:Below W.heap.size W W1:=by rw[hW1];exact((((aae _ _).alloc (aad _) _).alloc (by simp) _).alloc (by simp;omega) _).alloc (by simp;omega) _
 have a0:Boxed W1 W.heap.size 64 (.pointer (some ⟨j,0,none⟩)):=by
  rw[hW1]
  show _=_
  rw[aap _ _ _ (by simp;omega),aap _ _ _ (by simp;omega),aap _ _ _ (by simp)]
  exact heap_alloc_new W _
 have a1:Boxed W1 (W.heap.size+1) 3 (.int .i64 sv):=by
  rw[hW1]
  show _=_
  rw[aap _ _ _ (by simp),aap _ _ _ (by simp)]
  have:=heap_alloc_new (W.alloc (.cells #[.pointer (some ⟨j,0,none⟩)] 64)) (.cells #[.int .i64 sv] 3)
  rw[show(W.alloc (.cells #[.pointer (some ⟨j,0,none⟩)] 64)).heap.size=W.heap.size+1 by simp] at this
  exact this
 have a2:Boxed W1 (W.heap.size+2) 72 (.slice (some ⟨GI,0,none⟩) c.n c.n):=by
  rw[hW1]
  show _=_
  rw[aap _ _ _ (by simp)]
  have:=heap_alloc_new ((W.alloc (.cells #[.pointer (some ⟨j,0,none⟩)] 64)).alloc (.cells #[.int .i64 sv] 3)) (.cells #[.slice (some ⟨GI,0,none⟩) c.n c.n] 72)
  rw[show((W.alloc (.cells #[.pointer (some ⟨j,0,none⟩)] 64)).alloc (.cells #[.int .i64 sv] 3)).heap.size=W.heap.size+2 by simp] at this
  exact this
 have a3:aq W1 (W.heap.size+3) [-1]:=by
  rw[hW1]
  have:=heap_alloc_new (((W.alloc (.cells #[.pointer (some ⟨j,0,none⟩)] 64)).alloc (.cells #[.int .i64 sv] 3)).alloc (.cells #[.slice (some ⟨GI,0,none⟩) c.n c.n] 72)) (.cells #[.int .i64 (-1)] 3)
  rw[show(((W.alloc (.cells #[.pointer (some ⟨j,0,none⟩)] 64)).alloc (.cells #[.int .i64 sv] 3)).alloc (.cells #[.slice (some ⟨GI,0,none⟩) c.n c.n] 72)).heap.size=W.heap.size+3 by simp] at this
  exact this
 have hJ1:=h.later hb1
 have x0:=a0.cell
 have x1:=hJ1.cells.2
 have qz:=Nu.hid (HR.out (-1) (W.heap.size+3) W1 a3)
 have HJ:=Nu.hid h
 have WH:=Nu.hid hps
 have HRW:=Nu.hid hrows
 have HSV:=Nu.hid Fj
 have jE:=Nu.hid hW1
 have aY:=Nu.hid hb1
 have CB:=Nu.hid a0
 have CA:=Nu.hid a1
 have Xd:=Nu.hid a2
 have F8:=Nu.hid hs1
 rw[hW1] at x0 x1 qz
 clear Fj hb1 a0 a1 a2 a3 hJ1 hW1 hs1 hrows
 refine(callsIn_wide (n:=9)).1 ?_
 refine callsIn_of_wp_marks Tryz.func43 rfl trivial ?_ rfl
 simp only[Tryz.ntmps43,abR,aar,aaS,Nat.reduceAdd,Nat.reduceSub,abA,abB,abS,abK,aaE,abi]
 refine wpIn_wide.2 ?_
 go_wp2_with fail
 go_at_call 50
 refine qz.out.mono ?_
 rw[←jE.out]
 rintro e W3 ⟨TP,rfl,i3,l3,b3⟩
 obtain⟨W4,lM⟩:∃W4,W4=W3.alloc (.cells #[.slice (some ⟨TP,0,none⟩) c.es.length c.es.length] 27):=⟨_,rfl⟩
 have b4:Below W3.heap.size W3 W4:=by rw[lM];exact(aae _ _).alloc (aad _) _
 have s4:W4.heap.size=W3.heap.size+1:=by rw[lM];simp
 have k4:Boxed W4 W3.heap.size 27 (.slice (some ⟨TP,0,none⟩) c.es.length c.es.length):=by rw[lM];exact heap_alloc_new W3 _
 have S3:Below W1.heap.size W1 W4:=b3.trans (b4.mono b3.size)
 have hJ4:=HJ.out.later (aY.out.trans (S3.mono aY.out.size))
 have y0:=(show Boxed W4 W.heap.size 64 (.pointer (some ⟨j,0,none⟩)) from(S3.block _ CB.out.lt).trans CB.out).cell
 have y1:=hJ4.cells.1
 have y2:=hJ4.wk.c0
 have uG:=Nu.hid (HN.out W4)
 have Ma:=Nu.hid (i3.later b4)
 have HK4:=Nu.hid k4
 have yX:=Nu.hid S3
 have HS4:=Nu.hid s4
 have HL3:=Nu.hid l3
 have Cl:=Nu.hid i3.lt
 have om:=Nu.hid lM
 have WB:=Nu.hid b3.size
 rw[lM] at y0 y1 y2 uG
 clear i3 l3 b3 lM b4 s4 k4 S3 hJ4 x0 x1 qz
 simp only[]
 go_wp2_with fail
 go_at_call 68
 refine uG.out.mono ?_
 rw[←om.out]
 rintro e W6 ⟨UP,rfl,i6,l6,b6⟩
 obtain⟨W7,zv⟩:∃W7,W7=W6.alloc (.cells #[.slice (some ⟨UP,0,none⟩) c.n c.n] 130):=⟨_,rfl⟩
 have b7:Below W6.heap.size W6 W7:=by rw[zv];exact(aae _ _).alloc (aad _) _
 have V9:Below W4.heap.size W4 W7:=b6.trans (b7.mono b6.size)
 have Sz:Cb c p j pa pc ps s GI W.heap.size (W.heap.size+1) (W.heap.size+2) W3.heap.size W6.heap.size TP UP vs W W7:=by
  have S2:Below W1.heap.size W1 W7:=yX.out.trans (V9.mono yX.out.size)
  have t1:=F8.out
  have t4:=HS4.out
  have t3:=HL3.out
  have tt:=Cl.out
  have tb:=WB.out
  have u6:=i6.lt
  have s6:=b6.size
  refine⟨HJ.out,HRW.out,aY.out.trans (S2.mono aY.out.size),(S2.block _ CB.out.lt).trans CB.out,?_,(S2.block _ Xd.out.lt).trans Xd.out,(V9.block _ HK4.out.lt).trans HK4.out,by rw[zv];exact heap_alloc_new W6 _,by omega,by omega⟩
  rw[←HSV.out]
  exact(S2.block _ CA.out.lt).trans CA.out
 have HI7:=Nu.hid (i6.later b7)
 have HT7:=Nu.hid (Ma.out.later V9)
 have HTP:=Nu.hid Sz
 have y0:=Sz.kj.cell
 have y1:=(HJ.out.later Sz.aI).cells.1
 have y2:=(HJ.out.later Sz.aI).wk.c4
 have Tp:=Nu.hid zv
 rw[zv] at y0 y1 y2
 clear i6 l6 b6 zv b7 V9 Sz uG
 simp only[]
 go_wp2_with (go_at_call 40;refine(UA.out _).mono ?_;rw[←Tp.out];rintro e1 V1 ⟨Bs,rfl,tT,bs,dV⟩)
 obtain⟨T,xy⟩:∃T,T=Lr.df HJ.out.wk.val HJ.out.wk.vf:=⟨_,rfl⟩
 have uw:=Nu.hid xy
 have hvl:=HJ.out.wk.val
 have gP:=HJ.out.wk.vf
 have s8:=dV.size
 have SA:=HTP.out.keep ((bE.refl _ _ _).grow dV HTP.out.aI.size)
 obtain⟨lo1,Z0,lo3,ZZ,ZY,lo6,lo7⟩:=SA.lo
 have hne:=SA.ne
 have hs7:=HTP.out.aI.size
 have tpl:=HT7.out.lt
 have upl:=HI7.out.lt
 have hcs:∀i,i<c.n→∃b o,c.f.a3=some ⟨b,o,none⟩∧∀X,bE W.heap.size (fun b=>b=TP∨b=UP) V1 X→X.cell? ⟨b,o+i,none⟩=some (.int .i64 (Df.at_ c.s.ord i)):=fun i hi=>by
  obtain⟨b,o,e,hc⟩:=HJ.out.wk.ord hi
  exact⟨b,o,e,fun X hX=>hc X (SA.aI.trans hX.1) i hi⟩
 refine(wpIn_wide (n:=9)).1 ?_
 refine sr (n:=9) (gf:=66) (lb:= #[.pointer (some ⟨Bs,0,none⟩)]) (by rfl) (enters_of Tryz.func66 (by kernel_rfl) rfl)
  (xH Bs W.heap.size c.f.c3 c.n (fun b=>b=TP∨b=UP) c.f.a3 c.s.ord (by omega) V1 (by omega) bs hcs (by omega)) (by omega) (fun _=>rfl)
  (fun pre X=>(∃A1 A2,aq X TP A1∧aq X UP A2∧∃Told,Sk T A2 Told∧fJ T sd s (fun _ d=>Qt c.n c.es c.s (c.n-pre.length) d) A1 Told)∧bE W.heap.size (fun b=>b=TP∨b=UP) V1 X) (fun _ _ _=>False)
  (ab0 (pH _ TP UP (fun (pre:List Nat) A1 A2=>∃Told,Sk T A2 Told∧fJ T sd s (fun _ d=>Qt c.n c.es c.s (c.n-pre.length) d) A1 Told)) (bE.own (by omega) (by omega))) (fun _ _ _ _ _ hs _ _=>hs)
  ⟨⟨_,_,HT7.out.later dV,HI7.out.later dV,_,Sk.start (uJ _) (fun x hx=>UJ hx),(fJ.start (by simp) (fun e he=>FB he)).congr fun e d _ _ _=>⟨fun q=>q.elim,fun q=>by obtain⟨_,_,a,a1,a2,_⟩:=q;simp at a1;omega⟩⟩,bE.refl _ _ _⟩
  (fun x a' _=>a'={ tmps:= #[.pointer (some ⟨j,0,none⟩),.int .i64 sv,.slice (some ⟨GI,0,none⟩) c.n c.n,.pointer (some ⟨W.heap.size,0,none⟩),.pointer (some ⟨W.heap.size+1,0,none⟩),.pointer (some ⟨W.heap.size+1+1,0,none⟩),.slice none 0 0,.pointer (some ⟨W3.heap.size,0,none⟩),.pointer (some ⟨W6.heap.size,0,none⟩),undef,.int .i64 (Df.at_ c.s.ord x),undef,undef,undef,undef,undef,.slice (some ⟨W.heap.size+1+1+1,0,none⟩) 1 1,.pointer (some ⟨j,0,none⟩),.pointer (some ⟨j,0,none⟩),.pointer (some ⟨j,1,none⟩),.slice pa c.es.length pc,.int .i64 (c.es.length:Int),.slice (some ⟨TP,0,none⟩) c.es.length c.es.length,.pointer (some ⟨j,0,none⟩),.pointer (some ⟨j,0,none⟩),.pointer (some ⟨j,0,none⟩),.pointer (some ⟨p,0,none⟩),.pointer (some ⟨p,0,none⟩),.pointer (some ⟨p,0,none⟩),.pointer (some ⟨p,0,none⟩),.int .i64 (c.n:Int),.slice (some ⟨UP,0,none⟩) c.n c.n,.pointer (some ⟨j,0,none⟩),.pointer (some ⟨j,0,none⟩),.pointer (some ⟨j,0,none⟩),.pointer (some ⟨p,0,none⟩),.pointer (some ⟨p,0,none⟩),.pointer (some ⟨p,2,none⟩),.pointer (some ⟨p,4,none⟩),.slice c.f.a3 c.n c.f.c3,.func (.func 66) #[] #[.pointer (some ⟨Bs,0,none⟩)],.int .i64 (x:Int),.int .i64 (Df.at_ c.s.ord x),undef,undef,undef,undef,undef,undef,undef,undef,undef,undef,undef,undef,undef,undef,undef,undef,undef,undef,undef,undef,undef,undef,undef,undef,undef,undef,undef,undef,undef,undef,undef,undef,undef,undef,undef,undef,undef,undef,undef,undef,undef,undef,undef,undef,undef,undef,undef,undef,undef,undef,undef,undef,undef,undef,undef,undef,undef,undef,undef,undef,undef,undef,undef,undef,undef,undef,undef,undef,undef,undef,undef,undef,undef,undef,undef,undef,undef,undef,undef,undef,undef,undef,undef,undef,undef,undef,undef],defers:=[] })
  (fun x a'=>ownFrom_pure _ _) ?assign ?body ?done ?stop
 case assign=>
  intro l pre x X K _ hi hK
  gi_wp2
  exact hK _ _ (ab6 _ _) (bE.refl _ _ _) hi rfl
 case body=>
  rintro l pre x0 a' C ⟨hl,-⟩-hpx ⟨⟨A1,A2,i1,i2,Told,hsk,tO⟩,hkp⟩ rfl
  obtain⟨hpl,uZ⟩:=pZ hpx
  have hx0:x0<c.n:=by omega
  obtain⟨v,hv⟩:∃v:Nat,Df.at_ c.s.ord x0=(v:Int):=⟨(Df.at_ c.s.ord x0).toNat,by have:=(gP.once x0 hx0).1;omega⟩
  have dh:v<c.n:=by have:=(gP.once x0 hx0).1;omega
  rw[hv]
  have XE:fJ T sd s (fun _ d=>Qt c.n c.es c.s (x0+1) d) A1 Told:=by
   rw[show c.n-pre.length=x0+1 by omega] at tO
   exact tO
  have LU:Hid (c.n-(pre++[x0]).length=x0):=by show _=_;simp;omega
  have hCs:V1.heap.size≤C.heap.size:=hkp.1.size
  have IX:=SA.keep hkp
  obtain⟨kj,kp,U4,k2,k3,ks,ki,kt,ku⟩:=IX.cs
  obtain⟨bh,oh,eh,hch⟩:=IX.jd.wk.az dh
  have z1:=hch C IX.aI v dh
  obtain⟨hgt,KW⟩:∃hgt,Df.at_ c.s.az v=hgt:=⟨_,rfl⟩
  rw[KW] at z1
  rw[eh] at k3
  have VM:=IX.rows.later IX.aI
  have hat:=kA (es:=c.es) (s:=c.s) (i:=c.es.length) dh
  obtain⟨xv,CW⟩:=VM.S5 hat
  have hown:=VM.row v xv _ CW hat
  obtain⟨fl,hfl⟩:∃fl,fl=VU c.es c.s v:=⟨_,rfl⟩
  have hrow:mM c.es c.s c.es.length v=fl.map fun e=>((Lo.oh c.s e:Nat):Int):=by rw[hfl];rfl
  rw[hrow] at hown
  obtain⟨ra,rc,rfl,aeh,hrb⟩:=hown.form
  rw[aa3] at CW
  have z2:C.cell? ⟨GI,v,none⟩=some (.slice ra fl.length rc):=by
   have:=abj VM.outer (g:=GI) rfl v _ CW
   rwa[show((⟨GI,0,none⟩:Addr).add v)=⟨GI,v,none⟩ by by_cases h0:v=0<;>simp[Addr.add,h0]] at this
  have aeZ:fl.length≤c.es.length:=by
   have:=A0 c.es c.s c.es.length v
   rw[hrow,aa3] at this
   exact this
  have v0:(0:Int)≤(v:Int):=by omega
  have v1:(v:Int)<(c.n:Int):=by omega
  have aeQ:0≤hgt∧hgt≤4194304:=by
   have:=(Lr.df hvl gP).low v dh
   have e1:(Lr.df hvl gP).az v=hgt:=KW
   rw[e1] at this
   omega
  have j8:Hid (∀X,aC (fun b=>b=TP∨b=UP) C X→∀k (hk:k<fl.length),∃b o,ra=some ⟨b,o,none⟩∧X.cell? ⟨b,o+k,none⟩=some (.int .i64 ((Lo.oh c.s fl[k]:Nat):Int))):=fun X hX k hk=>by
   have hRX:=(IX.keep (dQ (n₀:=W.heap.size) hX (by omega) (fun b hb=>by rcases hb with rfl|rfl<;>omega)))
   have Q7:=(hRX.rows.later hRX.aI).row v _ _ CW hat
   rw[hrow] at Q7
   obtain⟨ra',rc',ev,hin,-⟩:=Q7.form
   obtain⟨b,o,e1,hcell⟩:=hin k ((Lo.oh c.s fl[k]:Nat):Int) (by rw[aay,aac hk];rfl)
   rw[aa3] at ev
   obtain⟨e2,-⟩:=(show ra=ra'∧True from⟨by cases ev;rfl,trivial⟩)
   exact⟨b,o,by rw[e2];exact e1,hcell⟩
  have Wx:Hid (∃(tp U:List Int) (Told:Nat→Prop),aq C TP tp∧aq C UP U∧Sk T U Told∧fJ T sd s (fun _ d=>Qt c.n c.es c.s (x0+1) d∨d∈fl.take 0) tp Told):=⟨A1,A2,Told,i1,i2,hsk,XE.congr fun e d _ _ _=>by simp⟩
  have HFL:Hid (∀k (hk:k<fl.length),fl[k]<c.es.length∧Lo.tree c.es c.s fl[k]=false∧Lo.bJ c.es c.s fl[k]=v):=fun k hk=>by
   exact I7.1 (by rw[←hfl];exact aaX hk)
  have bI:Hid (∀d,(Qt c.n c.es c.s (x0+1) d∨d∈fl.take fl.length)↔Qt c.n c.es c.s x0 d):=fun d=>by
   rw[Qt.next hx0 hv,←hfl,acg]
  have Tv:=Nu.hid IX
  have ot:=Nu.hid hkp
  have WU:=Nu.hid KW
  have HV:=Nu.hid hv
  clear hown hrb aeh i1 i2 hsk tO XE hkp CW hat VM hrow hfl IX KW hv hpx uZ hpl hch kt ku ks U4 k2
  gi_wp2
  gi_loopw [59] (fun iv wr=>∃(k:Nat),iv= .int .i64 (k:Int)∧k≤fl.length∧aC (fun b=>b=TP∨b=UP) C wr∧∃(tp U:List Int) (Told:Nat→Prop),aq wr TP tp∧aq wr UP U∧Sk T U Told∧fJ T sd s (fun _ d=>Qt c.n c.es c.s (x0+1) d∨d∈fl.take k) tp Told) (fun iv _=>fl.length-(intOf iv).toNat)
  case atStart=>exact⟨0,rfl,aax _,aC.refl _ _,Wx.out⟩
  case round=>
   obtain⟨k,rfl,cU,hwr,tp,U,Told,iT,iU,hsk,tO⟩:=hrel
   by_cases hlt:k<fl.length
   ·obtain⟨f1,f2,f3⟩:=HFL.out k hlt
    obtain⟨b,hb⟩:∃b,b=fl[k]:=⟨_,rfl⟩
    obtain⟨rb,ro,er,hcr⟩:=j8.out wr hwr k hlt
    rw[←hb] at f1 f2 f3 hcr
    obtain⟨o1,-,o3,o4⟩:=Lo.cO gP f1
    have MD:Cs.fr c.es (Lo.oh c.s b)=Lo.fr c.es c.s b:=rfl
    obtain⟨q,hq⟩:∃q,Lo.oh c.s b=q:=⟨_,rfl⟩
    rw[hq] at o1 o3 o4 hcr MD
    have Vh:=(eC o4).1
    have xx:=Tv.out.keep (dQ (n₀:=W.heap.size) hwr (by omega) (fun b hb=>by rcases hb with rfl|rfl<;>omega))
    obtain⟨pb,po,ep,pW⟩:=xx.jd.at f1
    obtain⟨kj,kp,U4,-,-,ks,-,kt,-⟩:=xx.cs
    have hpv:ps[b]?.getD 0=if sd b=true then 1 else -1:=by
     rw[WH.out b f1]
     exact qF f2
    have yJ:∀D:LW wr,D.val.cell? ⟨W.heap.size,0,none⟩=some (.pointer (some ⟨j,0,none⟩)):=fun D=>(xx.keep ((bE.refl _ _ _).grow D.h xx.aI.size)).cs.1
    have yP:∀D:LW wr,D.val.cell? ⟨j,1,none⟩=some (.slice (some ⟨pb,po,none⟩) c.es.length pc):=fun D=>by
     rw[←ep]
     exact(xx.keep ((bE.refl _ _ _).grow D.h xx.aI.size)).cs.2.2.1
    have yQ:∀D:LW wr,D.val.cell? ⟨pb,po+b,none⟩=some (.int .i64 (uO (sd b))):=fun D=>by
     have:=pW D.val (xx.aI.trans (D.h.mono xx.aI.size)) b f1
     rw[hpv] at this
     exact this
    have yS:∀D:LW wr,D.val.cell? ⟨W.heap.size+1,0,none⟩=some (.int .i64 (uO s)):=fun D=>(xx.keep ((bE.refl _ _ _).grow D.h xx.aI.size)).cs.2.2.2.2.2.1
    have X5:=LW.any wr
    have kk0:(0:Int)≤(k:Int):=by omega
    have kk1:(k:Int)<(fl.length:Int):=by omega
    have kk2:(k:Int)+1≤4194304:=by omega
    have b0:(0:Int)≤(b:Int):=by omega
    have b1:(b:Int)<(c.es.length:Int):=by omega
    have H9:IntKind.i64.wrap (b:Int)=(b:Int):=by rw[aa1];omega
    rw[er]
    have fM:∀d,(d∈fl.take (k+1))↔(d∈fl.take k∨d=b):=fun d=>by
     rw[abL,aac hlt,←hb]
     simp
    have m8:=Nu.hid hwr
    have vR:=Nu.hid xx
    by_cases hs:sd b=s
    ·have hzz:uO (sd b)=uO s:=by rw[hs]
     obtain⟨zs,hzs⟩:∃zs,uO s=zs:=⟨_,rfl⟩
     rw[hzz,hzs] at yQ
     rw[hzs] at yS
     have WS:=Nu.hid iT
     have HIU:=Nu.hid iU
     have HSK:=Nu.hid hsk
     have YV:=Nu.hid tO
     have kK:=Nu.hid fM
     have WB:=Nu.hid hs
     have agE:=Nu.hid MD
     have HF2:=Nu.hid f2
     have Um:=Nu.hid f3
     have HO3:=Nu.hid o3
     clear hwr xx iT iU hsk tO hb pW ep er MD hq o1 hpv fM hs hzz hzs kj kp U4 ks kt f2 f3
     gi_wp2
     refine fZ (by kernel_rfl) (by kernel_rfl) (by kernel_rfl) ?_
     repeat (go_big_quiet_step (fail))
     refine wpQuiet_nil ?_
     rintro _ ⟨E,rfl⟩
     obtain⟨X0,kD⟩:∃X0,X0=E.val:=⟨_,rfl⟩
     have IQ:Below wr.heap.size wr X0:=by rw[kD];exact E.h
     rw[←kD]
     clear yJ yP yQ yS X5 kD E
     have Xy:=m8.out.later IQ
     have hT0:=vR.out.keep ((bE.refl _ _ _).grow IQ vR.out.aI.size)
     have kt0:=hT0.cs.2.2.2.2.2.2.2.1
     have Va:=WS.out.later IQ
     have iU0:=HIU.out.later IQ
     obtain⟨zt,Qv⟩:∃zt,tp[b]? =some zt:=⟨_,aac (by rw[YV.out.len];exact f1)⟩
     have kc0:X0.cell? ⟨TP,b,none⟩=some (.int .i64 zt):=Va.cell Qv
     have Z9:X0.frozen? ⟨TP,b,none⟩=false:=Va.free b
     obtain⟨X1,iE⟩:∃X1,X1=X0.setCell ⟨TP,b,none⟩ (.int .i64 hgt):=⟨_,rfl⟩
     have QA:aC (fun b=>b=TP∨b=UP) C X1:=by rw[iE];exact Xy.setCell (.inl rfl) _
     have iT1:aq X1 TP (tp.set b hgt):=by rw[iE];exact Va.set b _
     have iU1:aq X1 UP U:=by rw[iE];exact iU0.aK (aaR hne.1) _
     have Sy:=Tv.out.keep (dQ (n₀:=W.heap.size) QA (by omega) (fun b hb=>by rcases hb with rfl|rfl<;>omega))
     have RM:=(Lo.bK hvl gP f1).1
     obtain⟨fb,MO⟩:∃fb,Lo.fr c.es c.s b=fb:=⟨_,rfl⟩
     rw[MO] at RM
     have hfb:fb<c.n:=RM
     obtain⟨rt,hrt⟩:=HSK.out.root hfb
     have hTf:T.fr b=fb:=by rw[uw.out];exact MO
     have hTg:T.go b=v:=by rw[uw.out];exact Um.out
     have hTt:T.tree b=false:=by rw[uw.out];exact HF2.out
     have hTh:∀z,T.az z=Df.at_ c.s.az z:=fun z=>by rw[uw.out];rfl
     have XD:fJ T sd s (PB T (fun d=>Qt c.n c.es c.s (x0+1) d∨d∈fl.take k) b (T.az rt)) (tp.set b hgt) Told:=by
      have:=YV.out.first f1 hTt WB.out (by rw[hTf];exact hrt)
      rw[hTg,hTh v,WU.out] at this
      exact this
     have HFB:Hid (∀V,bV c p V→Calls Tryz.prog 70 #[.pointer (some ⟨p,0,none⟩),.int .i64 (q:Int)] V fun e w'=>e= .returned (.int .i64 (fb:Int))∧w'=V):=fun V hV=>by
      have:=lZ hV HO3.out
      rw[agE.out,MO] at this
      exact this
     have hen:∀args w,(callFunc 70 args).run Tryz.prog w= .ok (.enter 70 args) w:=enters_of Tryz.func70 (by kernel_rfl) rfl
     have ae4:∀args w,(callFunc 69 args).run Tryz.prog w= .ok (.enter 69 args) w:=enters_of Tryz.func69 (by kernel_rfl) rfl
     have agp:Hid (∃U,Sk T U Told∧aq X1.drew UP U):=⟨U,HSK.out,iU1⟩
     have YT:Hid (Cb c p j pa pc ps s GI W.heap.size (W.heap.size+1) (W.heap.size+2) W3.heap.size W6.heap.size TP UP vs W X1.drew):=Sy.keep ((bE.refl _ _ _).grow ((aae _ _).drew) Sy.aI.size)
     have VC:W.heap.size≤X1.drew.heap.size:=YT.out.aI.size
     have WC:=Nu.hid hrt
     have ng:=Nu.hid iT1
     have af4:=Nu.hid QA
     have Tm:=Nu.hid iE
     have agd:=Nu.hid XD
     have Ph:=Nu.hid hTh
     have HTF:=Nu.hid hTf
     have Wv:=Nu.hid hTg
     have Wu:=Nu.hid hTt
     have rO:=Nu.hid f1
     clear IQ Xy hT0 Va iU0 Qv iE QA iT1 iU1 Sy RM MO hrt hTf hTg hTt hTh XD
     gi_wp2
     rw[←Tm.out]
     clear kc0 Z9 kt0
     refine wpIn_region_any (by kernel_rfl) ?_
     refine aj.B6 (fun ix=>match ix with|0=> .slice (some ⟨UP,0,none⟩) c.n c.n|1=> .pointer (some ⟨j,0,none⟩)|2=> .pointer (some ⟨j,0,none⟩)|3=> .pointer (some ⟨j,0,none⟩)|4=> .pointer (some ⟨p,0,none⟩)|5=> .int .i64 (q:Int)|6=> .int .i64 (fb:Int)|7=> .int .i64 (rt:Int)|8=> .int .i64 (rt:Int)|_=>undef) (fun _ X=>aC (fun b=>b=UP) X1.drew X∧∃U,Sk T U Told∧aq X UP U) 130 rfl (by kernel_rfl) (by kernel_rfl) ⟨aC.refl _ _,agp.out⟩ ?_ ?_
     ·intro i o' Ls X ev ho bP hC bU hdc aA aS lG iW
      have hc:i=0∨i=1∨i=2∨i=3∨i=4∨i=5∨i=6∨i=7∨i=8:=by
       have:i<9:=(aam.1 ho).1
       omega
      have K9:=YT.out.keep (dQ (n₀:=W.heap.size) (hC.1.mono (fun b _ hb=> .inr hb)) VC (fun b hb=>by rcases hb with rfl|rfl<;>omega))
      obtain⟨kj,kp,-,-,-,-,-,-,ku⟩:=K9.cs
      have kw:=(K9.jd.later K9.aI).wk
      rcases hc with rfl|rfl|rfl|rfl|rfl|rfl|rfl|rfl|rfl<;>obtain rfl:=aak ho
      ·have e1:ev (.tmp 8)= .pointer (some ⟨W6.heap.size,0,none⟩):=aS 8 (by kernel_rfl)
       exact aj.ah (v:= .slice (some ⟨UP,0,none⟩) c.n c.n) (w':=X) (by simp[execOp,go_sem,e1,ku]) ⟨rfl,hC⟩
      ·have e1:ev (.tmp 3)= .pointer (some ⟨W.heap.size,0,none⟩):=aS 3 (by kernel_rfl)
       exact aj.ah (v:= .pointer (some ⟨j,0,none⟩)) (w':=X) (by simp[execOp,go_sem,e1,kj]) ⟨rfl,hC⟩
      ·have e1:ev (.tmp 79)= .pointer (some ⟨j,0,none⟩):=aA 1 79 (by omega) rfl (by decide)
       exact aj.ah (v:= .pointer (some ⟨j,0,none⟩)) (w':=X) (by simp[execOp,go_sem,e1]) ⟨rfl,hC⟩
      ·have e1:ev (.tmp 80)= .pointer (some ⟨j,0,none⟩):=aA 2 80 (by omega) rfl (by decide)
       exact aj.ah (v:= .pointer (some ⟨j,0,none⟩)) (w':=X) (by simp[execOp,go_sem,e1]) ⟨rfl,hC⟩
      ·have e1:ev (.tmp 81)= .pointer (some ⟨j,0,none⟩):=aA 3 81 (by omega) rfl (by decide)
       exact aj.ah (v:= .pointer (some ⟨p,0,none⟩)) (w':=X) (by simp[execOp,go_sem,e1,kp]) ⟨rfl,hC⟩
      ·have e1:ev (.tmp 13)= .int .i64 (q:Int):=aS 13 (by kernel_rfl)
       exact aj.ah (v:= .int .i64 (q:Int)) (w':=X) (by simp[execOp,go_sem,e1]) ⟨rfl,hC⟩
      ·have e1:ev (.tmp 82)= .pointer (some ⟨p,0,none⟩):=aA 4 82 (by omega) rfl (by decide)
       have e2:ev (.tmp 83)= .int .i64 (q:Int):=aA 5 83 (by omega) rfl (by decide)
       exact AnyM.jO (f:=70) (args:= #[.pointer (some ⟨p,0,none⟩),.int .i64 (q:Int)]) (by simp[execOp,go_sem,e1,e2,hen,iW]) (HFB.out _ kw) ⟨rfl,hC⟩
      ·have e1:ev (.tmp 78)= .slice (some ⟨UP,0,none⟩) c.n c.n:=aA 0 78 (by omega) rfl (by decide)
       have e2:ev (.tmp 84)= .int .i64 (fb:Int):=aA 6 84 (by omega) rfl (by decide)
       obtain⟨hw,U,hU1,Sw⟩:=hC
       have hrun:∀o:Oper,o.op= .call { callee:= .value (.func 69),args:= #[.tmp 78,.tmp 84],argTypes:= #[130,3] }→(execOp ev o).run Tryz.prog X= .ok (.enter 69 #[.slice (some ⟨UP,0,none⟩) c.n c.n,.int .i64 (fb:Int)]) X:=fun o ho=>by
        simp[execOp,ho,go_sem,e1,e2,ae4,iW]
       unfold aj.cF
       rw[hrun _ rfl]
       refine(Af hU1 hfb WC.out Sw).mono fun e X2 hk=>⟨_,hk.1,rfl,EI hw hk.2.2,hk.2.1⟩
      ·have e1:ev (.tmp 85)= .int .i64 (rt:Int):=aA 7 85 (by omega) rfl (by decide)
       exact aj.ah (v:= .int .i64 (rt:Int)) (w':=X) (by simp[execOp,go_sem,e1]) ⟨rfl,hC⟩
     ·intro Ls X hall hC
      obtain⟨hwU,U1,hsU,CZ⟩:=hC
      have A6:aC (fun b=>b=TP∨b=UP) C X:=(af4.out.drew).trans (hwU.mono fun b _ hb=> .inr hb)
      have Yk:aq X TP (tp.set b hgt):=(hwU.block TP (by have:=ng.out.lt;exact this) (fun e=>hne.1 e)).trans ng.out
      have HST:Hid (rt<c.n∧T.bQ rt fb∧¬Told rt∧aC (fun b=>b=TP∨b=UP) C X∧∃tp U,aq X TP tp∧aq X UP U∧Sk T U Told∧fJ T sd s (PB T (fun d=>Qt c.n c.es c.s (x0+1) d∨d∈fl.take k) b (T.az rt)) tp Told):=⟨WC.out.1,WC.out.2.1,WC.out.2.2.1,A6,_,U1,Yk,CZ,hsU,agd.out⟩
      clear hwU hsU CZ A6 Yk hall VC
      simp only[aj.canon,aj.dst,Array.size,aar,aaS]
      simp[Act.put]
      gi_wp2
      gi_loopw [14] (fun wv wr=>∃(w:Nat) (Told:Nat→Prop),wv= .int .i64 (w:Int)∧w<c.n∧T.bQ w fb∧¬Told w∧aC (fun b=>b=TP∨b=UP) C wr∧∃tp U,aq wr TP tp∧aq wr UP U∧Sk T U Told∧fJ T sd s (PB T (fun d=>Qt c.n c.es c.s (x0+1) d∨d∈fl.take k) b (T.az w)) tp Told) (fun wv _=>(T.az (intOf wv).toNat).toNat)
      case atStart=>exact⟨rt,Told,rfl,HST.out⟩
      case round=>
       obtain⟨wv,To2,rfl,hwn,jL,hnt,yw,Nw,U2,Og,U9,Ie,Ib⟩:=hrel
       have qx:=Tv.out.keep (dQ (n₀:=W.heap.size) yw (by omega) (fun b hb=>by rcases hb with rfl|rfl<;>omega))
       obtain⟨kj,kp,-,k2,k3',-,-,kt,ku⟩:=qx.cs
       rw[eh] at k3'
       obtain⟨bh',oh',eh',RU⟩:=qx.jd.wk.az hwn
       rw[eh] at eh'
       obtain⟨rfl,rfl⟩:bh=bh'∧oh=oh':=by cases eh';exact⟨rfl,rfl⟩
       have zh:=RU _ qx.aI wv hwn
       have dH:=T.low wv hwn
       rw[Ph.out wv] at dH
       obtain⟨hw,Ov⟩:∃hw,Df.at_ c.s.az wv=hw:=⟨_,rfl⟩
       rw[Ov] at zh dH
       have w0:(0:Int)≤(wv:Int):=by omega
       have w1:(wv:Int)<(c.n:Int):=by omega
       have hwa:IntKind.i64.wrap (hgt+1)=hgt+1:=by rw[aa1];omega
       by_cases hgw:hgt+1<hw
       ·obtain⟨qe,q1,q2,q3,q4⟩:∃qe:Nat,qe<2*c.es.length∧Df.at_ c.s.par wv=(qe:Int)∧Cs.to c.es qe=wv∧Df.at_ c.s.aJ (qe/2)=(qe:Int):=by
         rcases gP.hang wv hwn with ⟨-,q⟩|⟨u,u1,u2,u3,u4,-⟩
         ·rw[Ov] at q
          omega
         ·exact⟨u,u1,u2,u3,u4⟩
        obtain⟨e,aS⟩:∃e,qe/2=e:=⟨_,rfl⟩
        have hem:e<c.es.length:=by omega
        have Fo:Lo.oh c.s e=qe:=by
         unfold Lo.oh
         rw[←aS,q4]
         simp
        have hge:Lo.bJ c.es c.s e=wv:=by
         unfold Lo.bJ
         rw[Fo]
         exact q3
        have hte:Lo.tree c.es c.s e=true:=by
         unfold Lo.tree
         rw[hge,q2,←aS,q4]
         simp
        have oG:T.go e=wv:=by rw[uw.out];exact hge
        have yD:T.tree e=true:=by rw[uw.out];exact hte
        obtain⟨fe,pV⟩:∃fe,Lo.fr c.es c.s e=fe:=⟨_,rfl⟩
        have YK:T.fr e=fe:=by rw[uw.out];exact pV
        have alb:=(eC aS).1
        obtain⟨bp,op,ep2,Yq⟩:=qx.jd.wk.par hwn
        have zp:=Yq _ qx.aI wv hwn
        rw[q2] at zp
        rw[ep2] at k2
        have MB:=Ie.tell hem yD
        rw[oG,YK] at MB
        obtain⟨r',hr'⟩:=MB.root hwn
        have hstep:=fJ.step (r':=r') (e:=e) (b:=b) (tp:=Nw) (Told:=To2) (Q:=fun d=>Qt c.n c.es c.s (x0+1) d∨d∈fl.take k) (by rw[oG];exact Ib) hem yD rO.out Wu.out WB.out (by rw[oG,HTF.out];exact jL) (by rw[Wv.out,oG,Ph.out,Ph.out,WU.out,Ov];exact hgw) (by rw[oG];exact hnt) (fun d hd td hda hdn=>by
         have ZE:Lo.tree c.es c.s d=false:=by rw[uw.out] at td;exact td
         have hgb:T.go b=Lo.bJ c.es c.s b:=by rw[uw.out];rfl
         have hgd:T.go d=Lo.bJ c.es c.s d:=by rw[uw.out];rfl
         rw[hgb,hgd] at hda hdn
         rw[uw.out] at hda
         refine .inl (Qt.above hvl gP hx0 ?_ hd ZE hda hdn)
         rw[←hgb,Wv.out]
         exact HV.out) (by rw[oG];exact hr')
        rw[oG,HTF.out,Wv.out,Ph.out v,WU.out] at hstep
        obtain⟨XC,Sm,hlt3⟩:=hstep
        obtain⟨zt,Qv⟩:∃zt,Nw[e]? =some zt:=⟨_,aac (by rw[Ib.len];exact hem)⟩
        have kc0:wr.cell? ⟨TP,e,none⟩=some (.int .i64 zt):=Og.cell Qv
        have Z9:wr.frozen? ⟨TP,e,none⟩=false:=Og.free e
        obtain⟨X2,jM⟩:∃X2,X2=wr.setCell ⟨TP,e,none⟩ (.int .i64 hgt):=⟨_,rfl⟩
        have hw2:aC (fun b=>b=TP∨b=UP) C X2:=by rw[jM];exact yw.setCell (.inl rfl) _
        have iT3:aq X2 TP (Nw.set e hgt):=by rw[jM];exact Og.set e _
        have iU3:aq X2 UP U2:=by rw[jM];exact U9.aK (aaR hne.1) _
        have SC:=Tv.out.keep (dQ (n₀:=W.heap.size) hw2 (by omega) (fun b hb=>by rcases hb with rfl|rfl<;>omega))
        obtain⟨zu,hzu⟩:∃zu,U2[wv]? =some zu:=⟨_,aac (by rw[Ie.len];exact hwn)⟩
        have HFE:Hid (∀V,bV c p V→Calls Tryz.prog 70 #[.pointer (some ⟨p,0,none⟩),.int .i64 (qe:Int)] V fun e w'=>e= .returned (.int .i64 (fe:Int))∧w'=V):=fun V hV=>by
         have:=lZ hV q1
         rw[←Fo] at this
         have hh:Cs.fr c.es (Lo.oh c.s e)=fe:=pV
         rw[hh,Fo] at this
         exact this
        have vT:Hid (aq X2 UP U2∧aq X2 TP (Nw.set e hgt)∧aC (fun b=>b=TP∨b=UP) C X2∧U2[wv]? =some zu):=⟨iU3,iT3,hw2,hzu⟩
        have Cl:=Nu.hid SC
        have agr:=Nu.hid MB
        have TF:=Nu.hid hr'
        have agc:=Nu.hid XC
        have F0:=Nu.hid jM
        have agH:Hid ((T.az r').toNat<(T.az wv).toNat):=by
         have:=(T.low r' hr'.1).1
         show _<_
         omega
        have ahr:=Nu.hid Sm
        have als:(0:Int)≤(e:Int):=by omega
        have Sg:(e:Int)<(c.es.length:Int):=by omega
        have QB:IntKind.i64.wrap (e:Int)=(e:Int):=by rw[aa1];omega
        clear jL hnt yw Og U9 Ie Ib qx RU eh' Ov q2 q3 q4 aS Fo hge hte oG yD pV YK ep2 Yq MB hr' XC Sm hlt3 Qv jM hw2 iT3 iU3 SC hzu
        gi_wp2
        rw[←F0.out]
        clear kj kp k2 k3' kt ku zh zp kc0 Z9
        obtain⟨kj,kp,-,-,-,-,-,-,ku⟩:=(Cl.out.keep ((bE.refl _ _ _).grow ((aae _ X2).drew) Cl.out.aI.size)).cs
        have kw:bV c p X2.drew:=(Cl.out.jd.later Cl.out.aI).wk.later ((aae _ X2).drew)
        have kz:X2.drew.cell? ⟨UP,wv,none⟩=some (.int .i64 zu):=vT.out.1.cell vT.out.2.2.2
        have kf:X2.drew.frozen? ⟨UP,wv,none⟩=false:=vT.out.1.free wv
        refine wpIn_region_any (by kernel_rfl) ?_
        refine aj.B6 (fun ix=>match ix with|0=> .slice (some ⟨UP,0,none⟩) c.n c.n|1=> .int .i64 (wv:Int)|2=> .pointer (some ⟨j,0,none⟩)|3=> .pointer (some ⟨j,0,none⟩)|4=> .pointer (some ⟨j,0,none⟩)|5=> .pointer (some ⟨p,0,none⟩)|6=> .int .i64 (qe:Int)|7=> .int .i64 (fe:Int)|8=> .pointer (some ⟨UP,wv,none⟩)|_=>undef) (AnyM.bG X2.drew [(9,X2.drew.setCell ⟨UP,wv,none⟩ (.int .i64 (fe:Int)))]) 130 rfl (by kernel_rfl) (by kernel_rfl) rfl ?_ ?_
        ·intro ix o' Ls V ev ho bP hC bU hdc aA aS lG iW
         have hc:ix=0∨ix=1∨ix=2∨ix=3∨ix=4∨ix=5∨ix=6∨ix=7∨ix=8∨ix=9:=by
          have:ix<10:=(aam.1 ho).1
          omega
         have hst:Ls 9=false:=by
          cases h:Ls 9 with
          |false=>rfl
          |true=>
           exfalso
           have hq:Ls ix=true:=by
            rcases hc with rfl|rfl|rfl|rfl|rfl|rfl|rfl|rfl|rfl|rfl
            ·exact hdc 9 _ rfl h ⟨0,.phase⟩ (by simp) rfl
            ·exact hdc 9 _ rfl h ⟨1,.phase⟩ (by simp) rfl
            ·exact hdc 9 _ rfl h ⟨2,.phase⟩ (by simp) rfl
            ·exact hdc 9 _ rfl h ⟨3,.phase⟩ (by simp) rfl
            ·exact hdc 9 _ rfl h ⟨4,.phase⟩ (by simp) rfl
            ·exact hdc 9 _ rfl h ⟨5,.phase⟩ (by simp) rfl
            ·exact hdc 9 _ rfl h ⟨6,.phase⟩ (by simp) rfl
            ·exact hdc 9 _ rfl h ⟨7,.data⟩ (by simp) rfl
            ·exact hdc 9 _ rfl h ⟨8,.data⟩ (by simp) rfl
            ·exact h
           rw[bP] at hq
           cases hq
         have hV:V=X2.drew:=by
          simp only[AnyM.bG,hst,aau,if_false] at hC
          exact hC
         subst hV
         rcases hc with rfl|rfl|rfl|rfl|rfl|rfl|rfl|rfl|rfl|rfl<;>obtain rfl:=aak ho
         ·have e1:ev (.tmp 8)= .pointer (some ⟨W6.heap.size,0,none⟩):=aS 8 (by kernel_rfl)
          exact aj.ah (v:= .slice (some ⟨UP,0,none⟩) c.n c.n) (w':=_) (by simp[execOp,go_sem,e1,ku]) ⟨rfl,AnyM.other rfl hC⟩
         ·have e1:ev (.tmp 14)= .int .i64 (wv:Int):=aS 14 (by kernel_rfl)
          exact aj.ah (v:= .int .i64 (wv:Int)) (w':=_) (by simp[execOp,go_sem,e1]) ⟨rfl,AnyM.other rfl hC⟩
         ·have e1:ev (.tmp 3)= .pointer (some ⟨W.heap.size,0,none⟩):=aS 3 (by kernel_rfl)
          exact aj.ah (v:= .pointer (some ⟨j,0,none⟩)) (w':=_) (by simp[execOp,go_sem,e1,kj]) ⟨rfl,AnyM.other rfl hC⟩
         ·have e1:ev (.tmp 121)= .pointer (some ⟨j,0,none⟩):=aA 2 121 (by omega) rfl (by decide)
          exact aj.ah (v:= .pointer (some ⟨j,0,none⟩)) (w':=_) (by simp[execOp,go_sem,e1]) ⟨rfl,AnyM.other rfl hC⟩
         ·have e1:ev (.tmp 122)= .pointer (some ⟨j,0,none⟩):=aA 3 122 (by omega) rfl (by decide)
          exact aj.ah (v:= .pointer (some ⟨j,0,none⟩)) (w':=_) (by simp[execOp,go_sem,e1]) ⟨rfl,AnyM.other rfl hC⟩
         ·have e1:ev (.tmp 123)= .pointer (some ⟨j,0,none⟩):=aA 4 123 (by omega) rfl (by decide)
          exact aj.ah (v:= .pointer (some ⟨p,0,none⟩)) (w':=_) (by simp[execOp,go_sem,e1,kp]) ⟨rfl,AnyM.other rfl hC⟩
         ·have e1:ev (.tmp 15)= .int .i64 (qe:Int):=aS 15 (by kernel_rfl)
          exact aj.ah (v:= .int .i64 (qe:Int)) (w':=_) (by simp[execOp,go_sem,e1]) ⟨rfl,AnyM.other rfl hC⟩
         ·have e1:ev (.tmp 124)= .pointer (some ⟨p,0,none⟩):=aA 5 124 (by omega) rfl (by decide)
          have e2:ev (.tmp 125)= .int .i64 (qe:Int):=aA 6 125 (by omega) rfl (by decide)
          exact AnyM.jO (f:=70) (args:= #[.pointer (some ⟨p,0,none⟩),.int .i64 (qe:Int)]) (by simp[execOp,go_sem,e1,e2,hen,iW]) (HFE.out _ kw) ⟨rfl,AnyM.other rfl hC⟩
         ·have e1:ev (.tmp 119)= .slice (some ⟨UP,0,none⟩) c.n c.n:=aA 0 119 (by omega) rfl (by decide)
          have e2:ev (.tmp 120)= .int .i64 (wv:Int):=aA 1 120 (by omega) rfl (by decide)
          exact aj.ah (v:= .pointer (some ⟨UP,wv,none⟩)) (w':=_) (by simp[execOp,go_sem,e1,e2,w0,w1]) ⟨rfl,AnyM.other rfl hC⟩
         ·have e1:ev (.tmp 127)= .pointer (some ⟨UP,wv,none⟩):=aA 8 127 (by omega) rfl (by decide)
          have e2:ev (.tmp 126)= .int .i64 (fe:Int):=aA 7 126 (by omega) rfl (by decide)
          refine aj.bF (w':=X2.drew.setCell ⟨UP,wv,none⟩ (.int .i64 (fe:Int))) (by simp[execOp,go_sem,e1,e2,kz,kf]) ⟨rfl,?_⟩
          simp[AnyM.bG,aj.bR]
        ·intro Ls V hall hC
         unfold AnyM.bG at hC
         rw[if_pos (hall 9 (by decide))] at hC
         subst hC
         obtain⟨X3,Su⟩:∃X3,X3=X2.drew.setCell ⟨UP,wv,none⟩ (.int .i64 (fe:Int)):=⟨_,rfl⟩
         rw[←Su]
         have iU4:aq X3 UP (U2.set wv (fe:Int)):=by rw[Su];exact(show aq X2.drew UP U2 from vT.out.1).set wv _
         have iT4:aq X3 TP (Nw.set e hgt):=by rw[Su];exact(show aq X2.drew TP _ from vT.out.2.1).aK hne.1 _
         have hw4:aC (fun b=>b=TP∨b=UP) C X3:=by rw[Su];exact(vT.out.2.2.1.drew).setCell (.inr rfl) _
         have ku4:=(Tv.out.keep (dQ (n₀:=W.heap.size) hw4 (by omega) (fun b hb=>by rcases hb with rfl|rfl<;>omega))).cs.2.2.2.2.2.2.2.2
         have HSF:=Nu.hid (Af agr.out hwn TF.out iU4)
         have Ma:=Nu.hid iT4
         have om:=Nu.hid hw4
         clear kj kp ku kz kf kw hall Su iU4 iT4 hw4
         simp only[aj.canon,aj.dst,Array.size,aar,aaS]
         simp[Act.put]
         gi_wp2_with (refine⟨trivial,?_⟩;gi_at_call 69;refine(acJ l (callsIn_wide.2 HSF.out)).mono ?_;rintro e5 X4 ⟨rfl,⟨U5,XJ,hi5⟩,qq⟩;have agq:=Nu.hid XJ;have HI5:=Nu.hid hi5;have vQ:=Nu.hid qq;clear XJ hi5 qq)
         go_roundw
         case rel=>
          refine⟨r',_,rfl,TF.out.1,ahr.out,TF.out.2.2.1,om.out.trans (vQ.out.mono fun b _ hb=> .inr hb),_,U5,(vQ.out.block TP Ma.out.lt (fun e=>hne.1 e)).trans Ma.out,HI5.out,agq.out,agc.out⟩
         case measure=>
          have:=agH.out
          simpa[intOf] using this
       ·have fB:Hid (aC (fun b=>b=TP∨b=UP) C wr∧∃(tp U:List Int) (Told:Nat→Prop),aq wr TP tp∧aq wr UP U∧Sk T U Told∧fJ T sd s (fun _ d=>Qt c.n c.es c.s (x0+1) d∨d∈fl.take (k+1)) tp Told):=by
         refine⟨yw,Nw,U2,To2,Og,U9,Ie,(Ib.done ?_).congr fun e d _ _ _=> ?_⟩
         ·rw[Wv.out,Ph.out,Ph.out,WU.out,Ov]
          omega
         ·rw[kK.out d]
          exact or_assoc
        clear jL hnt yw Og U9 Ie Ib qx RU eh' Ov
        gi_wp2
        go_roundw
        case rel=>exact⟨k+1,by simp,by omega,fB.out⟩
        case measure=>
         simp[intOf]
         omega
    ·have hd:(uO (sd b)==uO s)=false:=by
      cases h1:sd b<;>cases h2:s
      ·exact absurd (by rw[h1,h2]) hs
      ·rfl
      ·rfl
      ·exact absurd (by rw[h1,h2]) hs
     have fB:Hid (∀X,Below wr.heap.size wr X→aC (fun b=>b=TP∨b=UP) C X∧∃(tp U:List Int) (Told:Nat→Prop),aq X TP tp∧aq X UP U∧Sk T U Told∧fJ T sd s (fun _ d=>Qt c.n c.es c.s (x0+1) d∨d∈fl.take (k+1)) tp Told):=fun X hX=>by
      refine⟨hwr.later hX,tp,U,Told,iT.later hX,iU.later hX,hsk,(tO.other hs).congr fun e d _ _ _=> ?_⟩
      rw[fM d]
      exact or_assoc
     obtain⟨zb,hzb⟩:∃zb,uO (sd b)=zb:=⟨_,rfl⟩
     obtain⟨zs,hzs⟩:∃zs,uO s=zs:=⟨_,rfl⟩
     rw[hzb] at yQ hd
     rw[hzs] at yS hd
     clear hwr xx iT iU hsk tO hb pW ep er MD hq o1 hpv fM hs hzb hzs kj kp U4 ks kt z1 z2 k3 ki
     gi_wp2
     refine fZ (by kernel_rfl) (by kernel_rfl) (by kernel_rfl) ?_
     repeat (go_big_quiet_step (fail))
     refine wpQuiet_nil ?_
     rintro _ ⟨E,rfl⟩
     have HE:=Nu.hid E.h
     have hd2:(zb != zs)=true:=by simp only[bne,hd,Bool.not_false]
     clear yJ yP yQ yS X5 f1 f2 f3 o3 o4 Vh b0 b1 H9 aeQ aeZ hne lo1 Z0 lo3 ZZ ZY lo6 lo7 hcs v0 v1
     rw[hd2]
     clear hd hd2
     gi_wp2
     go_roundw
     case rel=>
      obtain⟨r1,r2⟩:=fB.out _ HE.out
      exact⟨k+1,by simp,by omega,r1,r2⟩
     case measure=>
      simp[intOf]
      omega
   ·obtain rfl:k=fl.length:=by omega
    have oQ:Hid (KeepsFrom V1.heap.size C wr∧bE W.heap.size (fun b=>b=TP∨b=UP) C wr∧(∃A1 A2,aq wr TP A1∧aq wr UP A2∧∃Told,Sk T A2 Told∧fJ T sd s (fun _ d=>Qt c.n c.es c.s (c.n-(pre++[x0]).length) d) A1 Told)):=by
     refine⟨fQ hwr (fun b hb=>by rcases hb with rfl|rfl<;>omega),dQ (n₀:=W.heap.size) hwr (by omega) (fun b hb=>by rcases hb with rfl|rfl<;>omega),tp,U,iT,iU,Told,hsk,?_⟩
     rw[LU.out]
     exact tO.congr fun e d _ _ _=>bI.out d
    clear hwr iT iU hsk tO
    gi_wp2
    obtain⟨f1,f2,f3⟩:=oQ.out
    exact⟨f1,f2,f3,ot.out.trans f2⟩
 case done=>
  rintro Dd X hD ⟨⟨A1,A2,i1,i2,Told,hsk,tO⟩,tR⟩ hK
  rw[jo,acP] at tO
  have yy:∀e,e<c.es.length→m7 T sd s e (g A1 e):=fun e he=>tO.top (fun d hd td=>by
   have ZE:Lo.tree c.es c.s d=false:=by rw[uw.out] at td;exact td
   obtain⟨a,ha,ea⟩:=gP.once.sZ (Lo.bK hvl gP hd).2
   exact⟨hd,ZE,a,aax _,ha,ea⟩) he
  rw[uw.out] at yy
  have sK:=tO.len
  have K9:=SA.keep tR
  have c7:=K9.cs.2.2.2.2.2.2.2.1
  have VC:V1.heap.size≤X.heap.size:=tR.1.size
  have hY:bE W.heap.size (fun b=>b=TP∨b=UP) X (X.putObj Dd (.deferred none)):=bE.put (A:=V1) (by omega) hD hK rfl rfl
  have oQ:Hid (∃TP' tp,Ending.returned (.slice (some ⟨TP,0,none⟩) c.es.length c.es.length)= .returned (.slice (some ⟨TP',0,none⟩) c.es.length c.es.length)∧aq (X.putObj Dd (.deferred none)) TP' tp∧tp.length=c.es.length∧(∀e,e<c.es.length→m7 (Lr.df HJ.out.wk.val HJ.out.wk.vf) sd s e (g tp e))∧W.heap.size≤TP'∧Below W.heap.size W (X.putObj Dd (.deferred none))):=
   ⟨TP,A1,rfl,(aby (by omega)).trans i1,sK,yy,lo6,K9.aI.trans hY.1⟩
  have HK:=Nu.hid hK
  clear i1 i2 hsk tO tR hK yy sK K9 hY hcs
  go_wp2
  refine⟨by simp,.inl ⟨_,_,rfl,run_takeDeferred HK.out,?_⟩⟩
  refine⟨_,results_tmp rfl _ _ _,?_⟩
  exact oQ.out
 case stop=>
  rintro Dd c pre W _ _ hx _
  exact hx.elim
end
end
end Go.Proofs.YtdjmnpmdmjclhabGreat
