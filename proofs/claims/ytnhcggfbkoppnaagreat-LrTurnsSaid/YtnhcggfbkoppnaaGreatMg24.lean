import Derived.Test.YtnhcggfbkoppnaaGreatMg23
import Derived.Test.YtnhcggfbkoppnaaGreatMg22
namespace Go.Proofs.YtnhcggfbkoppnaaGreat
section
open Go.RowKit Go.Shelf Lt Pl
attribute [local go_sem] Oper.semAt_some
def uE (s:Bool):Int:=if s=true then 1 else -1
structure BN (c:Wp) (p j:Nat) (pa:Option Addr) (pc:Nat) (ps:List Int) (s:Bool) (GI bj bs bi bt bu TP UP:Nat) (vs:List Value) (W V:World):Prop where
 jd:mQ c p j pa pc ps W
 rows:bW W 0 (.slice (some ⟨GI,0,none⟩) c.n c.n) vs (eK c.n c.es c.s c.es.length)
 aI:Below W.heap.size W V
 kj:Boxed V bj 78 (.pointer (some ⟨j,0,none⟩))
 ks:Boxed V bs 3 (.int .i64 (uE s))
 ki:Boxed V bi 62 (.slice (some ⟨GI,0,none⟩) c.n c.n)
 kt:Boxed V bt 27 (.slice (some ⟨TP,0,none⟩) c.es.length c.es.length)
 ku:Boxed V bu 156 (.slice (some ⟨UP,0,none⟩) c.n c.n)
 lo:W.heap.size≤bj∧W.heap.size≤bs∧W.heap.size≤bi∧W.heap.size≤bt∧W.heap.size≤bu∧W.heap.size≤TP∧W.heap.size≤UP
 ne:TP≠UP∧bj≠TP∧bj≠UP∧bs≠TP∧bs≠UP∧bi≠TP∧bi≠UP∧bt≠TP∧bt≠UP∧bu≠TP∧bu≠UP
theorem BN.keep {c:Wp} {p j:Nat} {pa:Option Addr} {pc:Nat} {ps:List Int} {s:Bool} {GI bj bs bi bt bu TP UP:Nat} {vs:List Value} {W V X:World} (h:BN c p j pa pc ps s GI bj bs bi bt bu TP UP vs W V) (hk:bE W.heap.size (fun b=>b=TP∨b=UP) V X):BN c p j pa pc ps s GI bj bs bi bt bu TP UP vs W X:=by
 obtain⟨n0,n1,n2,n3,n4,n5,n6,n7,n8,n9,n10⟩:=h.ne
 exact⟨h.jd,h.rows,h.aI.trans hk.1,hk.boxed h.kj (by omega),hk.boxed h.ks (by omega),hk.boxed h.ki (by omega),hk.boxed h.kt (by omega),hk.boxed h.ku (by omega),h.lo,h.ne⟩
theorem BN.cs {c:Wp} {p j:Nat} {pa:Option Addr} {pc:Nat} {ps:List Int} {s:Bool} {GI bj bs bi bt bu TP UP:Nat} {vs:List Value} {W X:World} (h:BN c p j pa pc ps s GI bj bs bi bt bu TP UP vs W X):
 X.cell? ⟨bj,0,none⟩=some (.pointer (some ⟨j,0,none⟩))∧X.cell? ⟨j,0,none⟩=some (.pointer (some ⟨p,0,none⟩))∧X.cell? ⟨j,1,none⟩=some (.slice pa c.es.length pc)∧X.cell? ⟨p,2,none⟩=some (.slice c.f.a1 c.n c.f.c1)∧X.cell? ⟨p,3,none⟩=some (.slice c.f.a2 c.n c.f.c2)∧
 X.cell? ⟨bs,0,none⟩=some (.int .i64 (uE s))∧X.cell? ⟨bi,0,none⟩=some (.slice (some ⟨GI,0,none⟩) c.n c.n)∧X.cell? ⟨bt,0,none⟩=some (.slice (some ⟨TP,0,none⟩) c.es.length c.es.length)∧X.cell? ⟨bu,0,none⟩=some (.slice (some ⟨UP,0,none⟩) c.n c.n):=by
 have hj:=h.jd.later h.aI
 exact⟨h.kj.cell,hj.cells.1,hj.cells.2,hj.wk.c2,hj.wk.c3,h.ks.cell,h.ki.cell,h.kt.cell,h.ku.cell⟩
theorem En {S:Nat→Prop} {A B C:World} (h:aF S A B) (k:aF S B C):aF S A C:=h.trans k
theorem zL {n m:Nat} {T:DF n m} {U:List Int} {Told:Nat→Prop} (h:Sk T U Told) {G x r:Nat} (hx:x<n) (hr:vF T Told x r) {w:World} (hi:aq w G U):Calls Tryz.prog 104 #[.slice (some ⟨G,0,none⟩) n n,.int .i64 (x:Int)] w fun e w'=>e= .returned (.int .i64 (r:Int))∧(∃U',Sk T U' Told∧aq w' G U')∧aF (fun b=>b=G) w w':=
 (F5 h hx hi).mono fun e w' ⟨r',U',h1,h2,h3,h4,h5,h6,h7,h8⟩=>by
   have:r'=r:=vF.unique hx ⟨h2,h5,h6,h7⟩ hr
   subst this
   exact⟨h1,⟨U',h3,h4⟩,h8⟩
def Qt (n:Nat) (es:List (Int×Int)) (s:Df.St) (i d:Nat):Prop:=d<es.length∧Lo.tree es s d=false∧∃a,i≤a∧a<n∧Df.at_ s.ord a=(Lo.bJ es s d:Int)
def U3 (es:List (Int×Int)) (s:Df.St) (v:Nat):List Nat:=(List.range es.length).filter fun e=> !Lo.tree es s e&&decide (Lo.bJ es s e=v)
theorem Io {es:List (Int×Int)} {s:Df.St} {v d:Nat}:d∈U3 es s v↔d<es.length∧Lo.tree es s d=false∧Lo.bJ es s d=v:=by
 unfold U3
 rw[List.mem_filter,List.mem_range]
 simp
theorem Qt.next {n:Nat} {es:List (Int×Int)} {s:Df.St} {x v d:Nat} (hx:x<n) (hv:Df.at_ s.ord x=(v:Int)):Qt n es s x d↔Qt n es s (x+1) d∨d∈U3 es s v:=by
 rw[Io]
 constructor
 ·rintro⟨h1,h2,a,a1,a2,a3⟩
  by_cases e:a=x
  ·subst e
   rw[hv] at a3
   exact .inr ⟨h1,h2,by omega⟩
  ·exact .inl ⟨h1,h2,a,by omega,a2,a3⟩
 ·rintro(⟨h1,h2,a,a1,a2,a3⟩|⟨h1,h2,h3⟩)
  ·exact⟨h1,h2,a,by omega,a2,a3⟩
  ·exact⟨h1,h2,x,Nat.le_refl _,hx,by rw[hv,h3]⟩
theorem Qt.above {n:Nat} {es:List (Int×Int)} {s:Df.St} (hv:Si.Val n es) (h:Df.VF n es s) {x b d:Nat} (hx:x<n) (hb:Df.at_ s.ord x=(Lo.bJ es s b:Int)) (hd:d<es.length) (td:Lo.tree es s d=false) (jE:(Lr.df hv h).bP (Lo.bJ es s b) (Lo.bJ es s d)) (hne:Lo.bJ es s b≠Lo.bJ es s d):Qt n es s (x+1) d:=by
 obtain⟨a,ha,e⟩:=h.once.sI (Lo.bK hv h hd).2
 have hle:=Lo.BJ h hx ha hb e jE
 refine⟨hd,td,a,?_,ha,e⟩
 by_cases q:a=x
 ·subst q
  rw[hb] at e
  omega
 ·omega
section
variable {c:Wp} {p j:Nat} {pa:Option Addr} {pc:Nat} {ps:List Int} {W:World} {s:Bool} {GI:Nat} {vs:List Value} {sd:Nat→Bool}
set_option maxRecDepth 100000 in
set_option maxHeartbeats 16000000 in
theorem MR (h:mQ c p j pa pc ps W) (hps:∀e,e<c.es.length→ps[e]?.getD 0=cU (Lr.df h.wk.val h.wk.vf) sd e) (hrows:bW W 0 (.slice (some ⟨GI,0,none⟩) c.n c.n) vs (eK c.n c.es c.s c.es.length)):
 Calls Tryz.prog 72 #[.pointer (some ⟨j,0,none⟩),.int .i64 (uE s),.slice (some ⟨GI,0,none⟩) c.n c.n] W fun e w'=>∃TP tp,e= .returned (.slice (some ⟨TP,0,none⟩) c.es.length c.es.length)∧aq w' TP tp∧tp.length=c.es.length∧(∀e,e<c.es.length→mU (Lr.df h.wk.val h.wk.vf) sd s e (g tp e))∧W.heap.size≤TP∧Below W.heap.size W w':=by
 have cq:=h.wk.val.few
 have hhi:=h.wk.val.hi
 obtain⟨sv,EU⟩:∃sv,sv=uE s:=⟨_,rfl⟩
 rw[←EU]
 have HR:Hid (∀(x:Int) (b:Nat) (V:World),aq V b [x]→Calls Tryz.prog 87 #[.slice (some ⟨b,0,none⟩) 1 1,.int .i64 (c.es.length:Int)] V (vC x c.es.length V)):=fun x b V hV=>qB x c.es.length b 1 (by omega) V hV
 have HN:Hid (∀V,Calls Tryz.prog 103 #[.int .i64 (c.n:Int)] V fun e w'=>∃G,e= .returned (.slice (some ⟨G,0,none⟩) c.n c.n)∧aq w' G (vT c.n)∧V.heap.size≤G∧Below V.heap.size V w'):=fun V=>Cr c.n (by omega) V
 have TE:Hid (∀X,Calls Tryz.prog 69 #[.slice c.f.a3 c.n c.f.c3] X (oQ c.f.a3 c.n c.f.c3 X)):=fun X=>kD _ _ _ X
 obtain⟨W1,hW1⟩:∃W1,W1=(((W.alloc (.cells #[.pointer (some ⟨j,0,none⟩)] 78)).alloc (.cells #[.int .i64 sv] 3)).alloc (.cells #[.slice (some ⟨GI,0,none⟩) c.n c.n] 62)).alloc (.cells #[.int .i64 (-1)] 3):=⟨_,rfl⟩
 have hs1:W1.heap.size=W.heap.size+4:=by rw[hW1];simp
 have hb1:Below W.heap.size W W1:=by rw[hW1];exact((((Below.refl _ _).alloc (Nat.le_refl _) _).alloc (by simp) _).alloc (by simp;omega) _).alloc (by simp;omega) _
 have a0:Boxed W1 W.heap.size 78 (.pointer (some ⟨j,0,none⟩)):=by
  rw[hW1]
  show _=_
  rw[Below.heap_alloc _ _ _ (by simp;omega),Below.heap_alloc _ _ _ (by simp;omega),Below.heap_alloc _ _ _ (by simp)]
  exact heap_alloc_new W _
 have a1:Boxed W1 (W.heap.size+1) 3 (.int .i64 sv):=by
  rw[hW1]
  show _=_
  rw[Below.heap_alloc _ _ _ (by simp),Below.heap_alloc _ _ _ (by simp)]
  have:=heap_alloc_new (W.alloc (.cells #[.pointer (some ⟨j,0,none⟩)] 78)) (.cells #[.int .i64 sv] 3)
  rw[show(W.alloc (.cells #[.pointer (some ⟨j,0,none⟩)] 78)).heap.size=W.heap.size+1 by simp] at this
  exact this
 have a2:Boxed W1 (W.heap.size+2) 62 (.slice (some ⟨GI,0,none⟩) c.n c.n):=by
  rw[hW1]
  show _=_
  rw[Below.heap_alloc _ _ _ (by simp)]
  have:=heap_alloc_new ((W.alloc (.cells #[.pointer (some ⟨j,0,none⟩)] 78)).alloc (.cells #[.int .i64 sv] 3)) (.cells #[.slice (some ⟨GI,0,none⟩) c.n c.n] 62)
  rw[show((W.alloc (.cells #[.pointer (some ⟨j,0,none⟩)] 78)).alloc (.cells #[.int .i64 sv] 3)).heap.size=W.heap.size+2 by simp] at this
  exact this
 have a3:aq W1 (W.heap.size+3) [-1]:=by
  rw[hW1]
  have:=heap_alloc_new (((W.alloc (.cells #[.pointer (some ⟨j,0,none⟩)] 78)).alloc (.cells #[.int .i64 sv] 3)).alloc (.cells #[.slice (some ⟨GI,0,none⟩) c.n c.n] 62)) (.cells #[.int .i64 (-1)] 3)
  rw[show(((W.alloc (.cells #[.pointer (some ⟨j,0,none⟩)] 78)).alloc (.cells #[.int .i64 sv] 3)).alloc (.cells #[.slice (some ⟨GI,0,none⟩) c.n c.n] 62)).heap.size=W.heap.size+3 by simp] at this
  exact this
 have hJ1:=h.later hb1
 have x0:=a0.cell
 have x1:=hJ1.cells.2
 have nY:=Nu.hid (HR.out (-1) (W.heap.size+3) W1 a3)
 have HJ:=Nu.hid h
 have Vx:=Nu.hid hps
 have HRW:=Nu.hid hrows
 have HSV:=Nu.hid EU
 have jR:=Nu.hid hW1
 have aV:=Nu.hid hb1
 have Cc:=Nu.hid a0
 have Cb:=Nu.hid a1
 have VS:=Nu.hid a2
 have Lh:=Nu.hid hs1
 rw[hW1] at x0 x1 nY
 clear EU hb1 a0 a1 a2 a3 hJ1 hW1 hs1 hrows
 refine(callsIn_wide (n:=9)).1 ?_
 refine callsIn_of_wp_marks Tryz.func72 rfl trivial ?_ rfl
 simp only[Tryz.ntmps72,List.size_toArray,List.length_cons,List.length_nil,Nat.reduceAdd,Nat.reduceSub,Array.replicate_succ,Array.replicate_zero,List.push_toArray,List.append_toArray,List.nil_append,List.cons_append]
 refine wpIn_wide.2 ?_
 go_wp2_with fail
 go_at_call 87
 refine nY.out.mono ?_
 rw[←jR.out]
 rintro e W3 ⟨TP,rfl,i3,l3,b3⟩
 obtain⟨W4,k8⟩:∃W4,W4=W3.alloc (.cells #[.slice (some ⟨TP,0,none⟩) c.es.length c.es.length] 27):=⟨_,rfl⟩
 have b4:Below W3.heap.size W3 W4:=by rw[k8];exact(Below.refl _ _).alloc (Nat.le_refl _) _
 have s4:W4.heap.size=W3.heap.size+1:=by rw[k8];simp
 have k4:Boxed W4 W3.heap.size 27 (.slice (some ⟨TP,0,none⟩) c.es.length c.es.length):=by rw[k8];exact heap_alloc_new W3 _
 have Ve:Below W1.heap.size W1 W4:=b3.trans (b4.mono b3.size)
 have Z7:=HJ.out.later (aV.out.trans (Ve.mono aV.out.size))
 have y0:=(show Boxed W4 W.heap.size 78 (.pointer (some ⟨j,0,none⟩)) from(Ve.block _ Cc.out.lt).trans Cc.out).cell
 have y1:=Z7.cells.1
 have y2:=Z7.wk.c0
 have uq:=Nu.hid (HN.out W4)
 have Lm:=Nu.hid (i3.later b4)
 have HK4:=Nu.hid k4
 have Yo:=Nu.hid Ve
 have HS4:=Nu.hid s4
 have HL3:=Nu.hid l3
 have BU:=Nu.hid i3.lt
 have nU:=Nu.hid k8
 have Vt:=Nu.hid b3.size
 rw[k8] at y0 y1 y2 uq
 clear i3 l3 b3 k8 b4 s4 k4 Ve Z7 x0 x1 nY
 simp only[]
 go_wp2_with fail
 go_at_call 103
 refine uq.out.mono ?_
 rw[←nU.out]
 rintro e W6 ⟨UP,rfl,i6,l6,b6⟩
 obtain⟨W7,Ro⟩:∃W7,W7=W6.alloc (.cells #[.slice (some ⟨UP,0,none⟩) c.n c.n] 156):=⟨_,rfl⟩
 have b7:Below W6.heap.size W6 W7:=by rw[Ro];exact(Below.refl _ _).alloc (Nat.le_refl _) _
 have Vc:Below W4.heap.size W4 W7:=b6.trans (b7.mono b6.size)
 have Rt:BN c p j pa pc ps s GI W.heap.size (W.heap.size+1) (W.heap.size+2) W3.heap.size W6.heap.size TP UP vs W W7:=by
  have Vd:Below W1.heap.size W1 W7:=Yo.out.trans (Vc.mono Yo.out.size)
  have t1:=Lh.out
  have t4:=HS4.out
  have t3:=HL3.out
  have tt:=BU.out
  have tb:=Vt.out
  have u6:=i6.lt
  have s6:=b6.size
  refine⟨HJ.out,HRW.out,aV.out.trans (Vd.mono aV.out.size),(Vd.block _ Cc.out.lt).trans Cc.out,?_,(Vd.block _ VS.out.lt).trans VS.out,(Vc.block _ HK4.out.lt).trans HK4.out,by rw[Ro];exact heap_alloc_new W6 _,by omega,by omega⟩
  rw[←HSV.out]
  exact(Vd.block _ Cb.out.lt).trans Cb.out
 have VJ:=Nu.hid (i6.later b7)
 have HT7:=Nu.hid (Lm.out.later Vc)
 have HTP:=Nu.hid Rt
 have y0:=Rt.kj.cell
 have y1:=(HJ.out.later Rt.aI).cells.1
 have y2:=(HJ.out.later Rt.aI).wk.c4
 have HW7:=Nu.hid Ro
 rw[Ro] at y0 y1 y2
 clear i6 l6 b6 Ro b7 Vc Rt uq
 simp only[]
 go_wp2_with (go_at_call 69;refine(TE.out _).mono ?_;rw[←HW7.out];rintro e1 V1 ⟨Bs,rfl,tJ,bs,dH⟩)
 obtain⟨T,wR⟩:∃T,T=Lr.df HJ.out.wk.val HJ.out.wk.vf:=⟨_,rfl⟩
 have tZ:=Nu.hid wR
 have hvl:=HJ.out.wk.val
 have gO:=HJ.out.wk.vf
 have s8:=dH.size
 have Ru:=HTP.out.keep ((bE.refl _ _ _).grow dH HTP.out.aI.size)
 obtain⟨lo1,YV,lo3,YU,YT,lo6,lo7⟩:=Ru.lo
 have hne:=Ru.ne
 have hs7:=HTP.out.aI.size
 have tpl:=HT7.out.lt
 have upl:=VJ.out.lt
 have hcs:∀i,i<c.n→∃b o,c.f.a3=some ⟨b,o,none⟩∧∀X,bE W.heap.size (fun b=>b=TP∨b=UP) V1 X→X.cell? ⟨b,o+i,none⟩=some (.int .i64 (Df.at_ c.s.ord i)):=fun i hi=>by
  obtain⟨b,o,e,hc⟩:=HJ.out.wk.ord hi
  exact⟨b,o,e,fun X hX=>hc X (Ru.aI.trans hX.1) i hi⟩
 refine(wpIn_wide (n:=9)).1 ?_
 refine rV (n:=9) (gf:=101) (lb:= #[.pointer (some ⟨Bs,0,none⟩)]) (by rfl) (enters_of Tryz.func101 (by kernel_rfl) rfl)
  (wZ Bs W.heap.size c.f.c3 c.n (fun b=>b=TP∨b=UP) c.f.a3 c.s.ord (by omega) V1 (by omega) bs hcs (by omega)) (by omega) (fun _=>rfl)
  (fun pre X=>(∃A1 A2,aq X TP A1∧aq X UP A2∧∃Told,Sk T A2 Told∧fK T sd s (fun _ d=>Qt c.n c.es c.s (c.n-pre.length) d) A1 Told)∧bE W.heap.size (fun b=>b=TP∨b=UP) V1 X) (fun _ _ _=>False)
  (OwnFrom.and (pE _ TP UP (fun (pre:List Nat) A1 A2=>∃Told,Sk T A2 Told∧fK T sd s (fun _ d=>Qt c.n c.es c.s (c.n-pre.length) d) A1 Told)) (bE.own (by omega) (by omega))) (fun _ _ _ _ _ hs _ _=>hs)
  ⟨⟨_,_,HT7.out.later dH,VJ.out.later dH,_,Sk.start (uw _) (fun x hx=>TL hx),(fK.start (by simp) (fun e he=>Fb he)).congr fun e d _ _ _=>⟨fun q=>q.elim,fun q=>by obtain⟨_,_,a,a1,a2,_⟩:=q;simp at a1;omega⟩⟩,bE.refl _ _ _⟩
  (fun x a' _=>a'={ tmps:= #[.pointer (some ⟨j,0,none⟩),.int .i64 sv,.slice (some ⟨GI,0,none⟩) c.n c.n,.pointer (some ⟨W.heap.size,0,none⟩),.pointer (some ⟨W.heap.size+1,0,none⟩),.pointer (some ⟨W.heap.size+1+1,0,none⟩),.slice none 0 0,.pointer (some ⟨W3.heap.size,0,none⟩),.pointer (some ⟨W6.heap.size,0,none⟩),undef,.int .i64 (Df.at_ c.s.ord x),undef,undef,undef,undef,undef,.slice (some ⟨W.heap.size+1+1+1,0,none⟩) 1 1,.pointer (some ⟨j,0,none⟩),.pointer (some ⟨j,0,none⟩),.pointer (some ⟨j,1,none⟩),.slice pa c.es.length pc,.int .i64 (c.es.length:Int),.slice (some ⟨TP,0,none⟩) c.es.length c.es.length,.pointer (some ⟨j,0,none⟩),.pointer (some ⟨j,0,none⟩),.pointer (some ⟨j,0,none⟩),.pointer (some ⟨p,0,none⟩),.pointer (some ⟨p,0,none⟩),.pointer (some ⟨p,0,none⟩),.pointer (some ⟨p,0,none⟩),.int .i64 (c.n:Int),.slice (some ⟨UP,0,none⟩) c.n c.n,.pointer (some ⟨j,0,none⟩),.pointer (some ⟨j,0,none⟩),.pointer (some ⟨j,0,none⟩),.pointer (some ⟨p,0,none⟩),.pointer (some ⟨p,0,none⟩),.pointer (some ⟨p,2,none⟩),.pointer (some ⟨p,4,none⟩),.slice c.f.a3 c.n c.f.c3,.func (.func 101) #[] #[.pointer (some ⟨Bs,0,none⟩)],.int .i64 (x:Int),.int .i64 (Df.at_ c.s.ord x),undef,undef,undef,undef,undef,undef,undef,undef,undef,undef,undef,undef,undef,undef,undef,undef,undef,undef,undef,undef,undef,undef,undef,undef,undef,undef,undef,undef,undef,undef,undef,undef,undef,undef,undef,undef,undef,undef,undef,undef,undef,undef,undef,undef,undef,undef,undef,undef,undef,undef,undef,undef,undef,undef,undef,undef,undef,undef,undef,undef,undef,undef,undef,undef,undef,undef,undef,undef,undef,undef,undef,undef,undef,undef,undef,undef,undef,undef,undef,undef,undef,undef,undef,undef,undef,undef,undef],defers:=[] })
  (fun x a'=>ownFrom_pure _ _) ?assign ?body ?done ?stop
 case assign=>
  intro l pre x X K _ hi hK
  gi_wp2
  exact hK _ _ (KeepsFrom.refl _ _) (bE.refl _ _ _) hi rfl
 case body=>
  rintro l pre x0 a' C ⟨hl,-⟩-hpx ⟨⟨A1,A2,i1,i2,Told,hsk,tD⟩,hkp⟩ rfl
  obtain⟨hpl,uQ⟩:=pU hpx
  have hx0:x0<c.n:=by omega
  obtain⟨v,hv⟩:∃v:Nat,Df.at_ c.s.ord x0=(v:Int):=⟨(Df.at_ c.s.ord x0).toNat,by have:=(gO.once x0 hx0).1;omega⟩
  have dh:v<c.n:=by have:=(gO.once x0 hx0).1;omega
  rw[hv]
  have Ww:fK T sd s (fun _ d=>Qt c.n c.es c.s (x0+1) d) A1 Told:=by
   rw[show c.n-pre.length=x0+1 by omega] at tD
   exact tD
  have La:Hid (c.n-(pre++[x0]).length=x0):=by show _=_;simp;omega
  have hCs:V1.heap.size≤C.heap.size:=hkp.1.size
  have Ie:=Ru.keep hkp
  obtain⟨kj,kp,Uc,k2,k3,ks,ki,kt,ku⟩:=Ie.cs
  obtain⟨bh,oh,eh,hch⟩:=Ie.jd.wk.ay dh
  have z1:=hch C Ie.aI v dh
  obtain⟨hgt,Km⟩:∃hgt,Df.at_ c.s.ay v=hgt:=⟨_,rfl⟩
  rw[Km] at z1
  rw[eh] at k3
  have UR:=Ie.rows.later Ie.aI
  have hat:=jY (es:=c.es) (s:=c.s) (i:=c.es.length) dh
  obtain⟨xv,Cw⟩:=UR.RY hat
  have hown:=UR.row v xv _ Cw hat
  obtain⟨fl,hfl⟩:∃fl,fl=U3 c.es c.s v:=⟨_,rfl⟩
  have hrow:mD c.es c.s c.es.length v=fl.map fun e=>((Lo.oh c.s e:Nat):Int):=by rw[hfl];rfl
  rw[hrow] at hown
  obtain⟨ra,rc,rfl,acY,hrb⟩:=hown.form
  rw[List.length_map] at Cw
  have z2:C.cell? ⟨GI,v,none⟩=some (.slice ra fl.length rc):=by
   have:=World.ownsRow.cells UR.outer (g:=GI) rfl v _ Cw
   rwa[show((⟨GI,0,none⟩:Addr).add v)=⟨GI,v,none⟩ by by_cases h0:v=0<;>simp[Addr.add,h0]] at this
  have adJ:fl.length≤c.es.length:=by
   have:=Aw c.es c.s c.es.length v
   rw[hrow,List.length_map] at this
   exact this
  have v0:(0:Int)≤(v:Int):=by omega
  have v1:(v:Int)<(c.n:Int):=by omega
  have adA:0≤hgt∧hgt≤4194304:=by
   have:=(Lr.df hvl gO).low v dh
   have e1:(Lr.df hvl gO).ay v=hgt:=Km
   rw[e1] at this
   omega
  have lN:Hid (∀X,aF (fun b=>b=TP∨b=UP) C X→∀k (hk:k<fl.length),∃b o,ra=some ⟨b,o,none⟩∧X.cell? ⟨b,o+k,none⟩=some (.int .i64 ((Lo.oh c.s fl[k]:Nat):Int))):=fun X hX k hk=>by
   have hRX:=(Ie.keep (dR (n₀:=W.heap.size) hX (by omega) (fun b hb=>by rcases hb with rfl|rfl<;>omega)))
   have Qm:=(hRX.rows.later hRX.aI).row v _ _ Cw hat
   rw[hrow] at Qm
   obtain⟨ra',rc',ev,hin,-⟩:=Qm.form
   obtain⟨b,o,e1,hcell⟩:=hin k ((Lo.oh c.s fl[k]:Nat):Int) (by rw[List.getElem?_map,List.getElem?_eq_getElem hk];rfl)
   rw[List.length_map] at ev
   obtain⟨e2,-⟩:=(show ra=ra'∧True from⟨by cases ev;rfl,trivial⟩)
   exact⟨b,o,by rw[e2];exact e1,hcell⟩
  have Vs:Hid (∃(tp U:List Int) (Told:Nat→Prop),aq C TP tp∧aq C UP U∧Sk T U Told∧fK T sd s (fun _ d=>Qt c.n c.es c.s (x0+1) d∨d∈fl.take 0) tp Told):=⟨A1,A2,Told,i1,i2,hsk,Ww.congr fun e d _ _ _=>by simp⟩
  have HFL:Hid (∀k (hk:k<fl.length),fl[k]<c.es.length∧Lo.tree c.es c.s fl[k]=false∧Lo.bJ c.es c.s fl[k]=v):=fun k hk=>by
   exact Io.1 (by rw[←hfl];exact List.getElem_mem hk)
  have bI:Hid (∀d,(Qt c.n c.es c.s (x0+1) d∨d∈fl.take fl.length)↔Qt c.n c.es c.s x0 d):=fun d=>by
   rw[Qt.next hx0 hv,←hfl,List.take_length]
  have SA:=Nu.hid Ie
  have nV:=Nu.hid hkp
  have VK:=Nu.hid Km
  have HV:=Nu.hid hv
  clear hown hrb acY i1 i2 hsk tD Ww hkp Cw hat UR hrow hfl Ie Km hv hpx uQ hpl hch kt ku ks Uc k2
  gi_wp2
  gi_loopw [59] (fun iv wr=>∃(k:Nat),iv= .int .i64 (k:Int)∧k≤fl.length∧aF (fun b=>b=TP∨b=UP) C wr∧∃(tp U:List Int) (Told:Nat→Prop),aq wr TP tp∧aq wr UP U∧Sk T U Told∧fK T sd s (fun _ d=>Qt c.n c.es c.s (x0+1) d∨d∈fl.take k) tp Told) (fun iv _=>fl.length-(intOf iv).toNat)
  case atStart=>exact⟨0,rfl,Nat.zero_le _,aF.refl _ _,Vs.out⟩
  case round=>
   obtain⟨k,rfl,cT,hwr,tp,U,Told,iT,iU,hsk,tD⟩:=hrel
   by_cases hlt:k<fl.length
   ·obtain⟨f1,f2,f3⟩:=HFL.out k hlt
    obtain⟨b,hb⟩:∃b,b=fl[k]:=⟨_,rfl⟩
    obtain⟨rb,ro,er,hcr⟩:=lN.out wr hwr k hlt
    rw[←hb] at f1 f2 f3 hcr
    obtain⟨o1,-,o3,o4⟩:=Lo.cN gO f1
    have Ma:Cs.fr c.es (Lo.oh c.s b)=Lo.fr c.es c.s b:=rfl
    obtain⟨q,hq⟩:∃q,Lo.oh c.s b=q:=⟨_,rfl⟩
    rw[hq] at o1 o3 o4 hcr Ma
    have Uo:=(eC o4).1
    have wQ:=SA.out.keep (dR (n₀:=W.heap.size) hwr (by omega) (fun b hb=>by rcases hb with rfl|rfl<;>omega))
    obtain⟨pb,po,ep,pR⟩:=wQ.jd.at f1
    obtain⟨kj,kp,Uc,-,-,ks,-,kt,-⟩:=wQ.cs
    have Zo:ps[b]?.getD 0=if sd b=true then 1 else -1:=by
     rw[Vx.out b f1]
     exact ni f2
    have yJ:∀D:LW wr,D.val.cell? ⟨W.heap.size,0,none⟩=some (.pointer (some ⟨j,0,none⟩)):=fun D=>(wQ.keep ((bE.refl _ _ _).grow D.h wQ.aI.size)).cs.1
    have yP:∀D:LW wr,D.val.cell? ⟨j,1,none⟩=some (.slice (some ⟨pb,po,none⟩) c.es.length pc):=fun D=>by
     rw[←ep]
     exact(wQ.keep ((bE.refl _ _ _).grow D.h wQ.aI.size)).cs.2.2.1
    have yQ:∀D:LW wr,D.val.cell? ⟨pb,po+b,none⟩=some (.int .i64 (uE (sd b))):=fun D=>by
     have:=pR D.val (wQ.aI.trans (D.h.mono wQ.aI.size)) b f1
     rw[Zo] at this
     exact this
    have yS:∀D:LW wr,D.val.cell? ⟨W.heap.size+1,0,none⟩=some (.int .i64 (uE s)):=fun D=>(wQ.keep ((bE.refl _ _ _).grow D.h wQ.aI.size)).cs.2.2.2.2.2.1
    have WT:=LW.any wr
    have kk0:(0:Int)≤(k:Int):=by omega
    have kk1:(k:Int)<(fl.length:Int):=by omega
    have kk2:(k:Int)+1≤4194304:=by omega
    have b0:(0:Int)≤(b:Int):=by omega
    have b1:(b:Int)<(c.es.length:Int):=by omega
    have GX:IntKind.i64.wrap (b:Int)=(b:Int):=by rw[IntKind.wrap_i64];omega
    rw[er]
    have fN:∀d,(d∈fl.take (k+1))↔(d∈fl.take k∨d=b):=fun d=>by
     rw[List.take_add_one,List.getElem?_eq_getElem hlt,←hb]
     simp
    have nT:=Nu.hid hwr
    have vG:=Nu.hid wQ
    by_cases hs:sd b=s
    ·have hzz:uE (sd b)=uE s:=by rw[hs]
     obtain⟨zs,hzs⟩:∃zs,uE s=zs:=⟨_,rfl⟩
     rw[hzz,hzs] at yQ
     rw[hzs] at yS
     have VG:=Nu.hid iT
     have HIU:=Nu.hid iU
     have HSK:=Nu.hid hsk
     have XP:=Nu.hid tD
     have kA:=Nu.hid fN
     have Vt:=Nu.hid hs
     have afq:=Nu.hid Ma
     have HF2:=Nu.hid f2
     have Tr:=Nu.hid f3
     have HO3:=Nu.hid o3
     clear hwr wQ iT iU hsk tD hb pR ep er Ma hq o1 Zo fN hs hzz hzs kj kp Uc ks kt f2 f3
     gi_wp2
     refine gq (by kernel_rfl) (by kernel_rfl) (by kernel_rfl) ?_
     repeat (go_big_quiet_step (fail))
     refine wpQuiet_nil ?_
     rintro _ ⟨E,rfl⟩
     obtain⟨X0,j6⟩:∃X0,X0=E.val:=⟨_,rfl⟩
     have H9:Below wr.heap.size wr X0:=by rw[j6];exact E.h
     rw[←j6]
     clear yJ yP yQ yS WT j6 E
     have Wo:=nT.out.later H9
     have hT0:=vG.out.keep ((bE.refl _ _ _).grow H9 vG.out.aI.size)
     have kt0:=hT0.cs.2.2.2.2.2.2.2.1
     have Uh:=VG.out.later H9
     have iU0:=HIU.out.later H9
     obtain⟨zt,PK⟩:∃zt,tp[b]? =some zt:=⟨_,List.getElem?_eq_getElem (by rw[XP.out.len];exact f1)⟩
     have Y3:X0.cell? ⟨TP,b,none⟩=some (.int .i64 zt):=Uh.cell PK
     have Y2:X0.frozen? ⟨TP,b,none⟩=false:=Uh.free b
     obtain⟨X1,iC⟩:∃X1,X1=X0.setCell ⟨TP,b,none⟩ (.int .i64 hgt):=⟨_,rfl⟩
     have PS:aF (fun b=>b=TP∨b=UP) C X1:=by rw[iC];exact Wo.setCell (.inl rfl) _
     have iT1:aq X1 TP (tp.set b hgt):=by rw[iC];exact Uh.set b _
     have iU1:aq X1 UP U:=by rw[iC];exact iU0.aK (Ne.symm hne.1) _
     have Rs:=SA.out.keep (dR (n₀:=W.heap.size) PS (by omega) (fun b hb=>by rcases hb with rfl|rfl<;>omega))
     have QX:=(Lo.bK hvl gO f1).1
     obtain⟨fb,Ml⟩:∃fb,Lo.fr c.es c.s b=fb:=⟨_,rfl⟩
     rw[Ml] at QX
     have hfb:fb<c.n:=QX
     obtain⟨rt,hrt⟩:=HSK.out.root hfb
     have ZU:T.fr b=fb:=by rw[tZ.out];exact Ml
     have ZT:T.go b=v:=by rw[tZ.out];exact Tr.out
     have ZQ:T.tree b=false:=by rw[tZ.out];exact HF2.out
     have ZR:∀z,T.ay z=Df.at_ c.s.ay z:=fun z=>by rw[tZ.out];rfl
     have Wv:fK T sd s (PB T (fun d=>Qt c.n c.es c.s (x0+1) d∨d∈fl.take k) b (T.ay rt)) (tp.set b hgt) Told:=by
      have:=XP.out.first f1 ZQ Vt.out (by rw[ZU];exact hrt)
      rw[ZT,ZR v,VK.out] at this
      exact this
     have HFB:Hid (∀V,bV c p V→Calls Tryz.prog 105 #[.pointer (some ⟨p,0,none⟩),.int .i64 (q:Int)] V fun e w'=>e= .returned (.int .i64 (fb:Int))∧w'=V):=fun V hV=>by
      have:=lO hV HO3.out
      rw[afq.out,Ml] at this
      exact this
     have hen:∀args w,(callFunc 105 args).run Tryz.prog w= .ok (.enter 105 args) w:=enters_of Tryz.func105 (by kernel_rfl) rfl
     have adN:∀args w,(callFunc 104 args).run Tryz.prog w= .ok (.enter 104 args) w:=enters_of Tryz.func104 (by kernel_rfl) rfl
     have afd:Hid (∃U,Sk T U Told∧aq X1.drew UP U):=⟨U,HSK.out,iU1⟩
     have XM:Hid (BN c p j pa pc ps s GI W.heap.size (W.heap.size+1) (W.heap.size+2) W3.heap.size W6.heap.size TP UP vs W X1.drew):=Rs.keep ((bE.refl _ _ _).grow ((Below.refl _ _).drew) Rs.aI.size)
     have UJ:W.heap.size≤X1.drew.heap.size:=XM.out.aI.size
     have Vu:=Nu.hid hrt
     have mX:=Nu.hid iT1
     have aeT:=Nu.hid PS
     have Su:=Nu.hid iC
     have ae2:=Nu.hid Wv
     have Oz:=Nu.hid ZR
     have HTF:=Nu.hid ZU
     have Vq:=Nu.hid ZT
     have Vp:=Nu.hid ZQ
     have rE:=Nu.hid f1
     clear H9 Wo hT0 Uh iU0 PK iC PS iT1 iU1 Rs QX Ml hrt ZU ZT ZQ ZR Wv
     gi_wp2
     rw[←Su.out]
     clear Y3 Y2 kt0
     refine wpIn_region_any (by kernel_rfl) ?_
     refine aj.BI (fun ix=>match ix with|0=> .slice (some ⟨UP,0,none⟩) c.n c.n|1=> .pointer (some ⟨j,0,none⟩)|2=> .pointer (some ⟨j,0,none⟩)|3=> .pointer (some ⟨j,0,none⟩)|4=> .pointer (some ⟨p,0,none⟩)|5=> .int .i64 (q:Int)|6=> .int .i64 (fb:Int)|7=> .int .i64 (rt:Int)|8=> .int .i64 (rt:Int)|_=>undef) (fun _ X=>aF (fun b=>b=UP) X1.drew X∧∃U,Sk T U Told∧aq X UP U) 130 rfl (by kernel_rfl) (by kernel_rfl) ⟨aF.refl _ _,afd.out⟩ ?_ ?_
     ·intro i o' Ls X ev ho bO hC bU hdc aA aR kW iQ
      have hc:i=0∨i=1∨i=2∨i=3∨i=4∨i=5∨i=6∨i=7∨i=8:=by
       have:i<9:=(Array.getElem?_eq_some_iff.1 ho).1
       omega
      have KA:=XM.out.keep (dR (n₀:=W.heap.size) (hC.1.mono (fun b _ hb=> .inr hb)) UJ (fun b hb=>by rcases hb with rfl|rfl<;>omega))
      obtain⟨kj,kp,-,-,-,-,-,-,ku⟩:=KA.cs
      have kw:=(KA.jd.later KA.aI).wk
      rcases hc with rfl|rfl|rfl|rfl|rfl|rfl|rfl|rfl|rfl<;>obtain rfl:=Option.some.inj ho
      ·have e1:ev (.tmp 8)= .pointer (some ⟨W6.heap.size,0,none⟩):=aR 8 (by kernel_rfl)
       exact aj.ah (v:= .slice (some ⟨UP,0,none⟩) c.n c.n) (w':=X) (by simp[execOp,go_sem,e1,ku]) ⟨rfl,hC⟩
      ·have e1:ev (.tmp 3)= .pointer (some ⟨W.heap.size,0,none⟩):=aR 3 (by kernel_rfl)
       exact aj.ah (v:= .pointer (some ⟨j,0,none⟩)) (w':=X) (by simp[execOp,go_sem,e1,kj]) ⟨rfl,hC⟩
      ·have e1:ev (.tmp 79)= .pointer (some ⟨j,0,none⟩):=aA 1 79 (by omega) rfl (by decide)
       exact aj.ah (v:= .pointer (some ⟨j,0,none⟩)) (w':=X) (by simp[execOp,go_sem,e1]) ⟨rfl,hC⟩
      ·have e1:ev (.tmp 80)= .pointer (some ⟨j,0,none⟩):=aA 2 80 (by omega) rfl (by decide)
       exact aj.ah (v:= .pointer (some ⟨j,0,none⟩)) (w':=X) (by simp[execOp,go_sem,e1]) ⟨rfl,hC⟩
      ·have e1:ev (.tmp 81)= .pointer (some ⟨j,0,none⟩):=aA 3 81 (by omega) rfl (by decide)
       exact aj.ah (v:= .pointer (some ⟨p,0,none⟩)) (w':=X) (by simp[execOp,go_sem,e1,kp]) ⟨rfl,hC⟩
      ·have e1:ev (.tmp 13)= .int .i64 (q:Int):=aR 13 (by kernel_rfl)
       exact aj.ah (v:= .int .i64 (q:Int)) (w':=X) (by simp[execOp,go_sem,e1]) ⟨rfl,hC⟩
      ·have e1:ev (.tmp 82)= .pointer (some ⟨p,0,none⟩):=aA 4 82 (by omega) rfl (by decide)
       have e2:ev (.tmp 83)= .int .i64 (q:Int):=aA 5 83 (by omega) rfl (by decide)
       exact AnyM.jH (f:=105) (args:= #[.pointer (some ⟨p,0,none⟩),.int .i64 (q:Int)]) (by simp[execOp,go_sem,e1,e2,hen,iQ]) (HFB.out _ kw) ⟨rfl,hC⟩
      ·have e1:ev (.tmp 78)= .slice (some ⟨UP,0,none⟩) c.n c.n:=aA 0 78 (by omega) rfl (by decide)
       have e2:ev (.tmp 84)= .int .i64 (fb:Int):=aA 6 84 (by omega) rfl (by decide)
       obtain⟨hw,U,hU1,Rp⟩:=hC
       have hrun:∀o:Oper,o.op= .call { callee:= .value (.func 104),args:= #[.tmp 78,.tmp 84],argTypes:= #[156,3] }→(execOp ev o).run Tryz.prog X= .ok (.enter 104 #[.slice (some ⟨UP,0,none⟩) c.n c.n,.int .i64 (fb:Int)]) X:=fun o ho=>by
        simp[execOp,ho,go_sem,e1,e2,adN,iQ]
       unfold aj.cF
       rw[hrun _ rfl]
       refine(zL hU1 hfb Vu.out Rp).mono fun e X2 hk=>⟨_,hk.1,rfl,En hw hk.2.2,hk.2.1⟩
      ·have e1:ev (.tmp 85)= .int .i64 (rt:Int):=aA 7 85 (by omega) rfl (by decide)
       exact aj.ah (v:= .int .i64 (rt:Int)) (w':=X) (by simp[execOp,go_sem,e1]) ⟨rfl,hC⟩
     ·intro Ls X hall hC
      obtain⟨Zf,U1,hsU,Cz⟩:=hC
      have AA:aF (fun b=>b=TP∨b=UP) C X:=(aeT.out.drew).trans (Zf.mono fun b _ hb=> .inr hb)
      have Xi:aq X TP (tp.set b hgt):=(Zf.block TP (by have:=mX.out.lt;exact this) (fun e=>hne.1 e)).trans mX.out
      have HST:Hid (rt<c.n∧T.bP rt fb∧¬Told rt∧aF (fun b=>b=TP∨b=UP) C X∧∃tp U,aq X TP tp∧aq X UP U∧Sk T U Told∧fK T sd s (PB T (fun d=>Qt c.n c.es c.s (x0+1) d∨d∈fl.take k) b (T.ay rt)) tp Told):=⟨Vu.out.1,Vu.out.2.1,Vu.out.2.2.1,AA,_,U1,Xi,Cz,hsU,ae2.out⟩
      clear Zf hsU Cz AA Xi hall UJ
      simp only[aj.canon,aj.dst,Array.size,List.length_cons,List.length_nil]
      simp[Act.put]
      gi_wp2
      gi_loopw [14] (fun wv wr=>∃(w:Nat) (Told:Nat→Prop),wv= .int .i64 (w:Int)∧w<c.n∧T.bP w fb∧¬Told w∧aF (fun b=>b=TP∨b=UP) C wr∧∃tp U,aq wr TP tp∧aq wr UP U∧Sk T U Told∧fK T sd s (PB T (fun d=>Qt c.n c.es c.s (x0+1) d∨d∈fl.take k) b (T.ay w)) tp Told) (fun wv _=>(T.ay (intOf wv).toNat).toNat)
      case atStart=>exact⟨rt,Told,rfl,HST.out⟩
      case round=>
       obtain⟨wv,To2,rfl,hwn,jE,hnt,xP,MQ,U2,NA,Ug,G3,GZ⟩:=hrel
       have qm:=SA.out.keep (dR (n₀:=W.heap.size) xP (by omega) (fun b hb=>by rcases hb with rfl|rfl<;>omega))
       obtain⟨kj,kp,-,k2,k3',-,-,kt,ku⟩:=qm.cs
       rw[eh] at k3'
       obtain⟨bh',oh',eh',Q6⟩:=qm.jd.wk.ay hwn
       rw[eh] at eh'
       obtain⟨rfl,rfl⟩:bh=bh'∧oh=oh':=by cases eh';exact⟨rfl,rfl⟩
       have zh:=Q6 _ qm.aI wv hwn
       have dZ:=T.low wv hwn
       rw[Oz.out wv] at dZ
       obtain⟨hw,NP⟩:∃hw,Df.at_ c.s.ay wv=hw:=⟨_,rfl⟩
       rw[NP] at zh dZ
       have w0:(0:Int)≤(wv:Int):=by omega
       have w1:(wv:Int)<(c.n:Int):=by omega
       have hwa:IntKind.i64.wrap (hgt+1)=hgt+1:=by rw[IntKind.wrap_i64];omega
       by_cases hgw:hgt+1<hw
       ·obtain⟨qe,q1,q2,q3,q4⟩:∃qe:Nat,qe<2*c.es.length∧Df.at_ c.s.par wv=(qe:Int)∧Cs.to c.es qe=wv∧Df.at_ c.s.aJ (qe/2)=(qe:Int):=by
         rcases gO.hang wv hwn with ⟨-,q⟩|⟨u,u1,u2,u3,u4,-⟩
         ·rw[NP] at q
          omega
         ·exact⟨u,u1,u2,u3,u4⟩
        obtain⟨e,aR⟩:∃e,qe/2=e:=⟨_,rfl⟩
        have hem:e<c.es.length:=by omega
        have EY:Lo.oh c.s e=qe:=by
         unfold Lo.oh
         rw[←aR,q4]
         simp
        have hge:Lo.bJ c.es c.s e=wv:=by
         unfold Lo.bJ
         rw[EY]
         exact q3
        have hte:Lo.tree c.es c.s e=true:=by
         unfold Lo.tree
         rw[hge,q2,←aR,q4]
         simp
        have oD:T.go e=wv:=by rw[tZ.out];exact hge
        have xX:T.tree e=true:=by rw[tZ.out];exact hte
        obtain⟨fe,pQ⟩:∃fe,Lo.fr c.es c.s e=fe:=⟨_,rfl⟩
        have XE:T.fr e=fe:=by rw[tZ.out];exact pQ
        have ajQ:=(eC aR).1
        obtain⟨bp,op,ep2,Xn⟩:=qm.jd.wk.par hwn
        have zp:=Xn _ qm.aI wv hwn
        rw[q2] at zp
        rw[ep2] at k2
        have L8:=G3.tell hem xX
        rw[oD,XE] at L8
        obtain⟨r',hr'⟩:=L8.root hwn
        have hstep:=fK.step (r':=r') (e:=e) (b:=b) (tp:=MQ) (Told:=To2) (Q:=fun d=>Qt c.n c.es c.s (x0+1) d∨d∈fl.take k) (by rw[oD];exact GZ) hem xX rE.out Vp.out Vt.out (by rw[oD,HTF.out];exact jE) (by rw[Vq.out,oD,Oz.out,Oz.out,VK.out,NP];exact hgw) (by rw[oD];exact hnt) (fun d hd td hda hdn=>by
         have YB:Lo.tree c.es c.s d=false:=by rw[tZ.out] at td;exact td
         have hgb:T.go b=Lo.bJ c.es c.s b:=by rw[tZ.out];rfl
         have hgd:T.go d=Lo.bJ c.es c.s d:=by rw[tZ.out];rfl
         rw[hgb,hgd] at hda hdn
         rw[tZ.out] at hda
         refine .inl (Qt.above hvl gO hx0 ?_ hd YB hda hdn)
         rw[←hgb,Vq.out]
         exact HV.out) (by rw[oD];exact hr')
        rw[oD,HTF.out,Vq.out,Oz.out v,VK.out] at hstep
        obtain⟨Wu,Rh,hlt3⟩:=hstep
        obtain⟨zt,PK⟩:∃zt,MQ[e]? =some zt:=⟨_,List.getElem?_eq_getElem (by rw[GZ.len];exact hem)⟩
        have Y3:wr.cell? ⟨TP,e,none⟩=some (.int .i64 zt):=NA.cell PK
        have Y2:wr.frozen? ⟨TP,e,none⟩=false:=NA.free e
        obtain⟨X2,jF⟩:∃X2,X2=wr.setCell ⟨TP,e,none⟩ (.int .i64 hgt):=⟨_,rfl⟩
        have hw2:aF (fun b=>b=TP∨b=UP) C X2:=by rw[jF];exact xP.setCell (.inl rfl) _
        have iT3:aq X2 TP (MQ.set e hgt):=by rw[jF];exact NA.set e _
        have iU3:aq X2 UP U2:=by rw[jF];exact Ug.aK (Ne.symm hne.1) _
        have Rv:=SA.out.keep (dR (n₀:=W.heap.size) hw2 (by omega) (fun b hb=>by rcases hb with rfl|rfl<;>omega))
        obtain⟨zu,hzu⟩:∃zu,U2[wv]? =some zu:=⟨_,List.getElem?_eq_getElem (by rw[G3.len];exact hwn)⟩
        have HFE:Hid (∀V,bV c p V→Calls Tryz.prog 105 #[.pointer (some ⟨p,0,none⟩),.int .i64 (qe:Int)] V fun e w'=>e= .returned (.int .i64 (fe:Int))∧w'=V):=fun V hV=>by
         have:=lO hV q1
         rw[←EY] at this
         have hh:Cs.fr c.es (Lo.oh c.s e)=fe:=pQ
         rw[hh,EY] at this
         exact this
        have vI:Hid (aq X2 UP U2∧aq X2 TP (MQ.set e hgt)∧aF (fun b=>b=TP∨b=UP) C X2∧U2[wv]? =some zu):=⟨iU3,iT3,hw2,hzu⟩
        have BU:=Nu.hid Rv
        have aff:=Nu.hid L8
        have SM:=Nu.hid hr'
        have ae1:=Nu.hid Wu
        have Le:=Nu.hid jF
        have aft:Hid ((T.ay r').toNat<(T.ay wv).toNat):=by
         have:=(T.low r' hr'.1).1
         show _<_
         omega
        have age:=Nu.hid Rh
        have aj8:(0:Int)≤(e:Int):=by omega
        have aj7:(e:Int)<(c.es.length:Int):=by omega
        have PT:IntKind.i64.wrap (e:Int)=(e:Int):=by rw[IntKind.wrap_i64];omega
        clear jE hnt xP NA Ug G3 GZ qm Q6 eh' NP q2 q3 q4 aR EY hge hte oD xX pQ XE ep2 Xn L8 hr' Wu Rh hlt3 PK jF hw2 iT3 iU3 Rv hzu
        gi_wp2
        rw[←Le.out]
        clear kj kp k2 k3' kt ku zh zp Y3 Y2
        obtain⟨kj,kp,-,-,-,-,-,-,ku⟩:=(BU.out.keep ((bE.refl _ _ _).grow ((Below.refl _ X2).drew) BU.out.aI.size)).cs
        have kw:bV c p X2.drew:=(BU.out.jd.later BU.out.aI).wk.later ((Below.refl _ X2).drew)
        have kz:X2.drew.cell? ⟨UP,wv,none⟩=some (.int .i64 zu):=vI.out.1.cell vI.out.2.2.2
        have kf:X2.drew.frozen? ⟨UP,wv,none⟩=false:=vI.out.1.free wv
        refine wpIn_region_any (by kernel_rfl) ?_
        refine aj.BI (fun ix=>match ix with|0=> .slice (some ⟨UP,0,none⟩) c.n c.n|1=> .int .i64 (wv:Int)|2=> .pointer (some ⟨j,0,none⟩)|3=> .pointer (some ⟨j,0,none⟩)|4=> .pointer (some ⟨j,0,none⟩)|5=> .pointer (some ⟨p,0,none⟩)|6=> .int .i64 (qe:Int)|7=> .int .i64 (fe:Int)|8=> .pointer (some ⟨UP,wv,none⟩)|_=>undef) (AnyM.bG X2.drew [(9,X2.drew.setCell ⟨UP,wv,none⟩ (.int .i64 (fe:Int)))]) 130 rfl (by kernel_rfl) (by kernel_rfl) rfl ?_ ?_
        ·intro ix o' Ls V ev ho bO hC bU hdc aA aR kW iQ
         have hc:ix=0∨ix=1∨ix=2∨ix=3∨ix=4∨ix=5∨ix=6∨ix=7∨ix=8∨ix=9:=by
          have:ix<10:=(Array.getElem?_eq_some_iff.1 ho).1
          omega
         have hst:Ls 9=false:=by
          cases h:Ls 9 with
          |false=>rfl
          |true=>
           exfalso
           have hq:Ls ix=true:=by
            rcases hc with rfl|rfl|rfl|rfl|rfl|rfl|rfl|rfl|rfl|rfl
            ·exact hdc 9 _ rfl h ⟨0,.phase⟩ (by simp) rfl
            ·exact hdc 9 _ rfl h ⟨1,.phase⟩ (by simp) rfl
            ·exact hdc 9 _ rfl h ⟨2,.phase⟩ (by simp) rfl
            ·exact hdc 9 _ rfl h ⟨3,.phase⟩ (by simp) rfl
            ·exact hdc 9 _ rfl h ⟨4,.phase⟩ (by simp) rfl
            ·exact hdc 9 _ rfl h ⟨5,.phase⟩ (by simp) rfl
            ·exact hdc 9 _ rfl h ⟨6,.phase⟩ (by simp) rfl
            ·exact hdc 9 _ rfl h ⟨7,.data⟩ (by simp) rfl
            ·exact hdc 9 _ rfl h ⟨8,.data⟩ (by simp) rfl
            ·exact h
           rw[bO] at hq
           cases hq
         have hV:V=X2.drew:=by
          simp only[AnyM.bG,hst,Bool.false_eq_true,if_false] at hC
          exact hC
         subst hV
         rcases hc with rfl|rfl|rfl|rfl|rfl|rfl|rfl|rfl|rfl|rfl<;>obtain rfl:=Option.some.inj ho
         ·have e1:ev (.tmp 8)= .pointer (some ⟨W6.heap.size,0,none⟩):=aR 8 (by kernel_rfl)
          exact aj.ah (v:= .slice (some ⟨UP,0,none⟩) c.n c.n) (w':=_) (by simp[execOp,go_sem,e1,ku]) ⟨rfl,AnyM.other rfl hC⟩
         ·have e1:ev (.tmp 14)= .int .i64 (wv:Int):=aR 14 (by kernel_rfl)
          exact aj.ah (v:= .int .i64 (wv:Int)) (w':=_) (by simp[execOp,go_sem,e1]) ⟨rfl,AnyM.other rfl hC⟩
         ·have e1:ev (.tmp 3)= .pointer (some ⟨W.heap.size,0,none⟩):=aR 3 (by kernel_rfl)
          exact aj.ah (v:= .pointer (some ⟨j,0,none⟩)) (w':=_) (by simp[execOp,go_sem,e1,kj]) ⟨rfl,AnyM.other rfl hC⟩
         ·have e1:ev (.tmp 121)= .pointer (some ⟨j,0,none⟩):=aA 2 121 (by omega) rfl (by decide)
          exact aj.ah (v:= .pointer (some ⟨j,0,none⟩)) (w':=_) (by simp[execOp,go_sem,e1]) ⟨rfl,AnyM.other rfl hC⟩
         ·have e1:ev (.tmp 122)= .pointer (some ⟨j,0,none⟩):=aA 3 122 (by omega) rfl (by decide)
          exact aj.ah (v:= .pointer (some ⟨j,0,none⟩)) (w':=_) (by simp[execOp,go_sem,e1]) ⟨rfl,AnyM.other rfl hC⟩
         ·have e1:ev (.tmp 123)= .pointer (some ⟨j,0,none⟩):=aA 4 123 (by omega) rfl (by decide)
          exact aj.ah (v:= .pointer (some ⟨p,0,none⟩)) (w':=_) (by simp[execOp,go_sem,e1,kp]) ⟨rfl,AnyM.other rfl hC⟩
         ·have e1:ev (.tmp 15)= .int .i64 (qe:Int):=aR 15 (by kernel_rfl)
          exact aj.ah (v:= .int .i64 (qe:Int)) (w':=_) (by simp[execOp,go_sem,e1]) ⟨rfl,AnyM.other rfl hC⟩
         ·have e1:ev (.tmp 124)= .pointer (some ⟨p,0,none⟩):=aA 5 124 (by omega) rfl (by decide)
          have e2:ev (.tmp 125)= .int .i64 (qe:Int):=aA 6 125 (by omega) rfl (by decide)
          exact AnyM.jH (f:=105) (args:= #[.pointer (some ⟨p,0,none⟩),.int .i64 (qe:Int)]) (by simp[execOp,go_sem,e1,e2,hen,iQ]) (HFE.out _ kw) ⟨rfl,AnyM.other rfl hC⟩
         ·have e1:ev (.tmp 119)= .slice (some ⟨UP,0,none⟩) c.n c.n:=aA 0 119 (by omega) rfl (by decide)
          have e2:ev (.tmp 120)= .int .i64 (wv:Int):=aA 1 120 (by omega) rfl (by decide)
          exact aj.ah (v:= .pointer (some ⟨UP,wv,none⟩)) (w':=_) (by simp[execOp,go_sem,e1,e2,w0,w1]) ⟨rfl,AnyM.other rfl hC⟩
         ·have e1:ev (.tmp 127)= .pointer (some ⟨UP,wv,none⟩):=aA 8 127 (by omega) rfl (by decide)
          have e2:ev (.tmp 126)= .int .i64 (fe:Int):=aA 7 126 (by omega) rfl (by decide)
          refine aj.bF (w':=X2.drew.setCell ⟨UP,wv,none⟩ (.int .i64 (fe:Int))) (by simp[execOp,go_sem,e1,e2,kz,kf]) ⟨rfl,?_⟩
          simp[AnyM.bG,aj.bQ]
        ·intro Ls V hall hC
         unfold AnyM.bG at hC
         rw[if_pos (hall 9 (by decide))] at hC
         subst hC
         obtain⟨X3,Rm⟩:∃X3,X3=X2.drew.setCell ⟨UP,wv,none⟩ (.int .i64 (fe:Int)):=⟨_,rfl⟩
         rw[←Rm]
         have iU4:aq X3 UP (U2.set wv (fe:Int)):=by rw[Rm];exact(show aq X2.drew UP U2 from vI.out.1).set wv _
         have iT4:aq X3 TP (MQ.set e hgt):=by rw[Rm];exact(show aq X2.drew TP _ from vI.out.2.1).aK hne.1 _
         have hw4:aF (fun b=>b=TP∨b=UP) C X3:=by rw[Rm];exact(vI.out.2.2.1.drew).setCell (.inr rfl) _
         have ku4:=(SA.out.keep (dR (n₀:=W.heap.size) hw4 (by omega) (fun b hb=>by rcases hb with rfl|rfl<;>omega))).cs.2.2.2.2.2.2.2.2
         have HSF:=Nu.hid (zL aff.out hwn SM.out iU4)
         have Lm:=Nu.hid iT4
         have nU:=Nu.hid hw4
         clear kj kp ku kz kf kw hall Rm iU4 iT4 hw4
         simp only[aj.canon,aj.dst,Array.size,List.length_cons,List.length_nil]
         simp[Act.put]
         gi_wp2_with (refine⟨trivial,?_⟩;gi_at_call 104;refine(CallsIn.inRound l (callsIn_wide.2 HSF.out)).mono ?_;rintro e5 X4 ⟨rfl,⟨U5,WD,hi5⟩,qj⟩;have afe:=Nu.hid WD;have HI5:=Nu.hid hi5;have yM:=Nu.hid qj;clear WD hi5 qj)
         go_roundw
         case rel=>
          refine⟨r',_,rfl,SM.out.1,age.out,SM.out.2.2.1,nU.out.trans (yM.out.mono fun b _ hb=> .inr hb),_,U5,(yM.out.block TP Lm.out.lt (fun e=>hne.1 e)).trans Lm.out,HI5.out,afe.out,ae1.out⟩
         case measure=>
          have:=aft.out
          simpa[intOf] using this
       ·have fB:Hid (aF (fun b=>b=TP∨b=UP) C wr∧∃(tp U:List Int) (Told:Nat→Prop),aq wr TP tp∧aq wr UP U∧Sk T U Told∧fK T sd s (fun _ d=>Qt c.n c.es c.s (x0+1) d∨d∈fl.take (k+1)) tp Told):=by
         refine⟨xP,MQ,U2,To2,NA,Ug,G3,(GZ.done ?_).congr fun e d _ _ _=> ?_⟩
         ·rw[Vq.out,Oz.out,Oz.out,VK.out,NP]
          omega
         ·rw[kA.out d]
          exact or_assoc
        clear jE hnt xP NA Ug G3 GZ qm Q6 eh' NP
        gi_wp2
        go_roundw
        case rel=>exact⟨k+1,by simp,by omega,fB.out⟩
        case measure=>
         simp[intOf]
         omega
    ·have hd:(uE (sd b)==uE s)=false:=by
      cases h1:sd b<;>cases h2:s
      ·exact absurd (by rw[h1,h2]) hs
      ·rfl
      ·rfl
      ·exact absurd (by rw[h1,h2]) hs
     have fB:Hid (∀X,Below wr.heap.size wr X→aF (fun b=>b=TP∨b=UP) C X∧∃(tp U:List Int) (Told:Nat→Prop),aq X TP tp∧aq X UP U∧Sk T U Told∧fK T sd s (fun _ d=>Qt c.n c.es c.s (x0+1) d∨d∈fl.take (k+1)) tp Told):=fun X hX=>by
      refine⟨hwr.later hX,tp,U,Told,iT.later hX,iU.later hX,hsk,(tD.other hs).congr fun e d _ _ _=> ?_⟩
      rw[fN d]
      exact or_assoc
     obtain⟨zb,hzb⟩:∃zb,uE (sd b)=zb:=⟨_,rfl⟩
     obtain⟨zs,hzs⟩:∃zs,uE s=zs:=⟨_,rfl⟩
     rw[hzb] at yQ hd
     rw[hzs] at yS hd
     clear hwr wQ iT iU hsk tD hb pR ep er Ma hq o1 Zo fN hs hzb hzs kj kp Uc ks kt z1 z2 k3 ki
     gi_wp2
     refine gq (by kernel_rfl) (by kernel_rfl) (by kernel_rfl) ?_
     repeat (go_big_quiet_step (fail))
     refine wpQuiet_nil ?_
     rintro _ ⟨E,rfl⟩
     have HE:=Nu.hid E.h
     have hd2:(zb != zs)=true:=by simp only[bne,hd,Bool.not_false]
     clear yJ yP yQ yS WT f1 f2 f3 o3 o4 Uo b0 b1 GX adA adJ hne lo1 YV lo3 YU YT lo6 lo7 hcs v0 v1
     rw[hd2]
     clear hd hd2
     gi_wp2
     go_roundw
     case rel=>
      obtain⟨r1,r2⟩:=fB.out _ HE.out
      exact⟨k+1,by simp,by omega,r1,r2⟩
     case measure=>
      simp[intOf]
      omega
   ·obtain rfl:k=fl.length:=by omega
    have rD:Hid (KeepsFrom V1.heap.size C wr∧bE W.heap.size (fun b=>b=TP∨b=UP) C wr∧(∃A1 A2,aq wr TP A1∧aq wr UP A2∧∃Told,Sk T A2 Told∧fK T sd s (fun _ d=>Qt c.n c.es c.s (c.n-(pre++[x0]).length) d) A1 Told)):=by
     refine⟨fR hwr (fun b hb=>by rcases hb with rfl|rfl<;>omega),dR (n₀:=W.heap.size) hwr (by omega) (fun b hb=>by rcases hb with rfl|rfl<;>omega),tp,U,iT,iU,Told,hsk,?_⟩
     rw[La.out]
     exact tD.congr fun e d _ _ _=>bI.out d
    clear hwr iT iU hsk tD
    gi_wp2
    obtain⟨f1,f2,f3⟩:=rD.out
    exact⟨f1,f2,f3,nV.out.trans f2⟩
 case done=>
  rintro Dd X hD ⟨⟨A1,A2,i1,i2,Told,hsk,tD⟩,tG⟩ hK
  rw[jg,Nat.sub_self] at tD
  have xR:∀e,e<c.es.length→mU T sd s e (g A1 e):=fun e he=>tD.top (fun d hd td=>by
   have YB:Lo.tree c.es c.s d=false:=by rw[tZ.out] at td;exact td
   obtain⟨a,ha,ea⟩:=gO.once.sI (Lo.bK hvl gO hd).2
   exact⟨hd,YB,a,Nat.zero_le _,ha,ea⟩) he
  rw[tZ.out] at xR
  have sk:=tD.len
  have KA:=Ru.keep tG
  have c7:=KA.cs.2.2.2.2.2.2.2.1
  have UJ:V1.heap.size≤X.heap.size:=tG.1.size
  have hY:bE W.heap.size (fun b=>b=TP∨b=UP) X (X.putObj Dd (.deferred none)):=bE.put (A:=V1) (by omega) hD hK rfl rfl
  have rD:Hid (∃TP' tp,Ending.returned (.slice (some ⟨TP,0,none⟩) c.es.length c.es.length)= .returned (.slice (some ⟨TP',0,none⟩) c.es.length c.es.length)∧aq (X.putObj Dd (.deferred none)) TP' tp∧tp.length=c.es.length∧(∀e,e<c.es.length→mU (Lr.df HJ.out.wk.val HJ.out.wk.vf) sd s e (g tp e))∧W.heap.size≤TP'∧Below W.heap.size W (X.putObj Dd (.deferred none))):=
   ⟨TP,A1,rfl,(World.putObj_heap_other (by omega)).trans i1,sk,xR,lo6,KA.aI.trans hY.1⟩
  have HK:=Nu.hid hK
  clear i1 i2 hsk tD tG hK xR sk KA hY hcs
  go_wp2
  refine⟨by simp,.inl ⟨_,_,rfl,run_takeDeferred HK.out,?_⟩⟩
  refine⟨_,results_tmp rfl _ _ _,?_⟩
  exact rD.out
 case stop=>
  rintro Dd c pre W _ _ hx _
  exact hx.elim
end
end
end Go.Proofs.YtnhcggfbkoppnaaGreat
