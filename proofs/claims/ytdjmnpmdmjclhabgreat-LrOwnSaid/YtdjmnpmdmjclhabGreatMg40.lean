import Derived.Test.YtdjmnpmdmjclhabGreatMg17
import Derived.Test.YtdjmnpmdmjclhabGreatMg19
import Derived.Test.YtdjmnpmdmjclhabGreatMg36
import Derived.Test.YtdjmnpmdmjclhabGreatMg31
import Derived.Test.YtdjmnpmdmjclhabGreatMg38
import Derived.Test.YtdjmnpmdmjclhabGreatMg04
import Derived.Test.YtdjmnpmdmjclhabGreatMg39
import Derived.Test.YtdjmnpmdmjclhabGreatMg05
import Derived.Test.YtdjmnpmdmjclhabGreatMg00
import Derived.Deep.Slices
namespace Go.Proofs.YtdjmnpmdmjclhabGreat
section
open Go.RowKit Lt
def Na (m:Nat) (w:World) (e:Ending) (w':World):Prop:=∃L U,e= .returned (.agg #[.slice (some ⟨L,0,none⟩) m m,.slice (some ⟨U,0,none⟩) m m])∧aq w' L (List.replicate m (-1))∧aq w' U (List.replicate m 1)∧w.heap.size≤L∧w.heap.size≤U∧L≠U∧Below w.heap.size w w'
set_option maxRecDepth 100000 in
set_option maxHeartbeats 4000000 in
theorem CT (m:Nat) (hm:m≤8388608) (w:World):Calls Tryz.prog 49 #[.int .i64 (m:Int)] w (Na m w):=by
 have HR:Hid (∀(x:Int) (b:Nat) (W:World),aq W b [x]→Calls Tryz.prog 50 #[.slice (some ⟨b,0,none⟩) 1 1,.int .i64 (m:Int)] W (vM x m W)):=fun x b W h=>qI x m b 1 hm W h
 obtain⟨W1,hW1⟩:∃W1,W1=(w.alloc (.cells #[.slice none 0 0,.slice none 0 0] 107)).alloc (.cells #[.int .i64 (-1)] 3):=⟨_,rfl⟩
 have hb1:Below w.heap.size w W1:=by rw[hW1];exact((aae _ _).alloc (aad _) _).alloc (by simp) _
 have k1:W1.heap[w.heap.size]? =some (.cells #[.slice none 0 0,.slice none 0 0] 107 (0,0)):=by
  rw[hW1,aap _ _ _ (by simp)]
  exact heap_alloc_new w _
 have hi1:aq W1 (w.heap.size+1) [-1]:=by
  rw[hW1]
  have:=heap_alloc_new (w.alloc (.cells #[.slice none 0 0,.slice none 0 0] 107)) (.cells #[.int .i64 (-1)] 3)
  rw[show(w.alloc (.cells #[.slice none 0 0,.slice none 0 0] 107)).heap.size=w.heap.size+1 by simp] at this
  exact this
 have qz:=Nu.hid (HR.out (-1) (w.heap.size+1) W1 hi1)
 have aY:=Nu.hid hb1
 have Dx:=Nu.hid k1
 have jE:=Nu.hid hW1
 rw[hW1] at qz
 have yz:W1.heap.size=w.heap.size+2:=by rw[hW1];simp
 have vS:=Nu.hid yz
 clear hm hi1 hb1 k1 yz hW1
 go_enter Tryz.func49,Tryz.ntmps49
 go_wp2_with (go_at_call 50;refine qz.out.mono ?_;rw[←jE.out];rintro e W3 ⟨g1,rfl,hi1,hg1,hb1⟩;have ng:=Nu.hid hi1;have nh:=Nu.hid hg1;have dm:=Nu.hid hb1;clear hi1 hg1 hb1;have uG:=Nu.hid (HR.out 1 W3.heap.size (W3.alloc (.cells #[.int .i64 1] 3)) (heap_alloc_new W3 _));clear qz)
 go_at_call 50
 refine uG.out.mono ?_
 rintro e W4 ⟨g2,rfl,hi2,hg2,hb2⟩
 have b2:Below W3.heap.size W3 W4:=((aae _ _).alloc (aad _) _).trans (hb2.mono (by simp))
 have s1:=vS.out
 have s3:=dm.out.size
 have s4:=b2.size
 have g1l:=ng.out.lt
 have i1:=ng.out.later b2
 have kk:W4.heap[w.heap.size]? =some (.cells #[.slice none 0 0,.slice none 0 0] 107 (0,0)):=(b2.block _ (by omega)).trans ((dm.out.block _ (by omega)).trans Dx.out)
 have Db:Below w.heap.size w W4:=(aY.out.trans (dm.out.mono (by omega))).trans (b2.mono (by have:=aY.out.size;omega))
 have aeY:W3.heap.size≤g2:=by
  have:(W3.alloc (.cells #[.int .i64 1] 3)).heap.size=W3.heap.size+1:=by simp
  omega
 have oQ:Hid (∀W5,(∀b,b≠w.heap.size→W5.heap[b]? =W4.heap[b]?)→Below w.heap.size w W5→Na m w (.returned (.agg #[.slice (some ⟨g1,0,none⟩) m m,.slice (some ⟨g2,0,none⟩) m m])) W5):=fun W5 h5 hb5=>by
  have:=nh.out
  refine⟨g1,g2,rfl,(h5 g1 (by omega)).trans i1,(h5 g2 (by omega)).trans hi2,by omega,by omega,by omega,hb5⟩
 have wj:=Nu.hid Db
 obtain⟨x0,x1,x2⟩:=ay kk
 have WR:=Nu.hid kk
 clear hi2 hg2 hb2 i1 Db b2 aeY s1 s3 s4 g1l kk
 simp only[]
 go_wp2
 refine bodyPost_ret (v:= .agg #[.slice (some ⟨g1,0,none⟩) m m,.slice (some ⟨g2,0,none⟩) m m]) (results_cell_row (p:=2) (ty:=107) Tryz.results49 _ _ w.heap.size 107 _ (0,0) _ rfl (gD WR.out _ _) Tryz.underlying107 rfl (by kernel_rfl)) rfl ?_
 refine oQ.out _ (fun b hb=> ?_) ?_
 ·rw[heap_setCell_other _ ⟨w.heap.size,1,none⟩ b _ hb,heap_setCell_other _ ⟨w.heap.size,0,none⟩ b _ hb]
 ·exact(wj.out.setCell (p:=⟨w.heap.size,0,none⟩) (aad _) _).setCell (p:=⟨w.heap.size,1,none⟩) (aad _) _
end
section
open Go.RowKit Lt
def Wn (c:Wp) (p:Nat) (w:World) (e:Ending) (w':World):Prop:=∃t L U Z,e= .returned (.pointer (some ⟨t,0,none⟩))∧aR c p t w (fun b=>b=t∨b=L∨b=U∨b=Z) (Lt.start c.es.length) L U Z (.slice none 0 0) (.slice none 0 0) w'
set_option maxRecDepth 100000 in
set_option maxHeartbeats 4000000 in
theorem AE {c:Wp} {p:Nat} {w:World} (h:bV c p w):Calls Tryz.prog 27 #[.pointer (some ⟨p,0,none⟩)] w (Wn c p w):=by
 have cj:=h.val.few
 have x5:=h.c5
 have HS:=Nu.hid (CT c.es.length (by omega) w)
 have HR:Hid (∀(x:Int) (b:Nat) (W:World),aq W b [x]→Calls Tryz.prog 50 #[.slice (some ⟨b,0,none⟩) 1 1,.int .i64 (c.es.length:Int)] W (vM x c.es.length W)):=fun x b W h=>qI x c.es.length b 1 (by omega) W h
 have fN:=Nu.hid h
 clear h cj
 go_enter Tryz.func27,Tryz.ntmps27
 go_wp2_with (go_at_call 49;refine HS.out.mono ?_;rintro e W2 ⟨L,U,rfl,i1,i2,l1,l2,l3,b2⟩;have ng:=Nu.hid i1;have fX:=Nu.hid i2;have HL:=Nu.hid (And.intro l1 (And.intro l2 l3));have ct:=Nu.hid b2;clear i1 i2 l1 l2 l3 b2;have uG:=Nu.hid (HR.out (-1) W2.heap.size (W2.alloc (.cells #[.int .i64 (-1)] 3)) (heap_alloc_new W2 _)))
 go_at_call 50
 refine uG.out.mono ?_
 rintro e W4 ⟨Z,rfl,i3,l4,b4⟩
 have uE:=Nu.hid i3
 have HL4:=Nu.hid l4
 have gJ:=Nu.hid b4
 clear i3 l4 b4 uG
 simp only[]
 go_wp2
 go_ret
 obtain⟨l1,l2,l3⟩:=HL.out
 have l4:W2.heap.size+1≤Z:=by have:=HL4.out;simpa using this
 have b4:Below W2.heap.size W2 W4:=((aae _ _).alloc (aad _) _).trans (gJ.out.mono (by simp))
 have s2:=ct.out.size
 have s4:=b4.size
 have z1:=ng.out.lt
 have z2:=fX.out.lt
 have z3:=uE.out.lt
 have bb:Below w.heap.size w W4:=ct.out.trans (b4.mono s2)
 have b5:∀o,Below W4.heap.size W4 (W4.alloc o):=fun o=>(aae _ _).alloc (aad _) o
 have hsz:∀o,(W4.alloc o).heap.size=W4.heap.size+1:=fun o=>by simp
 refine⟨W4.heap.size,L,U,Z,rfl,fN.out,bb.trans ((b5 _).mono bb.size),heap_alloc_new W4 _,(ng.out.later b4).later (b5 _),(fX.out.later b4).later (b5 _),uE.out.later (b5 _),by simp[Lt.start],by simp[Lt.start],by simp[Lt.start],dU.nil _ _,dU.nil _ _,.inl rfl,.inr (.inl rfl),.inr (.inr (.inl rfl)),.inr (.inr (.inr rfl)),(fun b hb=>by cases hb),(fun b hb=>by cases hb),?_,?_,?_,(fun b hb=>by cases hb),(fun b hb=>by cases hb),(fun b hb=>by cases hb)⟩
 ·rintro b (rfl|rfl|rfl|rfl)<;>omega
 ·rintro b (rfl|rfl|rfl|rfl)<;>rw[hsz]<;>omega
 ·refine⟨?_,?_,?_,?_,?_,?_⟩<;>omega
end
section
open Go.RowKit Lt Pl
def O3 (n:Int) (es:List (Int×Int)) (w:World) (e:Ending) (w':World):Prop:=
 ((Si.valid n es=false∧e= .returned (.tuple #[.slice none 0 0,.bool false,.int .i64 1]))∨
   ∃(m:Nat) (s:Df.St) (r:Option (List Int)),n=(m:Int)∧Si.Val m es∧Df.Wk m es m s∧gO m es s r∧
    ((r=none∧e= .returned (.tuple #[.slice none 0 0,.bool false,.int .i64 0]))∨∃l g,r=some l∧l.length=es.length∧e= .returned (.tuple #[.slice (some ⟨g,0,none⟩) es.length es.length,.bool true,.int .i64 0])∧aq w' g l∧w.heap.size≤g))∧
 Below w.heap.size w w'
set_option maxRecDepth 100000 in
set_option maxHeartbeats 16000000 in
theorem pM (n:Int) (ao:Option Addr) (cap:Nat) (es:List (Int×Int)) (w:World) (he:aQ w ao es) (hl:es.length≤4611686018427387904):
 Calls Tryz.prog 13 #[.agg #[.int .i64 n,.slice ao es.length cap]] w (O3 n es w):=by
 obtain⟨W,hW⟩:∃W,W=w.alloc (.cells #[.int .i64 n,.slice ao es.length cap] 24):=⟨_,rfl⟩
 have hB0:Below w.heap.size w W:=by rw[hW];exact(aae _ _).alloc (aad _) _
 have g1:W.heap[w.heap.size]? =some (.cells #[.int .i64 n,.slice ao es.length cap] 24 (0,0)):=by rw[hW];exact heap_alloc_new w _
 have hs0:W.heap.size=w.heap.size+1:=by rw[hW];simp
 have HC:=Nu.hid (Lm n ao cap es W (he.later hB0) hl)
 unfold bX at HC
 obtain⟨x0,x1,-⟩:=ay g1
 have HW:=Nu.hid hW
 have cZ:=Nu.hid hB0
 have nh:=Nu.hid g1
 have HE:=Nu.hid (he.later hB0)
 have HS0:=Nu.hid hs0
 clear hB0 g1 he hs0
 rw[hW] at x0 x1 HC
 clear hW
 go_enter Tryz.func13,Tryz.ntmps13
 go_wp2_with fail
 go_at_call 26
 refine HC.out.mono ?_
 rw[←HW.out]
 rintro e w1 ⟨v1,v2,v3,v4,s,z,rfl,hown,nU,hb1⟩
 have hlen:s.par.length≤17592186043904∧s.az.length≤17592186043904∧s.ord.length≤17592186043904∧s.aJ.length≤17592186043904:=by
  rcases nU with ⟨m,rfl,hv,hwk,-⟩|⟨-,rfl,-⟩
  ·obtain⟨l1,l2,l3,l4⟩:=(hwk.vf hv).lens
   have:=hv.hi
   have:=hv.few
   omega
  ·simp
 obtain⟨f,rfl,rfl,rfl,rfl,hF⟩:=hown.cG hlen
 obtain⟨Y,hY⟩:∃Y,Y=w1.alloc (.cells #[.slice f.a1 s.par.length f.c1,.slice f.a2 s.az.length f.c2,.slice f.a3 s.ord.length f.c3,.slice f.a4 s.aJ.length f.c4] 36):=⟨_,rfl⟩
 have C9:Below w1.heap.size w1 Y:=by rw[hY];exact(aae _ _).alloc (aad _) _
 have f1:Y.heap[w1.heap.size]? =some (.cells #[.slice f.a1 s.par.length f.c1,.slice f.a2 s.az.length f.c2,.slice f.a3 s.ord.length f.c3,.slice f.a4 s.aJ.length f.c4] 36 (0,0)):=by rw[hY];exact heap_alloc_new w1 _
 have IP:Below W.heap.size W Y:=hb1.trans (C9.mono hb1.size)
 have HBY:Hid (Below w.heap.size w Y):=cZ.out.trans (IP.mono cZ.out.size)
 have k1:=(IP.block _ (lt_of_block nh.out)).trans nh.out
 obtain⟨y0,y1,-⟩:=ay k1
 obtain⟨u0,u1,u2,u3,-⟩:=au f1
 have HFY:=Nu.hid (hF.later C9)
 have HEY:=Nu.hid (HE.out.later IP)
 have HY:=Nu.hid hY
 rw[hY] at y0 y1 u0 u1 u2 u3
 have HSY:=Nu.hid IP.size
 clear hown hF hlen hY C9 f1 k1 hb1 IP x0 x1 HC
 rcases nU with ⟨m,rfl,hv,hwk,rfl⟩|⟨hv,-,rfl⟩
 ·have HV:=Nu.hid hv
  have fN:=Nu.hid hwk
  have uB:=Nu.hid (AQ (m:Int) ao cap es f s Y HEY.out hl HFY.out)
  unfold For.val at uB
  rw[HY.out] at uB
  clear hv hwk
  simp only[]
  go_wp2_with fail
  go_at_call 22
  refine uB.out.mono ?_
  rw[←HY.out]
  intro e1 w3 hrd
  obtain⟨c,p,hc1,rfl,rfl,hc4,hc5,hc6,rfl,hpl,H8,hb3⟩:∃(c:Wp) (p:Nat),(m:Int)=(c.n:Int)∧c.es=es∧c.s=s∧c.ao=ao∧c.ca=cap∧c.f=f∧e1= .returned (.tuple #[.pointer (some ⟨p,0,none⟩),.int .i64 0])∧Y.heap.size≤p∧bV c p w3∧Below Y.heap.size Y w3:=by
   rcases hrd with ⟨q,_⟩|⟨_,q,_⟩|q
   ·rw[Si.bL.2 HV.out] at q
    cases q
   ·exact absurd ⟨m,rfl,HV.out,fN.out.vf HV.out⟩ q
   ·exact q
  obtain rfl:m=c.n:=by omega
  have gP:=H8.vf
  obtain⟨r,wZ,-⟩:=gO.ex H8.val gP
  have Ds:=Nu.hid wZ
  obtain⟨k0,hk0⟩:=wZ
  obtain⟨k,hk1,hk2⟩:∃k,k0≤k∧2*c.es.length+1≤k:=⟨k0+(2*c.es.length+1),by omega,by omega⟩
  have kB:Lt.test c.env k c.es.length=some r:=hk0 k hk1
  have HNT:=Nu.hid (AE H8)
  have Jn:=Nu.hid H8
  have dm:Hid (Below w.heap.size w w3):=HBY.out.trans (hb3.mono HBY.out.size)
  have Dr:=Nu.hid kB
  have Jo:=Nu.hid gP
  have Dy:=Nu.hid (Wp.BN Jn.out.val Jo.out)
  clear hrd hk0 hk1 hc1 hc4 hc5 hc6 hb3 kB gP H8 hpl uB
  simp only[]
  go_wp2_with fail
  go_at_call 27
  refine HNT.out.mono ?_
  rintro e2 w4 ⟨t,L,U,Z,rfl,hT⟩
  have HT:=Nu.hid hT
  have hst:∃q,trees c.env k c.s.ord (Lt.start c.es.length)=some q∧((q=none∧r=none)∨∃st l,q=some st∧r=some l∧sides c.env k c.s.aJ st.like st.turn []=some l):=by
   have h1:=Dr.out
   unfold Lt.test at h1
   cases hq:trees c.env k c.env.ord (Lt.start c.es.length) with
   |none=>rw[hq] at h1;cases h1
   |some q=>
    rw[hq] at h1
    cases q with
    |none=>exact⟨none,hq,.inl ⟨rfl,(aak h1).symm⟩⟩
    |some st=>
     dsimp only at h1
     cases hs:sides c.env k c.env.aJ st.like st.turn [] with
     |none=>rw[hs] at h1;cases h1
     |some l=>
      rw[hs] at h1
      exact⟨some st,hq,.inr ⟨st,l,rfl,(aak h1).symm,hs⟩⟩
  obtain⟨q,xg,Fm⟩:=hst
  have Wu:=Nu.hid (JO Dy.out hT tF hk2 (Wp.E7 Jo.out) (Wp.E6 Jo.out) (fun _ _ _ q=>q) xg)
  have gJ:Hid (∀V,Below w3.heap.size w3 V→Below w.heap.size w V):=fun V hV=>dm.out.trans (hV.mono dm.out.size)
  have XG:=dm.out.size
  rcases Fm with ⟨rfl,rfl⟩|⟨st,l,rfl,rfl,Vc⟩
  ·clear hT xg
   simp only[]
   go_wp2_with (go_at_call 28;refine Wu.out.mono ?_;rintro e3 w5 ⟨st',rfl,Q4⟩;have WI:=Nu.hid Q4;clear Q4)
   go_ret3
   obtain⟨-,L',U',Z',o9,qA,h5⟩:=WI.out
   exact⟨.inr ⟨c.n,c.s,none,rfl,Jn.out.val,fN.out,Ds.out,.inl ⟨rfl,rfl⟩⟩,gJ.out _ h5.aI⟩
  ·obtain⟨fin',G',hI⟩:=JQ Dy.out hk2 (tF (T:=Lr.df Jn.out.val Jo.out) (E:=c.env) (oe:=c.oe)) (Wp.E7 Jo.out) (Wp.E6 Jo.out) (fun _ _ _ q=>q) xg
   have TV:Hid (Pm st.turn):=fun z x hz=>by
    have hzl:=(aas.1 hz).1
    rw[hI.lk.lt] at hzl
    have:=hI.lk.tn z hzl
    unfold g at this
    rw[hz] at this
    exact this
   have HSL:=Nu.hid Vc
   clear hT xg Vc hI
   simp only[]
   go_wp2_with (go_at_call 28;refine Wu.out.mono ?_;rintro e3 w5 ⟨rfl,Q4⟩;have WI:=Nu.hid Q4;clear Q4)
   have hPA:Calls Tryz.prog 29 #[.pointer (some ⟨t,0,none⟩)] w5 fun e w'=>∃g,e= .returned (.slice (some ⟨g,0,none⟩) c.es.length c.es.length)∧aq w' g l∧l.length=c.es.length∧w5.heap.size≤g∧Below w3.heap.size w3 w':=by
    obtain⟨-,L',U',Z',o9,qA,h5⟩:=WI.out
    exact yZ h5 TV.out HSL.out
   have HPA:=Nu.hid hPA
   clear hPA
   go_at_call 29
   refine HPA.out.mono ?_
   rintro e6 w6 ⟨g6,rfl,hi6,Rq,Ow,cq⟩
   have HI6:=Nu.hid hi6
   have HL6:=Nu.hid Rq
   have nj:=Nu.hid cq
   have uF:Hid (w.heap.size≤g6):=by
    obtain⟨-,L',U',Z',o9,qA,h5⟩:=WI.out
    have:=h5.aI.size
    show _≤_
    omega
   clear hi6 Rq Ow cq
   simp only[]
   go_wp2_with fail
   go_ret3
   exact⟨.inr ⟨c.n,c.s,some l,rfl,Jn.out.val,fN.out,Ds.out,.inr ⟨l,g6,rfl,HL6.out,rfl,HI6.out,uF.out⟩⟩,gJ.out _ nj.out⟩
 ·have HV:=Nu.hid hv
  clear hv y0 y1 u0 u1 u2 u3
  simp only[]
  go_wp2_with fail
  go_ret3
  refine⟨.inl ⟨HV.out,rfl⟩,?_⟩
  have:=HBY.out
  rw[HY.out] at this
  exact this
end
section
open Go.RowKit Lt Pl
def Jk (n:Int) (es:List (Int×Int)) (w:World) (e:Ending) (w':World):Prop:=
 ((Si.valid n es=false∧e= .returned (.tuple #[.bool false,.int .i64 1]))∨
   ∃(m:Nat) (s:Df.St) (r:Option (List Int)),n=(m:Int)∧Si.Val m es∧Df.Wk m es m s∧gO m es s r∧e= .returned (.tuple #[.bool r.isSome,.int .i64 0]))∧
 Below w.heap.size w w'
set_option maxRecDepth 100000 in
set_option maxHeartbeats 4000000 in
theorem pN (n:Int) (ao:Option Addr) (cap:Nat) (es:List (Int×Int)) (w:World) (he:aQ w ao es) (hl:es.length≤4611686018427387904):
 Calls Tryz.prog 14 #[.agg #[.int .i64 n,.slice ao es.length cap]] w (Jk n es w):=by
 obtain⟨W,hW⟩:∃W,W=w.alloc (.cells #[.int .i64 n,.slice ao es.length cap] 24):=⟨_,rfl⟩
 have hB0:Below w.heap.size w W:=by rw[hW];exact(aae _ _).alloc (aad _) _
 have g1:W.heap[w.heap.size]? =some (.cells #[.int .i64 n,.slice ao es.length cap] 24 (0,0)):=by rw[hW];exact heap_alloc_new w _
 have HC:=Nu.hid (pM n ao cap es W (he.later hB0) hl)
 obtain⟨x0,x1,-⟩:=ay g1
 have HW:=Nu.hid hW
 have cZ:=Nu.hid hB0
 clear hB0 g1 he
 rw[hW] at x0 x1 HC
 clear hW
 go_enter Tryz.func14,Tryz.ntmps14
 go_wp2_with fail
 go_at_call 13
 refine HC.out.mono ?_
 rw[←HW.out]
 rintro e w1 ⟨nU,hb1⟩
 have aY:Hid (Below w.heap.size w w1):=cZ.out.trans (hb1.mono cZ.out.size)
 clear hb1 x0 x1 HC
 rcases nU with ⟨hv,rfl⟩|⟨m,s,r,hn,hv,hwk,zj,⟨rfl,rfl⟩|⟨l,g6,rfl,-,rfl,-,-⟩⟩
 ·simp only[]
  go_wp2_with fail
  go_ret2
  exact⟨.inl ⟨hv,rfl⟩,aY.out⟩
 ·have H:=Nu.hid (And.intro hn (And.intro hv (And.intro hwk zj)))
  clear hn hv hwk zj
  simp only[]
  go_wp2_with fail
  go_ret2
  obtain⟨hn,hv,hwk,zj⟩:=H.out
  exact⟨.inr ⟨m,s,none,hn,hv,hwk,zj,rfl⟩,aY.out⟩
 ·have H:=Nu.hid (And.intro hn (And.intro hv (And.intro hwk zj)))
  clear hn hv hwk zj
  simp only[]
  go_wp2_with fail
  go_ret2
  obtain⟨hn,hv,hwk,zj⟩:=H.out
  exact⟨.inr ⟨m,s,some l,hn,hv,hwk,zj,rfl⟩,aY.out⟩
end
section
open Go.RowKit Lt Pl
theorem P8 (ao:Option Addr) (cap:Nat) (w:World) (he:aQ w ao Lw.iK):Calls Tryz.prog 14 #[.agg #[.int .i64 4,.slice ao 6 cap]] w fun e w'=>e= .returned (.tuple #[.bool true,.int .i64 0])∧Below w.heap.size w w':=
 (pN 4 ao cap Lw.iK w he (by decide)).mono fun e w' ⟨hc,hb⟩=>by
   rcases hc with ⟨hv,_⟩|⟨m,s,r,hm,hv,hwk,zj,rfl⟩
   ·have h1:Si.valid 4 Lw.iK=true:=Si.bL.2 Lw.nw
    rw[h1] at hv
    cases hv
   ·obtain rfl:m=4:=by omega
    rw[Lw.ZA hwk zj]
    exact⟨rfl,hb⟩
theorem P7 (ao:Option Addr) (cap:Nat) (w:World) (he:aQ w ao Lw.gR):Calls Tryz.prog 14 #[.agg #[.int .i64 5,.slice ao 10 cap]] w fun e w'=>e= .returned (.tuple #[.bool false,.int .i64 0])∧Below w.heap.size w w':=
 (pN 5 ao cap Lw.gR w he (by decide)).mono fun e w' ⟨hc,hb⟩=>by
   rcases hc with ⟨hv,_⟩|⟨m,s,r,hm,hv,hwk,zj,rfl⟩
   ·have h1:Si.valid 5 Lw.gR=true:=Si.bL.2 Lw.Gn
    rw[h1] at hv
    cases hv
   ·obtain rfl:m=5:=by omega
    rw[Lw.Zz hwk zj]
    exact⟨rfl,hb⟩
theorem VX (w:World):Calls Tryz.prog 18 #[.int .i64 4] w fun e w'=>∃ao cap,e= .returned (.agg #[.int .i64 4,.slice ao 6 cap])∧aQ w' ao Lw.iK∧Below w.heap.size w w':=
 (tj 4 (by omega) w).mono fun e w' ⟨ao,cap,h1,h2,h3⟩=>by
   rw[Lw.is4] at h1 h2
   exact⟨ao,cap,h1,h2,h3⟩
theorem VW (w:World):Calls Tryz.prog 18 #[.int .i64 5] w fun e w'=>∃ao cap,e= .returned (.agg #[.int .i64 5,.slice ao 10 cap])∧aQ w' ao Lw.gR∧Below w.heap.size w w':=
 (tj 5 (by omega) w).mono fun e w' ⟨ao,cap,h1,h2,h3⟩=>by
   rw[Lw.is5] at h1 h2
   exact⟨ao,cap,h1,h2,h3⟩
theorem JI (ao:Option Addr) (cap:Nat) (w:World) (he:aQ w ao Lw.iK):Calls Tryz.prog 19 #[.agg #[.int .i64 4,.slice ao 6 cap]] w fun e w'=>∃a1 a2 a3 a4 c1 c2 c3 c4,e= .returned (.agg #[.slice a1 4 c1,.slice a2 4 c2,.slice a3 4 c3,.slice a4 6 c4])∧dI w' ⟨a1,a2,a3,a4,c1,c2,c3,c4⟩ Lw.s4∧Below w.heap.size w w':=
 (J3 4 ao cap Lw.iK w he Lw.nw).mono fun e w' ⟨f,s,h1,h2,h3,h4⟩=>by
   obtain rfl:=h2.unique Lw.JJ
   exact⟨f.a1,f.a2,f.a3,f.a4,f.c1,f.c2,f.c3,f.c4,h1,h3,h4⟩
theorem UI (ao:Option Addr) (cap:Nat) (a1 a2 a3 a4:Option Addr) (c1 c2 c3 c4:Nat) (gp:Nat) (w:World) (he:aQ w ao Lw.iK) (hF:dI w ⟨a1,a2,a3,a4,c1,c2,c3,c4⟩ Lw.s4) (hp:aq w gp Lw.p4):
 Calls Tryz.prog 12 #[.agg #[.int .i64 4,.slice ao 6 cap],.agg #[.slice a1 4 c1,.slice a2 4 c2,.slice a3 4 c3,.slice a4 6 c4],.slice (some ⟨gp,0,none⟩) 6 6] w fun e w'=>e= .returned (.tuple #[.bool true,.int .i64 0])∧Below w.heap.size w w':=
 (yq 4 ao cap Lw.iK ⟨a1,a2,a3,a4,c1,c2,c3,c4⟩ Lw.s4 (some ⟨gp,0,none⟩) 6 Lw.p4 w he (by decide) hF (hp.cG rfl)).mono fun e w' ⟨hc,hb⟩=>by
   rcases hc with ⟨hv,_⟩|⟨_,hn,_⟩|⟨m,hv,hf,hm,⟨hn,_⟩|⟨_,b,rfl,nV⟩⟩
   ·have h1:Si.valid 4 Lw.iK=true:=Si.bL.2 Lw.nw
    rw[h1] at hv
    cases hv
   ·exact absurd ⟨4,rfl,Lw.nw,Lw.CL⟩ hn
   ·exact absurd Lw.ZO hn
   ·obtain rfl:m=4:=by omega
    have:b=true:=nV.2 ⟨Lw.al4,Lw.lr4 _⟩
    subst this
    exact⟨rfl,hb⟩
set_option maxRecDepth 100000 in
set_option maxHeartbeats 8000000 in
theorem EL (w:World):Calls Tryz.prog 5 #[] w fun e w'=>e= .returned (.bool true)∧Below w.heap.size w w':=by
 have Uw:Hid (∀V,Calls Tryz.prog 18 #[.int .i64 4] V fun e w'=>∃ao cap,e= .returned (.agg #[.int .i64 4,.slice ao 6 cap])∧aQ w' ao Lw.iK∧Below V.heap.size V w'):=VX
 have HC5:=Nu.hid VW
 go_enter Tryz.func5,Tryz.ntmps5
 go_wp2_with fail
 go_at_call 18
 refine(Uw.out _).mono ?_
 rintro e w1 ⟨o1,c1,rfl,aA,hb1⟩
 have Du:=Nu.hid (P8 o1 c1 w1 aA)
 have aY:=Nu.hid hb1
 clear aA hb1
 simp only[]
 go_wp2_with fail
 go_at_call 14
 refine Du.out.mono ?_
 rintro e w2 ⟨rfl,hb2⟩
 have ct:=Nu.hid (aY.out.trans (hb2.mono aY.out.size))
 clear hb2 Du
 simp only[]
 go_wp2_with fail
 go_at_call 18
 refine(HC5.out _).mono ?_
 rintro e w3 ⟨o3,c3,rfl,he3,hb3⟩
 have Pk:=Nu.hid (P7 o3 c3 w3 he3)
 have dm:=Nu.hid (ct.out.trans (hb3.mono ct.out.size))
 clear he3 hb3
 simp only[]
 go_wp2_with fail
 go_at_call 14
 refine Pk.out.mono ?_
 rintro e w4 ⟨rfl,hb4⟩
 have gJ:=Nu.hid (dm.out.trans (hb4.mono dm.out.size))
 clear hb4 Pk
 simp only[]
 go_wp2_with fail
 go_at_call 18
 refine(Uw.out _).mono ?_
 rintro e w5 ⟨o5,c5,rfl,he5,hb5⟩
 have HE5:=Nu.hid he5
 have jX:=Nu.hid (gJ.out.trans (hb5.mono gJ.out.size))
 clear he5 hb5
 simp only[]
 go_wp2_with fail
 go_at_call 18
 refine(Uw.out _).mono ?_
 rintro e w6 ⟨o6,c6,rfl,he6,cq⟩
 have Gd:=Nu.hid (HE5.out.later cq)
 have Pg:=Nu.hid (JI o6 c6 w6 he6)
 have nj:=Nu.hid (jX.out.trans (cq.mono jX.out.size))
 clear he6 cq
 simp only[]
 go_wp2_with fail
 go_at_call 19
 refine Pg.out.mono ?_
 rintro e w7 ⟨a1,a2,a3,a4,d1,d2,d3,d4,rfl,hF,kY⟩
 obtain⟨W8,vu⟩:∃W8,W8=w7.alloc (.cells #[.int .i64 0,.int .i64 1,.int .i64 1,.int .i64 0,.int .i64 (-1),.int .i64 0] 3):=⟨_,rfl⟩
 have dV:Below w7.heap.size w7 W8:=by rw[vu];exact(aae _ _).alloc (aad _) _
 have hp8:aq W8 w7.heap.size Lw.p4:=by rw[vu];exact heap_alloc_new w7 _
 have HV8:=Nu.hid (UI o5 c5 a1 a2 a3 a4 d1 d2 d3 d4 w7.heap.size W8 ((Gd.out.later kY).later dV) (hF.later dV) hp8)
 have Xa:Hid (Below w.heap.size w W8):=by
  have h1:=nj.out.trans (kY.mono nj.out.size)
  exact h1.trans (dV.mono h1.size)
 have HW8:=Nu.hid vu
 rw[vu] at HV8
 clear hF kY vu dV hp8 Pg
 simp only[]
 go_wp2_with fail
 go_at_call 12
 refine HV8.out.mono ?_
 rw[←HW8.out]
 rintro e w9 ⟨rfl,gm⟩
 have HB9:=Nu.hid (Xa.out.trans (gm.mono Xa.out.size))
 clear gm HV8
 simp only[]
 go_wp2_with fail
 go_ret
 exact⟨rfl,HB9.out⟩
end
section
open Go.RowKit Lt Pl
def Ti (n:Int) (es:List (Int×Int)) (s:Df.St) (ps:List Int):Prop:=∃(m:Nat) (hv:Si.Val m es) (hf:Df.VF m es s),n=(m:Int)∧(Lr.df hv hf).Aligned (sV ps)∧(Lr.df hv hf).LR (sV ps)
open Classical in
noncomputable def PG (n:Int) (es:List (Int×Int)) (s:Df.St) (ps:List Int):Bool×Int:=
 if Si.valid n es=false then (false,1) else if ¬oN n es s then (false,80) else if ¬nK es s ps then (false,100) else (decide (Ti n es s ps),0)
open Classical in
theorem Hg (n:Int) (ao:Option Addr) (cap:Nat) (es:List (Int×Int)) (a1 a2 a3 a4:Option Addr) (c1 c2 c3 c4:Nat) (s:Df.St) (pa:Option Addr) (pc k:Nat) (ps:List Int) (w:World) (he:aQ w ao es) (hl:es.length≤4611686018427387904) (hF:dI w ⟨a1,a2,a3,a4,c1,c2,c3,c4⟩ s) (hp:gI w pa k pc ps):
 Calls Tryz.prog 12 #[.agg #[.int .i64 n,.slice ao es.length cap],.agg #[.slice a1 s.par.length c1,.slice a2 s.az.length c2,.slice a3 s.ord.length c3,.slice a4 s.aJ.length c4],.slice pa k pc] w fun e w'=>e= .returned (.tuple #[.bool (PG n es s ps).1,.int .i64 (PG n es s ps).2])∧Below w.heap.size w w':=by
 have hk:=hp.len
 subst hk
 refine(yq n ao cap es ⟨a1,a2,a3,a4,c1,c2,c3,c4⟩ s pa pc ps w he hl hF hp).mono fun e w' ⟨hc,hb⟩=>⟨?_,hb⟩
 unfold PG
 rcases hc with ⟨hv,rfl⟩|⟨hv,hn,rfl⟩|⟨m,hv,hf,rfl,⟨hn,rfl⟩|⟨hp,b,rfl,nV⟩⟩
 ·rw[if_pos hv]
 ·rw[if_neg (by rw[hv];simp),if_pos hn]
 ·rw[if_neg (by rw[Si.bL.2 hv];simp),if_neg (fun q=>q ⟨m,rfl,hv,hf⟩),if_pos hn]
 ·rw[if_neg (by rw[Si.bL.2 hv];simp),if_neg (fun q=>q ⟨m,rfl,hv,hf⟩),if_neg (fun q=>q hp)]
  have:b=decide (Ti (m:Int) es s ps):=by
   have hiff:b=true↔Ti (m:Int) es s ps:=by
    rw[nV]
    constructor
    ·rintro⟨q1,q2⟩
     exact⟨m,hv,hf,rfl,@q1,q2⟩
    ·rintro⟨m',hv',hf',hm,q1,q2⟩
     obtain rfl:m=m':=by omega
     exact⟨@q1,q2⟩
   cases b with
   |false=>symm;rw[decide_eq_false_iff_not];exact fun q=>by cases hiff.2 q
   |true=>symm;rw[decide_eq_true_iff];exact hiff.1 rfl
  rw[this]
end
section
open Go.RowKit Lt Pl
theorem NC (n:Int) (es:List (Int×Int)):∃(l:List Int) (b:Bool) (z:Int),l.length≤4194304∧∀(ao:Option Addr) (cap:Nat) (w:World),aQ w ao es→es.length≤4611686018427387904→
 Calls Tryz.prog 13 #[.agg #[.int .i64 n,.slice ao es.length cap]] w fun e w'=>∃a c,e= .returned (.tuple #[.slice a l.length c,.bool b,.int .i64 z])∧aP w' w.heap.size (.slice a l.length c) l∧Below w.heap.size w w':=by
 by_cases h:∃(m:Nat) (s:Df.St) (l:List Int),n=(m:Int)∧Si.Val m es∧Df.Wk m es m s∧gO m es s (some l)∧l.length=es.length
 ·obtain⟨m,s,l,rfl,hv,hw,ht,hl⟩:=h
  have cj:=hv.few
  refine⟨l,true,0,by omega,fun ao cap w he hle=>(pM _ ao cap es w he hle).mono ?_⟩
  rintro e w' ⟨hc,hb⟩
  rcases hc with ⟨h1,-⟩|⟨m',s',r,hm,hv',hw',ht',nU⟩
  ·rw[Si.bL.2 hv] at h1
   cases h1
  ·obtain rfl:m=m':=by omega
   obtain rfl:=hw'.unique hw
   obtain rfl:=ht'.unique ht
   rcases nU with ⟨h1,-⟩|⟨l',g,h1,h2,rfl,hi,hg⟩
   ·cases h1
   ·cases h1
    refine⟨some ⟨g,0,none⟩,es.length,by rw[hl],?_,hb⟩
    have:=hi.own hg hl (by omega)
    rw[hl]
    exact this
 ·by_cases hv:Si.valid n es=false
  ·refine⟨[],false,1,by simp,fun ao cap w he hle=>(pM n ao cap es w he hle).mono ?_⟩
   rintro e w' ⟨hc,hb⟩
   rcases hc with ⟨-,rfl⟩|⟨m',s',r,hm,hv',_⟩
   ·exact⟨none,0,rfl,aP.nil _ _,hb⟩
   ·subst hm
    rw[Si.bL.2 hv'] at hv
    cases hv
  ·refine⟨[],false,0,by simp,fun ao cap w he hle=>(pM n ao cap es w he hle).mono ?_⟩
   rintro e w' ⟨hc,hb⟩
   rcases hc with ⟨h1,-⟩|⟨m',s',r,hm,hv',hw',ht',nU⟩
   ·exact absurd h1 hv
   ·rcases nU with ⟨-,rfl⟩|⟨l',g,h1,h2,_⟩
    ·exact⟨none,0,rfl,aP.nil _ _,hb⟩
    ·subst h1
     exact absurd ⟨m',s',l',hm,hv',hw',ht',h2⟩ h
theorem GY (n:Int) (es:List (Int×Int)) (ao:Option Addr) (cap:Nat) (w:World) (he:aQ w ao es) (hl:es.length≤4611686018427387904):
 Calls Tryz.prog 14 #[.agg #[.int .i64 n,.slice ao es.length cap]] w fun e w'=>(∃b z,e= .returned (.tuple #[.bool b,.int .i64 z]))∧Below w.heap.size w w':=(pN n ao cap es w he hl).mono (by
 rintro e w' ⟨hc,hb⟩
 refine⟨?_,hb⟩
 rcases hc with ⟨-,h⟩|⟨_,_,_,_,_,_,_,h⟩
 ·exact⟨_,_,h⟩
 ·exact⟨_,_,h⟩)
set_option maxRecDepth 100000 in
theorem ya (ao:Option Addr) (n ca:Nat) (l:List Int) (w:World) (h:gI w ao n ca l) (hn:n≤17592186043904):
 Calls Tryz.prog 11 #[.slice ao n ca] w fun e w'=>∃gb cb,e= .returned (.slice (some ⟨gb,0,none⟩) n cb)∧w'.ownsRow w.heap.size 3 1 (.slice (some ⟨gb,0,none⟩) n cb) n (l.map (Value.int .i64))∧Below w.heap.size w w':=by
 have HR:=Nu.hid h
 clear h
 go_enter Tryz.func11,Tryz.ntmps11
 go_wp2_with (at_builtin;refine nv rfl _ _ rfl w ao n ca l rfl rfl HR.out hn ?_;refine aaB ?_)
 refine Nu.hid ?_
 intro gb c w1 hrow hgb hlt hc hb
 have HX:=Nu.hid hrow
 have HB:=Nu.hid hb
 clear hrow hb hgb
 go_wp2
 go_ret
 exact⟨gb,c,rfl,HX.out,HB.out⟩
theorem qK {w:World} {B k c:Nat} {a:Option Addr} {l:List Int} (h:aP w B (.slice a k c) l) (hk:l.length=k):gI w a k c l:=by
 obtain⟨a',c',e,hi,-⟩:=h.form
 injection e with e1 e2 e3
 subst e1 e3
 refine⟨hk,hi,fun e=> ?_⟩
 rcases h.2 with ⟨h1,h2⟩|⟨g,cap,cur,h1,_⟩
 ·injection h1 with q1 q2 q3
  exact⟨q2,q3⟩
 ·rw[e] at h1
  cases h1
theorem ZI {w:World} {B k:Nat} {v:Value} {l:List Int} (h:w.ownsRow B 3 1 v k (l.map (Value.int .i64))) (hk:l.length=k):aP w B v l:=by
 unfold aP
 rw[hk]
 exact h
theorem Zq {w:World} {B k:Nat} {v:Value} {l:List Int} (h:aP w B v l) (hk:l.length=k):w.ownsRow B 3 1 v k (l.map (Value.int .i64)):=by
 unfold aP at h
 rw[hk] at h
 exact h
theorem PY {w:World} {B g k c:Nat} {l:List Int} (h:w.ownsRow B 3 1 (.slice (some ⟨g,0,none⟩) k c) k (l.map (Value.int .i64))) {i:Nat} {x0:Int} (hi:l[i]? =some x0) (x:Int):
 (w.setCell ⟨g,i,none⟩ (.int .i64 x)).ownsRow B 3 1 (.slice (some ⟨g,0,none⟩) k c) k ((l.set i x).map (Value.int .i64))∧w.cell? ⟨g,i,none⟩=some (.int .i64 x0)∧w.frozen? ⟨g,i,none⟩=false:=by
 obtain⟨s1,_⟩:=h.stored i (.int .i64 x)
 have c1:=abj h (g:=g) rfl i (.int .i64 x0) (by rw[aay,hi];rfl)
 have ea:((⟨g,0,none⟩:Addr).add i)=⟨g,i,none⟩:=by
  by_cases h0:i=0<;>simp[Addr.add,h0]
 rw[ea] at c1
 exact⟨by rw[acT];exact s1,c1,h.frozenAt _⟩
end
section
open Go.ChangeShapes Go.WideShapes Go.ChangeAt Go.RowKit
theorem LC:Tryz.prog.bytesOf 33=16:=by kernel_rfl
theorem Jd:Tryz.prog.cellsOf 24=2:=by kernel_rfl
theorem Je:Tryz.prog.cellsOf 22=1:=by kernel_rfl
section
variable {H:Type} {enc:TypeId×Value→H} {W:World} {base:Nat} {sp:Nat→Bool} {held:Bool}
def vK (cs:List Value):Prop:=∃a b:Int,cs=[.int .i64 a,.int .i64 b]∧Tk (a,b)
theorem EN {fuel:Nat} {cs:List Value} {x y:DataW H×List MemPlace} (hl:cs.length=2) (h0:DataW.trod enc Tryz.prog W base sp held fuel 3 ((cs.drop 0).take 1)=some x) (h1:DataW.trod enc Tryz.prog W base sp held fuel 3 ((cs.drop 1).take 1)=some y):vK cs:=by
 match cs,hl with
 |[u,v],_=>
  obtain⟨a,e0,_,w0⟩:=DataW.trod_int Tryz.underlying3 h0
  obtain⟨b,e1,_,w1⟩:=DataW.trod_int Tryz.underlying3 h1
  simp at e0 e1
  subst e0
  subst e1
  exact⟨a,b,rfl,bounds_i64 w0,bounds_i64 w1⟩
theorem Gr {e:TypeId} {f0 f1:Field} (he:Tryz.prog.underlying e=some (.struct #[f0,f1])) (ce:Tryz.prog.cellsOf e=2) (o0:f0.offset=0) (o1:f1.offset=1) (t0:f0.type=3) (t1:f1.type=3)
 {fuel:Nat} {cs:List Value} {x:DataW H×List MemPlace} (h:DataW.trod enc Tryz.prog W base sp held fuel e cs=some x):vK cs:=by
 obtain⟨xs,m,_,_,hl,hx,hf⟩:=ac5 he h
 rw[ce] at hl
 match xs,hx with
 |[y0,y1],_=>
  have g0:=hf 0 f0 rfl
  have g1:=hf 1 f1 rfl
  simp only[o0,o1,t0,t1,BU] at g0 g1
  exact EN hl g0 g1
theorem Ns {fuel:Nat} {cs:List Value} {x:DataW H×List MemPlace} (h:DataW.trod enc Tryz.prog W base sp held fuel 33 cs=some x):vK cs:=Gr Tryz.underlying33 BV rfl rfl rfl rfl h
theorem N1 {e:TypeId} {f0 f1:Field} (he:Tryz.prog.underlying e=some (.struct #[f0,f1])) (o0:f0.offset=0) (o1:f1.offset=1) (t0:f0.type=3) (t1:f1.type=22) (c1:Tryz.prog.cellsOf 22=1)
 {fuel:Nat} {u v:Value} {x:DataW H×List MemPlace} (h:DataW.trod enc Tryz.prog W base sp held fuel e [u,v]=some x):
 ∃(m:Nat) (y0 y1:DataW H×List MemPlace),DataW.trod enc Tryz.prog W base sp held m 3 [u]=some y0∧DataW.trod enc Tryz.prog W base sp held m 22 [v]=some y1∧x.1= .agg [y0.1,y1.1]:=by
 obtain⟨xs,m,_,KG,hl,hx,hf⟩:=ac5 he h
 match xs,hx with
 |[y0,y1],_=>
  have g0:=hf 0 f0 rfl
  have g1:=hf 1 f1 rfl
  simp only[o0,o1,t0,t1,BU,c1] at g0 g1
  exact⟨m,y0,y1,by simpa using g0,by simpa using g1,by rw[KG];rfl⟩
structure Ce (w:World) (ao:Option Addr) (len cap:Nat) (qs:List (Int×Int)):Prop where
 hlen:qs.length=len
 hat:aQ w ao qs
 hnil:ao=none→qs=[]∧cap=0
 hwf:∀(j:Nat) (p:Int×Int),qs[j]? =some p→Tk p
 hfit:len≤cap
theorem NT {t e:TypeId} {fuel:Nat} {a:Option Addr} {len cap:Nat} {x:DataW H×List MemPlace} (ht:Tryz.prog.underlying t=some (.slice e)) (ce:Tryz.prog.cellsOf e=2)
 (hel:∀(n:Nat) (cs:List Value) (y:DataW H×List MemPlace),DataW.trod enc Tryz.prog W base (fun _=>true) held n e cs=some y→vK cs) (h:DataW.trod enc Tryz.prog W base (fun _=>true) held fuel t [.slice a len cap]=some x):
 ∃qs,Ce W a len cap qs∧((x.1= .nil∧qs=[])∨∃es rest,x.1= .slice es rest∧len≤es.length):=by
 rcases Deep.open_slice ht h with ⟨hcs,hx⟩|⟨ad,l,c,m,n,D,Pl,hcs,_,hl,hm,hmm,rfl,hcell⟩
 ·simp at hcs
  obtain⟨rfl,rfl,rfl⟩:=hcs
  subst hx
  exact⟨[],⟨rfl,aQ.nil _ _,fun _=>⟨rfl,rfl⟩,fun j p hj=>by simp at hj,aad _⟩,.inl ⟨rfl,rfl⟩⟩
 ·simp at hcs
  obtain⟨rfl,rfl,rfl⟩:=hcs
  have hmc:m=cap:=by simpa using hmm
  have each:∀i,i<m→∃q:Int×Int,W.cell? (ad.add (i*2))=some (.int .i64 q.1)∧W.cell? (ad.add (i*2+1))=some (.int .i64 q.2)∧Tk q:=fun i hi=>by
   obtain⟨cs',h1,h2⟩:=hcell i hi
   rw[ce] at h1
   obtain⟨_,hlen,hc⟩:=World.cells?_some h1
   obtain⟨u,v,rfl,hw⟩:=hel n cs' _ h2
   have e0:=hc 0 (by omega)
   have e1:=hc 1 (by omega)
   rw[Deep.add_add] at e0 e1
   exact⟨(u,v),by simpa using e0,by simpa using e1,hw⟩
  obtain⟨q,hq⟩:=Deep.choose_lt each
  refine⟨(List.range len).map q,⟨by simp,fun j p hj=> ?_,fun h=>(by cases h),fun j p hj=> ?_,hl⟩,.inr ⟨_,_,rfl,by simp⟩⟩
  ·have hi:j<len:=by
    have:=(aas.1 hj).1
    simpa using this
   simp[hi] at hj
   subst hj
   obtain⟨c0,c1,_⟩:=hq j (by omega)
   obtain⟨b,o,s⟩:=ad
   have hsp:s=none:=by
    obtain⟨c00,_⟩:=hq 0 (by omega)
    simpa[Addr.add] using adH c00
   subst hsp
   have ea:∀k,((⟨b,o,none⟩:Addr).add k)=⟨b,o+k,none⟩:=fun k=>by
    by_cases h0:k=0<;>simp[Addr.add,h0]
   rw[ea] at c0 c1
   exact⟨b,o,rfl,c0,by rw[←Nat.add_assoc] at c1;exact c1⟩
  ·have hi:j<len:=by
    have:=(aas.1 hj).1
    simpa using this
   simp[hi] at hj
   subst hj
   exact(hq j (by omega)).2.2
end
end
section
open Go.ChangeShapes Go.WideShapes Go.ChangeAt Go.RowKit
theorem FP:Tryz.prog.cellsOf 36=4:=by kernel_rfl
theorem Lz:Tryz.prog.cellsOf 27=1:=by kernel_rfl
def Tj (l:List Int):Prop:=∀x∈l,-9223372036854775808≤x∧x≤9223372036854775807
section
variable {H:Type} {enc:TypeId×Value→H} {W:World}
theorem uY {fuel:Nat} {v:Value} {y:DataW H×List MemPlace} (h:DataW.trod enc Tryz.prog W 0 (fun _=>true) true fuel 27 [v]=some y):
 ∃(a:Option Addr) (cap:Nat) (l:List Int),v= .slice a l.length cap∧gI W a l.length cap l∧Tj l∧((y.1= .nil∧l=[])∨∃es rest,y.1= .slice es rest∧l.length≤es.length)∧l.length≤cap:=by
 rcases open_ints Tryz.underlying27 Tryz.underlying3 Ep h with ⟨hcs,hy⟩|⟨x,l,c,zs,hcs,_,hl,hm,hz,hx,hcell,Qx⟩
 ·simp at hcs
  subst hcs
  exact⟨none,0,[],rfl,⟨rfl,cK.nil _ _,fun _=>⟨rfl,rfl⟩⟩,fun x hx=>by simp at hx,.inl ⟨by rw[hy],rfl⟩,aad _⟩
 ·simp at hcs
  subst hcs
  have hz':zs.length=c:=by simpa using hz
  have hlen:(zs.take l).length=l:=by simp;omega
  have hr:rJ .i64 0 W (some x) l c zs:= .inr ⟨x,rfl,hl,by omega,hz',hcell,Qx⟩
  refine⟨some x,c,zs.take l,by rw[hlen],?_,fun q hq=> ?_,.inr ?_,by rw[hlen];exact hl⟩
  ·rw[hlen]
   refine⟨hlen,fun j z hj=> ?_,fun e=>by cases e⟩
   rw[adt] at hj
   by_cases hjl:j<l
   ·rw[if_pos hjl] at hj
    have hlt:j<zs.length:=by omega
    have K4:=hcell j hlt
    rw[aai,hj] at K4
    obtain⟨b,o,sp⟩:=x
    have hsp:sp=none:=by simpa[Addr.add] using adH (hcell 0 (by omega))
    subst hsp
    refine⟨b,o,rfl,?_⟩
    have e:((⟨b,o,none⟩:Addr).add j)=⟨b,o+j,none⟩:=by
     by_cases h0:j=0<;>simp[Addr.add,h0]
    rw[e] at K4
    exact K4
   ·rw[if_neg hjl] at hj
    cases hj
  ·exact wf_i64 (Qx q (ab9 hq))
  ·refine⟨_,_,by rw[hx],?_⟩
   simp[lits]
theorem I2 {e:TypeId} {f0 f1 f2 f3:Field} (he:Tryz.prog.underlying e=some (.struct #[f0,f1,f2,f3])) (o0:f0.offset=0) (o1:f1.offset=1) (o2:f2.offset=2) (o3:f3.offset=3) (t0:f0.type=27) (t1:f1.type=27) (t2:f2.type=27) (t3:f3.type=27)
 {fuel:Nat} {u1 u2 u3 u4:Value} {x:DataW H×List MemPlace} (h:DataW.trod enc Tryz.prog W 0 (fun _=>true) true fuel e [u1,u2,u3,u4]=some x):
 ∃(m:Nat) (y1 y2 y3 y4:DataW H×List MemPlace),DataW.trod enc Tryz.prog W 0 (fun _=>true) true m 27 [u1]=some y1∧DataW.trod enc Tryz.prog W 0 (fun _=>true) true m 27 [u2]=some y2∧DataW.trod enc Tryz.prog W 0 (fun _=>true) true m 27 [u3]=some y3∧DataW.trod enc Tryz.prog W 0 (fun _=>true) true m 27 [u4]=some y4∧x.1= .agg [y1.1,y2.1,y3.1,y4.1]:=by
 obtain⟨xs,m,_,KG,hl,hx,hf⟩:=ac5 he h
 match xs,hx with
 |[y1,y2,y3,y4],_=>
  have g0:=hf 0 f0 rfl
  have g1:=hf 1 f1 rfl
  have g2:=hf 2 f2 rfl
  have g3:=hf 3 f3 rfl
  simp only[o0,o1,o2,o3,t0,t1,t2,t3,Lz] at g0 g1 g2 g3
  exact⟨m,y1,y2,y3,y4,by simpa using g0,by simpa using g1,by simpa using g2,by simpa using g3,by rw[KG];rfl⟩
end
end
section
open Go.ChangeShapes Go.WideShapes Go.ChangeAt Go.RowKit
theorem LA:Tryz.prog.cellsOf 39=7:=by kernel_rfl
theorem Lx:Tryz.prog.cellsOf 37=1:=by kernel_rfl
section
variable {H:Type} {enc:TypeId×Value→H} {W:World}
theorem Oc {fuel:Nat} {v:Value} {y:DataW H×List MemPlace} (h:DataW.trod enc Tryz.prog W 0 (fun _=>true) true fuel 37 [v]=some y):
 ∃(a:Option Addr) (cap:Nat) (l:List Int),v= .slice a l.length cap∧gI W a l.length cap l∧Tj l∧((y.1= .nil∧l=[])∨∃es rest,y.1= .slice es rest∧l.length≤es.length)∧l.length≤cap:=by
 rcases open_ints Tryz.underlying37 Tryz.underlying3 Ep h with ⟨hcs,hy⟩|⟨x,l,c,zs,hcs,_,hl,hm,hz,hx,hcell,Qx⟩
 ·simp at hcs
  subst hcs
  exact⟨none,0,[],rfl,⟨rfl,cK.nil _ _,fun _=>⟨rfl,rfl⟩⟩,fun x hx=>by simp at hx,.inl ⟨by rw[hy],rfl⟩,aad _⟩
 ·simp at hcs
  subst hcs
  have hz':zs.length=c:=by simpa using hz
  have hlen:(zs.take l).length=l:=by simp;omega
  have hr:rJ .i64 0 W (some x) l c zs:= .inr ⟨x,rfl,hl,by omega,hz',hcell,Qx⟩
  refine⟨some x,c,zs.take l,by rw[hlen],?_,fun q hq=> ?_,.inr ?_,by rw[hlen];exact hl⟩
  ·rw[hlen]
   refine⟨hlen,fun j z hj=> ?_,fun e=>by cases e⟩
   rw[adt] at hj
   by_cases hjl:j<l
   ·rw[if_pos hjl] at hj
    have hlt:j<zs.length:=by omega
    have K4:=hcell j hlt
    rw[aai,hj] at K4
    obtain⟨b,o,sp⟩:=x
    have hsp:sp=none:=by simpa[Addr.add] using adH (hcell 0 (by omega))
    subst hsp
    refine⟨b,o,rfl,?_⟩
    have e:((⟨b,o,none⟩:Addr).add j)=⟨b,o+j,none⟩:=by
     by_cases h0:j=0<;>simp[Addr.add,h0]
    rw[e] at K4
    exact K4
   ·rw[if_neg hjl] at hj
    cases hj
  ·exact wf_i64 (Qx q (ab9 hq))
  ·refine⟨_,_,by rw[hx],?_⟩
   simp[lits]
theorem CM {e:TypeId} {f0 f1 f2:Field} (he:Tryz.prog.underlying e=some (.struct #[f0,f1,f2])) (o0:f0.offset=0) (o1:f1.offset=2) (o2:f2.offset=6) (t0:f0.type=24) (t1:f1.type=36) (t2:f2.type=37)
 {fuel:Nat} {u0 u1 u2 u3 u4 u5 u6:Value} {x:DataW H×List MemPlace} (h:DataW.trod enc Tryz.prog W 0 (fun _=>true) true fuel e [u0,u1,u2,u3,u4,u5,u6]=some x):
 ∃(m:Nat) (y1 y2 y3:DataW H×List MemPlace),DataW.trod enc Tryz.prog W 0 (fun _=>true) true m 24 [u0,u1]=some y1∧DataW.trod enc Tryz.prog W 0 (fun _=>true) true m 36 [u2,u3,u4,u5]=some y2∧DataW.trod enc Tryz.prog W 0 (fun _=>true) true m 37 [u6]=some y3∧x.1= .agg [y1.1,y2.1,y3.1]:=by
 obtain⟨xs,m,_,KG,hl,hx,hf⟩:=ac5 he h
 match xs,hx with
 |[y1,y2,y3],_=>
  have g0:=hf 0 f0 rfl
  have g1:=hf 1 f1 rfl
  have g2:=hf 2 f2 rfl
  simp only[o0,o1,o2,t0,t1,t2,Jd,FP,Lx] at g0 g1 g2
  exact⟨m,y1,y2,y3,by simpa using g0,by simpa using g1,by simpa using g2,by rw[KG];rfl⟩
set_option maxRecDepth 100000 in
theorem Dn {base:Nat} {v:Value} {d:DataW H} {p:List MemPlace} {ts:List TypeId} {ds:List (DataW H)} {j:Nat} (hval:Value.okWide Tryz.prog W .any base 39 v)
 (h:DataW.Trod enc Tryz.prog W 0 (fun _=>true) true 39 v d p) (hsz:(DataW.weightsEach Tryz.prog ts ds).all (·≤reachBytes)=true) (hts:ts[j]? =some 39) (hds:ds[j]? =some d):
 ∃(n:Int) (a:Option Addr) (cap:Nat) (qs:List (Int×Int)) (f:For) (s:Df.St) (pa:Option Addr) (pc:Nat) (ps:List Int),v= .agg #[.int .i64 n,.slice a qs.length cap,.slice f.a1 s.par.length f.c1,.slice f.a2 s.az.length f.c2,.slice f.a3 s.ord.length f.c3,.slice f.a4 s.aJ.length f.c4,.slice pa ps.length pc]∧Ce W a qs.length cap qs∧qs.length*16≤140737488351232∧dI W f s∧gI W pa ps.length pc ps∧ps.length≤17592186043904:=by
 obtain⟨cs,rfl,hcs⟩:=okWide_struct Tryz.underlying39 hval
 rw[LA] at hcs
 obtain⟨fuel,hf⟩:=h
 obtain⟨cl⟩:=cs
 match cl,hcs with
 |[u0,u1,u2,u3,u4,u5,u6],_=>
  obtain⟨m,e1,e2,e3,b1,b2,b3,hdd⟩:=CM Tryz.underlying39 rfl rfl rfl rfl rfl rfl hf
  dsimp only at hdd
  obtain⟨m0,y0,y1,g0,g1,KG⟩:=N1 Tryz.underlying24 rfl rfl rfl rfl Je b1
  obtain⟨n,q0,hy0,w0⟩:=DataW.trod_int Tryz.underlying3 g0
  simp at q0
  subst q0
  obtain⟨pa,pc,ps,rfl,rp,_,wp,_⟩:=Oc b3
  have Vc:∃a len cap,u1= .slice a len cap:=by
   rcases Deep.open_slice Tryz.underlying22 g1 with ⟨hc,_⟩|⟨ad,l,c,_,_,_,_,hc,_⟩
   ·simp at hc;exact⟨_,_,_,hc⟩
   ·simp at hc;exact⟨_,_,_,hc⟩
  obtain⟨a,len,cap,rfl⟩:=Vc
  obtain⟨qs,hq,hd⟩:=NT Tryz.underlying22 BV (fun n cs y hy=>Ns hy) g1
  have Ol:=hq.hlen
  subst Ol
  obtain⟨m',z1,z2,z3,z4,k1,k2,k3,k4,hde⟩:=I2 Tryz.underlying36 rfl rfl rfl rfl rfl rfl rfl rfl b2
  obtain⟨a1,c1,l1,rfl,r1,i1,w1,_⟩:=uY k1
  obtain⟨a2,c2,l2,rfl,r2,i2,w2,_⟩:=uY k2
  obtain⟨a3,c3,l3,rfl,r3,i3,w3,_⟩:=uY k3
  obtain⟨a4,c4,l4,rfl,r4,i4,w4,_⟩:=uY k4
  rw[hde,KG] at hdd
  have lim:∀(y:DataW H×List MemPlace) (l:List Int),y∈[z1,z2,z3,z4]→((y.1= .nil∧l=[])∨∃es rest,y.1= .slice es rest∧l.length≤es.length)→l.length≤17592186043904:=fun y l hy hw=>by
   rcases hw with ⟨_,rfl⟩|⟨es,rest,e,hle⟩
   ·simp
   ·have hw:=aaJ.1 hsz _ (ac6 hts hds ((es.length+rest.length)*Tryz.prog.bytesOf 3) (by
     rw[hdd]
     simp only[aaj,List.not_mem_nil,or_false] at hy
     rcases hy with rfl|rfl|rfl|rfl<;>simp[DataW.weightsEach,DataW.weights,Tryz.underlying39,Tryz.underlying36,Tryz.underlying27,e]))
    rw[Er] at hw
    have hw2:(es.length+rest.length)*8≤reachBytes:=of_decide_eq_true hw
    simp only[reachBytes] at hw2
    omega
  have adv:ps.length≤17592186043904:=by
   rcases wp with ⟨_,rfl⟩|⟨es,rest,e,hle⟩
   ·simp
   ·have hw:=aaJ.1 hsz _ (ac6 hts hds ((es.length+rest.length)*Tryz.prog.bytesOf 3) (by
     rw[hdd]
     simp[DataW.weightsEach,DataW.weights,Tryz.underlying39,Tryz.underlying37,e]))
    rw[Er] at hw
    have hw2:(es.length+rest.length)*8≤reachBytes:=of_decide_eq_true hw
    simp only[reachBytes] at hw2
    omega
  refine⟨n,a,cap,qs,⟨a1,a2,a3,a4,c1,c2,c3,c4⟩,⟨l1,l2,l3,l4⟩,pa,pc,ps,rfl,hq,?_,⟨r1,r2,r3,r4,lim z1 l1 (by simp) w1,lim z2 l2 (by simp) w2,lim z3 l3 (by simp) w3,lim z4 l4 (by simp) w4⟩,rp,adv⟩
  rcases hd with ⟨_,rfl⟩|⟨es,rest,hd,hle⟩
  ·simp
  ·have hw:=aaJ.1 hsz _ (ac6 hts hds ((es.length+rest.length)*Tryz.prog.bytesOf 33) (by
    rw[hdd]
    simp[DataW.weights,DataW.weightsEach,Tryz.underlying39,Tryz.underlying24,Tryz.underlying22,hd]))
   rw[LC] at hw
   have hw2:(es.length+rest.length)*16≤reachBytes:=of_decide_eq_true hw
   simp only[reachBytes] at hw2
   omega
end
end
end Go.Proofs.YtdjmnpmdmjclhabGreat
