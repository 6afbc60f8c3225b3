import Derived.Test.YtdjmnpmdmjclhabGreatMg29
import Derived.Test.YtdjmnpmdmjclhabGreatMg28
import Derived.Test.YtdjmnpmdmjclhabGreatMg03
import Derived.Test.YtdjmnpmdmjclhabGreatMg14
import Derived.Test.YtdjmnpmdmjclhabGreatMg01
import Derived.Test.YtdjmnpmdmjclhabGreatMg26
import Derived.Test.YtdjmnpmdmjclhabGreatMg06
namespace Go.Proofs.YtdjmnpmdmjclhabGreat
section
open Go.RowKit
def vL (n:Int) (es:List (Int×Int)) (f:For) (s:Df.St) (w:World) (r:Option Addr) (w':World):Prop:=
 ∃(m p gp gb:Nat) (av:Value) (P E:List Int) (w0:World),n=(m:Int)∧Si.Val m es∧Df.VF m es s∧r=some ⟨p,0,none⟩∧cE w0 av m es∧Full w0 w' p gp gb av f s m P E∧(∀u v,u<m→v<m→((Df.at_ P u≤Df.at_ P v∧Df.at_ P v<Df.at_ E u)↔Df.bQ es s u v))∧Below w.heap.size w w'
def LK (n:Int) (es:List (Int×Int)) (f:For) (s:Df.St) (w:World) (e:Ending) (w':World):Prop:=
 (∃r,e= .returned (.tuple #[.pointer r,.bool true])∧vL n es f s w r w')∨(∃r,e= .returned (.tuple #[.pointer r,.bool false])∧¬oN n es s∧Below w.heap.size w w')
set_option maxRecDepth 100000 in
set_option maxHeartbeats 16000000 in
theorem NR (n:Int) (ao:Option Addr) (cap:Nat) (es:List (Int×Int)) (f:For) (s:Df.St) (w:World) (he:aQ w ao es) (hl:es.length≤4611686018427387904) (hF:dI w f s):
 Calls Tryz.prog 128 #[bX n ao es.length cap,f.val s] w (LK n es f s w):=by
 obtain⟨a1,a2,a3,a4,c1,c2,c3,c4⟩:=f
 obtain⟨W,hW⟩:∃W,W=(w.alloc (.cells #[.int .i64 n,.slice ao es.length cap] 24)).alloc (.cells #[.slice a1 s.par.length c1,.slice a2 s.az.length c2,.slice a3 s.ord.length c3,.slice a4 s.aJ.length c4] 36):=⟨_,rfl⟩
 have hB0:Below w.heap.size w W:=by rw[hW];exact((aae _ _).alloc (aad _) _).alloc (by simp) _
 have hsz:W.heap.size=w.heap.size+2:=by rw[hW];simp
 have g1:W.heap[w.heap.size]? =some (.cells #[.int .i64 n,.slice ao es.length cap] 24 (0,0)):=by
  rw[hW,aap _ _ _ (by simp)]
  exact heap_alloc_new w _
 have g2:W.heap[w.heap.size+1]? =some (.cells #[.slice a1 s.par.length c1,.slice a2 s.az.length c2,.slice a3 s.ord.length c3,.slice a4 s.aJ.length c4] 36 (0,0)):=by
  rw[hW]
  exact alloc_at (by simp)
 have hnew:=xF n ao cap es W (he.later hB0) hl
 unfold bX at hnew ⊢
 unfold For.val
 dsimp only
 have HF:=Nu.hid (hF.later hB0)
 have cZ:=Nu.hid hB0
 have iN:=Nu.hid g2
 obtain⟨x0,x1,-⟩:=ay g1
 have lg:=Nu.hid hW
 rw[hW] at x0 x1
 cases hv:Si.valid n es with
 |false=>
  have nM:Hid (Calls Tryz.prog 32 #[.agg #[.int .i64 n,.slice ao es.length cap]] W fun e w'=>e= .returned (.tuple #[.pointer none,.int .i64 1])∧Below W.heap.size W w'):=hnew.mono (by
   rintro e w' ⟨⟨m,q,rfl,hval,_⟩|⟨_,h⟩,hb⟩
   ·rw[Si.bL.2 hval] at hv;cases hv
   ·exact⟨h,hb⟩)
  have jt:Hid (¬oN n es s):=by
   rintro⟨m,rfl,hval,_⟩
   rw[Si.bL.2 hval] at hv;cases hv
  clear hnew hB0 g1 g2 he hW hv hF
  go_enter Tryz.func128,Tryz.ntmps128
  go_wp2_with (go_at_call 32;rw[←lg.out];refine nM.out.mono ?_;rintro e w1 ⟨rfl,hb1⟩;have aY:=Nu.hid hb1;clear hb1)
  go_ret2
  exact .inr ⟨none,rfl,jt.out,cZ.out.trans (aY.out.mono cZ.out.size)⟩
 |true=>
  obtain⟨m,rfl⟩:∃m:Nat,n=(m:Int):=⟨n.toNat,by have:=(Si.bL.1 hv).lo;omega⟩
  have hval:=Si.bL.1 hv
  have nM:Hid (Calls Tryz.prog 32 #[.agg #[.int .i64 (m:Int),.slice ao es.length cap]] W fun e w'=>∃q,e= .returned (.tuple #[.pointer (some ⟨q,0,none⟩),.int .i64 0])∧lQ w' W.heap.size q m es∧Below W.heap.size W w'):=hnew.mono (by
   rintro e w' ⟨⟨m',q,hm,_,h,ha⟩|⟨h,_⟩,hb⟩
   ·obtain rfl:m=m':=by omega
    exact⟨q,h,ha,hb⟩
   ·rw[hv] at h;cases h)
  have m9:=Nu.hid hval
  have jt:Hid (¬Df.VF m es s→¬oN (m:Int) es s):=by
   rintro h ⟨m',hm,_,gP⟩
   obtain rfl:m=m':=by omega
   exact h gP
  clear hnew hB0 g1 g2 he hW hv hval hF
  go_enter Tryz.func128,Tryz.ntmps128
  go_wp2_with (go_at_call 32;rw[←lg.out];refine nM.out.mono ?_;rintro e w1 ⟨q,rfl,aW,hb1⟩;refine aaB ?_)
  refine Nu.hid ?_
  have hk2:=(hb1.block _ (by omega)).trans iN.out
  have aY:=Nu.hid (cZ.out.trans (hb1.mono cZ.out.size))
  have hs1:=hb1.size
  have kC:cE w1 (.pointer (some ⟨q,0,none⟩)) m es:= .inr ⟨_,q,rfl,m9.out,aW⟩
  have cT:=Nu.hid kC
  have rO:=Nu.hid (HF.out.later hb1)
  obtain⟨k0,k1,k2,k3,kf⟩:=au hk2
  obtain⟨V,hV⟩:∃V,V=w1.alloc (.cells (Mo (.pointer (some ⟨q,0,none⟩)) ⟨a1,a2,a3,a4,c1,c2,c3,c4⟩ s (.slice none 0 0) (.slice none 0 0)) 199):=⟨_,rfl⟩
  have hR:aN w1 V w1.heap.size (.pointer (some ⟨q,0,none⟩)) ⟨a1,a2,a3,a4,c1,c2,c3,c4⟩ s (.slice none 0 0) (.slice none 0 0):=by
   refine⟨?_,?_,aad _⟩
   ·rw[hV];exact(aae _ _).alloc (aad _) _
   ·rw[hV];exact heap_alloc_new w1 _
  have HR:=Nu.hid hR
  have HV:=Nu.hid hV
  have zG:Hid (∀V',Below w1.heap.size w1 V'→Below w.heap.size w V'):=fun V' h=>aY.out.trans (h.mono aY.out.size)
  clear x0 x1 hb1 aW kC hk2 hR hV
  by_cases hL:Df.tu m es s
  ·by_cases hO:Df.iy m s m
   ·by_cases hH:Df.Ch m es s
    ·by_cases hS:∃r,Df.side m es s m=some r
     ·by_cases hE:∀e,e<es.length→Df.rQ es s e
      ·have HLEN:Hid (Calls Tryz.prog 150 #[.pointer (some ⟨w1.heap.size,0,none⟩)] V fun e w'=>e= .returned (.bool true)∧Below V.heap.size V w'):=(iC cT.out HR.out).mono (by rintro e w' ⟨b,rfl,hb,hbl⟩;rw[hb.2 hL];exact⟨rfl,hbl⟩)
       have vV:Hid (∀V',aN w1 V' w1.heap.size (.pointer (some ⟨q,0,none⟩)) ⟨a1,a2,a3,a4,c1,c2,c3,c4⟩ s (.slice none 0 0) (.slice none 0 0)→Calls Tryz.prog 151 #[.pointer (some ⟨w1.heap.size,0,none⟩)] V' fun e w'=>∃gp P,e= .returned (.bool true)∧aN w1 w' w1.heap.size (.pointer (some ⟨q,0,none⟩)) ⟨a1,a2,a3,a4,c1,c2,c3,c4⟩ s (.slice (some ⟨gp,0,none⟩) m m) (.slice none 0 0)∧aq w' gp P∧Df.jf m s P∧gp≠w1.heap.size∧w1.heap.size≤gp):=fun V' hr=>(iZ cT.out rO.out hL hr).mono (by rintro e w' (⟨gp,P,h1,h2,h3⟩|⟨_,h,_⟩);exact⟨gp,P,h1,h3⟩;exact absurd hO h)
       have Co:Hid (∀V' gp,aN w1 V' w1.heap.size (.pointer (some ⟨q,0,none⟩)) ⟨a1,a2,a3,a4,c1,c2,c3,c4⟩ s (.slice (some ⟨gp,0,none⟩) m m) (.slice none 0 0)→Calls Tryz.prog 152 #[.pointer (some ⟨w1.heap.size,0,none⟩)] V' fun e w'=>e= .returned (.bool true)∧Below V'.heap.size V' w'):=fun V' gp hr=>(gK cT.out rO.out hL hr).mono (by rintro e w' ⟨b,rfl,hb,hbl⟩;rw[hb.2 hH];exact⟨rfl,hbl⟩)
       have Jp:Hid (∀V' gp P,aN w1 V' w1.heap.size (.pointer (some ⟨q,0,none⟩)) ⟨a1,a2,a3,a4,c1,c2,c3,c4⟩ s (.slice (some ⟨gp,0,none⟩) m m) (.slice none 0 0)→aq V' gp P→Df.jf m s P→gp≠w1.heap.size→w1.heap.size≤gp→Calls Tryz.prog 153 #[.pointer (some ⟨w1.heap.size,0,none⟩)] V' fun e w'=>∃gb E,e= .returned (.bool true)∧Full w1 w' w1.heap.size gp gb (.pointer (some ⟨q,0,none⟩)) ⟨a1,a2,a3,a4,c1,c2,c3,c4⟩ s m P E∧(∀u v,u<m→v<m→((Df.at_ P u≤Df.at_ P v∧Df.at_ P v<Df.at_ E u)↔Df.bQ es s u v))):=fun V' gp P hr hi hp h1 h2=>(lD cT.out rO.out hL hO hr hi h1 h2).mono (by rintro e w' (⟨gb,Wy,B,g1,g2,g3,g4,g5⟩|⟨_,h,_⟩);exact⟨gb,_,g1,⟨g3,g4,g5,hp.1,by unfold Df.ends;rw[Df.pR];exact(Df.qE hO (aad _) g2).2.2⟩,fun u v hu hv=>Df.ur hO g2 hp hu hv⟩;obtain⟨r,hr⟩:=hS;rw[h] at hr;cases hr)
       have Un:Hid (∀V' gp gb P E,Full w1 V' w1.heap.size gp gb (.pointer (some ⟨q,0,none⟩)) ⟨a1,a2,a3,a4,c1,c2,c3,c4⟩ s m P E→(∀u v,u<m→v<m→((Df.at_ P u≤Df.at_ P v∧Df.at_ P v<Df.at_ E u)↔Df.bQ es s u v))→Calls Tryz.prog 154 #[.pointer (some ⟨w1.heap.size,0,none⟩)] V' fun e w'=>e= .returned (.bool true)∧Below V'.heap.size V' w'):=fun V' gp gb P E hf ha=>(qi cT.out rO.out hL hf ha).mono (by rintro e w' ⟨b,rfl,hb,hbl⟩;rw[hb.2 hE];exact⟨rfl,hbl⟩)
       have Jo:Hid (Df.VF m es s):=⟨hL,hO,hH,hS,hE⟩
       clear hL hO hH hS hE
       go_wp2_with (first|(go_at_call 150;rw[←HV.out];refine HLEN.out.mono ?_;rintro e w3 ⟨rfl,hb3⟩;have H3:=Nu.hid (HR.out.later hb3);clear hb3)|(go_at_call 151;refine(vV.out _ H3.out).mono ?_;rintro e w4 ⟨gp,P,rfl,r4,i4,p4,n4,g4⟩;have R4:=Nu.hid r4;have I4:=Nu.hid i4;have P4:=Nu.hid p4;have N4:=Nu.hid n4;have G4:=Nu.hid g4;clear r4 i4 p4 n4 g4)|(go_at_call 152;refine(Co.out _ _ R4.out).mono ?_;rintro e w5 ⟨rfl,hb5⟩;have R5:=Nu.hid (R4.out.later hb5);have I5:=Nu.hid (I4.out.later hb5);clear hb5)|(go_at_call 153;refine(Jp.out _ _ _ R5.out I5.out P4.out N4.out G4.out).mono ?_;rintro e w6 ⟨gb,E,rfl,f6,Ta⟩;have F6:=Nu.hid f6;have Xe:=Nu.hid Ta;clear f6 Ta)|(go_at_call 154;refine(Un.out _ _ _ _ _ F6.out Xe.out).mono ?_;rintro e w7 ⟨rfl,kY⟩;have F7:=Nu.hid (F6.out.later kY);clear kY))
       go_ret2
       exact .inl ⟨_,rfl,m,w1.heap.size,_,_,_,_,_,w1,rfl,m9.out,Jo.out,rfl,cT.out,F7.out,Xe.out,zG.out _ F7.out.rd.aI⟩
      ·have HLEN:Hid (Calls Tryz.prog 150 #[.pointer (some ⟨w1.heap.size,0,none⟩)] V fun e w'=>e= .returned (.bool true)∧Below V.heap.size V w'):=(iC cT.out HR.out).mono (by rintro e w' ⟨b,rfl,hb,hbl⟩;rw[hb.2 hL];exact⟨rfl,hbl⟩)
       have vV:Hid (∀V',aN w1 V' w1.heap.size (.pointer (some ⟨q,0,none⟩)) ⟨a1,a2,a3,a4,c1,c2,c3,c4⟩ s (.slice none 0 0) (.slice none 0 0)→Calls Tryz.prog 151 #[.pointer (some ⟨w1.heap.size,0,none⟩)] V' fun e w'=>∃gp P,e= .returned (.bool true)∧aN w1 w' w1.heap.size (.pointer (some ⟨q,0,none⟩)) ⟨a1,a2,a3,a4,c1,c2,c3,c4⟩ s (.slice (some ⟨gp,0,none⟩) m m) (.slice none 0 0)∧aq w' gp P∧Df.jf m s P∧gp≠w1.heap.size∧w1.heap.size≤gp):=fun V' hr=>(iZ cT.out rO.out hL hr).mono (by rintro e w' (⟨gp,P,h1,h2,h3⟩|⟨_,h,_⟩);exact⟨gp,P,h1,h3⟩;exact absurd hO h)
       have Co:Hid (∀V' gp,aN w1 V' w1.heap.size (.pointer (some ⟨q,0,none⟩)) ⟨a1,a2,a3,a4,c1,c2,c3,c4⟩ s (.slice (some ⟨gp,0,none⟩) m m) (.slice none 0 0)→Calls Tryz.prog 152 #[.pointer (some ⟨w1.heap.size,0,none⟩)] V' fun e w'=>e= .returned (.bool true)∧Below V'.heap.size V' w'):=fun V' gp hr=>(gK cT.out rO.out hL hr).mono (by rintro e w' ⟨b,rfl,hb,hbl⟩;rw[hb.2 hH];exact⟨rfl,hbl⟩)
       have Jp:Hid (∀V' gp P,aN w1 V' w1.heap.size (.pointer (some ⟨q,0,none⟩)) ⟨a1,a2,a3,a4,c1,c2,c3,c4⟩ s (.slice (some ⟨gp,0,none⟩) m m) (.slice none 0 0)→aq V' gp P→Df.jf m s P→gp≠w1.heap.size→w1.heap.size≤gp→Calls Tryz.prog 153 #[.pointer (some ⟨w1.heap.size,0,none⟩)] V' fun e w'=>∃gb E,e= .returned (.bool true)∧Full w1 w' w1.heap.size gp gb (.pointer (some ⟨q,0,none⟩)) ⟨a1,a2,a3,a4,c1,c2,c3,c4⟩ s m P E∧(∀u v,u<m→v<m→((Df.at_ P u≤Df.at_ P v∧Df.at_ P v<Df.at_ E u)↔Df.bQ es s u v))):=fun V' gp P hr hi hp h1 h2=>(lD cT.out rO.out hL hO hr hi h1 h2).mono (by rintro e w' (⟨gb,Wy,B,g1,g2,g3,g4,g5⟩|⟨_,h,_⟩);exact⟨gb,_,g1,⟨g3,g4,g5,hp.1,by unfold Df.ends;rw[Df.pR];exact(Df.qE hO (aad _) g2).2.2⟩,fun u v hu hv=>Df.ur hO g2 hp hu hv⟩;obtain⟨r,hr⟩:=hS;rw[h] at hr;cases hr)
       have Un:Hid (∀V' gp gb P E,Full w1 V' w1.heap.size gp gb (.pointer (some ⟨q,0,none⟩)) ⟨a1,a2,a3,a4,c1,c2,c3,c4⟩ s m P E→(∀u v,u<m→v<m→((Df.at_ P u≤Df.at_ P v∧Df.at_ P v<Df.at_ E u)↔Df.bQ es s u v))→Calls Tryz.prog 154 #[.pointer (some ⟨w1.heap.size,0,none⟩)] V' fun e w'=>e= .returned (.bool false)∧Below V'.heap.size V' w'):=fun V' gp gb P E hf ha=>(qi cT.out rO.out hL hf ha).mono (by rintro e w' ⟨b,rfl,hb,hbl⟩;have:b=false:=(by cases b;rfl;exact absurd (hb.1 rfl) hE);rw[this];exact⟨rfl,hbl⟩)
       have HN:=Nu.hid (jt.out (fun h=>hE h.rE))
       clear hL hO hH hS hE
       go_wp2_with (first|(go_at_call 150;rw[←HV.out];refine HLEN.out.mono ?_;rintro e w3 ⟨rfl,hb3⟩;have H3:=Nu.hid (HR.out.later hb3);clear hb3)|(go_at_call 151;refine(vV.out _ H3.out).mono ?_;rintro e w4 ⟨gp,P,rfl,r4,i4,p4,n4,g4⟩;have R4:=Nu.hid r4;have I4:=Nu.hid i4;have P4:=Nu.hid p4;have N4:=Nu.hid n4;have G4:=Nu.hid g4;clear r4 i4 p4 n4 g4)|(go_at_call 152;refine(Co.out _ _ R4.out).mono ?_;rintro e w5 ⟨rfl,hb5⟩;have R5:=Nu.hid (R4.out.later hb5);have I5:=Nu.hid (I4.out.later hb5);clear hb5)|(go_at_call 153;refine(Jp.out _ _ _ R5.out I5.out P4.out N4.out G4.out).mono ?_;rintro e w6 ⟨gb,E,rfl,f6,Ta⟩;have F6:=Nu.hid f6;have Xe:=Nu.hid Ta;clear f6 Ta)|(go_at_call 154;refine(Un.out _ _ _ _ _ F6.out Xe.out).mono ?_;rintro e w7 ⟨rfl,kY⟩;have F7:=Nu.hid (F6.out.later kY);clear kY))
       go_ret2
       exact .inr ⟨_,rfl,HN.out,zG.out _ F7.out.rd.aI⟩
     ·have HLEN:Hid (Calls Tryz.prog 150 #[.pointer (some ⟨w1.heap.size,0,none⟩)] V fun e w'=>e= .returned (.bool true)∧Below V.heap.size V w'):=(iC cT.out HR.out).mono (by rintro e w' ⟨b,rfl,hb,hbl⟩;rw[hb.2 hL];exact⟨rfl,hbl⟩)
      have vV:Hid (∀V',aN w1 V' w1.heap.size (.pointer (some ⟨q,0,none⟩)) ⟨a1,a2,a3,a4,c1,c2,c3,c4⟩ s (.slice none 0 0) (.slice none 0 0)→Calls Tryz.prog 151 #[.pointer (some ⟨w1.heap.size,0,none⟩)] V' fun e w'=>∃gp P,e= .returned (.bool true)∧aN w1 w' w1.heap.size (.pointer (some ⟨q,0,none⟩)) ⟨a1,a2,a3,a4,c1,c2,c3,c4⟩ s (.slice (some ⟨gp,0,none⟩) m m) (.slice none 0 0)∧aq w' gp P∧Df.jf m s P∧gp≠w1.heap.size∧w1.heap.size≤gp):=fun V' hr=>(iZ cT.out rO.out hL hr).mono (by rintro e w' (⟨gp,P,h1,h2,h3⟩|⟨_,h,_⟩);exact⟨gp,P,h1,h3⟩;exact absurd hO h)
      have Co:Hid (∀V' gp,aN w1 V' w1.heap.size (.pointer (some ⟨q,0,none⟩)) ⟨a1,a2,a3,a4,c1,c2,c3,c4⟩ s (.slice (some ⟨gp,0,none⟩) m m) (.slice none 0 0)→Calls Tryz.prog 152 #[.pointer (some ⟨w1.heap.size,0,none⟩)] V' fun e w'=>e= .returned (.bool true)∧Below V'.heap.size V' w'):=fun V' gp hr=>(gK cT.out rO.out hL hr).mono (by rintro e w' ⟨b,rfl,hb,hbl⟩;rw[hb.2 hH];exact⟨rfl,hbl⟩)
      have Jp:Hid (∀V' gp P,aN w1 V' w1.heap.size (.pointer (some ⟨q,0,none⟩)) ⟨a1,a2,a3,a4,c1,c2,c3,c4⟩ s (.slice (some ⟨gp,0,none⟩) m m) (.slice none 0 0)→aq V' gp P→Df.jf m s P→gp≠w1.heap.size→w1.heap.size≤gp→Calls Tryz.prog 153 #[.pointer (some ⟨w1.heap.size,0,none⟩)] V' fun e w'=>e= .returned (.bool false)∧Below w1.heap.size w1 w'):=fun V' gp P hr hi hp h1 h2=>(lD cT.out rO.out hL hO hr hi h1 h2).mono (by rintro e w' (⟨gb,Wy,B,g1,g2,g3,g4,g5⟩|⟨h1,_,h3⟩);exact absurd ⟨_,g2⟩ hS;exact⟨h1,h3⟩)
      have HN:=Nu.hid (jt.out (fun h=>hS h.side))
      clear hL hO hH hS
      go_wp2_with (first|(go_at_call 150;rw[←HV.out];refine HLEN.out.mono ?_;rintro e w3 ⟨rfl,hb3⟩;have H3:=Nu.hid (HR.out.later hb3);clear hb3)|(go_at_call 151;refine(vV.out _ H3.out).mono ?_;rintro e w4 ⟨gp,P,rfl,r4,i4,p4,n4,g4⟩;have R4:=Nu.hid r4;have I4:=Nu.hid i4;have P4:=Nu.hid p4;have N4:=Nu.hid n4;have G4:=Nu.hid g4;clear r4 i4 p4 n4 g4)|(go_at_call 152;refine(Co.out _ _ R4.out).mono ?_;rintro e w5 ⟨rfl,hb5⟩;have R5:=Nu.hid (R4.out.later hb5);have I5:=Nu.hid (I4.out.later hb5);clear hb5)|(go_at_call 153;refine(Jp.out _ _ _ R5.out I5.out P4.out N4.out G4.out).mono ?_;rintro e w6 ⟨rfl,cq⟩;have nj:=Nu.hid cq;clear cq))
      go_ret2
      exact .inr ⟨_,rfl,HN.out,zG.out _ nj.out⟩
    ·have HLEN:Hid (Calls Tryz.prog 150 #[.pointer (some ⟨w1.heap.size,0,none⟩)] V fun e w'=>e= .returned (.bool true)∧Below V.heap.size V w'):=(iC cT.out HR.out).mono (by rintro e w' ⟨b,rfl,hb,hbl⟩;rw[hb.2 hL];exact⟨rfl,hbl⟩)
     have vV:Hid (∀V',aN w1 V' w1.heap.size (.pointer (some ⟨q,0,none⟩)) ⟨a1,a2,a3,a4,c1,c2,c3,c4⟩ s (.slice none 0 0) (.slice none 0 0)→Calls Tryz.prog 151 #[.pointer (some ⟨w1.heap.size,0,none⟩)] V' fun e w'=>∃gp P,e= .returned (.bool true)∧aN w1 w' w1.heap.size (.pointer (some ⟨q,0,none⟩)) ⟨a1,a2,a3,a4,c1,c2,c3,c4⟩ s (.slice (some ⟨gp,0,none⟩) m m) (.slice none 0 0)∧aq w' gp P∧Df.jf m s P∧gp≠w1.heap.size∧w1.heap.size≤gp):=fun V' hr=>(iZ cT.out rO.out hL hr).mono (by rintro e w' (⟨gp,P,h1,h2,h3⟩|⟨_,h,_⟩);exact⟨gp,P,h1,h3⟩;exact absurd hO h)
     have Co:Hid (∀V' gp,aN w1 V' w1.heap.size (.pointer (some ⟨q,0,none⟩)) ⟨a1,a2,a3,a4,c1,c2,c3,c4⟩ s (.slice (some ⟨gp,0,none⟩) m m) (.slice none 0 0)→Calls Tryz.prog 152 #[.pointer (some ⟨w1.heap.size,0,none⟩)] V' fun e w'=>e= .returned (.bool false)∧Below V'.heap.size V' w'):=fun V' gp hr=>(gK cT.out rO.out hL hr).mono (by rintro e w' ⟨b,rfl,hb,hbl⟩;have:b=false:=(by cases b;rfl;exact absurd (hb.1 rfl) hH);rw[this];exact⟨rfl,hbl⟩)
     have HN:=Nu.hid (jt.out (fun h=>hH h.hang))
     clear hL hO hH
     go_wp2_with (first|(go_at_call 150;rw[←HV.out];refine HLEN.out.mono ?_;rintro e w3 ⟨rfl,hb3⟩;have H3:=Nu.hid (HR.out.later hb3);clear hb3)|(go_at_call 151;refine(vV.out _ H3.out).mono ?_;rintro e w4 ⟨gp,P,rfl,r4,i4,p4,n4,g4⟩;have R4:=Nu.hid r4;have I4:=Nu.hid i4;have P4:=Nu.hid p4;have N4:=Nu.hid n4;have G4:=Nu.hid g4;clear r4 i4 p4 n4 g4)|(go_at_call 152;refine(Co.out _ _ R4.out).mono ?_;rintro e w5 ⟨rfl,hb5⟩;have R5:=Nu.hid (R4.out.later hb5);have I5:=Nu.hid (I4.out.later hb5);clear hb5))
     go_ret2
     exact .inr ⟨_,rfl,HN.out,zG.out _ R5.out.aI⟩
   ·have HLEN:Hid (Calls Tryz.prog 150 #[.pointer (some ⟨w1.heap.size,0,none⟩)] V fun e w'=>e= .returned (.bool true)∧Below V.heap.size V w'):=(iC cT.out HR.out).mono (by rintro e w' ⟨b,rfl,hb,hbl⟩;rw[hb.2 hL];exact⟨rfl,hbl⟩)
    have vV:Hid (∀V',aN w1 V' w1.heap.size (.pointer (some ⟨q,0,none⟩)) ⟨a1,a2,a3,a4,c1,c2,c3,c4⟩ s (.slice none 0 0) (.slice none 0 0)→Calls Tryz.prog 151 #[.pointer (some ⟨w1.heap.size,0,none⟩)] V' fun e w'=>e= .returned (.bool false)∧Below w1.heap.size w1 w'):=fun V' hr=>(iZ cT.out rO.out hL hr).mono (by rintro e w' (⟨gp,P,h1,h2,h3⟩|⟨h1,_,h3⟩);exact absurd h2 hO;exact⟨h1,h3⟩)
    have HN:=Nu.hid (jt.out (fun h=>hO h.once))
    clear hL hO
    go_wp2_with (first|(go_at_call 150;rw[←HV.out];refine HLEN.out.mono ?_;rintro e w3 ⟨rfl,hb3⟩;have H3:=Nu.hid (HR.out.later hb3);clear hb3)|(go_at_call 151;refine(vV.out _ H3.out).mono ?_;rintro e w4 ⟨rfl,hb4⟩;have gJ:=Nu.hid hb4;clear hb4))
    go_ret2
    exact .inr ⟨_,rfl,HN.out,zG.out _ gJ.out⟩
  ·have HLEN:Hid (Calls Tryz.prog 150 #[.pointer (some ⟨w1.heap.size,0,none⟩)] V fun e w'=>e= .returned (.bool false)∧Below V.heap.size V w'):=(iC cT.out HR.out).mono (by rintro e w' ⟨b,rfl,hb,hbl⟩;have:b=false:=(by cases b;rfl;exact absurd (hb.1 rfl) hL);rw[this];exact⟨rfl,hbl⟩)
   have HN:=Nu.hid (jt.out (fun h=>hL h.lens))
   clear hL
   go_wp2_with (first|(go_at_call 150;rw[←HV.out];refine HLEN.out.mono ?_;rintro e w3 ⟨rfl,hb3⟩;have H3:=Nu.hid (HR.out.later hb3);clear hb3))
   go_ret2
   exact .inr ⟨_,rfl,HN.out,zG.out _ H3.out.aI⟩

end
section
open Go.RowKit
theorem vL.adE {n:Int} {es:List (Int×Int)} {f:For} {s:Df.St} {w w':World} {r:Option Addr} (h:vL n es f s w r w'):oN n es s:=by
 obtain⟨m,p,gp,gb,av,P,E,w0,h1,h2,h3,_⟩:=h
 exact⟨m,h1,h2,h3⟩
theorem vL.aI {n:Int} {es:List (Int×Int)} {f:For} {s:Df.St} {w w':World} {r:Option Addr} (h:vL n es f s w r w'):Below w.heap.size w w':=by
 obtain⟨m,p,gp,gb,av,P,E,w0,h1,h2,h3,h4,h5,h6,h7,h8⟩:=h
 exact h8
set_option maxRecDepth 100000 in
set_option maxHeartbeats 16000000 in
theorem I9 (n:Int) (ao:Option Addr) (cap:Nat) (es:List (Int×Int)) (f:For) (s:Df.St) (w:World) (he:aQ w ao es) (hl:es.length≤4611686018427387904) (hF:dI w f s):
 Calls Tryz.prog 96 #[bX n ao es.length cap,f.val s] w (jB (oN n es s) w):=by
 obtain⟨a1,a2,a3,a4,c1,c2,c3,c4⟩:=f
 obtain⟨W,hW⟩:∃W,W=(w.alloc (.cells #[.int .i64 n,.slice ao es.length cap] 24)).alloc (.cells #[.slice a1 s.par.length c1,.slice a2 s.az.length c2,.slice a3 s.ord.length c3,.slice a4 s.aJ.length c4] 36):=⟨_,rfl⟩
 have hB0:Below w.heap.size w W:=by rw[hW];exact((aae _ _).alloc (aad _) _).alloc (by simp) _
 have g1:W.heap[w.heap.size]? =some (.cells #[.int .i64 n,.slice ao es.length cap] 24 (0,0)):=by
  rw[hW,aap _ _ _ (by simp)]
  exact heap_alloc_new w _
 have g2:W.heap[w.heap.size+1]? =some (.cells #[.slice a1 s.par.length c1,.slice a2 s.az.length c2,.slice a3 s.ord.length c3,.slice a4 s.aJ.length c4] 36 (0,0)):=by
  rw[hW]
  exact alloc_at (by simp)
 have hrd:=NR n ao cap es ⟨a1,a2,a3,a4,c1,c2,c3,c4⟩ s W (he.later hB0) hl (hF.later hB0)
 unfold bX at hrd ⊢
 unfold For.val at hrd ⊢
 dsimp only at hrd ⊢
 have uB:=Nu.hid hrd
 have cZ:=Nu.hid hB0
 obtain⟨x0,x1,-⟩:=ay g1
 obtain⟨k0,k1,k2,k3,-⟩:=au g2
 have lg:=Nu.hid hW
 rw[hW] at x0 x1 k0 k1 k2 k3
 clear hrd hB0 g1 g2 he hW hF
 go_enter Tryz.func96,Tryz.ntmps96
 go_wp2_with (go_at_call 128;rw[←lg.out];refine uB.out.mono ?_;rintro e w1 (⟨r,rfl,hs⟩|⟨r,rfl,hno,hb1⟩);rotate_left;have jt:=Nu.hid hno;have aY:=Nu.hid hb1;clear hno hb1;rotate_left;have HS:=Nu.hid hs;clear hs)
 ·go_ret
  exact⟨true,rfl,⟨fun _=>HS.out.adE,fun _=>rfl⟩,cZ.out.trans (HS.out.aI.mono cZ.out.size)⟩
 ·go_ret
  exact⟨false,rfl,⟨fun h=>(by cases h),fun h=>absurd h jt.out⟩,cZ.out.trans (aY.out.mono cZ.out.size)⟩

end
section
open Go.RowKit
def LL (n:Int) (es:List (Int×Int)) (f:For) (s:Df.St) (w:World) (e:Ending) (w':World):Prop:=
 ((Si.valid n es=false∧e= .returned (.tuple #[.pointer none,.int .i64 1]))∨(Si.valid n es=true∧¬oN n es s∧e= .returned (.tuple #[.pointer none,.int .i64 80]))∨
   ∃(p m:Nat) (av:Value),n=(m:Int)∧e= .returned (.tuple #[.pointer (some ⟨p,0,none⟩),.int .i64 0])∧Wd w' p av m es f s)∧Below w.heap.size w w'
set_option maxRecDepth 100000 in
set_option maxHeartbeats 8000000 in
theorem Kb (n:Int) (ao:Option Addr) (cap:Nat) (es:List (Int×Int)) (f:For) (s:Df.St) (w:World) (he:aQ w ao es) (hl:es.length≤4611686018427387904) (hF:dI w f s):
 Calls Tryz.prog 61 #[bX n ao es.length cap,f.val s] w (LL n es f s w):=by
 obtain⟨W,hW⟩:∃W,W=(w.alloc (.cells #[.int .i64 n,.slice ao es.length cap] 24)).alloc (.cells #[.slice f.a1 s.par.length f.c1,.slice f.a2 s.az.length f.c2,.slice f.a3 s.ord.length f.c3,.slice f.a4 s.aJ.length f.c4] 36):=⟨_,rfl⟩
 have hB0:Below w.heap.size w W:=by rw[hW];exact((aae _ _).alloc (aad _) _).alloc (by simp) _
 have g1:W.heap[w.heap.size]? =some (.cells #[.int .i64 n,.slice ao es.length cap] 24 (0,0)):=by
  rw[hW,aap _ _ _ (by simp)]
  exact heap_alloc_new w _
 have g2:W.heap[w.heap.size+1]? =some (.cells #[.slice f.a1 s.par.length f.c1,.slice f.a2 s.az.length f.c2,.slice f.a3 s.ord.length f.c3,.slice f.a4 s.aJ.length f.c4] 36 (0,0)):=by
  rw[hW]
  exact alloc_at (by simp)
 have nM:Hid (Calls Tryz.prog 32 #[.agg #[.int .i64 n,.slice ao es.length cap]] W fun e w'=>∃q z,e= .returned (.tuple #[.pointer q,.int .i64 z])∧((∃m p:Nat,n=(m:Int)∧Si.Val n es∧q=some ⟨p,0,none⟩∧z=0∧lQ w' W.heap.size p m es)∨(Si.valid n es=false∧q=none∧z=1))∧Below W.heap.size W w'):=(xF n ao cap es W (he.later hB0) hl).mono fun e w' ⟨h,hb⟩=>by
  rcases h with ⟨m,p,h1,h2,h3,h4⟩|⟨h1,h2⟩
  ·exact⟨_,_,h3,.inl ⟨m,p,h1,h2,rfl,rfl,h4⟩,hb⟩
  ·exact⟨_,_,h2,.inr ⟨h1,rfl,rfl⟩,hb⟩
 have m9:Hid (∀V,Below w.heap.size w V→Calls Tryz.prog 96 #[.agg #[.int .i64 n,.slice ao es.length cap],.agg #[.slice f.a1 s.par.length f.c1,.slice f.a2 s.az.length f.c2,.slice f.a3 s.ord.length f.c3,.slice f.a4 s.aJ.length f.c4]] V (jB (oN n es s) V)):=fun V hV=>I9 n ao cap es f s V (he.later hV) hl (hF.later hV)
 have HF:Hid (∀V,Below w.heap.size w V→dI V f s):=fun V hV=>hF.later hV
 obtain⟨x0,x1,-⟩:=ay g1
 have nh:=Nu.hid g1
 have iN:=Nu.hid g2
 have cZ:=Nu.hid hB0
 have lg:=Nu.hid hW
 rw[hW] at x0 x1
 unfold bX For.val
 clear hB0 g1 g2 he hW hF
 go_enter Tryz.func61,Tryz.ntmps61
 go_wp2_with (go_at_call 32;rw[←lg.out];refine nM.out.mono ?_;rintro e w1 ⟨q,z,rfl,hq,hb1⟩;refine aaB ?_)
 refine Nu.hid ?_
 have hB1:Below w.heap.size w w1:=cZ.out.trans (hb1.mono cZ.out.size)
 clear x0 x1
 rcases hq with ⟨m,pa,hnm,hval,rfl,rfl,aW⟩|⟨hno,rfl,rfl⟩
 ·have hg1:=(hb1.block _ (lt_of_block nh.out)).trans nh.out
  have hg2:=(hb1.block _ (lt_of_block iN.out)).trans iN.out
  obtain⟨x0,x1,-⟩:=ay hg1
  obtain⟨k0,k1,k2,k3,-⟩:=au hg2
  have Zh:=Nu.hid hg2
  have cT:=Nu.hid aW
  have Nf:=Nu.hid hval
  have aY:=Nu.hid hB1
  have Tr:=Nu.hid (m9.out w1 hB1)
  have WM:=Nu.hid hnm
  clear hg1 hg2 aW hval hB1 hb1 hnm
  go_wp2_with (go_at_call 96;refine Tr.out.mono ?_;rintro e w2 ⟨b,rfl,Vx,hb2⟩;refine aaB ?_)
  refine Nu.hid ?_
  have hB2:Below w.heap.size w w2:=aY.out.trans (hb2.mono aY.out.size)
  cases b with
  |false=>
   have jt:Hid (¬oN n es s):=fun h=>by have:=Vx.2 h;cases this
   have ct:=Nu.hid hB2
   clear Vx hB2 x0 x1 k0 k1 k2 k3
   go_wp2
   go_ret2
   exact⟨.inr (.inl ⟨Si.bL.2 Nf.out,jt.out,rfl⟩),ct.out⟩
  |true=>
   have hyes:=Vx.1 rfl
   obtain⟨k0,k1,k2,k3,-⟩:=au ((hb2.block _ (lt_of_block Zh.out)).trans Zh.out)
   have ct:=Nu.hid hB2
   have afV:=Nu.hid hyes
   have acQ:Hid (cE w2 (.pointer (some ⟨pa,0,none⟩)) m es):=cE.later (.inr ⟨_,pa,rfl,by have:=Nf.out;rw[WM.out] at this;exact this,cT.out⟩) hb2
   clear Vx hyes hB2 hb2 x0 x1
   go_wp2
   go_ret2
   obtain⟨m',hm',hv',gP⟩:=afV.out
   have hmm:m'=m:=by have:=WM.out;omega
   subst hmm
   have l:=gP.lens
   have ru:Below w2.heap.size w2 (w2.alloc (.cells #[.pointer (some ⟨pa,0,none⟩),.slice f.a1 s.par.length f.c1,.slice f.a2 s.az.length f.c2,.slice f.a3 s.ord.length f.c3,.slice f.a4 s.aJ.length f.c4] 158)):=(aae _ _).alloc (aad _) _
   refine⟨.inr (.inr ⟨w2.heap.size,m',.pointer (some ⟨pa,0,none⟩),hm',rfl,?_,acQ.out.later ru,hv',HF.out _ (ct.out.trans (ru.mono ct.out.size)),gP⟩),ct.out.trans (ru.mono ct.out.size)⟩
   rw[l.1,l.2.1,l.2.2.1,l.2.2.2]
   exact heap_alloc_new w2 _
 ·have aY:=Nu.hid hB1
  have jt:=Nu.hid hno
  clear hb1 hB1 hno
  go_wp2
  go_ret2
  exact⟨.inl ⟨jt.out,rfl⟩,aY.out⟩
end
section
open Go.RowKit
theorem Ao {w:World} {B:Nat} {v:Value} {vs:List Value} {ls:List (List Int)} (h:bW w B v vs ls):∃ao c,v= .slice ao ls.length c:=by
 rcases h.outer.2 with ⟨rfl,h0⟩|⟨g,cap,cur,rfl,_⟩
 ·exact⟨none,0,by rw[h0]⟩
 ·exact⟨_,cap,rfl⟩
end
section
namespace Lo
open Df
theorem oz {α:Type} {R:α→α→Prop} (Rx:∀x,¬R x x) (Sl:∀x y,R x y→¬R y x):∀{X Y:List α},List.Pairwise R X→List.Pairwise R Y→(∀x,x∈X↔x∈Y)→X=Y
 |[],[],_,_,_=>rfl
 |[],y::Y,_,_,h=>by have:=(h y).2 aag;simp at this
 |x::X,[],_,_,h=>by have:=(h x).1 aag;simp at this
 |x::X,y::Y,hX,hY,h=>by
  obtain⟨hx1,hx2⟩:=aa4.1 hX
  obtain⟨hy1,hy2⟩:=aa4.1 hY
  have e:x=y:=by
   rcases aaj.1 ((h x).1 aag) with e|h1
   ·exact e
   ·rcases aaj.1 ((h y).2 aag) with e|h2
    ·exact e.symm
    ·exact absurd (hy1 x h1) (Sl _ _ (hx1 y h2))
  subst e
  congr 1
  refine oz Rx Sl hx2 hy2 fun z=>⟨fun hz=> ?_,fun hz=> ?_⟩
  ·rcases aaj.1 ((h z).1 (aah _ hz)) with e|h1
   ·subst e;exact absurd (hx1 z hz) (Rx z)
   ·exact h1
  ·rcases aaj.1 ((h z).2 (aah _ hz)) with e|h1
   ·subst e;exact absurd (hy1 z hz) (Rx z)
   ·exact h1
def rA (es:List (Int×Int)) (S:List Int) (v:Nat):List Int:=S.filter fun h=>decide (Cs.fr es h.toNat=v)
def vC (n:Nat) (es:List (Int×Int)) (S:List Int) (k:Nat):List (List Int):=(List.range n).map fun v=>rA es (S.take k) v
theorem oH (n:Nat) (es:List (Int×Int)) (S:List Int) (k:Nat):(vC n es S k).length=n:=by simp[vC]
theorem vB {n:Nat} {es:List (Int×Int)} {S:List Int} {k v:Nat} (h:v<n):(vC n es S k)[v]? =some (rA es (S.take k) v):=by simp[vC,h]
theorem OE (n:Nat) (es:List (Int×Int)) (S:List Int):vC n es S 0=List.replicate n []:=by
 refine aa6 fun v=> ?_
 by_cases hv:v<n
 ·rw[vB hv,aaI,if_pos hv]
  rfl
 ·rw[aat (by rw[oH];omega),aat (by simp;omega)]
theorem OG {n:Nat} {es:List (Int×Int)} {S:List Int} {k:Nat} {h:Int} (hk:S[k]? =some h):vC n es S (k+1)=(vC n es S k).set (Cs.fr es h.toNat) (rA es (S.take k) (Cs.fr es h.toNat)++[h]):=by
 refine aa6 fun v=> ?_
 have e:S.take (k+1)=S.take k++[h]:=by rw[abL,hk];rfl
 by_cases hv:v<n
 ·rw[vB hv,aaq,e]
  unfold rA
  rw[acL]
  by_cases hf:Cs.fr es h.toNat=v
  ·rw[if_pos hf,if_pos (by rw[oH];omega),acD (by simpa using hf),adh,hf]
  ·rw[if_neg hf,vB hv,ac4 (by simpa using hf),adh,abf]
   rfl
 ·rw[aat (by rw[oH];omega),aat (by rw[aaT,oH];omega)]
theorem Lg (es:List (Int×Int)) (S:List Int) (v:Nat):(rA es S v).length≤S.length:=List.length_filter_le _ _
section
variable {n:Nat} {es:List (Int×Int)} {s:St}
noncomputable def jJ (es:List (Int×Int)) (s:St) (h:Int):Int:=nest es s (h.toNat/2)
theorem rY (nW:VF n es s) {b:Nat} (hb:b<es.length):s.aJ[b]? =some (at_ s.aJ b):=by
 have:=nW.lens.2.2.2
 unfold at_
 rw[aai,aac (by omega)]
 rfl
theorem Ff (nW:VF n es s) {b:Nat} (hb:b<es.length):(s.aJ.map (jJ es s))[b]? =some (nest es s b):=by
 rw[aay,rY nW hb]
 show some (jJ es s (at_ s.aJ b))=_
 unfold jJ
 rw[(eO nW hb).1]
theorem N3 (hv:Si.Val n es) (h:VF n es s) {e:Nat} (he:e<es.length):0≤nest es s e∧nest es s e≤2*(n:Int):=by
 have:=Hh hv h he
 unfold nest
 split<;>omega
theorem N2 (hv:Si.Val n es) (h:VF n es s):Bu.fault (2*(n:Int)) (s.aJ.map (jJ es s))=0:=by
 have hn:=hv.hi
 refine Bu.rC (by omega) ?_
 rw[List.any_eq_false]
 intro x hx
 obtain⟨b,hb⟩:=ab8 hx
 have hl:=h.lens.2.2.2
 have hbl:b<es.length:=by
  have:=(aas.1 hb).1
  rw[aa3] at this
  omega
 rw[Ff h hbl] at hb
 obtain rfl:=aak hb
 have:=N3 hv h hbl
 rw[Bu.M7 (by omega)]
 decide
theorem xZ (h:VF n es s) {S:List Int} (hS:Bu.Sorted (s.aJ.map (jJ es s)) s.aJ S):∀x,x∈S↔∃b,b<es.length∧x=at_ s.aJ b:=fun x=>by
 have hl:=h.lens.2.2.2
 have cU:(s.aJ.map (jJ es s)).length=es.length:=by rw[aa3];exact hl
 constructor
 ·intro hx
  obtain⟨k,hk⟩:=ab8 hx
  have aeH:k<(s.aJ.map (jJ es s)).length:=by rw[←hS.len];exact(aas.1 hk).1
  obtain⟨i,hi,rfl⟩:=Bu.Ap _ aeH
  rw[hS.put i hi,rY h (by omega)] at hk
  exact⟨i,by omega,(aak hk).symm⟩
 ·rintro⟨b,hb,rfl⟩
  have:=hS.put b (by omega)
  rw[rY h hb] at this
  exact aaG this
theorem CN (h:VF n es s) {S:List Int} (hS:Bu.Sorted (s.aJ.map (jJ es s)) s.aJ S):List.Pairwise (FY es s) S:=by
 have hl:=h.lens.2.2.2
 have cU:(s.aJ.map (jJ es s)).length=es.length:=by rw[aa3];exact hl
 refine abh.2 fun a b ha hb hab=> ?_
 obtain⟨i,hi,rfl⟩:=Bu.Ap (s.aJ.map (jJ es s)) (k:=a) (by rw[←hS.len];exact ha)
 obtain⟨j,hj,rfl⟩:=Bu.Ap (s.aJ.map (jJ es s)) (k:=b) (by rw[←hS.len];exact hb)
 have e1:=hS.put i hi
 have e2:=hS.put j hj
 rw[rY h (by omega),aac ha] at e1
 rw[rY h (by omega),aac hb] at e2
 rw[aak e1,aak e2]
 have hne:i≠j:=fun e=>by subst e;omega
 have Fx:Bu.Ahead (s.aJ.map (jJ es s)) i j:=by
  rcases Bu.Ew (s.aJ.map (jJ es s)) hne with h1|h1
  ·exact h1
  ·have:=Bu.wL hj hi h1
   omega
 have k1:=Bu.B4 (Ff h (b:=i) (by omega))
 have k2:=Bu.B4 (Ff h (b:=j) (by omega))
 have o1:=eO h (b:=i) (by omega)
 have o2:=eO h (b:=j) (by omega)
 unfold Bu.Ahead at Fx
 rw[k1,k2] at Fx
 unfold FY
 rw[o1.1,o2.1]
 rcases Fx with h1|⟨h1,h2⟩
 ·exact .inl h1
 ·exact .inr ⟨h1,by omega⟩
theorem Ob {x y:Int} (h:FY es s x y):¬FY es s y x:=by
 unfold FY at h ⊢
 omega
theorem SU (hv:Si.Val n es) (h:VF n es s) {S:List Int} (hS:Bu.Sorted (s.aJ.map (jJ es s)) s.aJ S):vC n es S S.length=bS n es s es.length:=by
 refine aa6 fun v=> ?_
 by_cases dh:v<n
 ·rw[vB dh,acg]
  have hl:v<(bS n es s es.length).length:=by rw[dw];exact dh
  obtain⟨L,hL⟩:∃L,(bS n es s es.length)[v]? =some L:=⟨_,aac hl⟩
  rw[hL]
  congr 1
  refine oz (R:=FY es s) (fun x=>Hu) (fun x y=>Ob) ((CN h hS).filter _) (pI hv h _ (aad _) L (aaG hL)) fun x=> ?_
  rw[mJ hv h _ (aad _) v L hL x]
  unfold rA
  rw[abe,xZ h hS,decide_eq_true_iff]
  constructor
  ·rintro⟨⟨b,hb,rfl⟩,hf⟩
   exact⟨b,hb,hf,rfl⟩
  ·rintro⟨b,hb,hf,rfl⟩
   exact⟨⟨b,hb,rfl⟩,hf⟩
 ·rw[aat (by rw[oH];omega),aat (by rw[dw];omega)]
end
end Lo
end
section
open Go.RowKit
theorem NJ {V:World} {B n:Nat} (hB:B≤V.heap.size) (hn:n≤8388608):bW (V.alloc (.cells (madeCells #[.slice none 0 0] n) 27)) B (.slice (some ⟨V.heap.size,0,none⟩) n n) (List.replicate n (.slice none 0 0)) (List.replicate n []):=by
 have em:madeCells #[Value.slice none 0 0] n=Array.replicate n (Value.slice none 0 0):=by
  apply Array.ext
  ·rw[size_madeCells];simp
  ·intro i h1 h2
   simp[madeCells,Nat.mod_one]
 rw[em]
 refine⟨by simp,⟨by simp,.inr ⟨V.heap.size,n,Array.replicate n (Value.slice none 0 0),by simp,hB,heap_alloc_new V _,by simp,by unfold maxLen;omega,by simp,by simp⟩⟩,fun u x l hx hl=> ?_,fun u u' x x' b _ hx _ hb=> ?_,fun u x b hx hb=> ?_⟩
 ·rw[aaI] at hx hl
  split at hx
  ·rename_i hu
   rw[if_pos hu] at hl
   cases hx
   cases hl
   exact aP.nil _ _
  ·cases hx
 ·rw[aaI] at hx
  split at hx
  ·cases hx;cases hb
  ·cases hx
 ·rw[aaI] at hx
  split at hx
  ·cases hx;cases hb
  ·cases hx
section
variable {p:Nat} {av:Value} {n:Nat} {es:List (Int×Int)} {f:For} {s:Df.St}
set_option maxRecDepth 100000 in
set_option maxHeartbeats 4000000 in
theorem NZ (Bn g3 b:Nat) (h:Int) (A3:List Int) (w:World) (hb:Boxed w Bn 27 (.slice (some ⟨g3,0,none⟩) es.length es.length)) (hA:aF w g3 A3) (hl:A3.length=es.length) (hbl:b<es.length) (h0:0≤h) (h2:h.toNat/2=b) (hf:es.length≤4194304):
 Calls Tryz.prog 101 #[.int .i64 h,.pointer (some ⟨Bn,0,none⟩)] w fun e w'=>e= .returned (.int .i64 (A3.getD b 0))∧Below w.heap.size w w':=by
 obtain⟨z,hz⟩:∃z,A3[b]? =some z:=⟨_,aac (by omega)⟩
 have c1:=hA.cell hz
 have c0:=hb.cell
 have e:A3.getD b 0=z:=by rw[aai,hz];rfl
 rw[e]
 have xd:h.tdiv 2=(b:Int):=by rw[aaZ h0];omega
 have A7:h/2=(b:Int):=by omega
 have b0:(0:Int)≤(b:Int):=by omega
 have b1:(b:Int)<(es.length:Int):=by omega
 clear hA hb hz e
 go_enter Tryz.func101,Tryz.ntmps101
 go_wp2
 go_ret
 exact⟨rfl,aae _ _⟩
def O7 (n:Nat) (es:List (Int×Int)) (s:Df.St) (w:World) (e:Ending) (w':World):Prop:=
 ∃vo vs,e= .returned vo∧bW w' w.heap.size vo vs (Lo.bS n es s es.length)∧Below w.heap.size w w'
set_option maxRecDepth 100000 in
set_option maxHeartbeats 16000000 in
theorem NW (g3:Nat) (w:World) (hd:Wd w p av n es f s) (h3:aF w g3 (upTo (Lo.nest es s) es.length)):
 Calls Tryz.prog 64 #[.pointer (some ⟨p,0,none⟩),.slice (some ⟨g3,0,none⟩) es.length es.length] w (O7 n es s w):=by
 have cj:=hd.val.few
 have hn:=hd.val.hi
 have hlo:=hd.vf.lens.2.2.2
 obtain⟨i0,hi,hz0,hz1,hz2⟩:=info_parts Tryz.bO
 obtain⟨i1,hi1,hy0,hy1,hy2⟩:=info_parts Tryz.AZ
 have hmo:∀W,(Instr.makeSlice 72 (.int .i64 (n:Int)) (.int .i64 (n:Int))).run Tryz.prog W= .ok (.slice (some ⟨W.heap.size,0,none⟩) n n) (W.alloc (.cells (madeCells #[.slice none 0 0] n) 27)):=fun W=>by
  have:=run_make (P:=Tryz.prog) W 72 27 i1 (.slice none 0 0) Tryz.underlying72 hi1 hy0 .i64 .i64 (n:Int) (n:Int) (by omega) (by omega) (by rw[hy2];omega) (by omega)
  rw[this,hy1]
  simp[Value.cells]
 obtain⟨W,hW⟩:∃W,W=w.alloc (.cells #[.slice (some ⟨g3,0,none⟩) es.length es.length] 27):=⟨_,rfl⟩
 have dS:Below w.heap.size w W:=by rw[hW];exact(aae _ _).alloc (aad _) _
 have bn:Boxed W w.heap.size 27 (.slice (some ⟨g3,0,none⟩) es.length es.length):=by rw[hW];exact acF _ _ _
 have Vw:=hd.later dS
 have c0:=Vw.c0
 have c4:=Vw.c4
 have Ec:=enters_of Tryz.func101 (by kernel_rfl) rfl
 have HN:Hid (∀V,Below w.heap.size w V→Calls Tryz.prog 46 #[av] V fun e w'=>e= .returned (.int .i64 (n:Int))∧w'=V):=fun V hV=>mm av n es V (hd.later hV).Dp
 have yB:gI W f.a4 es.length f.c4 s.aJ:=by have:=Vw.cG.l4;rwa[hlo] at this
 have HSO:=Nu.hid (EU 101 #[.pointer (some ⟨w.heap.size,0,none⟩)] (Lo.jJ es s) (2*(n:Int)) f.a4 f.c4 es.length s.aJ (s.aJ.map (Lo.jJ es s)) W (by omega) yB rfl Ec (fun V x hV hx=>by
  obtain⟨b,hb⟩:=ab8 hx
  have hbl:b<es.length:=by rw[←hlo];exact(aas.1 hb).1
  rw[Lo.rY hd.vf hbl] at hb
  obtain rfl:=aak hb
  have ho:=Lo.eO hd.vf hbl
  have:=NZ (es:=es) w.heap.size g3 b (Df.at_ s.aJ b) (upTo (Lo.nest es s) es.length) V ((hV.block _ bn.lt).trans bn) (h3.later (dS.trans (hV.mono dS.size))) (fE _ _) hbl ho.2.1 ho.1 cj
  have e:(upTo (Lo.nest es s) es.length).getD b 0=Lo.jJ es s (Df.at_ s.aJ b):=by
   rw[aai,gT hbl]
   unfold Lo.jJ
   rw[ho.1]
   rfl
  rw[e] at this
  exact this))
 have YZ:Hid (Calls Tryz.prog 100 #[.slice f.a4 es.length f.c4,.func (.func 101) #[] #[.pointer (some ⟨w.heap.size,0,none⟩)],.int .i64 (2*(n:Int))] W fun e w'=>∃(gS:Nat) (S:List Int),e= .returned (.tuple #[.slice (some ⟨gS,0,none⟩) es.length es.length,.int .i64 0])∧W.heap.size≤gS∧aq w' gS S∧Bu.Sorted (s.aJ.map (Lo.jJ es s)) s.aJ S∧Below W.heap.size W w'):=HSO.out.mono fun e w' h=>by
  obtain⟨nU,hb2⟩:=h
  obtain⟨-,gS,S,he,hgS,iD,SD⟩:=nU.resolve_left (fun h=>h.1 (Lo.N2 hd.val hd.vf))
  rw[hlo] at he
  exact⟨gS,S,he,hgS,iD,SD,hb2⟩
 have jV:Hid (∀V (i:Nat),Below w.heap.size w V→i<2*es.length→Calls Tryz.prog 102 #[av,.int .i64 (i:Int)] V fun e w'=>e= .returned (.int .i64 (Cs.fr es i:Int))∧w'=V):=fun V i hV hi=>(kF av n es (i:Int) V (hd.later hV).Dp).mono fun e w' ⟨he,hw⟩=>⟨by rw[he,Cs.jP hi],hw⟩
 have HD:=Nu.hid hd
 have lg:=Nu.hid hW
 have jY:=Nu.hid dS
 have hnw:(2:Int)*(n:Int)≤2097152:=by omega
 rw[hW] at c0
 clear hW hd Vw h3 dS bn yB Ec
 go_enter Tryz.func64,Tryz.ntmps64
 go_wp2_with (first|(go_at_call 46;rw[←lg.out];refine(HN.out _ jY.out).mono ?_;rintro e w1 ⟨rfl,rfl⟩)|(go_at_call 100;refine YZ.out.mono ?_;rintro e w2 ⟨gS,S,rfl,hgS,iD,SD,hb2⟩;refine aaB ?_))
 refine Nu.hid ?_
 have hB2:Below w.heap.size w w2:=jY.out.trans (hb2.mono jY.out.size)
 have La:S.length=es.length:=by rw[SD.len,aa3];exact hlo
 have hlS:=iD.lt
 have d0:=(HD.out.later hB2).c0
 have T8:=Nu.hid (HN.out w2 hB2)
 have YY:=Nu.hid SD
 have ct:=Nu.hid hB2
 have HIS:=Nu.hid iD
 have hs2:=hB2.size
 have abW:Hid (bW (w2.alloc (.cells (madeCells #[.slice none 0 0] n) 27)) w2.heap.size (.slice (some ⟨w2.heap.size,0,none⟩) n n) (List.replicate n (.slice none 0 0)) (Lo.vC n es S 0)):=by
  rw[Lo.OE]
  exact NJ (aad _) (by omega)
 clear hb2 SD iD hB2 c4 c0 HSO YZ
 go_wp2_with (go_at_call 46;refine T8.out.mono ?_;rintro e w3 ⟨rfl,rfl⟩)
 clear d0 hmo
 go_loopw [37] (fun i wr=>∃(k:Nat) (vs:List Value),k≤es.length∧i= .int .i64 (k:Int)∧bW wr w3.heap.size (.slice (some ⟨w3.heap.size,0,none⟩) n n) vs (Lo.vC n es S k)∧Below w3.heap.size w3 wr) (fun i _=>es.length-(intOf i).toNat)
 case atStart=>exact⟨0,_,aax _,rfl,abW.out,(aae _ _).alloc (aad _) _⟩
 case round=>
  obtain⟨k,vs,hk,rfl,hrows,hb⟩:=hrel
  have hsz:=hb.size
  have ij:Below w.heap.size w wr:=ct.out.trans (hb.mono ct.out.size)
  by_cases hlt:k<es.length
  ·obtain⟨h,hh⟩:∃h,S[k]? =some h:=⟨_,aac (by omega)⟩
   obtain⟨e,he,heq⟩:=(Lo.xZ HD.out.vf YY.out h).1 (aaG hh)
   obtain⟨ho1,-,xj,-⟩:=Lo.cO HD.out.vf he
   rw[ho1] at heq
   subst heq
   obtain⟨i,hie⟩:∃i,Lo.oh s e=i:=⟨_,rfl⟩
   rw[hie] at hh xj
   have cS:=(hb.cell (p:=⟨gS,k,none⟩) hlS).trans (HIS.out.cell hh)
   have dh:=(Cs.bH HD.out.val xj).1
   have HF:=Nu.hid (jV.out wr i ij xj)
   have c0:=(HD.out.later ij).c0
   obtain⟨v,hv⟩:∃v,Cs.fr es i=v:=⟨_,rfl⟩
   have HGS:Hid (Lo.vC n es S (k+1)=(Lo.vC n es S k).set v (Lo.rA es (S.take k) v++[(i:Int)])):=by
    show _=_
    have:=Lo.OG (n:=n) (es:=es) hh
    rw[aaF,hv] at this
    exact this
   rw[hv] at HF dh
   have hl:=Lo.vB (es:=es) (S:=S) (k:=k) dh
   have eK:=Lo.Lg es (S.take k) v
   have kB:(S.take k).length≤k:=by simp;omega
   obtain⟨l,hle⟩:∃l,Lo.rA es (S.take k) v=l:=⟨_,rfl⟩
   rw[hle] at hl eK HGS
   have mS:=Lo.oH n es S k
   obtain⟨x,hx⟩:=hrows.S5 hl
   have Q6:=hrows.row v x l hx hl
   obtain⟨xo,xc,uZ,-,-⟩:=Q6.form
   subst uZ
   have cx:wr.cell? ⟨w3.heap.size,v,none⟩=some (.slice xo l.length xc):=by
    have:=abj hrows.outer (g:=w3.heap.size) rfl v _ hx
    have ea:((⟨w3.heap.size,0,none⟩:Addr).add v)=⟨w3.heap.size,v,none⟩:=by
     by_cases h0:v=0<;>simp[Addr.add,h0]
    rwa[ea] at this
   obtain⟨p1,gQ⟩:∃p1,l.length=p1:=⟨_,rfl⟩
   unfold aP at Q6
   rw[gQ] at Q6 hx cx eK
   have HOX:=Nu.hid Q6
   have HX:=Nu.hid hx
   have HL:=Nu.hid hl
   have Du:=Nu.hid gQ
   have uy:=Nu.hid hrows
   have HB:=Nu.hid hb
   have HGL:=Nu.hid mS
   have v0:(0:Int)≤(v:Int):=by omega
   have v1:(v:Int)<(n:Int):=by omega
   have k0:(0:Int)≤(k:Int):=by omega
   have k1:(k:Int)<(es.length:Int):=by omega
   clear Q6 hx hl gQ hrows hb mS hh hle hv hie ho1 ij
   go_wp2_with (first|(go_at_call 102;refine HF.out.mono ?_;rintro e w4 ⟨rfl,hw4⟩;obtain rfl:=hw4)|(at_builtin;refine wpList_append_own_at _ rfl _ _ 27 rfl w3.heap.size 3 i0 (.int .i64 0) 1 8 Tryz.underlying27 hi hz0 hz1 hz2 rfl (by decide) _ _ _ rfl (abo HOX.out _) ⟨w4.heap.size,0,none⟩ 1 1 [.int .i64 (i:Int)] rfl rfl (cell_one_new _ _ _) (by simp[Value.oneCell']) (by unfold maxLen;omega) (by omega) (by simp;omega) ?_;refine aaB ?_))
   refine Nu.hid ?_
   intro v4 w5 KR MK _ YB
   obtain⟨g4,c4,hv4⟩:=iB KR
   subst hv4
   have Bi:aP w5 w3.heap.size (.slice (some ⟨g4,0,none⟩) (p1+1) c4) (l++[(i:Int)]):=by
    unfold aP
    rw[aaA,abl,Du.out]
    exact KR
   have hrw:bW w4 w3.heap.size (.slice (some ⟨w3.heap.size,0,none⟩) (Lo.vC n es S k).length n) vs (Lo.vC n es S k):=by rw[HGL.out];exact uy.out
   obtain⟨j1,j2,j3,j4⟩:=hrw.put HX.out HL.out Bi MK (by simpa using YB)
   rw[HGL.out,←HGS.out] at j3
   have Cp:=Nu.hid j3
   have HJ4:=Nu.hid (HB.out.trans j4)
   clear KR MK YB Bi j3 j4 hrw
   go_wp2
   go_roundw
   case rel=>exact⟨k+1,_,by omega,by go_num,Cp.out,HJ4.out⟩
   case measure=>simp[intOf];omega
  ·have hd:¬((k:Int)<(es.length:Int)):=by omega
   have xl:k=S.length:=by omega
   subst xl
   have HR:Hid (bW wr w3.heap.size (.slice (some ⟨w3.heap.size,0,none⟩) n n) vs (Lo.bS n es s es.length)):=by
    rw[Lo.SU HD.out.val HD.out.vf YY.out] at hrows
    exact hrows
   have HBE:=Nu.hid ij
   clear hrows hb ij
   go_wp2
   go_ret
   exact⟨_,vs,rfl,HR.out.lower hs2,HBE.out⟩
end
end
end Go.Proofs.YtdjmnpmdmjclhabGreat
