import Derived.Test.YtdjmnpmdmjclhabGreatMg14
import Derived.Laws.EntriesVeiled
import Derived.Test.YtdjmnpmdmjclhabGreatMg07
namespace Go.Proofs.YtdjmnpmdmjclhabGreat
section
open Go.RowKit Go.Shelf
attribute [local go_sem] Oper.semAt_some
namespace Lo
def JZ (A1 A2:List Int) (p:Int×Int) (x:Int):Int×Int:=gU (gU p (A1.getD (x.toNat/2) 0)) (A2.getD (x.toNat/2) 0)
def fS (A1 A2:List Int) (m:Int) (l:List Int):Int×Int:=l.foldl (JZ A1 A2) (m,m)
theorem ER (A1 A2:List Int) (m:Int) (l:List Int) (x:Int):fS A1 A2 m (l++[x])=JZ A1 A2 (fS A1 A2 m l) x:=by
 unfold fS
 rw[adx]
 rfl
def lead (n:Nat) (es:List (Int×Int)) (s:Df.St) (A1 A2:List Int) (i:Nat):Int×Int:=
 if Df.at_ s.par (Cs.to es i)=(i:Int) then fS A1 A2 (Df.at_ s.az (Cs.fr es i)) (FD n es s (Cs.to es i)) else gU (Df.at_ s.az (Cs.fr es i),Df.at_ s.az (Cs.fr es i)) (Df.at_ s.az (Cs.to es i))
end Lo
def Ji (m:Int) (w:World) (e:Ending) (w':World):Prop:=
 ∃Bl B2,e= .returned (.func (.func 155) #[] #[.pointer (some ⟨Bl,0,none⟩),.pointer (some ⟨B2,0,none⟩)])∧w.heap.size≤Bl∧w.heap.size≤B2∧Bl≠B2∧Boxed w' Bl 3 (.int .i64 m)∧Boxed w' B2 3 (.int .i64 m)∧Below w.heap.size w w'
theorem z7 (m:Int) (w:World):Calls Tryz.prog 130 #[.int .i64 m] w (Ji m w):=by
 go_enter Tryz.func130,Tryz.ntmps130
 go_wp2
 go_ret
 refine⟨w.heap.size,w.heap.size+1,rfl,aad _,by omega,by omega,?_,?_,?_⟩
 ·exact(acF w _ _).alloc _
 ·have:=acF (w.alloc (.cells #[.int .i64 m] 3)) 3 (.int .i64 m)
  rwa[aaM] at this
 ·exact((aae _ _).alloc (aad _) _).alloc (by simp) _
theorem rR (k:Nat) (h:k≤4194304*4194304):IntKind.i64.wrap (k:Int)=(k:Int):=by
 simp[IntKind.wrap,IntKind.bits,IntKind.signed]
 omega
theorem dQ {S:Nat→Prop} {n₀:Nat} {A V:World} (h:aC S A V) (hn:n₀≤A.heap.size) (hS:∀k,S k→n₀≤k):bE n₀ S A V:=
 ⟨h.below hn hS,fun b _ hb _ hs=>(h.block b (aam.1 hb).1 hs).trans hb⟩
theorem fQ {S:Nat→Prop} {B:Nat} {A V:World} (h:aC S A V) (hS:∀k,S k→k<B):KeepsFrom B A V:=
 ⟨h.size,fun k _ hk h0 _=>(h.block k (aam.1 h0).1 (fun hs=>by have:=hS k hs;omega)).trans h0⟩
def Z4 (Bl B2 R g1 g2 m X j jh:Nat) (a1 a2:Int) (q:Int×Int):Nat→Value
 |0=> .func (.func 155) #[] #[.pointer (some ⟨Bl,0,none⟩),.pointer (some ⟨B2,0,none⟩)]
 |1=> .pointer (some ⟨R,0,none⟩)
 |2=> .slice (some ⟨g1,0,none⟩) m m
 |3=> .int .i64 (j:Int)
 |4=> .int .i64 (jh:Int)
 |5=> .pointer (some ⟨g1,jh,none⟩)
 |6=> .int .i64 a1
 |7=> .pointer (some ⟨R,1,none⟩)
 |8=> .slice (some ⟨g2,0,none⟩) m m
 |9=> .int .i64 (j:Int)
 |10=> .int .i64 (jh:Int)
 |11=> .pointer (some ⟨g2,jh,none⟩)
 |12=> .int .i64 a2
 |13=> .slice (some ⟨X,0,none⟩) 2 2
 |14=> .tuple #[.int .i64 q.1,.int .i64 q.2]
 |_=>undef
def wT (Bl B2:Nat) (a1 a2:Int) (q:Int×Int) (A:World) (L:Nat→Bool) (V:World):Prop:=
 if L 14=true then Boxed V Bl 3 (.int .i64 q.1)∧Boxed V B2 3 (.int .i64 q.2)∧aC (fun k=>k=Bl∨k=B2) A V
 else if L 13=true then V=A.drew.alloc (.cells #[.int .i64 a1,.int .i64 a2] 3) else V=A.drew
theorem wT.wrote {Bl B2:Nat} {a1 a2:Int} {q:Int×Int} {A:World} {L:Nat→Bool} {V:World} (h:wT Bl B2 a1 a2 q A L V):aC (fun k=>k=Bl∨k=B2) A V:=by
 unfold wT at h
 split at h
 ·exact h.2.2
 ·split at h
  ·rw[h]
   exact(aC.refl _ A).drew.alloc _
  ·rw[h]
   exact(aC.refl _ A).drew
theorem wT.other {Bl B2:Nat} {a1 a2:Int} {q:Int×Int} {A:World} {L:Nat→Bool} {V:World} (h:wT Bl B2 a1 a2 q A L V) {i:Nat} (h1:i≠13) (h2:i≠14):wT Bl B2 a1 a2 q A (aj.bR L i) V:=by
 have e1:aj.bR L i 13=L 13:=if_neg (fun e=>h1 e.symm)
 have e2:aj.bR L i 14=L 14:=if_neg (fun e=>h2 e.symm)
 unfold wT at h ⊢
 rw[e1,e2]
 exact h
section
variable {p:Nat} {av:Value} {n:Nat} {es:List (Int×Int)} {f:For} {s:Df.St}
def Pc (q:Int×Int) (w:World) (e:Ending) (w':World):Prop:=e= .returned (.tuple #[.int .i64 q.1,.int .i64 q.2])∧Below w.heap.size w w'
set_option maxRecDepth 100000 in
set_option maxHeartbeats 16000000 in
theorem Ku (i:Nat) (g1 g2:Nat) (A1 A2:List Int) (w:World) (hd:Wd w p av n es f s) (hi:i<2*es.length) (h1:aF w g1 A1) (h2:aF w g2 A2) (l1:A1.length=es.length) (l2:A2.length=es.length):
 Calls Tryz.prog 98 #[.pointer (some ⟨p,0,none⟩),.int .i64 (i:Int),.agg #[.slice (some ⟨g1,0,none⟩) es.length es.length,.slice (some ⟨g2,0,none⟩) es.length es.length,.slice none 0 0,.slice none 0 0]] w (Pc (Lo.lead n es s A1 A2 i) w):=by
 have eM:=Cs.bH hd.val hi
 have cj:=hd.val.few
 obtain⟨W,hW⟩:∃W,W=w.alloc (.cells #[.slice (some ⟨g1,0,none⟩) es.length es.length,.slice (some ⟨g2,0,none⟩) es.length es.length,.slice none 0 0,.slice none 0 0] 86):=⟨_,rfl⟩
 have dS:Below w.heap.size w W:=by rw[hW];exact(aae _ _).alloc (aad _) _
 have YF:W.heap.size=w.heap.size+1:=by rw[hW];simp
 have VE:W.heap[w.heap.size]? =some (.cells #[.slice (some ⟨g1,0,none⟩) es.length es.length,.slice (some ⟨g2,0,none⟩) es.length es.length,.slice none 0 0,.slice none 0 0] 86 (0,0)):=by rw[hW];exact heap_alloc_new w _
 obtain⟨m,hm⟩:∃m,Df.at_ s.az (Cs.fr es i)=m:=⟨_,rfl⟩
 have Uz:Hid (Calls Tryz.prog 99 #[.pointer (some ⟨p,0,none⟩),.int .i64 (i:Int)] W fun e w'=>e= .returned (.int .i64 m)∧Below W.heap.size W w'):=by
  have:=yH i hi (hd.later dS)
  rw[hm] at this
  exact this
 have HTW:Hid (∀V,Calls Tryz.prog 130 #[.int .i64 m] V (Ji m V)):=fun V=>z7 m V
 have xU:Hid (∀V,Below w.heap.size w V→Calls Tryz.prog 131 #[.pointer (some ⟨p,0,none⟩),.int .i64 (i:Int)] V fun e w'=>e= .returned (.bool (Df.at_ s.par (Cs.to es i) != (i:Int)))∧Below V.heap.size V w'):=fun V hV=>LF i hi (hd.later hV)
 have Dy:Hid (∀V,Below w.heap.size w V→Calls Tryz.prog 132 #[.pointer (some ⟨p,0,none⟩),.int .i64 (i:Int)] V fun e w'=>e= .returned (.int .i64 (Df.at_ s.az (Cs.to es i)))∧Below V.heap.size V w'):=fun V hV=>OL i hi (hd.later hV)
 have jF:Hid (∀V,Below w.heap.size w V→Calls Tryz.prog 92 #[av,.int .i64 (i:Int)] V fun e w'=>e= .returned (.int .i64 (Cs.to es i:Int))∧w'=V):=fun V hV=>(l7 av n es (i:Int) V (hd.later hV).Dp).mono fun e w' ⟨he,hw⟩=>⟨by rw[he,Cs.kL hi],hw⟩
 have jV:Hid (∀V,Calls Tryz.prog 97 #[.pointer (some ⟨p,0,none⟩),.int .i64 (Cs.to es i:Int)] V (xV p (Cs.to es i:Int) V)):=fun V=>zW p _ V
 have Dq:Hid (∀V,Below w.heap.size w V→Wd V p av n es f s):=fun V hV=>hd.later hV
 have ng:Hid (∀V,Below w.heap.size w V→aF V g1 A1∧aF V g2 A2):=fun V hV=>⟨h1.later hV,h2.later hV⟩
 have lg:=Nu.hid hW
 have HD:=Nu.hid hd
 have HL:Hid (Lo.lead n es s A1 A2 i=if Df.at_ s.par (Cs.to es i)=(i:Int) then Lo.fS A1 A2 m (Lo.FD n es s (Cs.to es i)) else Lo.gU (m,m) (Df.at_ s.az (Cs.to es i))):=by
  show _=_
  unfold Lo.lead
  rw[hm]
 have HG:Hid (g1<w.heap.size∧g2<w.heap.size):=⟨h1.lt,h2.lt⟩
 obtain⟨t,ht⟩:∃t,Cs.to es i=t:=⟨_,rfl⟩
 rw[ht] at xU Dy jF jV HL
 have htn:t<n:=by rw[←ht];exact eM.2
 obtain⟨pt,hpt⟩:∃pt,Df.at_ s.par t=pt:=⟨_,rfl⟩
 obtain⟨z,hz⟩:∃z,Df.at_ s.az t=z:=⟨_,rfl⟩
 rw[hpt] at xU HL
 rw[hz] at Dy HL
 clear hW hd h1 h2 hm ht eM hpt hz
 refine(callsIn_wide (n:=9)).1 ?_
 refine callsIn_of_wp_marks Tryz.func98 rfl trivial ?_ rfl
 simp only[Tryz.ntmps98,abR,aar,aaS,Nat.reduceAdd,Nat.reduceSub,abA,abB,abS,abK,aaE,abi]
 refine wpIn_wide.2 ?_
 go_wp2_with (first|(go_at_call 99;rw[←lg.out];refine Uz.out.mono ?_;rintro e w1 ⟨rfl,hb1⟩)|(go_at_call 130;refine(HTW.out _).mono ?_;rintro e w2 ⟨Bl,B2,rfl,qY,hl2,hne,bl,b2,hb2⟩;refine aaB ?_))
 refine Nu.hid ?_
 have BD:Below w.heap.size w w1:=dS.trans (hb1.mono dS.size)
 have MS:Below w.heap.size w w2:=BD.trans (hb2.mono BD.size)
 have Rl:w2.heap[w.heap.size]? =some (.cells #[.slice (some ⟨g1,0,none⟩) es.length es.length,.slice (some ⟨g2,0,none⟩) es.length es.length,.slice none 0 0,.slice none 0 0] 86 (0,0)):=(hb2.block _ (by have:=hb1.size;omega)).trans ((hb1.block _ (by omega)).trans VE)
 have hs1:=hb1.size
 have hs2:=hb2.size
 obtain⟨w3,hw3⟩:∃w3,w3=w2.alloc (.cells #[.func (.func 155) #[] #[.pointer (some ⟨Bl,0,none⟩),.pointer (some ⟨B2,0,none⟩)]] 186):=⟨_,rfl⟩
 have nu:=Nu.hid hw3
 have Ee:Below w2.heap.size w2 w3:=by rw[hw3];exact(aae _ _).alloc (aad _) _
 have hk3:Boxed w3 w2.heap.size 186 (.func (.func 155) #[] #[.pointer (some ⟨Bl,0,none⟩),.pointer (some ⟨B2,0,none⟩)]):=by rw[hw3];exact acF _ _ _
 have hs3:w3.heap.size=w2.heap.size+1:=by rw[hw3];simp
 have OX:Boxed w3 Bl 3 (.int .i64 m):=(Ee.block _ bl.lt).trans bl
 have O0:Boxed w3 B2 3 (.int .i64 m):=(Ee.block _ b2.lt).trans b2
 have hbl:=bl.lt
 have alr:=b2.lt
 have tU:Below w.heap.size w w3:=MS.trans (Ee.mono MS.size)
 have dm:=Nu.hid tU
 have Zm:=Nu.hid (xU.out w3 tU)
 clear hw3 hb1 hb2 bl b2
 by_cases hback:pt=(i:Int)
 ·rw[if_pos hback] at HL
  go_wp2_with (go_at_call 131;rw[←nu.out];refine Zm.out.mono ?_;rintro e w4 ⟨rfl,hb4⟩;refine aaB ?_)
  refine Nu.hid ?_
  have Dh:Below w.heap.size w w4:=tU.trans (hb4.mono tU.size)
  have OW:Boxed w4 Bl 3 (.int .i64 m):=(hb4.block _ OX.lt).trans OX
  have OZ:Boxed w4 B2 3 (.int .i64 m):=(hb4.block _ O0.lt).trans O0
  have hk4:Boxed w4 w2.heap.size 186 (.func (.func 155) #[] #[.pointer (some ⟨Bl,0,none⟩),.pointer (some ⟨B2,0,none⟩)]):=(hb4.block _ hk3.lt).trans hk3
  have aez:=(hb4.block _ (by omega)).trans ((Ee.block _ (by omega)).trans Rl)
  have c0:=(Dq.out w4 Dh).c0
  have age:=Nu.hid (jF.out w4 Dh)
  have hs4:=hb4.size
  have gJ:=Nu.hid Dh
  clear hb4 BD MS Rl Ee OX O0 hk3 tU
  go_wp2_with (first|(go_at_call 92;refine age.out.mono ?_;rintro e w5 ⟨rfl,rfl⟩)|(go_at_call 97;refine(jV.out _).mono ?_;rintro e w5 ⟨Bw,Bv,rfl,hBw,hBv,bw,bv,hb5⟩))
  refine(wpIn_wide (n:=9)).1 ?_
  have Le:Below w.heap.size w w5:=Dh.trans (hb5.mono Dh.size)
  have hs5:=hb5.size
  have bl5:Boxed w5 Bl 3 (.int .i64 m):=(hb5.block _ OW.lt).trans OW
  have b25:Boxed w5 B2 3 (.int .i64 m):=(hb5.block _ OZ.lt).trans OZ
  have hk5:Boxed w5 w2.heap.size 186 (.func (.func 155) #[] #[.pointer (some ⟨Bl,0,none⟩),.pointer (some ⟨B2,0,none⟩)]):=(hb5.block _ hk4.lt).trans hk4
  have aey:=(hb5.block _ (by omega)).trans aez
  have afh:∀b,(b=Bl∨b=B2)→b<w5.heap.size:=fun b hb=>by rcases hb with rfl|rfl<;>omega
  have mS:=HG.out
  refine sr (n:=9) (gf:=129) (lb:= #[.pointer (some ⟨Bw,0,none⟩),.pointer (some ⟨Bv,0,none⟩)]) (by rfl) (enters_of Tryz.func129 (by kernel_rfl) rfl)
   (I1 t Bw Bv (fun b=>b=Bl∨b=B2) w w5 HD.out Le htn bw bv (by omega) (fun b hb=> .inl (afh b hb))) Le.size (fun _=>rfl)
   (fun pre X=>(Boxed X Bl 3 (.int .i64 (Lo.fS A1 A2 m pre).1)∧Boxed X B2 3 (.int .i64 (Lo.fS A1 A2 m pre).2))∧bE w.heap.size (fun b=>b=Bl∨b=B2) w5 X) (fun _ _ _=>False)
   (ab0 (ab0 (Own.from (boxed_own _ _ _) _) (Own.from (boxed_own _ _ _) _)) (bE.own Le.size Le.size)) (fun _ _ _ _ _ hs _ _=>hs) ⟨⟨bl5,b25⟩,bE.refl _ _ _⟩
   (fun x a' _=>a'.tmps.size=53∧a'.eval (.tmp 5)= .pointer (some ⟨w.heap.size,0,none⟩)∧a'.eval (.tmp 8)= .pointer (some ⟨w2.heap.size,0,none⟩)∧a'.eval (.tmp 9)= .int .i64 x)
   (fun x a'=>ownFrom_pure _ _) ?assign ?body ?done ?stop
  case assign=>
   intro l2 pre x X K _ hi hK
   gi_wp2
   exact hK _ _ (ab6 _ _) (bE.refl _ _ _) hi ⟨rfl,rfl,rfl,rfl⟩
  case body=>
   rintro l2 pre x a' A ⟨hl2,-⟩ _ hpx ⟨⟨c1,c2⟩,hkp⟩ ⟨asz,a5,a8,a9⟩
   have hx:=hpx.subset (aaz pre (aao.2 rfl))
   unfold Lo.FD at hx
   obtain⟨j,rfl,hj,-⟩:=(wS htn).1 (abe.1 hx).1
   obtain⟨jh,mP⟩:∃jh,j/2=jh:=⟨_,rfl⟩
   have hAw:Below w.heap.size w A:=Le.trans hkp.1
   obtain⟨q1,q2⟩:=ng.out A hAw
   obtain⟨a1,ha1⟩:∃a1,A1[jh]? =some a1:=⟨_,aac (by omega)⟩
   obtain⟨a2,ha2⟩:∃a2,A2[jh]? =some a2:=⟨_,aac (by omega)⟩
   have hst:Lo.fS A1 A2 m (pre++[(j:Int)])=Lo.gU (Lo.gU (Lo.fS A1 A2 m pre) a1) a2:=by
    rw[Lo.ER]
    unfold Lo.JZ
    rw[aaF,mP,aai,ha1,aai,ha2]
    rfl
   have hcl:A.heap[w.heap.size]? =some (.cells #[.slice (some ⟨g1,0,none⟩) es.length es.length,.slice (some ⟨g2,0,none⟩) es.length es.length,.slice none 0 0,.slice none 0 0] 86 (0,0)):=hkp.2 _ _ aey rfl (by omega)
   have hck:Boxed A w2.heap.size 186 (.func (.func 155) #[] #[.pointer (some ⟨Bl,0,none⟩),.pointer (some ⟨B2,0,none⟩)]):=hkp.boxed hk5 (by omega)
   have hAs:w5.heap.size≤A.heap.size:=hkp.1.size
   gi_wp2
   refine wpIn_region_any (by kernel_rfl) ?_
   refine aj.YP (Z4 Bl B2 w.heap.size g1 g2 es.length A.heap.size j jh a1 a2 (Lo.fS A1 A2 m (pre++[(j:Int)]))) (wT Bl B2 a1 a2 (Lo.fS A1 A2 m (pre++[(j:Int)])) A) 53 asz (by kernel_rfl) (by kernel_rfl) rfl ?_ ?_
   ·intro i o L V ev ho bP hC bU hdc aA aS lG _
    have hW:=hC.wrote
    have k0:=acG ((hW.block w2.heap.size hck.lt (by omega)).trans hck)
    have r0:V.cell? ⟨w.heap.size,0,none⟩=some (.slice (some ⟨g1,0,none⟩) es.length es.length):=by simp[World.cell?,(hW.block w.heap.size (lt_of_block hcl) (by omega)).trans hcl]
    have r1:V.cell? ⟨w.heap.size,1,none⟩=some (.slice (some ⟨g2,0,none⟩) es.length es.length):=by simp[World.cell?,(hW.block w.heap.size (lt_of_block hcl) (by omega)).trans hcl]
    have d1:=(hW.ints q1 (by omega)).cell ha1
    have d2:=(hW.ints q2 (by omega)).cell ha2
    have xd:(j:Int).tdiv 2=(jh:Int):=by rw[aaZ (by omega)];omega
    have j0:(0:Int)≤(jh:Int):=by omega
    have j1:(jh:Int)<(es.length:Int):=by omega
    have hc:i=0∨i=1∨i=2∨i=3∨i=4∨i=5∨i=6∨i=7∨i=8∨i=9∨i=10∨i=11∨i=12∨i=13∨i=14:=by
     have:i<15:=(aam.1 ho).1
     omega
    rcases hc with rfl|rfl|rfl|rfl|rfl|rfl|rfl|rfl|rfl|rfl|rfl|rfl|rfl|rfl|rfl<;>obtain rfl:=aak ho
    ·have e1:=(aS 8 (by kernel_rfl)).trans a8
     exact aj.ah (w':=V) (by simp[execOp,go_sem,e1,k0];rfl) ⟨rfl,hC.other (by decide) (by decide)⟩
    ·have e1:=(aS 5 (by kernel_rfl)).trans a5
     exact aj.ah (w':=V) (by simp[execOp,go_sem,e1];rfl) ⟨rfl,hC.other (by decide) (by decide)⟩
    ·have e1:ev (.tmp 35)= .pointer (some ⟨w.heap.size,0,none⟩):=aA 1 35 (by omega) rfl (by decide)
     exact aj.ah (w':=V) (by simp[execOp,go_sem,e1,r0];rfl) ⟨rfl,hC.other (by decide) (by decide)⟩
    ·have e1:=(aS 9 (by kernel_rfl)).trans a9
     exact aj.ah (w':=V) (by simp[execOp,go_sem,e1];rfl) ⟨rfl,hC.other (by decide) (by decide)⟩
    ·have e1:ev (.tmp 37)= .int .i64 (j:Int):=aA 3 37 (by omega) rfl (by decide)
     exact aj.ah (v:= .int .i64 (jh:Int)) (w':=V) (by simp[execOp,go_sem,e1,xd,lG];exact rR jh (by omega)) ⟨rfl,hC.other (by decide) (by decide)⟩
    ·have e1:ev (.tmp 36)= .slice (some ⟨g1,0,none⟩) es.length es.length:=aA 2 36 (by omega) rfl (by decide)
     have e2:ev (.tmp 38)= .int .i64 (jh:Int):=aA 4 38 (by omega) rfl (by decide)
     exact aj.ah (v:= .pointer (some ⟨g1,jh,none⟩)) (w':=V) (by simp[execOp,go_sem,e1,e2,j0,j1]) ⟨rfl,hC.other (by decide) (by decide)⟩
    ·have e1:ev (.tmp 39)= .pointer (some ⟨g1,jh,none⟩):=aA 5 39 (by omega) rfl (by decide)
     exact aj.ah (v:= .int .i64 a1) (w':=V) (by simp[execOp,go_sem,e1,d1]) ⟨rfl,hC.other (by decide) (by decide)⟩
    ·have e1:=(aS 5 (by kernel_rfl)).trans a5
     exact aj.ah (w':=V) (by simp[execOp,go_sem,e1];rfl) ⟨rfl,hC.other (by decide) (by decide)⟩
    ·have e1:ev (.tmp 41)= .pointer (some ⟨w.heap.size,1,none⟩):=aA 7 41 (by omega) rfl (by decide)
     exact aj.ah (w':=V) (by simp[execOp,go_sem,e1,r1];rfl) ⟨rfl,hC.other (by decide) (by decide)⟩
    ·have e1:=(aS 9 (by kernel_rfl)).trans a9
     exact aj.ah (w':=V) (by simp[execOp,go_sem,e1];rfl) ⟨rfl,hC.other (by decide) (by decide)⟩
    ·have e1:ev (.tmp 43)= .int .i64 (j:Int):=aA 9 43 (by omega) rfl (by decide)
     exact aj.ah (v:= .int .i64 (jh:Int)) (w':=V) (by simp[execOp,go_sem,e1,xd,lG];exact rR jh (by omega)) ⟨rfl,hC.other (by decide) (by decide)⟩
    ·have e1:ev (.tmp 42)= .slice (some ⟨g2,0,none⟩) es.length es.length:=aA 8 42 (by omega) rfl (by decide)
     have e2:ev (.tmp 44)= .int .i64 (jh:Int):=aA 10 44 (by omega) rfl (by decide)
     exact aj.ah (v:= .pointer (some ⟨g2,jh,none⟩)) (w':=V) (by simp[execOp,go_sem,e1,e2,j0,j1]) ⟨rfl,hC.other (by decide) (by decide)⟩
    ·have e1:ev (.tmp 45)= .pointer (some ⟨g2,jh,none⟩):=aA 11 45 (by omega) rfl (by decide)
     exact aj.ah (v:= .int .i64 a2) (w':=V) (by simp[execOp,go_sem,e1,d2]) ⟨rfl,hC.other (by decide) (by decide)⟩
    ·have e1:ev (.tmp 40)= .int .i64 a1:=aA 6 40 (by omega) rfl (by decide)
     have e2:ev (.tmp 46)= .int .i64 a2:=aA 12 46 (by omega) rfl (by decide)
     have h14:L 14=false:=by
      cases h:L 14 with
      |false=>rfl
      |true=>
       have:=hdc 14 _ rfl h ⟨13,.data⟩ (by simp) rfl
       rw[bP] at this
       cases this
     have hV:V=A.drew:=by
      unfold wT at hC
      rw[h14,bP] at hC
      exact hC
     refine aj.ah (v:= .slice (some ⟨A.heap.size,0,none⟩) 2 2) (w':=V.alloc (.cells #[.int .i64 a1,.int .i64 a2] 3)) (by rw[hV];simp[execOp,go_sem,e1,e2]) ⟨rfl,?_⟩
     unfold wT
     rw[show aj.bR L 13 14=false from h14,show aj.bR L 13 13=true from rfl,hV]
     rfl
    ·have e1:ev (.tmp 34)= .func (.func 155) #[] #[.pointer (some ⟨Bl,0,none⟩),.pointer (some ⟨B2,0,none⟩)]:=aA 0 34 (by omega) rfl (by decide)
     have e2:ev (.tmp 47)= .slice (some ⟨A.heap.size,0,none⟩) 2 2:=aA 13 47 (by omega) rfl (by decide)
     have h13:L 13=true:=bU ⟨13,.data⟩ (by simp) rfl
     have hV:V=A.drew.alloc (.cells #[.int .i64 a1,.int .i64 a2] 3):=by
      unfold wT at hC
      rw[bP,h13] at hC
      exact hC
     have hen:∀args w,(callFunc 155 args).run Tryz.prog w= .ok (.enter 155 args) w:=enters_of Tryz.func155 (by kernel_rfl) rfl
     have hrun:∀o:Oper,o.op= .call { callee:= .value (.tmp 34),args:= #[.tmp 47],argTypes:= #[27] }→(execOp ev o).run Tryz.prog V= .ok (.enter 155 #[.slice (some ⟨A.heap.size,0,none⟩) 2 2,.pointer (some ⟨Bl,0,none⟩),.pointer (some ⟨B2,0,none⟩)]) V:=fun o ho=>by
      simp[execOp,ho,go_sem,e1,e2,hen]
     unfold aj.cF
     rw[hrun _ rfl]
     have hib:aF V A.heap.size [a1,a2]:=⟨[],by rw[hV];exact heap_alloc_new A.drew _⟩
     have eK:=c1.lt
     have aeD:=c2.lt
     refine(wU Bl B2 (Lo.fS A1 A2 m pre) (some ⟨A.heap.size,0,none⟩) 2 [a1,a2] V hne ?_ ?_ (by simp) (fun X hX' k x hk=> ?_)).mono fun e V' hk=>⟨_,hk.1,?_,?_⟩
     ·rw[hV];exact Boxed.alloc (W:=A.drew) c1 _
     ·rw[hV];exact Boxed.alloc (W:=A.drew) c2 _
     ·refine⟨A.heap.size,0,rfl,?_⟩
      rw[abv]
      exact(hX'.ints hib (by omega)).cell hk
     ·show Value.tuple _=Value.tuple _
      rw[hst]
      rfl
     ·unfold wT
      rw[show aj.bR L 14 14=true from rfl,if_pos rfl,hst]
      exact⟨hk.2.1,hk.2.2.1,hW.trans hk.2.2.2⟩
   ·intro L V a3 hall hC
    unfold wT at hC
    rw[if_pos (hall 14 (by decide))] at hC
    obtain⟨z1,z2,hw⟩:=hC
    have hk:=dQ (n₀:=w.heap.size) hw (by omega) (fun k hk=>by rcases hk with rfl|rfl<;>omega)
    exact⟨fQ hw (fun k hk=>by rcases hk with rfl|rfl<;>omega),hk,⟨z1,z2⟩,hkp.trans hk⟩
  case done=>
   rintro D X hD ⟨⟨c1,c2⟩,Oo⟩ hK
   have hck:=(Oo.boxed hk5 (by omega)).cell
   have ot:=Nu.hid (wU Bl B2 _ none 0 [] X hne c1 c2 (by simp) (fun _ _ j x hj=>by simp at hj))
   have hKX:Below w.heap.size w X:=Le.trans Oo.1
   have Ga:=Nu.hid hKX
   have HK:=Nu.hid hK
   go_wp2_with (go_at_call 155;refine ot.out.mono ?_;rintro e X2 ⟨rfl,x1,x2,hw⟩)
   have hb2:Below w.heap.size w X2:=Ga.out.trans (hw.below Ga.out.size (fun k hk'=>by rcases hk' with rfl|rfl<;>omega))
   have hK2:X2.heap[D]? =some (.deferred (some [])):=(hw.block D (lt_of_block HK.out) (by omega)).trans HK.out
   refine⟨by simp,.inl ⟨_,_,rfl,run_takeDeferred hK2,?_⟩⟩
   refine⟨_,results_tmp2 rfl _ _ _,?_⟩
   rw[HL.out]
   exact⟨rfl,hb2.trans (belowK_b (w:=w) (aad _) X2 D _ _ (by have:=Le.size;omega) hK2 rfl rfl)⟩
  case stop=>
   rintro D c pre X _ _ hx _
   exact hx.elim
 ·rw[if_neg hback] at HL
  go_wp2_with (go_at_call 131;rw[←nu.out];refine Zm.out.mono ?_;rintro e w4 ⟨rfl,hb4⟩;refine aaB ?_)
  refine Nu.hid ?_
  have Dh:Below w.heap.size w w4:=tU.trans (hb4.mono tU.size)
  have OW:Boxed w4 Bl 3 (.int .i64 m):=(hb4.block _ OX.lt).trans OX
  have OZ:Boxed w4 B2 3 (.int .i64 m):=(hb4.block _ O0.lt).trans O0
  have hk4:Boxed w4 w2.heap.size 186 (.func (.func 155) #[] #[.pointer (some ⟨Bl,0,none⟩),.pointer (some ⟨B2,0,none⟩)]):=(hb4.block _ hk3.lt).trans hk3
  have hbd:Below w4.heap.size w4 w4.drew:=(aae _ _).drew
  have ahg:Hid (∀V,Below w4.heap.size w4 V→Calls Tryz.prog 132 #[.pointer (some ⟨p,0,none⟩),.int .i64 (i:Int)] V fun e w'=>e= .returned (.int .i64 z)∧Below V.heap.size V w'):=fun V hV=>Dy.out V (Dh.trans (hV.mono Dh.size))
  have ot:Hid (∀V,Below w4.heap.size w4 V→Calls Tryz.prog 155 #[.slice (some ⟨V.heap.size,0,none⟩) 1 1,.pointer (some ⟨Bl,0,none⟩),.pointer (some ⟨B2,0,none⟩)] (V.alloc (.cells #[.int .i64 z] 3)) fun e V'=>e= .returned (.tuple #[.int .i64 (Lo.gU (m,m) z).1,.int .i64 (Lo.gU (m,m) z).2])∧V'.cell? ⟨w2.heap.size,0,none⟩=some (.func (.func 155) #[] #[.pointer (some ⟨Bl,0,none⟩),.pointer (some ⟨B2,0,none⟩)])∧Below w.heap.size w V'):=fun V hV=>by
   have hsV:=hV.size
   have hlk:=hk4.lt
   have eK:=OW.lt
   have aeD:=OZ.lt
   have hX:Below V.heap.size V (V.alloc (.cells #[.int .i64 z] 3)):=(aae _ _).alloc (aad _) _
   have VD:Below w4.heap.size w4 (V.alloc (.cells #[.int .i64 z] 3)):=hV.trans (hX.mono hV.size)
   have hib:aF (V.alloc (.cells #[.int .i64 z] 3)) V.heap.size [z]:=⟨[],heap_alloc_new V _⟩
   refine(wU Bl B2 (m,m) (some ⟨V.heap.size,0,none⟩) 1 [z] _ hne ((VD.block _ OW.lt).trans OW) ((VD.block _ OZ.lt).trans OZ) (by simp) (fun X hX' j x hj=> ?_)).mono fun e V' hk=> ?_
   ·refine⟨V.heap.size,0,rfl,?_⟩
    rw[abv]
    exact(hX'.ints hib (by omega)).cell hj
   ·refine⟨hk.1,acG ((hk.2.2.2.block w2.heap.size (by simp;omega) (by omega)).trans ((VD.block _ hk4.lt).trans hk4)),?_⟩
    have h1:Below w.heap.size w (V.alloc (.cells #[.int .i64 z] 3)):=Dh.trans (VD.mono Dh.size)
    exact h1.trans (hk.2.2.2.below h1.size (fun k hk'=>by rcases hk' with rfl|rfl<;>omega))
  have HS:Hid (∀V,Below w4.heap.size w4 V→V.cell? ⟨w2.heap.size,0,none⟩=some (.func (.func 155) #[] #[.pointer (some ⟨Bl,0,none⟩),.pointer (some ⟨B2,0,none⟩)])):=fun V hV=>acG ((hV.block _ hk4.lt).trans hk4)
  clear hb4 BD MS Rl Ee OX O0 hk3 tU
  go_wp2_with fail
  go_region_held3 (fun V=>V.cell? ⟨w2.heap.size,0,none⟩=some (.func (.func 155) #[] #[.pointer (some ⟨Bl,0,none⟩),.pointer (some ⟨B2,0,none⟩)]))
   (first|assumption|exact HS.out _ (by first|assumption|exact hbd)|exact HS.out _ (Below.alloc (by first|assumption|exact hbd) (acp (by first|assumption|exact hbd)) _))
   ((first|(go_at_call 132;refine(ahg.out _ (by first|assumption|exact hbd)).mono ?_;rintro e V1 ⟨rfl,wX⟩;have hb1:Below w4.heap.size w4 V1:=acr (by first|assumption|exact hbd) (wX.mono (acp (by first|assumption|exact hbd))))|(go_at_call 155;refine(ot.out _ (by first|assumption|exact hbd)).mono ?_;rintro e V2 ⟨rfl,hc2,BG⟩)))
  all_goals
   go_wp2
   exact⟨_,results_tmp2 rfl _ _ _,by rw[HL.out];exact⟨rfl,BG⟩⟩
end
end
section
namespace Lo
open Df
theorem EP (A1 A2:List Int) (m:Int) (l:List Int):fS A1 A2 m l=nx (m,m) (l.flatMap fun x=>[A1.getD (x.toNat/2) 0,A2.getD (x.toNat/2) 0]):=by
 unfold fS nx
 rw[List.foldl_flatMap]
 rfl
section
variable {n:Nat} {es:List (Int×Int)} {s:St}
theorem uT (nW:VF n es s) {v:Nat} (hv:v<n) {x:Int}:x∈FD n es s v↔∃k,k<es.length∧fr es s k=v∧x=(oh s k:Int):=by
 unfold FD
 rw[abe,wS hv]
 constructor
 ·rintro⟨⟨i,rfl,hi,hf⟩,hw⟩
  have hw':at_ s.aJ (i/2)=(i:Int):=by
   unfold wb at hw
   rw[aaF] at hw
   exact of_decide_eq_true hw
  have ho:oh s (i/2)=i:=by unfold oh;rw[hw'];simp
  exact⟨i/2,by omega,by unfold fr;rw[ho];exact hf,by rw[ho]⟩
 ·rintro⟨k,hk,hf,rfl⟩
  obtain⟨h1,_,h3,h4⟩:=cO nW hk
  refine⟨⟨oh s k,rfl,h3,hf⟩,?_⟩
  unfold wb
  rw[aaF,h4]
  exact decide_eq_true h1
theorem yu {m:Int} {X Y:List Int} (h1:∀x∈X,least m Y≤x) (h2:∀y∈Y,least m X≤y):least m X=least m Y:=by
 have a1:=least_le m X
 have a2:=least_le m Y
 rcases eH m X with e1|e1<;>rcases eH m Y with e2|e2
 ·omega
 ·have:=h2 _ e2;have:=a2.1;omega
 ·have:=h1 _ e1;have:=a1.1;omega
 ·have:=h2 _ e2;have:=h1 _ e1;omega
variable {e:Nat}
theorem r6 {x:Int}:x∈hs es s e↔∃b∈sW es s e,ht es s b=x:=by
 unfold hs
 rw[aa2]
theorem aav (hv:Si.Val n es) (h:VF n es s) (he:e<es.length) (ht':tree es s e=true) {x:Int} (hx:x∈hs es s e):∃k,k<es.length∧fr es s k=bJ es s e∧x∈hs es s k:=by
 obtain⟨b,hb,rfl⟩:=r6.1 hx
 obtain⟨b1,b2,b3,b4⟩:=(cP ht').1 hb
 have eM:=bK hv h he
 have ru:=bK hv h b1
 by_cases hne:bJ es s e=fr es s b
 ·refine⟨b,b1,hne.symm,r6.2 ⟨b,?_,rfl⟩⟩
  rw[ji b2]
  exact aao.2 rfl
 ·obtain⟨k,k1,k2,k3,k4⟩:=xG h ru.1 b4 hne
  refine⟨k,k1,k3,r6.2 ⟨b,(cP k2).2 ⟨b1,b2,?_,k4⟩,rfl⟩⟩
  have:=(jH hv h he ht').2
  unfold hf
  rw[k3]
  show ht es s b<ht es s e
  omega
theorem QJ (hv:Si.Val n es) (h:VF n es s) (he:e<es.length) (ht':tree es s e=true) {k:Nat} (hk:k<es.length) (hf':fr es s k=bJ es s e) {x:Int} (hx:x∈hs es s k) (hlt:x<hf es s e):x∈hs es s e:=by
 obtain⟨b,hb,rfl⟩:=r6.1 hx
 refine r6.2 ⟨b,(cP ht').2 ?_,rfl⟩
 have eM:=bK hv h he
 have xl:=bK hv h hk
 cases kB:tree es s k with
 |true=>
  obtain⟨b1,b2,b3,b4⟩:=(cP kB).1 hb
  refine⟨b1,b2,hlt,uq ?_ b4⟩
  have eP:=(jH hv h hk kB).1
  rw[hf'] at eP
  obtain⟨⟨W,B⟩,hs'⟩:=h.side
  obtain⟨Y,hw,_,_⟩:=jG (es:=es) h.once hs' xl.2
  exact p9 hw aag eP (by omega)
 |false=>
  rw[ji kB] at hb
  obtain rfl:=aao.1 hb
  exact⟨hk,kB,hlt,by rw[hf'];exact sG h eM.2⟩
theorem Hj (k:Nat):low es s k=hf es s k∨low es s k∈hs es s k:=eH _ _
theorem oD (k:Nat):cz es s k=hf es s k∨(cz es s k∈hs es s k∧low es s k<cz es s k):=by
 rcases eH (hf es s k) ((hs es s k).filter fun x=>decide (low es s k<x)) with h|h
 ·exact .inl h
 ·obtain⟨h1,h2⟩:=abe.1 h
  exact .inr ⟨h1,of_decide_eq_true h2⟩
theorem Oa (hv:Si.Val n es) (h:VF n es s) (he:e<es.length) {A1 A2:List Int} (hA:tree es s e=true→∀k,k<es.length→fr es s k=bJ es s e→A1.getD k 0=low es s k∧A2.getD k 0=cz es s k):
 lead n es s A1 A2 (oh s e)=(low es s e,cz es s e):=by
 have eM:=bK hv h he
 unfold lead
 cases ht':tree es s e with
 |false=>
  have hn:¬at_ s.par (Cs.to es (oh s e))=(oh s e:Int):=fun hp=>by
   have:=(kg h he).2 hp
   rw[ht'] at this
   cases this
  rw[if_neg hn]
  have eP:=BZ hv h he ht'
  have h1:=sk hv h he ht'
  have h2:cz es s e=hf es s e:=by
   rcases oD (es:=es) (s:=s) e with h2|⟨h2,h3⟩
   ·exact h2
   ·obtain⟨b,hb,hb2⟩:=r6.1 h2
    rw[ji ht'] at hb
    obtain rfl:=aao.1 hb
    omega
  unfold gU
  dsimp only
  rw[h1,h2]
  exact if_pos eP
 |true=>
  have hp:at_ s.par (Cs.to es (oh s e))=(oh s e:Int):=(kg h he).1 ht'
  rw[if_pos hp]
  replace hA:=hA ht'
  obtain⟨X,hX⟩:∃X,X=(FD n es s (Cs.to es (oh s e))).flatMap fun x=>[A1.getD (x.toNat/2) 0,A2.getD (x.toNat/2) 0]:=⟨_,rfl⟩
  have hmem:∀y,y∈X↔∃k,k<es.length∧fr es s k=bJ es s e∧(y=low es s k∨y=cz es s k):=fun y=>by
   rw[hX,abY]
   constructor
   ·rintro⟨x,hx,hy⟩
    obtain⟨k,hk,hf',rfl⟩:=(uT h eM.2).1 hx
    rw[aaF,(cO h hk).2.2.2,(hA k hk hf').1,(hA k hk hf').2] at hy
    refine⟨k,hk,hf',?_⟩
    simpa using hy
   ·rintro⟨k,hk,hf',hy⟩
    refine⟨(oh s k:Int),(uT h eM.2).2 ⟨k,hk,hf',rfl⟩,?_⟩
    rw[aaF,(cO h hk).2.2.2,(hA k hk hf').1,(hA k hk hf').2]
    simpa using hy
  have MA:=mZ.many X [] (hf es s e,hf es s e) (mZ.start _)
  rw[aaE] at MA
  have hq:fS A1 A2 (at_ s.az (Cs.fr es (oh s e))) (FD n es s (Cs.to es (oh s e)))=nx (hf es s e,hf es s e) X:=by
   rw[EP,hX]
   rfl
  rw[hq]
  obtain⟨q,hq'⟩:∃q,nx (hf es s e,hf es s e) X=q:=⟨_,rfl⟩
  rw[hq'] at MA ⊢
  have hfk:∀k,fr es s k=bJ es s e→hf es s k=hf es s e+1:=fun k hk=>by
   have:=(jH hv h he ht').2
   unfold hf
   rw[hk]
   exact this
  have hlt:=N9 hv h he ht'
  have hle:∀k,k<es.length→fr es s k=bJ es s e→low es s e≤low es s k:=fun k hk hf'=>by
   rw[hlt]
   refine(least_le _ _).2 _ (aa2.2 ⟨k,abe.2 ⟨aaO.2 hk,decide_eq_true hf'⟩,rfl⟩)
  have e1:q.1=low es s e:=by
   rw[MA.1,hlt]
   refine yu (fun y hy=> ?_) (fun y hy=> ?_)
   ·rw[←hlt]
    obtain⟨k,hk,hf',hy⟩:=(hmem y).1 hy
    have h1:=hle k hk hf'
    have h2:=(Fc es s k).1
    rcases hy with rfl|rfl<;>omega
   ·obtain⟨k,hk,rfl⟩:=aa2.1 hy
    obtain⟨hk1,hk2⟩:=abe.1 hk
    exact(least_le _ _).2 _ ((hmem _).2 ⟨k,aaO.1 hk1,of_decide_eq_true hk2,.inl rfl⟩)
  have e2:q.2=cz es s e:=by
   rw[MA.2,e1]
   unfold cz
   refine yu (fun y hy=> ?_) (fun y hy=> ?_)
   ·obtain⟨hy1,hy2⟩:=abe.1 hy
    have hy3:low es s e<y:=of_decide_eq_true hy2
    obtain⟨k,hk,hf',hy⟩:=(hmem y).1 hy1
    have aln:=hfk k hf'
    have eK:=least_le (hf es s e) ((hs es s e).filter fun x=>decide (low es s e<x))
    by_cases hge:hf es s e≤y
    ·have:=eK.1
     omega
    ·have hin:y∈hs es s k:=by
      rcases hy with rfl|rfl
      ·rcases Hj (es:=es) (s:=s) k with h1|h1
       ·omega
       ·exact h1
      ·rcases oD (es:=es) (s:=s) k with h1|h1
       ·omega
       ·exact h1.1
     exact eK.2 y (abe.2 ⟨QJ hv h he ht' hk hf' hin (by omega),hy2⟩)
   ·obtain⟨hy1,hy2⟩:=abe.1 hy
    have hy3:low es s e<y:=of_decide_eq_true hy2
    obtain⟨k,hk,hf',hin⟩:=aav hv h he ht' hy1
    have eK:=least_le (hf es s e) (X.filter fun x=>decide (low es s e<x))
    have hk1:low es s k≤y:=(least_le _ _).2 y hin
    have hk0:=hle k hk hf'
    by_cases hgt:low es s e<low es s k
    ·have:=eK.2 (low es s k) (abe.2 ⟨(hmem _).2 ⟨k,hk,hf',.inl rfl⟩,decide_eq_true hgt⟩)
     omega
    ·have hk2:cz es s k≤y:=(least_le _ _).2 y (abe.2 ⟨hin,decide_eq_true (by omega)⟩)
     have hyk:=aaw hv h hk y hin
     have hk3:low es s k<cz es s k:=by
      rcases oD (es:=es) (s:=s) k with h1|h1
      ·omega
      ·exact h1.2
     have:=eK.2 (cz es s k) (abe.2 ⟨(hmem _).2 ⟨k,hk,hf',.inr rfl⟩,decide_eq_true (by omega)⟩)
     omega
  exact Prod.ext e1 e2
end
end Lo
end
section
open Go.RowKit Go.Shelf
attribute [local go_sem] Oper.semAt_some
def fy (n:Nat):List Nat:=(List.range n).reverse
theorem jo (n:Nat):(fy n).length=n:=by simp[fy]
theorem xE {n k:Nat} (h:k<n):(fy n)[k]? =some (n-1-k):=by
 unfold fy
 rw[List.getElem?_reverse (by simpa using h),List.length_range,acf (by omega)]
theorem pZ {n x:Nat} {pre:List Nat} (h:pre++[x] <+: fy n):pre.length<n∧x=n-1-pre.length:=by
 obtain⟨r,hr⟩:=h
 have hl:=congrArg List.length hr
 rw[jo] at hl
 simp at hl
 have hlt:pre.length<n:=by omega
 have:=xE hlt
 rw[←hr] at this
 simp at this
 exact⟨hlt,this⟩
abbrev M3 (l:List Int) (k:Nat):Array Value:= #[.int .i64 (k:Int),.int .i64 (Df.at_ l k)]
def o7 (ao:Option Addr) (n c:Nat) (w:World) (e:Ending) (w':World):Prop:=
 ∃Bs,e= .returned (.func (.func 66) #[] #[.pointer (some ⟨Bs,0,none⟩)])∧w.heap.size≤Bs∧Boxed w' Bs 27 (.slice ao n c)∧Below w.heap.size w w'
theorem kO (ao:Option Addr) (n c:Nat) (w:World):Calls Tryz.prog 40 #[.slice ao n c] w (o7 ao n c w):=by
 go_enter Tryz.func40,Tryz.ntmps40
 go_wp2
 go_ret
 exact⟨w.heap.size,rfl,aad _,acF w _ _,(aae _ _).alloc (aad _) _⟩
set_option maxRecDepth 100000 in
set_option maxHeartbeats 2000000 in
theorem S1 (Bs n₀ c n:Nat) (S:Nat→Prop) (ao:Option Addr) (l:List Int) (hn:n≤8388608) (w:World) (hS:¬S Bs) (hB:Boxed w Bs 27 (.slice ao n c))
 (hc:∀i,i<n→∃b o,ao=some ⟨b,o,none⟩∧∀W,Below n₀ w W→W.cell? ⟨b,o+i,none⟩=some (.int .i64 (Df.at_ l i))) (hn₀:n₀≤w.heap.size):
 uu Tryz.prog 66 #[.pointer (some ⟨Bs,0,none⟩)] (M3 l) n₀ S (fy n) w 0:=by
 intro lp J Jx W hW _ _ _ hY h0
 have SN:Boxed W Bs 27 (.slice ao n c):=(hW.block Bs hB.lt).trans hB
 have hb0:=SN.cell
 have dS:Below n₀ w W:=hW.mono hn₀
 clear hB hW
 refine(callsIn_wide (n:=5)).1 ?_
 refine callsIn_of_wp Tryz.func66 rfl trivial ?_ rfl
 simp only[Tryz.ntmps66,abR,aar,aaS,Nat.reduceAdd,Nat.reduceSub,abA,abB,abS,abK,aaE,abi]
 have hn1:(n:Int)≤8388608:=by omega
 gi_wp2
 gi_loopw [3] (fun i wr=>∃k:Nat,k≤n∧i= .int .i64 ((n:Int)-1-(k:Int))∧J ((fy n).take k) wr∧bE n₀ S W wr∧W.heap.size≤wr.heap.size) (fun i _=>((intOf i)+1).toNat)
 case atStart=>exact⟨0,aax _,by go_num,by simpa using h0,bE.refl _ _ _,aad _⟩
 case round=>
  obtain⟨k,hk,rfl,hJs,fM,hsz⟩:=hrel
  by_cases hlt:k<n
  ·obtain⟨x,hx⟩:∃x:Nat,(n:Int)-1-(k:Int)=(x:Int):=⟨n-1-k,by omega⟩
   have CX:x<n:=by omega
   obtain⟨b,o,rfl,hcz⟩:=hc x CX
   have hb1:wr.cell? ⟨Bs,0,none⟩=some (.slice (some ⟨b,o,none⟩) n c):=fM.cell hb0 hS
   have hc1:=hcz wr (dS.trans fM.1)
   have hat:(fy n)[k]? =some x:=by rw[xE hlt];congr 1;omega
   obtain⟨fn,tmps,assign,body,hy,hR⟩:=hY ((fy n).take k) x wr (wF hat) hJs (by omega) 4
   have l9:(fy n).take (k+1)=(fy n).take k++[x]:=by
    rw[abL,hat]
    rfl
   obtain⟨z,hz⟩:∃z,Df.at_ l x=z:=⟨_,rfl⟩
   rw[hx]
   unfold M3 at hy
   rw[hz] at hc1 hy
   have x0:(0:Int)≤(x:Int):=by omega
   have x1:(x:Int)<(n:Int):=by omega
   have x2:(x:Int)-1=(n:Int)-1-((k+1:Nat):Int):=by omega
   have mo:=Nu.hid l9
   have HJ:=Nu.hid hJs
   have kK:=Nu.hid fM
   have vS:=Nu.hid hsz
   have F0:=Nu.hid x2
   clear l9 hJs fM hY hcz hz hsz hat hx hc x2
   gi_wp2
   refine hR.mono ?_
   rintro e W3 ⟨mO,(⟨rfl,hJ3,hk3⟩|⟨rfl,hJx3⟩)⟩
   ·have Cp:=Nu.hid hJ3
    have uD:=Nu.hid hk3
    have vT:=Nu.hid mO.size
    clear hJ3 hk3 mO
    gi_wp2
    go_roundw
    case rel=>exact⟨k+1,by omega,by rw[←F0.out],by rw[mo.out];exact Cp.out,kK.out.trans uD.out,abb vS.out vT.out⟩
    case measure=>simp[intOf]
   ·have Jz:=Nu.hid hJx3
    clear hJx3
    gi_wp2
    refine bodyPost_ret (results_none rfl _ _ _) rfl ?_
    exact⟨⟨_,rfl⟩,.inr ⟨_,by rw[←mo.out];exact ac8 _ _,Jz.out⟩⟩
  ·have xl:k=n:=by omega
   subst xl
   have hm:(k:Int)-1-(k:Int)= -1:=by omega
   have HJ:Hid (J (fy k) wr):=by
    show J (fy k) wr
    rw[abk (by rw[jo];exact aad _)] at hJs
    exact hJs
   rw[hm]
   clear hJs fM hY hc hm
   gi_wp2
   go_end0
   exact⟨⟨_,rfl⟩,.inl HJ.out⟩
namespace Lo
open Df
section
variable {n:Nat} {es:List (Int×Int)} {s:St}
def places (n:Nat) (s:St):List Int:=(List.range n).map fun v:Nat=>((s.ord.idxOf (v:Int):Nat):Int)
theorem U8 (h:VF n es s) {a:Nat} (ha:a<n):s.ord.idxOf (at_ s.ord a)=a:=by
 have hl:=h.lens.2.2.1
 have hnd:s.ord.Nodup:=by
  refine abh.2 fun i j hi hj hij e=> ?_
  have hj':j<n:=by omega
  have:=(h.once j hj').2 i hij
  apply this
  unfold at_
  rw[aai,aai,aac hi,aac hj,e]
 have e:at_ s.ord a=s.ord[a]'(by omega):=by
  unfold at_
  rw[aai,aac (by omega)]
  rfl
 rw[e]
 exact hnd.idxOf_getElem a (by omega)
theorem tK (h:VF n es s):jf n s (places n s):=by
 refine⟨by simp[places],fun a ha=> ?_⟩
 have hb:=(h.once a ha).1
 obtain⟨v,hv⟩:∃v:Nat,at_ s.ord a=(v:Int):=⟨(at_ s.ord a).toNat,by omega⟩
 rw[hv,aaF]
 unfold places
 unfold at_
 rw[aai,aay,acf (by omega)]
 show((s.ord.idxOf (v:Int):Nat):Int)=(a:Int)
 rw[←hv,U8 h ha]
theorem B7 (h:VF n es s) {a b u v:Nat} (ha:a<n) (hb:b<n) (hu:at_ s.ord a=(u:Int)) (hv:at_ s.ord b=(v:Int)) (jL:bQ es s u v):a≤b:=by
 obtain⟨⟨W,B⟩,hs'⟩:=h.side
 have hu':=(h.once a ha).1
 have hv':=(h.once b hb).1
 have:=((ur h.once hs' (tK h) (u:=u) (v:=v) (by omega) (by omega)).2 jL).1
 have p1:=(tK h).2 a ha
 have p2:=(tK h).2 b hb
 rw[hu,aaF] at p1
 rw[hv,aaF] at p2
 omega
theorem xX (hv:Si.Val n es) (h:VF n es s) {e:Nat} (he:e<es.length) (ht':tree es s e=true) {a b:Nat} (ha:a<n) (hb:b<n) (hu:at_ s.ord a=(fr es s e:Int)) (hw:at_ s.ord b=(bJ es s e:Int)):a<b:=by
 have eM:=bK hv h he
 have hne:=BO hv h he
 have jL:bQ es s (fr es s e) (bJ es s e):=by
  obtain⟨⟨W,B⟩,hs'⟩:=h.side
  obtain⟨Y,hw,_,_⟩:=jG (es:=es) h.once hs' eM.2
  exact p9 hw aag (jH hv h he ht').1 (by omega)
 have:=B7 h ha hb hu hw jL
 rcases ab1 a b with h1|h1
 ·exact h1
 ·have:a=b:=by omega
  subst this
  rw[hu] at hw
  omega
end
end Lo
end
end Go.Proofs.YtdjmnpmdmjclhabGreat
