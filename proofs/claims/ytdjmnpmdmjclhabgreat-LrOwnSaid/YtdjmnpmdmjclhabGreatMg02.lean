import Derived.Test.YtdjmnpmdmjclhabGreatMg01
import Derived.Test.YtdjmnpmdmjclhabGreatMg00
import Derived.BigRegion
import Derived.Lib.SliceRun
namespace Go.Proofs.YtdjmnpmdmjclhabGreat
section
open Go.RowKit
abbrev sl (g n:Nat):Value:= .slice (some ⟨g,0,none⟩) n n
def bT (w:World) (p gd gs gh gp gt n M:Nat):Prop:=w.heap[p]? =some (.cells #[sl gd n,sl gs n,sl gh M,sl gp M,sl gt M] 120 (0,0))
section
variable {w w':World} {p gd gs gh gp gt n M:Nat}
theorem bT.lt (h:bT w p gd gs gh gp gt n M):p<w.heap.size:=lt_of_block h
theorem bT.later (h:bT w p gd gs gh gp gt n M) (hb:Below w.heap.size w w'):bT w' p gd gs gh gp gt n M:=(hb.block p h.lt).trans h
theorem bT.other (h:bT w p gd gs gh gp gt n M) {b i:Nat} (hb:p≠b) (x:Value):bT (w.setCell ⟨b,i,none⟩ x) p gd gs gh gp gt n M:=(heap_setCell_other w ⟨b,i,none⟩ p x hb).trans h
theorem bT.wrote {S:Nat→Prop} (h:bT w p gd gs gh gp gt n M) (hw:aC S w w') (hp:¬S p):bT w' p gd gs gh gp gt n M:=(hw.block p h.lt hp).trans h
theorem bT.c0 (h:bT w p gd gs gh gp gt n M):w.cell? ⟨p,0,none⟩=some (.slice (some ⟨gd,0,none⟩) n n):=by unfold bT at h;simp[World.cell?,h]
theorem bT.c1 (h:bT w p gd gs gh gp gt n M):w.cell? ⟨p,1,none⟩=some (.slice (some ⟨gs,0,none⟩) n n):=by unfold bT at h;simp[World.cell?,h]
theorem bT.c2 (h:bT w p gd gs gh gp gt n M):w.cell? ⟨p,2,none⟩=some (.slice (some ⟨gh,0,none⟩) M M):=by unfold bT at h;simp[World.cell?,h]
theorem bT.c3 (h:bT w p gd gs gh gp gt n M):w.cell? ⟨p,3,none⟩=some (.slice (some ⟨gp,0,none⟩) M M):=by unfold bT at h;simp[World.cell?,h]
theorem bT.c4 (h:bT w p gd gs gh gp gt n M):w.cell? ⟨p,4,none⟩=some (.slice (some ⟨gt,0,none⟩) M M):=by unfold bT at h;simp[World.cell?,h]
end
end
section
open Go.RowKit
set_option maxRecDepth 100000 in
set_option maxHeartbeats 4000000 in
theorem OS (p gd gs gh gp gt gf cf n M:Nat) (H Pl T F:List Int) (h u v q:Nat) (w:World) (hA:bT w p gd gs gh gp gt n M) (iH:aF w gh H) (iP:aF w gp Pl) (iT:aF w gt T) (iF:aF w gf F)
 (lH:H.length=M) (lP:Pl.length=M) (lT:T.length=M) (lF:F.length=n) (hh:h<M) (hu:u<n) (hq:F[u]? =some (q:Int)) (hqM:q<M) (hM:M≤8388608)
 (d2:p≠gp) (d3:p≠gt) (d5:gh≠gp) (d6:gh≠gt) (d7:gp≠gt) (d8:gf≠gh) (d9:gf≠gp) (d10:gf≠gt):
 Calls Tryz.prog 88 #[.pointer (some ⟨p,0,none⟩),.int .i64 h,.int .i64 u,.int .i64 v,.slice (some ⟨gf,0,none⟩) n cf] w fun e w'=>
  e= .returned (.tuple #[])∧aF w' gh (H.set q h)∧aF w' gp (Pl.set h q)∧aF w' gt (T.set h v)∧aF w' gf (F.set u ((q:Int)+1))∧aC (fun b=>b=gh∨b=gp∨b=gt∨b=gf) w w':=by
 obtain⟨w1,hw1⟩:∃w1,w1=w.setCell ⟨gt,h,none⟩ (.int .i64 v):=⟨_,rfl⟩
 obtain⟨w2,hw2⟩:∃w2,w2=w1.setCell ⟨gp,h,none⟩ (.int .i64 q):=⟨_,rfl⟩
 obtain⟨w3,hw3⟩:∃w3,w3=w2.setCell ⟨gh,q,none⟩ (.int .i64 h):=⟨_,rfl⟩
 obtain⟨x0,hx0⟩:∃x,T[h]? =some x:=⟨_,aac (by omega)⟩
 obtain⟨x1,hx1⟩:∃x,Pl[h]? =some x:=⟨_,aac (by omega)⟩
 obtain⟨x2,hx2⟩:∃x,H[q]? =some x:=⟨_,aac (by omega)⟩
 have A1:=hA.other (i:=h) d3 (.int .i64 v)
 have H1:=iH.other (i:=h) d6 (.int .i64 v)
 have P1:=iP.other (i:=h) d7 (.int .i64 v)
 have T1:=iT.set (i:=h) (by omega) (v:Int)
 have F1:=iF.other (i:=h) d10 (.int .i64 v)
 rw[←hw1] at A1 H1 P1 T1 F1
 have A2:=A1.other (i:=h) d2 (.int .i64 q)
 have H2:=H1.other (i:=h) d5 (.int .i64 q)
 have P2:=P1.set (i:=h) (by omega) (q:Int)
 have T2:=T1.other (i:=h) (aaR d7) (.int .i64 q)
 have F2:=F1.other (i:=h) d9 (.int .i64 q)
 rw[←hw2] at A2 H2 P2 T2 F2
 have H3:=H2.set (i:=q) (by omega) (h:Int)
 have P3:=P2.other (i:=q) (aaR d5) (.int .i64 h)
 have T3:=T2.other (i:=q) (aaR d6) (.int .i64 h)
 have F3:=F2.other (i:=q) d8 (.int .i64 h)
 rw[←hw3] at H3 P3 T3 F3
 have H4:=H3.other (i:=u) (aaR d8) (.int .i64 ((q:Int)+1))
 have P4:=P3.other (i:=u) (aaR d9) (.int .i64 ((q:Int)+1))
 have T4:=T3.other (i:=u) (aaR d10) (.int .i64 ((q:Int)+1))
 have F4:=F3.set (i:=u) (by omega) ((q:Int)+1)
 have sM:aC (fun b=>b=gh∨b=gp∨b=gt∨b=gf) w (w3.setCell ⟨gf,u,none⟩ (.int .i64 ((q:Int)+1))):=by
  rw[hw3,hw2,hw1]
  exact((((aC.refl _ w).setCell (.inr (.inr (.inl rfl))) _).setCell (.inr (.inl rfl)) _).setCell (.inl rfl) _).setCell (.inr (.inr (.inr rfl))) _
 have bI:=Nu.hid (And.intro H4 (And.intro P4 (And.intro T4 (And.intro F4 sM))))
 have a4:=hA.c4
 have a3:=A1.c3
 have a2:=A2.c2
 have t0:=iT.cell hx0
 have tf:=iT.free
 have p0:=P1.cell hx1
 have pf:=P1.free
 have f1:=F1.cell hq
 have h0:=H2.cell hx2
 have hf:=H2.free
 have f2:=F2.cell hq
 have f3:=F3.cell hq
 have f3f:=F3.free
 have jE:=Nu.hid hw1
 have jD:=Nu.hid hw2
 have nu:=Nu.hid hw3
 have s1:w1.heap.size=w.heap.size:=by rw[hw1];simp
 have i0:(0:Int)≤(h:Int):=by omega
 have i1:(h:Int)<(M:Int):=by omega
 have i2:(0:Int)≤(u:Int):=by omega
 have i3:(u:Int)<(n:Int):=by omega
 have i4:(0:Int)≤(q:Int):=by omega
 have i5:(q:Int)<(M:Int):=by omega
 clear hA iH iP iT iF A1 H1 P1 T1 F1 A2 H2 P2 T2 F2 H3 P3 T3 F3 H4 P4 T4 F4 sM hw1 hw2 hw3 hx0 hx1 hx2 hq lH lP lT lF d2 d3 d5 d6 d7 d8 d9 d10
 go_enter Tryz.func88,Tryz.ntmps88
 go_wp2_with fail
 rw[←jE.out]
 go_big_region
 rw[←jD.out]
 go_wp2_with fail
 go_big_region
 rw[←nu.out]
 go_wp2
 go_end0
 exact⟨rfl,bI.out.1,bI.out.2.1,bI.out.2.2.1,bI.out.2.2.2.1,bI.out.2.2.2.2.drew.drew⟩
theorem EX {w:World} {g n:Nat} {S:List Int} (h:aF w g S) (hl:S.length=n) (hn:n≤8388608) (hw:∀x∈S,-9223372036854775808≤x∧x≤9223372036854775807):rJ .i64 8 w (some ⟨g,0,none⟩) n n S:=by
 refine .inr ⟨_,rfl,aad _,by omega,hl,fun i hi=> ?_,fun x hx=>WalkArith.wf_i64 (by have:=hw x hx;omega)⟩
 have e:((⟨g,0,none⟩:Addr).add i)=⟨g,i,none⟩:=by
  by_cases h0:i=0<;>simp[Addr.add,h0]
 rw[e]
 exact h.cell (by rw[aai,aac hi];rfl)
set_option maxRecDepth 100000 in
set_option maxHeartbeats 4000000 in
theorem Lq (g n:Nat) (S:List Int) (w:World) (h:aF w g S) (hl:S.length=n) (hn:n≤8388608) (hw:∀x∈S,-9223372036854775808≤x∧x≤9223372036854775807):
 Calls Tryz.prog 87 #[.slice (some ⟨g,0,none⟩) n n] w fun e w'=>∃gf cf,e= .returned (.slice (some ⟨gf,0,none⟩) n cf)∧w.heap.size≤gf∧aF w' gf S∧Below w.heap.size w w':=by
 obtain⟨i0,hi,hz0,hz1,hz2⟩:=info_parts Tryz.bO
 have hr:=EX h hl hn hw
 have HR:=Nu.hid hr
 have hnil:=fun w=>ac9 (P:=Tryz.prog) w 27 3 (some ⟨g,0,none⟩) n n 0 0 Tryz.underlying27
 clear hr h hw
 go_enter Tryz.func87,Tryz.ntmps87
 go_wp2_with (at_builtin;refine EK rfl _ _ 27 rfl 3 .i64 i0 8 Tryz.underlying27 hi hz0 hz1 hz2 (by decide) w (some ⟨g,0,none⟩) n n S rfl rfl HR.out ?_;refine aaB ?_)
 refine Nu.hid ?_
 intro gb c w1 hrow hgb hlt hc hb
 have HX:=Nu.hid hrow
 have HB:=Nu.hid hb
 have HG:=Nu.hid hgb
 clear hrow hb hgb
 go_wp2
 go_ret
 refine⟨gb,c,rfl,HG.out,?_,HB.out⟩
 have:=HX.out
 rw[abk (by simp;omega)] at this
 exact pS this
def Jj (es:List (Int×Int)) (n M:Nat) (w:World) (e:Ending) (w':World):Prop:=
 ∃(gs:Nat) (S:List Int),e= .returned (.slice (some ⟨gs,0,none⟩) n n)∧w.heap.size≤gs∧gs<w'.heap.size∧aF w' gs S∧S.length=n∧(∀v,v<n→S[v]? =some (Cs.st es M v:Int))∧Below w.heap.size w w'
set_option maxRecDepth 100000 in
set_option maxHeartbeats 4000000 in
theorem Gz (es:List (Int×Int)) (gd n M:Nat) (D:List Int) (w:World) (hD:aF w gd D) (hl:D.length=n) (hn:n≤1048576) (hM:M≤8388608) (hd:∀v,v<n→D[v]? =some ((Cs.out es v M).length:Int)) (hf:∀i,i<M→Cs.fr es i<n):
 Calls Tryz.prog 55 #[.slice (some ⟨gd,0,none⟩) n n] w (Jj es n M w):=by
 obtain⟨i0,hi,hz0,hz1,hz2⟩:=info_parts Tryz.bO
 have HD:=Nu.hid hD
 have HDD:=Nu.hid hd
 have HF:=Nu.hid hf
 have hlt:=hD.lt
 clear hD hd hf
 go_enter Tryz.func55,Tryz.ntmps55
 go_wp2_with (at_make;refine wpList_make_full _ rfl _ _ 27 rfl w.heap.size 3 i0 (.int .i64 0) 1 Tryz.underlying27 hi hz0 hz1 _ _ _ _ n rfl rfl rfl rfl (by rw[hz2];omega) (by unfold maxLen;omega) (aad _) ?_;refine aaB ?_)
 refine Nu.hid ?_
 intro w2 hrow hg2
 rw[cD] at hrow
 have hik:=(dy hrow).ins
 have hb2:Below w.heap.size w w2:=(aae _ _).grown hg2 (aad _) (fun j hj=>by cases hj)
 have fX:=Nu.hid hik
 have ct:=Nu.hid hb2
 clear hrow hg2 hik hb2
 go_wp2
 go_loopw [4,11] (fun s c wr=>∃(k:Nat) (S:List Int),k≤n∧c= .int .i64 k∧s= .int .i64 (Cs.st es M k)∧S.length=n∧(∀v,v<k→S[v]? =some (Cs.st es M v:Int))∧aF wr w.heap.size S∧Below w.heap.size w wr) (fun _ c _=>n-(intOf c).toNat)
 case atStart=>exact⟨0,_,aax _,rfl,rfl,by simp,fun v hv=>by omega,fX.out,ct.out⟩
 case round=>
  obtain⟨k,S,hk,rfl,rfl,La,hS,iD,hb⟩:=hrel
  have hsz:=iD.lt
  have HS:=Nu.hid hS
  have HIS:=Nu.hid iD
  have HB:=Nu.hid hb
  by_cases hkn:k<n
  ·have hk0:(0:Int)≤(k:Int):=by omega
   have hk1:(k:Int)<(n:Int):=by omega
   obtain⟨x,hx⟩:∃x,S[k]? =some x:=⟨_,aac (by omega)⟩
   have c0:=iD.cell hx
   have c1:=iD.free
   have n1:=iD.set (i:=k) (by omega) (Cs.st es M k:Int)
   have Po:=Nu.hid n1
   have d1:(wr.setCell ⟨w.heap.size,k,none⟩ (.int .i64 (Cs.st es M k))).cell? ⟨gd,k,none⟩=some (.int .i64 ((Cs.out es k M).length:Int)):=by
    have:=(HD.out.later hb).cell (HDD.out k hkn)
    rw[←this]
    simp[World.cell?,heap_setCell_other wr ⟨w.heap.size,k,none⟩ gd _ (by simp;omega)]
   have JB:=Nu.hid (hb.setCell (p:=⟨w.heap.size,k,none⟩) (aad _) (.int .i64 (Cs.st es M k:Int)))
   have hle:=Cs.Ae HF.out hkn
   have hst:Cs.st es M (k+1)=Cs.st es M k+(Cs.out es k M).length:=rfl
   have HST:=Nu.hid hst
   have hny:∃y,y=(Cs.out es k M).length:=⟨_,rfl⟩
   obtain⟨y,hy⟩:=hny
   have hnz:∃z,z=Cs.st es M k:=⟨_,rfl⟩
   obtain⟨z,hz⟩:=hnz
   have HZ:=Nu.hid hz.symm
   rw[←hy] at d1 hle hst HST
   rw[←hz] at d1 hle hst HST Po JB n1 ⊢
   clear hS iD hb n1 hx hst hy hz
   go_wp2
   go_roundw
   case rel=>
    refine⟨k+1,S.set k z,by omega,by go_num,by rw[HST.out];go_num,by simp[La],fun v hv=> ?_,Po.out,JB.out⟩
    rw[aaq]
    by_cases e:k=v
    ·subst e
     rw[if_pos rfl,if_pos (by omega),HZ.out]
    ·rw[if_neg e]
     exact HS.out v (by omega)
   case measure=>simp[intOf];omega
  ·have hd:¬((k:Int)<(n:Int)):=by omega
   clear hS iD hb
   go_wp2
   go_ret
   exact⟨w.heap.size,S,rfl,aad _,hsz,HIS.out,La,fun v hv=>HS.out v (by omega),HB.out⟩
def EH (es:List (Int×Int)) (n M gh gp gt:Nat) (w:World) (e:Ending) (w':World):Prop:=
 e= .returned (.tuple #[])∧(∃H Pl T F:List Int,Cs.nO es n M M H Pl T F∧aF w' gh H∧aF w' gp Pl∧aF w' gt T)∧aC (fun b=>b=gh∨b=gp∨b=gt) w w'
theorem aC.next {S S':Nat→Prop} {w0 w w':World} (h:aC S w0 w) (k:aC S' w w') (hS:∀b,b<w0.heap.size→S' b→S b):aC S w0 w':=
 ⟨k.os.trans h.os,k.tape.trans h.tape,k.output.trans h.output,abb h.size k.size,fun i hi hn=>(k.block i (aa7 hi h.size) (fun hs=>hn (hS i hi hs))).trans (h.block i hi hn)⟩
def qh (es:List (Int×Int)) (p gd gs gh gp gt gf n M k:Nat) (w:World):Prop:=
 bT w p gd gs gh gp gt n M∧∃H Pl T F:List Int,Cs.nO es n M k H Pl T F∧aF w gh H∧aF w gp Pl∧aF w gt T∧aF w gf F
theorem qh.later {es:List (Int×Int)} {p gd gs gh gp gt gf n M k:Nat} {w w':World} (h:qh es p gd gs gh gp gt gf n M k w) (hb:Below w.heap.size w w'):qh es p gd gs gh gp gt gf n M k w':=by
 obtain⟨hA,H,Pl,T,F,hf,h1,h2,h3,h4⟩:=h
 exact⟨hA.later hb,H,Pl,T,F,hf,h1.later hb,h2.later hb,h3.later hb,h4.later hb⟩
structure Nb (p gh gp gt gf:Nat):Prop where
 d1:p≠gh
 d2:p≠gp
 d3:p≠gt
 d4:p≠gf
 d5:gh≠gp
 d6:gh≠gt
 d7:gp≠gt
 d8:gf≠gh
 d9:gf≠gp
 d10:gf≠gt
theorem Hv (es:List (Int×Int)) (p gd gs gh gp gt gf cf n M k:Nat) (w:World) (hL:qh es p gd gs gh gp gt gf n M k w) (hlt:∀i,i<M→Cs.fr es i<n) (hk:k<M) (hM:M≤8388608) (hd:Nb p gh gp gt gf):
 Calls Tryz.prog 88 #[.pointer (some ⟨p,0,none⟩),.int .i64 k,.int .i64 (Cs.fr es k:Int),.int .i64 (Cs.to es k:Int),.slice (some ⟨gf,0,none⟩) n cf] w fun e w'=>
  e= .returned (.tuple #[])∧qh es p gd gs gh gp gt gf n M (k+1) w'∧aC (fun b=>b=gh∨b=gp∨b=gt∨b=gf) w w':=by
 obtain⟨hA,H,Pl,T,F,hf,h1,h2,h3,h4⟩:=hL
 refine(OS p gd gs gh gp gt gf cf n M H Pl T F k (Cs.fr es k) (Cs.to es k) (Cs.pos es M k) w hA h1 h2 h3 h4 hf.lH hf.lP hf.lT hf.lF hk (hlt k hk) (hf.at (hlt k hk)) (Cs.Mp hlt hk) hM hd.d2 hd.d3 hd.d5 hd.d6 hd.d7 hd.d8 hd.d9 hd.d10).mono ?_
 rintro e w' ⟨he,k1,k2,k3,k4,hw⟩
 refine⟨he,⟨hA.wrote hw (fun h=> ?_),_,_,_,_,hf.step hlt hk,k1,k2,k3,k4⟩,hw⟩
 rcases h with h|h|h|h
 ·exact hd.d1 h
 ·exact hd.d2 h
 ·exact hd.d3 h
 ·exact hd.d4 h
set_option maxRecDepth 100000 in
set_option maxHeartbeats 8000000 in
theorem OI (es:List (Int×Int)) (ao:Option Addr) (cap p gd gs gh gp gt n M:Nat) (S H Pl T:List Int) (w0 w:World) (hv:Si.Val n es) (hM:M=2*es.length) (he:aQ w0 ao es) (hb:Below w0.heap.size w0 w)
 (hA:bT w p gd gs gh gp gt n M) (iS:aF w gs S) (iH:aF w gh H) (iP:aF w gp Pl) (iT:aF w gt T) (lS:S.length=n) (hS:∀v,v<n→S[v]? =some (Cs.st es M v:Int)) (lH:H.length=M) (lP:Pl.length=M) (lT:T.length=M)
 (b1:w0.heap.size≤gh) (b2:w0.heap.size≤gp) (b3:w0.heap.size≤gt) (d1:p≠gh) (d2:p≠gp) (d3:p≠gt) (d5:gh≠gp) (d6:gh≠gt) (d7:gp≠gt):
 Calls Tryz.prog 56 #[.pointer (some ⟨p,0,none⟩),.slice ao es.length cap] w (EH es n M gh gp gt w):=by
 have cj:=hv.few
 have hhi:=hv.hi
 have hlt:∀i,i<M→Cs.fr es i<n:=fun i hi=>(Cs.bH hv (by omega)).1
 have hwf:∀x∈S,-9223372036854775808≤x∧x≤9223372036854775807:=fun x hx=>by
  obtain⟨v,hv',rfl⟩:=List.getElem_of_mem hx
  have h1:=hS v (by omega)
  rw[aac hv'] at h1
  have h2:=Cs.Ae (v:=v) hlt (by omega)
  have h3:=aak h1
  omega
 have hcl:=Lq gs n S w iS lS (by omega) hwf
 have Ge:=Nu.hid hcl
 have a1:=hA.c1
 have s1:=iH.lt
 have s2:=iP.lt
 have s3:=iT.lt
 have s4:=hA.lt
 have HV:=Nu.hid hv
 have vW:=Nu.hid hlt
 have HE:=Nu.hid he
 have HB:=Nu.hid hb
 have hF0:Cs.nO es n M 0 H Pl T S:=⟨lH,lP,lT,lS,fun i hi=>by omega,fun i hi=>by omega,fun i hi=>by omega,fun v hv=>by rw[hS v hv];simp[Cs.out]⟩
 have HPD:Hid (∀gf,w.heap.size≤gf→Nb p gh gp gt gf):=fun gf hgf=>⟨d1,d2,d3,by omega,d5,d6,d7,by omega,by omega,by omega⟩
 have Pq:Hid (∀gf w2,Below w.heap.size w w2→aF w2 gf S→qh es p gd gs gh gp gt gf n M 0 w2):=fun gf w2 hb hi=>⟨hA.later hb,H,Pl,T,S,hF0,iH.later hb,iP.later hb,iT.later hb,hi⟩
 clear hcl hv hlt he hb hA hF0 iS iH iP iT hS hwf lH lP lT lS d1 d2 d3 d5 d6 d7
 go_enter Tryz.func56,Tryz.ntmps56
 go_wp2_with (go_at_call 87;refine Ge.out.mono ?_;rintro e w2 ⟨gf,cf,rfl,hgf,hfi,hb2⟩;refine aaB ?_)
 refine Nu.hid ?_
 have ct:=Nu.hid hb2
 have jU:=Nu.hid (Pq.out gf w2 hb2 hfi)
 have HPG:=Nu.hid (HPD.out gf hgf)
 have hgs:=hfi.lt
 clear hb2 hfi Ge
 go_wp2
 go_loopw [14] (fun c wr=>∃k:Nat,k≤es.length∧c= .int .i64 k∧qh es p gd gs gh gp gt gf n M (2*k) wr∧aC (fun b=>b=gh∨b=gp∨b=gt) w wr) (fun c _=>es.length-(intOf c).toNat)
 case atStart=>exact⟨0,aax _,rfl,jU.out,(aC.refl _ _).later ct.out⟩
 case round=>
  obtain⟨k,hk,rfl,Ij,hwr⟩:=hrel
  have agJ:=Nu.hid Ij
  have m8:=Nu.hid hwr
  by_cases hlt:k<es.length
  ·have lV:(k:Int)<(es.length:Int):=by omega
   have hk0:(0:Int)≤(k:Int):=by omega
   obtain⟨q,hq⟩:∃q,es[k]? =some q:=⟨_,aac hlt⟩
   have hb3:Below w0.heap.size w0 wr:=HB.out.trans (hwr.below HB.out.size (fun b hb=>by rcases hb with rfl|rfl|rfl<;>assumption))
   obtain⟨b,o,rfl,c0,c1⟩:=(HE.out.later hb3) k q hq
   have hbl:b<wr.heap.size:=block_lt_of_cell c0
   have hok:=HV.out.each k q hq
   unfold Si.ok at hok
   obtain⟨qu,qv⟩:=q
   dsimp only at c0 c1 hok
   obtain⟨u,rfl⟩:∃u:Nat,qu=(u:Int):=⟨qu.toNat,by omega⟩
   obtain⟨v,rfl⟩:∃v:Nat,qv=(v:Int):=⟨qv.toNat,by omega⟩
   obtain⟨e1,e2⟩:=Cs.iY hq
   obtain⟨e3,e4⟩:=Cs.nH hq
   dsimp only[Int.toNat_natCast] at e1 e2 e3 e4
   have qY:=Hv es p gd gs gh gp gt gf cf n M (2*k) _ (Ij.later ((aae _ _).alloc (aad _) (.cells #[.int .i64 u,.int .i64 v] 33))) vW.out (by omega) (by omega) HPG.out
   rw[e1,e2,show((2*k:Nat):Int)=2*(k:Int) by omega] at qY
   have hl2:=fun W hW=>Hv es p gd gs gh gp gt gf cf n M (2*k+1) W hW vW.out (by omega) (by omega) HPG.out
   rw[e3,e4,show((2*k+1:Nat):Int)=2*(k:Int)+1 by omega] at hl2
   have Ub:=Nu.hid qY
   have Y8:=Nu.hid hl2
   have hnew:(wr.alloc (.cells #[.int .i64 u,.int .i64 v] 33)).heap[wr.heap.size]? =some (.cells #[.int .i64 u,.int .i64 v] 33 (0,0)):=heap_alloc_new wr _
   have hsw:=hwr.size
   have hpf:=HPG.out
   have Ym:gf<wr.heap.size:=by
    obtain⟨_,_,_,_,_,_,_,_,_,h4⟩:=Ij
    exact h4.lt
   have Ju:Hid (¬(wr.heap.size=gh∨wr.heap.size=gp∨wr.heap.size=gt∨wr.heap.size=gf)):=by
    show ¬_
    omega
   have nM:=Nu.hid hnew
   clear qY hl2 Ij hwr hb3 hok hq hnew hpf
   go_wp2_with (go_at_call 88;refine Ub.out.mono ?_;rintro e w3 ⟨rfl,Rp,hw3⟩;refine aaB ?_)
   refine Nu.hid ?_
   have hn3:=(hw3.block wr.heap.size (by simp) Ju.out).trans nM.out
   obtain⟨x0,x1,-⟩:=ay hn3
   have Y7:=Nu.hid (Y8.out w3 Rp)
   have nu:=Nu.hid (((m8.out.alloc _).next hw3 (fun b hb h=>by rcases h with h|h|h|h;exact .inl h;exact .inr (.inl h);exact .inr (.inr h);omega)))
   have hs3:=hw3.size
   have alk:=lt_of_block hn3
   clear hw3 Rp hn3 Ub Y8 nM
   go_wp2_with (go_at_call 88;refine Y7.out.mono ?_;rintro e w4 ⟨rfl,Ro,hw4⟩;refine aaB ?_)
   refine Nu.hid ?_
   have om:=Nu.hid (nu.out.next hw4 (fun b hb h=>by rcases h with h|h|h|h;exact .inl h;exact .inr (.inl h);exact .inr (.inr h);omega))
   have HL4:=Nu.hid Ro
   clear hw4 Ro Y7
   go_wp2
   go_roundw
   case rel=>exact⟨k+1,by omega,by go_num,HL4.out,om.out⟩
   case measure=>simp[intOf];omega
  ·have hd:¬((k:Int)<(es.length:Int)):=by omega
   obtain rfl:k=es.length:=by omega
   clear Ij hwr
   go_wp2
   go_end0
   obtain⟨_,H1,P1,T1,F1,hf,i1,i2,i3,_⟩:=agJ.out
   rw[hM] at hf
   exact⟨rfl,⟨H1,P1,T1,F1,hf,i1,i2,i3⟩,m8.out⟩
end
section
open Go.RowKit
namespace Si
theorem vH (l:List Int) (v:Int):(jQ l v).length=l.length:=by simp[jQ]
theorem BP (n:Int) (es:List (Int×Int)) (p:Int×Int):jz n (es++[p])=jQ (jQ (jz n es) p.1) p.2:=by simp[jz]
theorem p5 (n:Int) (es:List (Int×Int)):(jz n es).length=n.toNat:=by
 unfold jz
 suffices h:∀(es:List (Int×Int)) (l:List Int),(es.foldl (fun l e=>jQ (jQ l e.1) e.2) l).length=l.length by rw[h];simp
 intro es
 induction es with
 |nil=>intro l;rfl
 |cons e es ih=>intro l;rw[List.foldl_cons,ih,vH,vH]
def Ca (m:Int) (l:List Int):Prop:=∀(j:Nat) (x:Int),l[j]? =some x→0≤x∧x≤m
theorem Ca.jQ {m:Int} {l:List Int} (h:Ca m l) (v:Int):Ca (m+1) (jQ l v):=by
 intro j x hx
 unfold Si.jQ at hx
 rw[aaq] at hx
 by_cases hv:v.toNat=j
 ·rw[if_pos hv] at hx
  split at hx
  ·cases hx
   rename_i hl
   have e:l[v.toNat]? =some l[v.toNat]:=aac hl
   have:=h _ _ e
   rw[aai,e]
   dsimp only[Option.getD_some]
   omega
  ·cases hx
 ·rw[if_neg hv] at hx
  have:=h j x hx
  omega
theorem Ln (n:Int) (es:List (Int×Int)):Ca (2*es.length) (jz n es):=by
 unfold jz
 suffices h:∀(es:List (Int×Int)) (l:List Int) (m:Int),Ca m l→Ca (m+2*es.length) (es.foldl (fun l e=>Si.jQ (Si.jQ l e.1) e.2) l) by
  have:=h es (List.replicate n.toNat 0) 0 (fun j x hx=>by
   rw[aaI] at hx
   split at hx
   ·cases hx;omega
   ·cases hx)
  simpa using this
 intro es
 induction es with
 |nil=>intro l m h;simpa using h
 |cons e es ih=>
  intro l m h
  have:=ih _ _ ((h.jQ e.1).jQ e.2)
  rw[List.foldl_cons]
  have e1:m+2*((e::es).length:Int)=m+1+1+2*(es.length:Int):=by simp;omega
  rw[e1]
  exact this
end Si
end
section
namespace Si
theorem Au:∀(l:List (Int×Int)) (e:Int×Int),l.Pairwise lt→(put l e).length=if e∈l then l.length else l.length+1
 |[],e,_=>by simp[put]
 |y::l,e,h=>by
  rw[aa4] at h
  unfold put
  split
  ·rename_i hye
   have hne:e≠y:=(ZX hye).symm
   rw[aar,Au l e h.2]
   by_cases hm:e∈l
   ·simp[hm]
   ·simp[hm,hne]
  ·split
   ·rename_i h2
    subst h2
    simp
   ·rename_i h1 h2
    have Vv:lt e y:=by
     rcases N6 y e with a|a|a
     ·exact absurd a h1
     ·exact absurd a h2
     ·exact a
    have hn:e∉y::l:=fun hm=>by
     rcases aaj.1 hm with a|a
     ·exact h2 a.symm
     ·exact lt_asymm Vv (h.1 e a)
    rw[if_neg hn]
    simp
theorem Ab {ps:List (Int×Int)} {k:Nat} {p:Int×Int} (h:ps[k]? =some p):ps.take (k+1)=ps.take k++[p]:=by
 have hl:k<ps.length:=(aas.1 h).1
 rw[List.take_succ_eq_append_getElem hl]
 rw[aac hl] at h
 cases h
 rfl
end Si
end
section
open Go.RowKit Go.Sort
def UG (n:Int) (es:List (Int×Int)) (w:World) (e:Ending) (w':World):Prop:=
 ((Si.valid n es=true∧∃g m:Nat,n=(m:Int)∧e= .returned (.tuple #[.slice (some ⟨g,0,none⟩) m m,.int .i64 0])∧w.heap.size≤g∧aq w' g (Si.jz n es))∨(Si.valid n es=false∧e= .returned (.tuple #[.slice none 0 0,.int .i64 1])))∧Below w.heap.size w w'
theorem Si.vI {l:List Int} {u:Nat} {x:Int} (h:l[u]? =some x):Si.jQ l (u:Int)=l.set u (x+1):=by
 unfold Si.jQ
 rw[aaF,aai,h]
 rfl
set_option maxRecDepth 100000 in
set_option maxHeartbeats 8000000 in
theorem FN (n:Int) (ao:Option Addr) (cap:Nat) (es:List (Int×Int)) (w:World) (he:aQ w ao es) (hl:es.length≤4611686018427387904):
 Calls Tryz.prog 54 #[bX n ao es.length cap] w (UG n es w):=by
 obtain⟨i0,hi,hz0,hz1,hz2⟩:=info_parts Tryz.bO
 have HE:=Nu.hid he
 have hva:=fun W (hb:Below w.heap.size w W)=>JK n ao cap es W (he.later hb) hl
 unfold bX at hva ⊢
 have LY:=Nu.hid hva
 clear he hva
 have Ef:Below w.heap.size w (w.alloc (.cells #[.int .i64 n,.slice ao es.length cap] 24)):=(aae _ _).alloc (aad _) _
 have rP:=Nu.hid Ef
 clear Ef
 cases hv:Si.valid n es with
 |false=>
  rw[hv] at LY
  have HV:=Nu.hid hv
  clear hv
  go_enter Tryz.func54,Tryz.ntmps54
  go_wp2_with (go_at_call 86;refine(LY.out _ rP.out).mono ?_;rintro e w' ⟨rfl,hb⟩;refine aaB ?_)
  refine Nu.hid ?_
  have HB:=Nu.hid (rP.out.trans (hb.mono rP.out.size))
  clear hb
  go_wp2
  go_ret2
  exact⟨.inr ⟨HV.out,rfl⟩,HB.out⟩
 |true=>
  rw[hv] at LY
  have hval:=Si.bL.1 hv
  have cj:=hval.few
  have hlo:=hval.lo
  have hhi:=hval.hi
  obtain⟨m,rfl⟩:∃m:Nat,n=(m:Int):=⟨n.toNat,by omega⟩
  have m9:=Nu.hid hval
  have HV:=Nu.hid hv
  clear hval hv
  go_enter Tryz.func54,Tryz.ntmps54
  go_wp2_with (go_at_call 86;refine(LY.out _ rP.out).mono ?_;rintro e w' ⟨rfl,hb⟩;refine aaB ?_)
  refine Nu.hid ?_
  have hG:w'.heap[w.heap.size]? =some (.cells #[.int .i64 m,.slice ao es.length cap] 24 (0,0)):=(hb.block _ (by simp)).trans (heap_alloc_new w _)
  have HB:=Nu.hid (rP.out.trans (hb.mono rP.out.size))
  have QL:=lt_of_block hG
  obtain⟨g0,g1,-⟩:=ay hG
  clear hb hG
  go_wp2_with (at_make;refine wpList_make_full _ rfl _ _ 27 rfl w'.heap.size 3 i0 (.int .i64 0) 1 Tryz.underlying27 hi hz0 hz1 _ _ _ _ m rfl rfl rfl rfl (by rw[hz2];omega) (by unfold maxLen;omega) (aad _) ?_;refine aaB ?_)
  refine Nu.hid ?_
  intro w2 hrow hg2
  rw[cD] at hrow
  have hik:=dy hrow
  have hb2:Below w'.heap.size w' w2:=(aae _ _).grown hg2 (aad _) (fun j hj=>by cases hj)
  have ct:=Nu.hid (HB.out.trans (hb2.mono HB.out.size))
  have k1:=(hb2.cell (p:=⟨w.heap.size,1,none⟩) QL).trans g1
  have hs2:w'.heap.size<w2.heap.size:=hik.lt
  have Uf:Hid (aq w2 w'.heap.size (Si.jz m [])):=by
   show aq _ _ _
   have:Si.jz m []=List.replicate m 0:=by simp[Si.jz]
   rw[this]
   exact hik
  have hwg:w.heap.size≤w'.heap.size:=by omega
  have ak6:w.heap.size<w2.heap.size:=by omega
  clear hrow hg2 hb2 hik g0 g1
  go_wp2
  go_loopw [16] (fun c wr=>∃(k:Nat) (l:List Int),k≤es.length∧c= .int .i64 k∧l=Si.jz m (es.take k)∧aq wr w'.heap.size l∧Below w.heap.size w wr) (fun c _=>es.length-(intOf c).toNat)
  case atStart=>exact⟨0,_,aax _,rfl,by simp,Uf.out,ct.out⟩
  case round=>
   obtain⟨k,l,hk,rfl,hl0,hik,hb⟩:=hrel
   have hsw:=hik.lt
   have hs0:=hb.size
   have eK:l.length=m:=by rw[hl0,Si.p5];simp
   have eP:Si.Ca (2*k) l:=by
    rw[hl0]
    have:=Si.Ln m (es.take k)
    have e:(es.take k).length=k:=by simp;omega
    rw[e] at this
    exact this
   have agT:=Nu.hid hik
   have dm:=Nu.hid hb
   have Pq:=Nu.hid hl0
   clear hl0
   by_cases hlt:k<es.length
   ·have lV:(k:Int)<(es.length:Int):=by omega
    have hk0:(0:Int)≤(k:Int):=by omega
    obtain⟨p,hp⟩:∃p,es[k]? =some p:=⟨_,aac hlt⟩
    obtain⟨b,o,rfl,c0,c1⟩:=(HE.out.later hb) k p hp
    have hbl:b<wr.heap.size:=block_lt_of_cell c0
    have l9:Si.jz m (es.take (k+1))=Si.jQ (Si.jQ l p.1) p.2:=by rw[Si.Ab hp,Si.BP,←Pq.out]
    have hok:=m9.out.each k p hp
    unfold Si.ok at hok
    obtain⟨pu,pv⟩:=p
    dsimp only at c0 c1 l9 hok
    obtain⟨u,rfl⟩:∃u:Nat,pu=(u:Int):=⟨pu.toNat,by omega⟩
    obtain⟨v,rfl⟩:∃v:Nat,pv=(v:Int):=⟨pv.toNat,by omega⟩
    obtain⟨x,hx⟩:∃x,l[u]? =some x:=⟨_,aac (by omega)⟩
    obtain⟨y,hy⟩:∃y,l[v]? =some y:=⟨_,aac (by omega)⟩
    have hxb:=eP u x hx
    have hyb:=eP v y hy
    have hne:u≠v:=by omega
    have XI:Si.jz m (es.take (k+1))=(l.set u (x+1)).set v (y+1):=by
     rw[l9,Si.vI hx,Si.vI (x:=y) (by rw[aaq,if_neg hne];exact hy)]
    have mo:=Nu.hid XI
    have hcx:=hik.cell hx
    have hcy:=hik.cell hy
    have hfr:=hik.free
    have hi1:=hik.set u (x+1)
    have alo:=hi1.cell (i:=v) (x:=y) (by rw[aaq,if_neg hne];exact hy)
    have alm:=hi1.free
    have fX:=Nu.hid ((hi1.set v (y+1)).alloc (.cells #[.int .i64 u,.int .i64 v] 33))
    have u0:(0:Int)≤(u:Int):=by omega
    have v0:(0:Int)≤(v:Int):=by omega
    have um:(u:Int)<(m:Int):=by omega
    have vm:(v:Int)<(m:Int):=by omega
    clear l9 XI eP hok hx hy hb hik hi1 hp
    go_wp2
    go_roundw
    case rel=>exact⟨k+1,_,by omega,by go_num,mo.out.symm,fX.out,((dm.out.setCell (by simp;omega) _).setCell (by simp;omega) _).alloc (by simp;omega) _⟩
    case measure=>simp[intOf];omega
   ·have hd:¬((k:Int)<(es.length:Int)):=by omega
    have hle:l=Si.jz m es:=by rw[Pq.out,abk (by omega)]
    have Dw:=Nu.hid hle
    clear hle hb hik eP
    go_wp2
    go_ret2
    refine⟨.inl ⟨HV.out,w'.heap.size,m,rfl,rfl,hwg,?_⟩,dm.out⟩
    rw[←Dw.out]
    exact agT.out
end
section
open Go.RowKit
theorem Cs.OO {n:Nat} {es:List (Int×Int)} (hv:Si.Val n es):∀k,k≤es.length→∀v,v<n→(Si.jz n (es.take k))[v]? =some ((Cs.out es v (2*k)).length:Int):=by
 intro k
 induction k with
 |zero=>intro _ v hv;simp[Si.jz,Cs.out,hv]
 |succ k ih=>
  intro hk v dh
  obtain⟨q,hq⟩:∃q,es[k]? =some q:=⟨_,aac (by omega)⟩
  have hok:=hv.each k q hq
  unfold Si.ok at hok
  obtain⟨qu,qv⟩:=q
  dsimp only at hok
  obtain⟨a,rfl⟩:∃u:Nat,qu=(u:Int):=⟨qu.toNat,by omega⟩
  obtain⟨b,rfl⟩:∃v:Nat,qv=(v:Int):=⟨qv.toNat,by omega⟩
  obtain⟨e1,-⟩:=Cs.iY hq
  obtain⟨e3,-⟩:=Cs.nH hq
  dsimp only[Int.toNat_natCast] at e1 e3
  have h1:=ih (by omega) a (by omega)
  have h2:=ih (by omega) b (by omega)
  rw[Si.Ab hq,Si.BP]
  have hne:a≠b:=by omega
  rw[Si.vI h1,Si.vI (x:=((Cs.out es b (2*k)).length:Int)) (by rw[aaq,if_neg hne];exact h2)]
  have e:2*(k+1)=2*k+1+1:=by omega
  have hl:=Si.p5 n (es.take k)
  rw[e,Cs.gF,Cs.gF,e1,e3,aaq]
  by_cases hb:b=v
  ·subst hb
   rw[if_pos rfl,if_pos (by simp;omega),if_neg hne,if_pos rfl]
   congr 1
  ·rw[if_neg hb,if_neg hb,aaq]
   by_cases ha:a=v
   ·subst ha
    rw[if_pos rfl,if_pos (by omega),if_pos rfl]
    congr 1
   ·rw[if_neg ha,if_neg ha,ih (by omega) v dh]
    rfl
end
end Go.Proofs.YtdjmnpmdmjclhabGreat
