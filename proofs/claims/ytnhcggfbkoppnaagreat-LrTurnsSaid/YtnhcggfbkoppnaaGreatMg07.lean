import Derived.Test.YtnhcggfbkoppnaaGreatMg06
import Derived.Test.YtnhcggfbkoppnaaGreatMg02
import Derived.Test.YtnhcggfbkoppnaaGreatMg05
namespace Go.Proofs.YtnhcggfbkoppnaaGreat
section
open Go.RowKit
structure Full (w0 w:World) (p gp gb:Nat) (av:Value) (f:For) (s:Df.St) (n:Nat) (P E:List Int):Prop where
 rd:aO w0 w p av f s (.slice (some ⟨gp,0,none⟩) n n) (.slice (some ⟨gb,0,none⟩) n n)
 ip:aq w gp P
 ib:aq w gb E
 lp:P.length=n
 le:E.length=n
section
variable {w0 w:World} {p gp gb:Nat} {av:Value} {f:For} {s:Df.St} {n:Nat} {es:List (Int×Int)} {P E:List Int}
theorem Full.later {w':World} (h:Full w0 w p gp gb av f s n P E) (hb:Below w.heap.size w w'):Full w0 w' p gp gb av f s n P E:=⟨h.rd.later hb,h.ip.later hb,h.ib.later hb,h.lp,h.le⟩
set_option maxRecDepth 100000 in
set_option maxHeartbeats 8000000 in
theorem Gf (u v:Nat) (h:Full w0 w p gp gb av f s n P E) (hu:u<n) (hv:v<n):
 Calls Tryz.prog 166 #[.pointer (some ⟨p,0,none⟩),.int .i64 (u:Int),.int .i64 (v:Int)] w (jv (Df.at_ P u≤Df.at_ P v∧Df.at_ P v<Df.at_ E u) w):=by
 have c5:=h.rd.c5
 have c6:=h.rd.c6
 have d1:=h.ip.cell (cP (-1) (by rw[h.lp];exact hu:u<P.length))
 have d2:=h.ip.cell (cP (-1) (by rw[h.lp];exact hv:v<P.length))
 have d3:=h.ib.cell (cP (-1) (by rw[h.le];exact hu:u<E.length))
 obtain⟨x,hx⟩:∃x,P.getD u (-1)=x:=⟨_,rfl⟩
 obtain⟨y,hy⟩:∃y,P.getD v (-1)=y:=⟨_,rfl⟩
 obtain⟨z,hz⟩:∃z,E.getD u (-1)=z:=⟨_,rfl⟩
 rw[hx] at d1
 rw[hy] at d2
 rw[hz] at d3
 have HQ:Hid ((Df.at_ P u≤Df.at_ P v∧Df.at_ P v<Df.at_ E u)↔(x≤y∧y<z)):=by
  show(P.getD u (-1)≤P.getD v (-1)∧P.getD v (-1)<E.getD u (-1))↔_
  rw[hx,hy,hz]
 have u0:(0:Int)≤(u:Int):=by omega
 have u1:(u:Int)<(n:Int):=by omega
 have v0:(0:Int)≤(v:Int):=by omega
 have v1:(v:Int)<(n:Int):=by omega
 by_cases hxy:x≤y
 ·by_cases hyz:y<z
  ·have HR:=Nu.hid (And.intro hxy hyz)
   clear h hx hy hz
   go_enter Tryz.func166,Tryz.ntmps166
   go_wp2_with fail
   go_quiet (fail)
   go_wp2
   go_ret
   exact⟨true,rfl,by rw[HQ.out];exact⟨fun _=>HR.out,fun _=>rfl⟩,below_drewN (Below.refl _ _) _⟩
  ·have hd:decide (y<z)=false:=by simp only[decide_eq_false_iff_not];exact hyz
   have HR:=Nu.hid hyz
   clear h hx hy hz hyz
   go_enter Tryz.func166,Tryz.ntmps166
   go_wp2_with fail
   go_quiet (fail)
   go_wp2
   go_ret
   exact⟨false,rfl,by rw[HQ.out];exact⟨fun h=>(by cases h),fun h=>(by have h1:=HR.out;have h2:=h.2;omega)⟩,below_drewN (Below.refl _ _) _⟩
 ·have hd:decide (x≤y)=false:=by simp only[decide_eq_false_iff_not];exact hxy
  have HR:=Nu.hid hxy
  clear h hx hy hz hxy
  go_enter Tryz.func166,Tryz.ntmps166
  go_wp2_with fail
  go_quiet (fail)
  go_wp2
  go_ret
  exact⟨false,rfl,by rw[HQ.out];exact⟨fun h=>(by cases h),fun h=>(by have h1:=HR.out;have h2:=h.1;omega)⟩,below_drewN (Below.refl _ _) _⟩
end

end
section
open Go.RowKit
section
variable {w0 w:World} {p gp gb:Nat} {av:Value} {f:For} {s:Df.St} {n:Nat} {es:List (Int×Int)} {P E:List Int}
set_option maxRecDepth 100000 in
set_option maxHeartbeats 16000000 in
theorem p7 (aX:cE w0 av n es) (hF:dF w0 f s) (hL:Df.sN n es s) (h:Full w0 w p gp gb av f s n P E)
 (hab:∀u v,u<n→v<n→((Df.at_ P u≤Df.at_ P v∧Df.at_ P v<Df.at_ E u)↔Df.bP es s u v)):
 Calls Tryz.prog 156 #[.pointer (some ⟨p,0,none⟩)] w (jv (∀e,e<es.length→Df.rG es s e) w):=by
 obtain⟨CG,lX⟩:=aX.bounds
 obtain⟨l1,l2,l3,l4⟩:=hL
 obtain⟨a1,a2,a3,a4,k1,k2,k3,k4⟩:=f
 have j5:∃q,av= .pointer q:=by
  rcases aX with ⟨h,_⟩|⟨_,p,h,_⟩
  ·exact⟨_,h⟩
  ·exact⟨_,h⟩
 obtain⟨qa,rfl⟩:=j5
 have c4:=h.rd.c4
 dsimp only at c4
 rw[l4] at c4
 obtain⟨m,hm⟩:∃m,es.length=m:=⟨_,rfl⟩
 rw[hm] at c4 lX l4
 have HH:=Nu.hid h
 have cQ:=Nu.hid aX
 have HF:=Nu.hid hF
 have HAB:=Nu.hid hab
 have HM:=Nu.hid hm
 rw[hm]
 clear aX hF h hab hm
 go_enter Tryz.func156,Tryz.ntmps156
 go_wp2_with fail
 go_loopw [13] (fun c wr=>∃k:Nat,k≤m∧c= .int .i64 k∧(∀e,e<k→Df.rG es s e)∧Below w.heap.size w wr) (fun c _=>m-(intOf c).toNat)
 case atStart=>exact⟨0,Nat.zero_le _,rfl,fun e he=>absurd he (Nat.not_lt_zero _),Below.refl _ _⟩
 case round=>
  obtain⟨k,hk,rfl,hdone,kN⟩:=hrel
  have hf:=HH.out.later kN
  have VN:=Nu.hid hdone
  have l8:=Nu.hid kN
  by_cases hlt:k<m
  ·have oA:(k:Int)<(m:Int):=by omega
   have hk0:(0:Int)≤(k:Int):=by omega
   obtain⟨b4,o4,e4,d4⟩:=bZ (HF.out.later hf.rd.aI).l4 (i:=k) (by omega)
   dsimp only at e4
   subst e4
   obtain⟨x,hx⟩:∃x,s.aJ.getD k (-1)=x:=⟨_,rfl⟩
   rw[hx] at d4
   have HX:Hid (Df.at_ s.aJ k=x):=hx
   have hmw:IntKind.i64.wrap (2*(k:Int))=2*(k:Int):=by rw[IntKind.wrap_i64];omega
   have ajU:IntKind.i64.wrap (2*(k:Int)+1)=2*(k:Int)+1:=by rw[IntKind.wrap_i64];omega
   by_cases Kq:x=2*(k:Int)∨x=2*(k:Int)+1
   ·obtain⟨j,rfl⟩:∃j:Nat,x=(j:Int):=⟨x.toNat,by omega⟩
    have hj:j=2*k∨j=2*k+1:=by omega
    have hjl:j<2*es.length:=by rw[HM.out];omega
    have hval:=cQ.out.val hjl
    obtain⟨hfl,AB⟩:=Cs.bH hval hjl
    have jO:Hid (∀V,Below wr.heap.size wr V→Calls Tryz.prog 113 #[.pointer qa,.int .i64 (j:Int)] V fun r V'=>r= .returned (.int .i64 (Cs.fr es j:Int))∧V'=V):=by
     intro V hV
     have:=j8 (.pointer qa) n es j V (cQ.out.later (hf.later hV).rd.aI)
     rw[Cs.jI hjl] at this
     exact this
    have jx:Hid (∀V,Below wr.heap.size wr V→Calls Tryz.prog 114 #[.pointer qa,.int .i64 (j:Int)] V fun r V'=>r= .returned (.int .i64 (Cs.to es j:Int))∧V'=V):=by
     intro V hV
     have:=lQ (.pointer qa) n es j V (cQ.out.later (hf.later hV).rd.aI)
     rw[Cs.kB hjl] at this
     exact this
    obtain⟨a,ha⟩:∃a,Cs.fr es j=a:=⟨_,rfl⟩
    obtain⟨b,hb⟩:∃b,Cs.to es j=b:=⟨_,rfl⟩
    rw[ha] at hfl jO
    rw[hb] at AB jx
    have hHB:=HAB.out b a AB hfl
    obtain⟨b1,o1,e1,d1⟩:=bZ (HF.out.later hf.rd.aI).l1 (i:=b) (by omega)
    dsimp only at e1
    subst e1
    obtain⟨y,hy⟩:∃y,s.par.getD b (-1)=y:=⟨_,rfl⟩
    rw[hy] at d1
    have HE:Hid (Df.rG es s k↔(y=(j:Int)∨Df.bP es s b a)):=by
     constructor
     ·rintro⟨h,h1,h2,h3⟩
      obtain rfl:h=j:=by rw[HX.out] at h2;omega
      rw[ha,hb] at h3
      have:Df.at_ s.par b=y:=hy
      rw[this] at h3
      exact h3
     ·intro h3
      refine⟨j,hj,HX.out,?_⟩
      rw[ha,hb]
      have:Df.at_ s.par b=y:=hy
      rw[this]
      exact h3
    have hc1:=hf.rd.c1
    have hc0:=hf.rd.c0
    dsimp only at hc1
    rw[l1] at hc1
    have VP:Hid (∀W k,W=wr.drewN k→W.cell? ⟨p,1,none⟩=some (.slice (some ⟨b1,o1,none⟩) n k1)∧W.cell? ⟨b1,o1+b,none⟩=some (.int .i64 y)∧Below wr.heap.size wr W):=fun W k hW=>by subst hW;exact⟨hc1,d1,below_drewN (Below.refl _ _) _⟩
    have HAV:Hid (∀V,Below wr.heap.size wr V→Calls Tryz.prog 166 #[.pointer (some ⟨p,0,none⟩),.int .i64 (b:Int),.int .i64 (a:Int)] V (jv (Df.bP es s b a) V)):=fun V hV=>by
     have:=Gf b a (hf.later hV) AB hfl
     rw[hHB] at this
     exact this
    have hb0:(0:Int)≤(b:Int):=by omega
    have hb1:(b:Int)<(n:Int):=by omega
    have HYJ:Hid (y=(j:Int)∨y≠(j:Int)):=Classical.em _
    have Ln:Hid (Df.rG es s k→∀e,e<k+1→Df.rG es s e):=fun h e he=>by
     by_cases wN:e<k
     ·exact VN.out e wN
     ·obtain rfl:e=k:=by omega
      exact h
    have tg:((j:Int) != 2*(k:Int))=false∨(((j:Int) != 2*(k:Int))=true∧((j:Int) != 2*(k:Int)+1)=false):=by
     rcases hj with hj|hj
     ·left;simp;omega
     ·right;constructor
      ·simp;omega
      ·simp;omega
    clear hf hval hjl ha hb hx hy hHB hfl AB hc1 d1 Kq hj hdone kN
    rcases tg with tg|⟨tg,tg1⟩
    all_goals
     go_wp2_with fail
     go_quiet ((first
      |(go_at_call 113;exact Calls.quiet_of_same (jO.out _ (below_drewN (Below.refl _ _) _)))
      |(go_at_call 114;exact Calls.quiet_of_same (jx.out _ (below_drewN (Below.refl _ _) _)))))
     obtain⟨W,hW⟩:∃W,W=wr.drewN nq:=⟨_,rfl⟩
     rw[←hW]
     obtain⟨z1,z2,dU⟩:=VP.out W nq hW
     have jP:=Nu.hid dU
     clear hW dU
     rcases HYJ.out with J6|J6
     ·have t1:(y != (j:Int))=false:=by simp[J6]
      have HY:=Nu.hid J6
      clear J6
      go_wp2
      go_roundw
      case rel=>exact⟨k+1,by omega,by go_num,Ln.out (HE.out.2 (.inl HY.out)),l8.out.trans (jP.out.mono l8.out.size)⟩
      case measure=>simp[intOf];omega
     ·have t1:(y != (j:Int))=true:=by simp[J6]
      have HY:=Nu.hid J6
      clear J6
      go_wp2_with (go_at_call 166;refine(HAV.out _ jP.out).mono ?_;rintro e w6 ⟨bb,rfl,Ba,cg⟩;have jQ:=Nu.hid cg;have OP:=Nu.hid Ba;clear cg Ba;cases bb)
      ·go_ret
       exact⟨false,rfl,⟨fun h=>(by cases h),fun h=>(by
        rcases HE.out.1 (h k hlt) with h1|h1
        ·exact absurd h1 HY.out
        ·exact OP.out.2 h1)⟩,(l8.out.trans (jP.out.mono l8.out.size)).trans (jQ.out.mono (Nat.le_trans l8.out.size jP.out.size))⟩
      ·go_roundw
       case rel=>exact⟨k+1,by omega,by go_num,Ln.out (HE.out.2 (.inr (OP.out.1 (by trivial)))),(l8.out.trans (jP.out.mono l8.out.size)).trans (jQ.out.mono (Nat.le_trans l8.out.size jP.out.size))⟩
       case measure=>simp[intOf];omega
   ·have t1:(x != 2*(k:Int))=true:=by simp;omega
    have t2:(x != 2*(k:Int)+1)=true:=by simp;omega
    have HG:Hid (¬Df.rG es s k):=by
     rintro⟨h,h1,h2,_⟩
     rw[HX.out] at h2
     exact Kq (by omega)
    clear Kq hf hx hdone kN
    go_wp2
    go_ret
    exact⟨false,rfl,⟨fun h=>(by cases h),fun h=>absurd (h k hlt) HG.out⟩,l8.out⟩
  ·have hd:¬((k:Int)<(m:Int)):=by omega
   obtain rfl:k=m:=by omega
   clear hf hdone kN
   go_wp2
   go_ret
   exact⟨true,rfl,⟨fun _=>VN.out,fun _=>rfl⟩,l8.out⟩
end

end
section
open Go.RowKit
def vB (n:Int) (es:List (Int×Int)) (f:For) (s:Df.St) (w:World) (r:Option Addr) (w':World):Prop:=
 ∃(m p gp gb:Nat) (av:Value) (P E:List Int) (w0:World),n=(m:Int)∧Si.Val m es∧Df.VF m es s∧r=some ⟨p,0,none⟩∧cE w0 av m es∧Full w0 w' p gp gb av f s m P E∧(∀u v,u<m→v<m→((Df.at_ P u≤Df.at_ P v∧Df.at_ P v<Df.at_ E u)↔Df.bP es s u v))∧Below w.heap.size w w'
def K3 (n:Int) (es:List (Int×Int)) (f:For) (s:Df.St) (w:World) (e:Ending) (w':World):Prop:=
 (∃r,e= .returned (.tuple #[.pointer r,.bool true])∧vB n es f s w r w')∨(∃r,e= .returned (.tuple #[.pointer r,.bool false])∧¬oK n es s∧Below w.heap.size w w')
set_option maxRecDepth 100000 in
set_option maxHeartbeats 16000000 in
theorem Nb (n:Int) (ao:Option Addr) (cap:Nat) (es:List (Int×Int)) (f:For) (s:Df.St) (w:World) (he:aL w ao es) (hl:es.length≤4611686018427387904) (hF:dF w f s):
 Calls Tryz.prog 136 #[cK n ao es.length cap,f.val s] w (K3 n es f s w):=by
 obtain⟨a1,a2,a3,a4,c1,c2,c3,c4⟩:=f
 obtain⟨W,hW⟩:∃W,W=(w.alloc (.cells #[.int .i64 n,.slice ao es.length cap] 24)).alloc (.cells #[.slice a1 s.par.length c1,.slice a2 s.ay.length c2,.slice a3 s.ord.length c3,.slice a4 s.aJ.length c4] 36):=⟨_,rfl⟩
 have hB0:Below w.heap.size w W:=by rw[hW];exact((Below.refl _ _).alloc (Nat.le_refl _) _).alloc (by simp) _
 have hsz:W.heap.size=w.heap.size+2:=by rw[hW];simp
 have g1:W.heap[w.heap.size]? =some (.cells #[.int .i64 n,.slice ao es.length cap] 24 (0,0)):=by
  rw[hW,Below.heap_alloc _ _ _ (by simp)]
  exact heap_alloc_new w _
 have g2:W.heap[w.heap.size+1]? =some (.cells #[.slice a1 s.par.length c1,.slice a2 s.ay.length c2,.slice a3 s.ord.length c3,.slice a4 s.aJ.length c4] 36 (0,0)):=by
  rw[hW]
  exact alloc_at (by simp)
 have hnew:=wX n ao cap es W (he.later hB0) hl
 unfold cK at hnew ⊢
 unfold For.val
 dsimp only
 have HF:=Nu.hid (hF.later hB0)
 have dm:=Nu.hid hB0
 have kT:=Nu.hid g2
 obtain⟨x0,x1,-⟩:=az g1
 have lZ:=Nu.hid hW
 rw[hW] at x0 x1
 cases hv:Si.valid n es with
 |false=>
  have nC:Hid (Calls Tryz.prog 42 #[.agg #[.int .i64 n,.slice ao es.length cap]] W fun e w'=>e= .returned (.tuple #[.pointer none,.int .i64 1])∧Below W.heap.size W w'):=hnew.mono (by
   rintro e w' ⟨⟨m,q,rfl,hval,_⟩|⟨_,h⟩,hb⟩
   ·rw[Si.bL.2 hval] at hv;cases hv
   ·exact⟨h,hb⟩)
  have jk:Hid (¬oK n es s):=by
   rintro⟨m,rfl,hval,_⟩
   rw[Si.bL.2 hval] at hv;cases hv
  clear hnew hB0 g1 g2 he hW hv hF
  go_enter Tryz.func136,Tryz.ntmps136
  go_wp2_with (go_at_call 42;rw[←lZ.out];refine nC.out.mono ?_;rintro e w1 ⟨rfl,hb1⟩;have aV:=Nu.hid hb1;clear hb1)
  go_ret2
  exact .inr ⟨none,rfl,jk.out,dm.out.trans (aV.out.mono dm.out.size)⟩
 |true=>
  obtain⟨m,rfl⟩:∃m:Nat,n=(m:Int):=⟨n.toNat,by have:=(Si.bL.1 hv).lo;omega⟩
  have hval:=Si.bL.1 hv
  have nC:Hid (Calls Tryz.prog 42 #[.agg #[.int .i64 (m:Int),.slice ao es.length cap]] W fun e w'=>∃q,e= .returned (.tuple #[.pointer (some ⟨q,0,none⟩),.int .i64 0])∧lD w' W.heap.size q m es∧Below W.heap.size W w'):=hnew.mono (by
   rintro e w' ⟨⟨m',q,hm,_,h,ha⟩|⟨h,_⟩,hb⟩
   ·obtain rfl:m=m':=by omega
    exact⟨q,h,ha,hb⟩
   ·rw[hv] at h;cases h)
  have mV:=Nu.hid hval
  have jk:Hid (¬Df.VF m es s→¬oK (m:Int) es s):=by
   rintro h ⟨m',hm,_,gO⟩
   obtain rfl:m=m':=by omega
   exact h gO
  clear hnew hB0 g1 g2 he hW hv hval hF
  go_enter Tryz.func136,Tryz.ntmps136
  go_wp2_with (go_at_call 42;rw[←lZ.out];refine nC.out.mono ?_;rintro e w1 ⟨q,rfl,aX,hb1⟩;refine Hid.out ?_)
  refine Nu.hid ?_
  have hk2:=(hb1.block _ (by omega)).trans kT.out
  have aV:=Nu.hid (dm.out.trans (hb1.mono dm.out.size))
  have hs1:=hb1.size
  have j5:cE w1 (.pointer (some ⟨q,0,none⟩)) m es:= .inr ⟨_,q,rfl,mV.out,aX⟩
  have cQ:=Nu.hid j5
  have rE:=Nu.hid (HF.out.later hb1)
  obtain⟨k0,k1,k2,k3,kf⟩:=au hk2
  obtain⟨V,hV⟩:∃V,V=w1.alloc (.cells (LL (.pointer (some ⟨q,0,none⟩)) ⟨a1,a2,a3,a4,c1,c2,c3,c4⟩ s (.slice none 0 0) (.slice none 0 0)) 199):=⟨_,rfl⟩
  have hR:aO w1 V w1.heap.size (.pointer (some ⟨q,0,none⟩)) ⟨a1,a2,a3,a4,c1,c2,c3,c4⟩ s (.slice none 0 0) (.slice none 0 0):=by
   refine⟨?_,?_,Nat.le_refl _⟩
   ·rw[hV];exact(Below.refl _ _).alloc (Nat.le_refl _) _
   ·rw[hV];exact heap_alloc_new w1 _
  have HR:=Nu.hid hR
  have HV:=Nu.hid hV
  have yN:Hid (∀V',Below w1.heap.size w1 V'→Below w.heap.size w V'):=fun V' h=>aV.out.trans (h.mono aV.out.size)
  clear x0 x1 hb1 aX j5 hk2 hR hV
  by_cases hL:Df.sN m es s
  ·by_cases hO:Df.iq m s m
   ·by_cases hH:Df.BR m es s
    ·by_cases hS:∃r,Df.side m es s m=some r
     ·by_cases hE:∀e,e<es.length→Df.rG es s e
      ·have HLEN:Hid (Calls Tryz.prog 152 #[.pointer (some ⟨w1.heap.size,0,none⟩)] V fun e w'=>e= .returned (.bool true)∧Below V.heap.size V w'):=(iz cQ.out HR.out).mono (by rintro e w' ⟨b,rfl,hb,hbl⟩;rw[hb.2 hL];exact⟨rfl,hbl⟩)
       have vJ:Hid (∀V',aO w1 V' w1.heap.size (.pointer (some ⟨q,0,none⟩)) ⟨a1,a2,a3,a4,c1,c2,c3,c4⟩ s (.slice none 0 0) (.slice none 0 0)→Calls Tryz.prog 153 #[.pointer (some ⟨w1.heap.size,0,none⟩)] V' fun e w'=>∃gp P,e= .returned (.bool true)∧aO w1 w' w1.heap.size (.pointer (some ⟨q,0,none⟩)) ⟨a1,a2,a3,a4,c1,c2,c3,c4⟩ s (.slice (some ⟨gp,0,none⟩) m m) (.slice none 0 0)∧aq w' gp P∧Df.iY m s P∧gp≠w1.heap.size∧w1.heap.size≤gp):=fun V' hr=>(iV cQ.out rE.out hL hr).mono (by rintro e w' (⟨gp,P,h1,h2,h3⟩|⟨_,h,_⟩);exact⟨gp,P,h1,h3⟩;exact absurd hO h)
       have BX:Hid (∀V' gp,aO w1 V' w1.heap.size (.pointer (some ⟨q,0,none⟩)) ⟨a1,a2,a3,a4,c1,c2,c3,c4⟩ s (.slice (some ⟨gp,0,none⟩) m m) (.slice none 0 0)→Calls Tryz.prog 154 #[.pointer (some ⟨w1.heap.size,0,none⟩)] V' fun e w'=>e= .returned (.bool true)∧Below V'.heap.size V' w'):=fun V' gp hr=>(gK cQ.out rE.out hL hr).mono (by rintro e w' ⟨b,rfl,hb,hbl⟩;rw[hb.2 hH];exact⟨rfl,hbl⟩)
       have IM:Hid (∀V' gp P,aO w1 V' w1.heap.size (.pointer (some ⟨q,0,none⟩)) ⟨a1,a2,a3,a4,c1,c2,c3,c4⟩ s (.slice (some ⟨gp,0,none⟩) m m) (.slice none 0 0)→aq V' gp P→Df.iY m s P→gp≠w1.heap.size→w1.heap.size≤gp→Calls Tryz.prog 155 #[.pointer (some ⟨w1.heap.size,0,none⟩)] V' fun e w'=>∃gb E,e= .returned (.bool true)∧Full w1 w' w1.heap.size gp gb (.pointer (some ⟨q,0,none⟩)) ⟨a1,a2,a3,a4,c1,c2,c3,c4⟩ s m P E∧(∀u v,u<m→v<m→((Df.at_ P u≤Df.at_ P v∧Df.at_ P v<Df.at_ E u)↔Df.bP es s u v))):=fun V' gp P hr hi hp h1 h2=>(kV cQ.out rE.out hL hO hr hi h1 h2).mono (by rintro e w' (⟨gb,Wy,B,g1,g2,g3,g4,g5⟩|⟨_,h,_⟩);exact⟨gb,_,g1,⟨g3,g4,g5,hp.1,by unfold Df.ends;rw[Df.pM];exact(Df.qy hO (Nat.le_refl _) g2).2.2⟩,fun u v hu hv=>Df.tW hO g2 hp hu hv⟩;obtain⟨r,hr⟩:=hS;rw[h] at hr;cases hr)
       have Tt:Hid (∀V' gp gb P E,Full w1 V' w1.heap.size gp gb (.pointer (some ⟨q,0,none⟩)) ⟨a1,a2,a3,a4,c1,c2,c3,c4⟩ s m P E→(∀u v,u<m→v<m→((Df.at_ P u≤Df.at_ P v∧Df.at_ P v<Df.at_ E u)↔Df.bP es s u v))→Calls Tryz.prog 156 #[.pointer (some ⟨w1.heap.size,0,none⟩)] V' fun e w'=>e= .returned (.bool true)∧Below V'.heap.size V' w'):=fun V' gp gb P E hf ha=>(p7 cQ.out rE.out hL hf ha).mono (by rintro e w' ⟨b,rfl,hb,hbl⟩;rw[hb.2 hE];exact⟨rfl,hbl⟩)
       have CX:Hid (Df.VF m es s):=⟨hL,hO,hH,hS,hE⟩
       clear hL hO hH hS hE
       go_wp2_with (first|(go_at_call 152;rw[←HV.out];refine HLEN.out.mono ?_;rintro e w3 ⟨rfl,hb3⟩;have H3:=Nu.hid (HR.out.later hb3);clear hb3)|(go_at_call 153;refine(vJ.out _ H3.out).mono ?_;rintro e w4 ⟨gp,P,rfl,r4,i4,p4,n4,g4⟩;have R4:=Nu.hid r4;have I4:=Nu.hid i4;have P4:=Nu.hid p4;have N4:=Nu.hid n4;have G4:=Nu.hid g4;clear r4 i4 p4 n4 g4)|(go_at_call 154;refine(BX.out _ _ R4.out).mono ?_;rintro e w5 ⟨rfl,hb5⟩;have R5:=Nu.hid (R4.out.later hb5);have I5:=Nu.hid (I4.out.later hb5);clear hb5)|(go_at_call 155;refine(IM.out _ _ _ R5.out I5.out P4.out N4.out G4.out).mono ?_;rintro e w6 ⟨gb,E,rfl,f6,Sb⟩;have F6:=Nu.hid f6;have VT:=Nu.hid Sb;clear f6 Sb)|(go_at_call 156;refine(Tt.out _ _ _ _ _ F6.out VT.out).mono ?_;rintro e w7 ⟨rfl,kO⟩;have F7:=Nu.hid (F6.out.later kO);clear kO))
       go_ret2
       exact .inl ⟨_,rfl,m,w1.heap.size,_,_,_,_,_,w1,rfl,mV.out,CX.out,rfl,cQ.out,F7.out,VT.out,yN.out _ F7.out.rd.aI⟩
      ·have HLEN:Hid (Calls Tryz.prog 152 #[.pointer (some ⟨w1.heap.size,0,none⟩)] V fun e w'=>e= .returned (.bool true)∧Below V.heap.size V w'):=(iz cQ.out HR.out).mono (by rintro e w' ⟨b,rfl,hb,hbl⟩;rw[hb.2 hL];exact⟨rfl,hbl⟩)
       have vJ:Hid (∀V',aO w1 V' w1.heap.size (.pointer (some ⟨q,0,none⟩)) ⟨a1,a2,a3,a4,c1,c2,c3,c4⟩ s (.slice none 0 0) (.slice none 0 0)→Calls Tryz.prog 153 #[.pointer (some ⟨w1.heap.size,0,none⟩)] V' fun e w'=>∃gp P,e= .returned (.bool true)∧aO w1 w' w1.heap.size (.pointer (some ⟨q,0,none⟩)) ⟨a1,a2,a3,a4,c1,c2,c3,c4⟩ s (.slice (some ⟨gp,0,none⟩) m m) (.slice none 0 0)∧aq w' gp P∧Df.iY m s P∧gp≠w1.heap.size∧w1.heap.size≤gp):=fun V' hr=>(iV cQ.out rE.out hL hr).mono (by rintro e w' (⟨gp,P,h1,h2,h3⟩|⟨_,h,_⟩);exact⟨gp,P,h1,h3⟩;exact absurd hO h)
       have BX:Hid (∀V' gp,aO w1 V' w1.heap.size (.pointer (some ⟨q,0,none⟩)) ⟨a1,a2,a3,a4,c1,c2,c3,c4⟩ s (.slice (some ⟨gp,0,none⟩) m m) (.slice none 0 0)→Calls Tryz.prog 154 #[.pointer (some ⟨w1.heap.size,0,none⟩)] V' fun e w'=>e= .returned (.bool true)∧Below V'.heap.size V' w'):=fun V' gp hr=>(gK cQ.out rE.out hL hr).mono (by rintro e w' ⟨b,rfl,hb,hbl⟩;rw[hb.2 hH];exact⟨rfl,hbl⟩)
       have IM:Hid (∀V' gp P,aO w1 V' w1.heap.size (.pointer (some ⟨q,0,none⟩)) ⟨a1,a2,a3,a4,c1,c2,c3,c4⟩ s (.slice (some ⟨gp,0,none⟩) m m) (.slice none 0 0)→aq V' gp P→Df.iY m s P→gp≠w1.heap.size→w1.heap.size≤gp→Calls Tryz.prog 155 #[.pointer (some ⟨w1.heap.size,0,none⟩)] V' fun e w'=>∃gb E,e= .returned (.bool true)∧Full w1 w' w1.heap.size gp gb (.pointer (some ⟨q,0,none⟩)) ⟨a1,a2,a3,a4,c1,c2,c3,c4⟩ s m P E∧(∀u v,u<m→v<m→((Df.at_ P u≤Df.at_ P v∧Df.at_ P v<Df.at_ E u)↔Df.bP es s u v))):=fun V' gp P hr hi hp h1 h2=>(kV cQ.out rE.out hL hO hr hi h1 h2).mono (by rintro e w' (⟨gb,Wy,B,g1,g2,g3,g4,g5⟩|⟨_,h,_⟩);exact⟨gb,_,g1,⟨g3,g4,g5,hp.1,by unfold Df.ends;rw[Df.pM];exact(Df.qy hO (Nat.le_refl _) g2).2.2⟩,fun u v hu hv=>Df.tW hO g2 hp hu hv⟩;obtain⟨r,hr⟩:=hS;rw[h] at hr;cases hr)
       have Tt:Hid (∀V' gp gb P E,Full w1 V' w1.heap.size gp gb (.pointer (some ⟨q,0,none⟩)) ⟨a1,a2,a3,a4,c1,c2,c3,c4⟩ s m P E→(∀u v,u<m→v<m→((Df.at_ P u≤Df.at_ P v∧Df.at_ P v<Df.at_ E u)↔Df.bP es s u v))→Calls Tryz.prog 156 #[.pointer (some ⟨w1.heap.size,0,none⟩)] V' fun e w'=>e= .returned (.bool false)∧Below V'.heap.size V' w'):=fun V' gp gb P E hf ha=>(p7 cQ.out rE.out hL hf ha).mono (by rintro e w' ⟨b,rfl,hb,hbl⟩;have:b=false:=(by cases b;rfl;exact absurd (hb.1 rfl) hE);rw[this];exact⟨rfl,hbl⟩)
       have HN:=Nu.hid (jk.out (fun h=>hE h.edge))
       clear hL hO hH hS hE
       go_wp2_with (first|(go_at_call 152;rw[←HV.out];refine HLEN.out.mono ?_;rintro e w3 ⟨rfl,hb3⟩;have H3:=Nu.hid (HR.out.later hb3);clear hb3)|(go_at_call 153;refine(vJ.out _ H3.out).mono ?_;rintro e w4 ⟨gp,P,rfl,r4,i4,p4,n4,g4⟩;have R4:=Nu.hid r4;have I4:=Nu.hid i4;have P4:=Nu.hid p4;have N4:=Nu.hid n4;have G4:=Nu.hid g4;clear r4 i4 p4 n4 g4)|(go_at_call 154;refine(BX.out _ _ R4.out).mono ?_;rintro e w5 ⟨rfl,hb5⟩;have R5:=Nu.hid (R4.out.later hb5);have I5:=Nu.hid (I4.out.later hb5);clear hb5)|(go_at_call 155;refine(IM.out _ _ _ R5.out I5.out P4.out N4.out G4.out).mono ?_;rintro e w6 ⟨gb,E,rfl,f6,Sb⟩;have F6:=Nu.hid f6;have VT:=Nu.hid Sb;clear f6 Sb)|(go_at_call 156;refine(Tt.out _ _ _ _ _ F6.out VT.out).mono ?_;rintro e w7 ⟨rfl,kO⟩;have F7:=Nu.hid (F6.out.later kO);clear kO))
       go_ret2
       exact .inr ⟨_,rfl,HN.out,yN.out _ F7.out.rd.aI⟩
     ·have HLEN:Hid (Calls Tryz.prog 152 #[.pointer (some ⟨w1.heap.size,0,none⟩)] V fun e w'=>e= .returned (.bool true)∧Below V.heap.size V w'):=(iz cQ.out HR.out).mono (by rintro e w' ⟨b,rfl,hb,hbl⟩;rw[hb.2 hL];exact⟨rfl,hbl⟩)
      have vJ:Hid (∀V',aO w1 V' w1.heap.size (.pointer (some ⟨q,0,none⟩)) ⟨a1,a2,a3,a4,c1,c2,c3,c4⟩ s (.slice none 0 0) (.slice none 0 0)→Calls Tryz.prog 153 #[.pointer (some ⟨w1.heap.size,0,none⟩)] V' fun e w'=>∃gp P,e= .returned (.bool true)∧aO w1 w' w1.heap.size (.pointer (some ⟨q,0,none⟩)) ⟨a1,a2,a3,a4,c1,c2,c3,c4⟩ s (.slice (some ⟨gp,0,none⟩) m m) (.slice none 0 0)∧aq w' gp P∧Df.iY m s P∧gp≠w1.heap.size∧w1.heap.size≤gp):=fun V' hr=>(iV cQ.out rE.out hL hr).mono (by rintro e w' (⟨gp,P,h1,h2,h3⟩|⟨_,h,_⟩);exact⟨gp,P,h1,h3⟩;exact absurd hO h)
      have BX:Hid (∀V' gp,aO w1 V' w1.heap.size (.pointer (some ⟨q,0,none⟩)) ⟨a1,a2,a3,a4,c1,c2,c3,c4⟩ s (.slice (some ⟨gp,0,none⟩) m m) (.slice none 0 0)→Calls Tryz.prog 154 #[.pointer (some ⟨w1.heap.size,0,none⟩)] V' fun e w'=>e= .returned (.bool true)∧Below V'.heap.size V' w'):=fun V' gp hr=>(gK cQ.out rE.out hL hr).mono (by rintro e w' ⟨b,rfl,hb,hbl⟩;rw[hb.2 hH];exact⟨rfl,hbl⟩)
      have IM:Hid (∀V' gp P,aO w1 V' w1.heap.size (.pointer (some ⟨q,0,none⟩)) ⟨a1,a2,a3,a4,c1,c2,c3,c4⟩ s (.slice (some ⟨gp,0,none⟩) m m) (.slice none 0 0)→aq V' gp P→Df.iY m s P→gp≠w1.heap.size→w1.heap.size≤gp→Calls Tryz.prog 155 #[.pointer (some ⟨w1.heap.size,0,none⟩)] V' fun e w'=>e= .returned (.bool false)∧Below w1.heap.size w1 w'):=fun V' gp P hr hi hp h1 h2=>(kV cQ.out rE.out hL hO hr hi h1 h2).mono (by rintro e w' (⟨gb,Wy,B,g1,g2,g3,g4,g5⟩|⟨h1,_,h3⟩);exact absurd ⟨_,g2⟩ hS;exact⟨h1,h3⟩)
      have HN:=Nu.hid (jk.out (fun h=>hS h.side))
      clear hL hO hH hS
      go_wp2_with (first|(go_at_call 152;rw[←HV.out];refine HLEN.out.mono ?_;rintro e w3 ⟨rfl,hb3⟩;have H3:=Nu.hid (HR.out.later hb3);clear hb3)|(go_at_call 153;refine(vJ.out _ H3.out).mono ?_;rintro e w4 ⟨gp,P,rfl,r4,i4,p4,n4,g4⟩;have R4:=Nu.hid r4;have I4:=Nu.hid i4;have P4:=Nu.hid p4;have N4:=Nu.hid n4;have G4:=Nu.hid g4;clear r4 i4 p4 n4 g4)|(go_at_call 154;refine(BX.out _ _ R4.out).mono ?_;rintro e w5 ⟨rfl,hb5⟩;have R5:=Nu.hid (R4.out.later hb5);have I5:=Nu.hid (I4.out.later hb5);clear hb5)|(go_at_call 155;refine(IM.out _ _ _ R5.out I5.out P4.out N4.out G4.out).mono ?_;rintro e w6 ⟨rfl,cg⟩;have jQ:=Nu.hid cg;clear cg))
      go_ret2
      exact .inr ⟨_,rfl,HN.out,yN.out _ jQ.out⟩
    ·have HLEN:Hid (Calls Tryz.prog 152 #[.pointer (some ⟨w1.heap.size,0,none⟩)] V fun e w'=>e= .returned (.bool true)∧Below V.heap.size V w'):=(iz cQ.out HR.out).mono (by rintro e w' ⟨b,rfl,hb,hbl⟩;rw[hb.2 hL];exact⟨rfl,hbl⟩)
     have vJ:Hid (∀V',aO w1 V' w1.heap.size (.pointer (some ⟨q,0,none⟩)) ⟨a1,a2,a3,a4,c1,c2,c3,c4⟩ s (.slice none 0 0) (.slice none 0 0)→Calls Tryz.prog 153 #[.pointer (some ⟨w1.heap.size,0,none⟩)] V' fun e w'=>∃gp P,e= .returned (.bool true)∧aO w1 w' w1.heap.size (.pointer (some ⟨q,0,none⟩)) ⟨a1,a2,a3,a4,c1,c2,c3,c4⟩ s (.slice (some ⟨gp,0,none⟩) m m) (.slice none 0 0)∧aq w' gp P∧Df.iY m s P∧gp≠w1.heap.size∧w1.heap.size≤gp):=fun V' hr=>(iV cQ.out rE.out hL hr).mono (by rintro e w' (⟨gp,P,h1,h2,h3⟩|⟨_,h,_⟩);exact⟨gp,P,h1,h3⟩;exact absurd hO h)
     have BX:Hid (∀V' gp,aO w1 V' w1.heap.size (.pointer (some ⟨q,0,none⟩)) ⟨a1,a2,a3,a4,c1,c2,c3,c4⟩ s (.slice (some ⟨gp,0,none⟩) m m) (.slice none 0 0)→Calls Tryz.prog 154 #[.pointer (some ⟨w1.heap.size,0,none⟩)] V' fun e w'=>e= .returned (.bool false)∧Below V'.heap.size V' w'):=fun V' gp hr=>(gK cQ.out rE.out hL hr).mono (by rintro e w' ⟨b,rfl,hb,hbl⟩;have:b=false:=(by cases b;rfl;exact absurd (hb.1 rfl) hH);rw[this];exact⟨rfl,hbl⟩)
     have HN:=Nu.hid (jk.out (fun h=>hH h.hang))
     clear hL hO hH
     go_wp2_with (first|(go_at_call 152;rw[←HV.out];refine HLEN.out.mono ?_;rintro e w3 ⟨rfl,hb3⟩;have H3:=Nu.hid (HR.out.later hb3);clear hb3)|(go_at_call 153;refine(vJ.out _ H3.out).mono ?_;rintro e w4 ⟨gp,P,rfl,r4,i4,p4,n4,g4⟩;have R4:=Nu.hid r4;have I4:=Nu.hid i4;have P4:=Nu.hid p4;have N4:=Nu.hid n4;have G4:=Nu.hid g4;clear r4 i4 p4 n4 g4)|(go_at_call 154;refine(BX.out _ _ R4.out).mono ?_;rintro e w5 ⟨rfl,hb5⟩;have R5:=Nu.hid (R4.out.later hb5);have I5:=Nu.hid (I4.out.later hb5);clear hb5))
     go_ret2
     exact .inr ⟨_,rfl,HN.out,yN.out _ R5.out.aI⟩
   ·have HLEN:Hid (Calls Tryz.prog 152 #[.pointer (some ⟨w1.heap.size,0,none⟩)] V fun e w'=>e= .returned (.bool true)∧Below V.heap.size V w'):=(iz cQ.out HR.out).mono (by rintro e w' ⟨b,rfl,hb,hbl⟩;rw[hb.2 hL];exact⟨rfl,hbl⟩)
    have vJ:Hid (∀V',aO w1 V' w1.heap.size (.pointer (some ⟨q,0,none⟩)) ⟨a1,a2,a3,a4,c1,c2,c3,c4⟩ s (.slice none 0 0) (.slice none 0 0)→Calls Tryz.prog 153 #[.pointer (some ⟨w1.heap.size,0,none⟩)] V' fun e w'=>e= .returned (.bool false)∧Below w1.heap.size w1 w'):=fun V' hr=>(iV cQ.out rE.out hL hr).mono (by rintro e w' (⟨gp,P,h1,h2,h3⟩|⟨h1,_,h3⟩);exact absurd h2 hO;exact⟨h1,h3⟩)
    have HN:=Nu.hid (jk.out (fun h=>hO h.once))
    clear hL hO
    go_wp2_with (first|(go_at_call 152;rw[←HV.out];refine HLEN.out.mono ?_;rintro e w3 ⟨rfl,hb3⟩;have H3:=Nu.hid (HR.out.later hb3);clear hb3)|(go_at_call 153;refine(vJ.out _ H3.out).mono ?_;rintro e w4 ⟨rfl,hb4⟩;have gJ:=Nu.hid hb4;clear hb4))
    go_ret2
    exact .inr ⟨_,rfl,HN.out,yN.out _ gJ.out⟩
  ·have HLEN:Hid (Calls Tryz.prog 152 #[.pointer (some ⟨w1.heap.size,0,none⟩)] V fun e w'=>e= .returned (.bool false)∧Below V.heap.size V w'):=(iz cQ.out HR.out).mono (by rintro e w' ⟨b,rfl,hb,hbl⟩;have:b=false:=(by cases b;rfl;exact absurd (hb.1 rfl) hL);rw[this];exact⟨rfl,hbl⟩)
   have HN:=Nu.hid (jk.out (fun h=>hL h.lens))
   clear hL
   go_wp2_with (first|(go_at_call 152;rw[←HV.out];refine HLEN.out.mono ?_;rintro e w3 ⟨rfl,hb3⟩;have H3:=Nu.hid (HR.out.later hb3);clear hb3))
   go_ret2
   exact .inr ⟨_,rfl,HN.out,yN.out _ H3.out.aI⟩

end
section
open Go.RowKit
theorem vB.ack {n:Int} {es:List (Int×Int)} {f:For} {s:Df.St} {w w':World} {r:Option Addr} (h:vB n es f s w r w'):oK n es s:=by
 obtain⟨m,p,gp,gb,av,P,E,w0,h1,h2,h3,_⟩:=h
 exact⟨m,h1,h2,h3⟩
theorem vB.aI {n:Int} {es:List (Int×Int)} {f:For} {s:Df.St} {w w':World} {r:Option Addr} (h:vB n es f s w r w'):Below w.heap.size w w':=by
 obtain⟨m,p,gp,gb,av,P,E,w0,h1,h2,h3,h4,h5,h6,h7,h8⟩:=h
 exact h8
set_option maxRecDepth 100000 in
set_option maxHeartbeats 16000000 in
theorem Iq (n:Int) (ao:Option Addr) (cap:Nat) (es:List (Int×Int)) (f:For) (s:Df.St) (w:World) (he:aL w ao es) (hl:es.length≤4611686018427387904) (hF:dF w f s):
 Calls Tryz.prog 121 #[cK n ao es.length cap,f.val s] w (jv (oK n es s) w):=by
 obtain⟨a1,a2,a3,a4,c1,c2,c3,c4⟩:=f
 obtain⟨W,hW⟩:∃W,W=(w.alloc (.cells #[.int .i64 n,.slice ao es.length cap] 24)).alloc (.cells #[.slice a1 s.par.length c1,.slice a2 s.ay.length c2,.slice a3 s.ord.length c3,.slice a4 s.aJ.length c4] 36):=⟨_,rfl⟩
 have hB0:Below w.heap.size w W:=by rw[hW];exact((Below.refl _ _).alloc (Nat.le_refl _) _).alloc (by simp) _
 have g1:W.heap[w.heap.size]? =some (.cells #[.int .i64 n,.slice ao es.length cap] 24 (0,0)):=by
  rw[hW,Below.heap_alloc _ _ _ (by simp)]
  exact heap_alloc_new w _
 have g2:W.heap[w.heap.size+1]? =some (.cells #[.slice a1 s.par.length c1,.slice a2 s.ay.length c2,.slice a3 s.ord.length c3,.slice a4 s.aJ.length c4] 36 (0,0)):=by
  rw[hW]
  exact alloc_at (by simp)
 have hrd:=Nb n ao cap es ⟨a1,a2,a3,a4,c1,c2,c3,c4⟩ s W (he.later hB0) hl (hF.later hB0)
 unfold cK at hrd ⊢
 unfold For.val at hrd ⊢
 dsimp only at hrd ⊢
 have ug:=Nu.hid hrd
 have dm:=Nu.hid hB0
 obtain⟨x0,x1,-⟩:=az g1
 obtain⟨k0,k1,k2,k3,-⟩:=au g2
 have lZ:=Nu.hid hW
 rw[hW] at x0 x1 k0 k1 k2 k3
 clear hrd hB0 g1 g2 he hW hF
 go_enter Tryz.func121,Tryz.ntmps121
 go_wp2_with (go_at_call 136;rw[←lZ.out];refine ug.out.mono ?_;rintro e w1 (⟨r,rfl,hs⟩|⟨r,rfl,hno,hb1⟩);rotate_left;have jk:=Nu.hid hno;have aV:=Nu.hid hb1;clear hno hb1;rotate_left;have HS:=Nu.hid hs;clear hs)
 ·go_ret
  exact⟨true,rfl,⟨fun _=>HS.out.ack,fun _=>rfl⟩,dm.out.trans (HS.out.aI.mono dm.out.size)⟩
 ·go_ret
  exact⟨false,rfl,⟨fun h=>(by cases h),fun h=>absurd h jk.out⟩,dm.out.trans (aV.out.mono dm.out.size)⟩

end
section
open Go.RowKit Go.Sort
theorem N9 (f:For) (s:Df.St) (w:World) (h:dF w f s):
 Calls Tryz.prog 20 #[.agg #[.slice f.a1 s.par.length f.c1,.slice f.a2 s.ay.length f.c2,.slice f.a3 s.ord.length f.c3,.slice f.a4 s.aJ.length f.c4]] w fun e w'=>∃a1 a2 a3 a4 c1 c2 c3 c4,e= .returned (.agg #[.slice a1 s.par.length c1,.slice a2 s.ay.length c2,.slice a3 s.ord.length c3,.slice a4 s.aJ.length c4])∧dF w' ⟨a1,a2,a3,a4,c1,c2,c3,c4⟩ s∧Below w.heap.size w w':=by
 refine(KO f s w h).mono ?_
 rintro e w' ⟨v1,v2,v3,v4,rfl,hown,hb⟩
 obtain⟨g,rfl,rfl,rfl,rfl,hl⟩:=hown.ct ⟨h.n1,h.n2,h.n3,h.n4⟩
 exact⟨g.a1,g.a2,g.a3,g.a4,g.c1,g.c2,g.c3,g.c4,rfl,hl,hb⟩
theorem DZ (n:Int) (ao:Option Addr) (ca:Nat) (es:List (Int×Int)) (w:World) (he:aL w ao es) (hn:ao=none→ca=0) (hl:es.length*16≤140737488355328):
 Calls Tryz.prog 13 #[.agg #[.int .i64 n,.slice ao es.length ca]] w fun e w'=>∃gb c,e= .returned (.agg #[.int .i64 n,.slice (some ⟨gb,0,none⟩) es.length c])∧aL w' (some ⟨gb,0,none⟩) es∧Below w.heap.size w w':=by
 have h:=Gh n ao ca es w he hn hl
 unfold cK at h
 refine h.mono ?_
 rintro e w' ⟨gb,c,rfl,how,hb⟩
 obtain⟨mP,cap',e,_,_,hat,_⟩:=how.form
 cases e
 exact⟨gb,c,rfl,hat,hb⟩
end
end Go.Proofs.YtnhcggfbkoppnaaGreat
