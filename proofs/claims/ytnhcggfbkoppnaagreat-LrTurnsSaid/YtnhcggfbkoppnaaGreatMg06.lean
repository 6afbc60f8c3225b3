import Derived.Test.YtnhcggfbkoppnaaGreatMg05
import Derived.Test.YtnhcggfbkoppnaaGreatMg04
import Derived.Lib.SliceRun
namespace Go.Proofs.YtnhcggfbkoppnaaGreat
section
open Go.RowKit
abbrev LL (av:Value) (f:For) (s:Df.St) (pv bv:Value):Array Value:= #[av,.slice f.a1 s.par.length f.c1,.slice f.a2 s.ay.length f.c2,.slice f.a3 s.ord.length f.c3,.slice f.a4 s.aJ.length f.c4,pv,bv]
structure aO (w0 w:World) (p:Nat) (av:Value) (f:For) (s:Df.St) (pv bv:Value):Prop where
 aI:Below w0.heap.size w0 w
 blk:w.heap[p]? =some (.cells (LL av f s pv bv) 199 (0,0))
 lo:w0.heap.size≤p
section
variable {w0 w w':World} {p:Nat} {av:Value} {f:For} {s:Df.St} {pv bv:Value} {n:Nat} {es:List (Int×Int)}
theorem aO.c0 (h:aO w0 w p av f s pv bv):w.cell? ⟨p,0,none⟩=some av:=by simp[World.cell?,h.blk]
theorem aO.c1 (h:aO w0 w p av f s pv bv):w.cell? ⟨p,1,none⟩=some (.slice f.a1 s.par.length f.c1):=by simp[World.cell?,h.blk]
theorem aO.c2 (h:aO w0 w p av f s pv bv):w.cell? ⟨p,2,none⟩=some (.slice f.a2 s.ay.length f.c2):=by simp[World.cell?,h.blk]
theorem aO.c3 (h:aO w0 w p av f s pv bv):w.cell? ⟨p,3,none⟩=some (.slice f.a3 s.ord.length f.c3):=by simp[World.cell?,h.blk]
theorem aO.c4 (h:aO w0 w p av f s pv bv):w.cell? ⟨p,4,none⟩=some (.slice f.a4 s.aJ.length f.c4):=by simp[World.cell?,h.blk]
theorem aO.c5 (h:aO w0 w p av f s pv bv):w.cell? ⟨p,5,none⟩=some pv:=by simp[World.cell?,h.blk]
theorem aO.c6 (h:aO w0 w p av f s pv bv):w.cell? ⟨p,6,none⟩=some bv:=by simp[World.cell?,h.blk]
theorem aO.free (h:aO w0 w p av f s pv bv) (i:Nat):w.frozen? ⟨p,i,none⟩=false:=by simp[World.frozen?,h.blk]
theorem aO.lt (h:aO w0 w p av f s pv bv):p<w.heap.size:=lt_of_block h.blk
theorem aO.later (h:aO w0 w p av f s pv bv) (hb:Below w.heap.size w w'):aO w0 w' p av f s pv bv:=⟨h.aI.trans (hb.mono h.aI.size),(hb.block p h.lt).trans h.blk,h.lo⟩
set_option maxRecDepth 100000 in
set_option maxHeartbeats 4000000 in
theorem Cn (x:Int) (aX:cE w0 av n es) (h:aO w0 w p av f s pv bv):
 Calls Tryz.prog 163 #[.pointer (some ⟨p,0,none⟩),.int .i64 x] w fun e w'=>e= .returned (.bool (decide (0≤x∧x<(n:Int))))∧w'=w:=by
 have c0:=h.c0
 have HN:=Nu.hid (lY av n es w (aX.later h.aI))
 clear h aX
 by_cases h0:0≤x
 ·have hd:decide (0≤x∧x<(n:Int))=decide (x<(n:Int)):=by simp[h0]
  rw[hd]
  go_enter Tryz.func163,Tryz.ntmps163
  go_wp2_with (go_at_call 44;refine HN.out.mono ?_;rintro e w1 ⟨rfl,rfl⟩)
  go_ret
  exact⟨rfl,rfl⟩
 ·have hd:decide (0≤x∧x<(n:Int))=false:=by simp[h0]
  rw[hd]
  go_enter Tryz.func163,Tryz.ntmps163
  go_wp2_with (go_at_call 44;refine HN.out.mono ?_;rintro e w1 ⟨rfl,rfl⟩)
  go_ret
  exact⟨rfl,rfl⟩
set_option maxRecDepth 100000 in
set_option maxHeartbeats 8000000 in
theorem iz (aX:cE w0 av n es) (h:aO w0 w p av f s pv bv):
 Calls Tryz.prog 152 #[.pointer (some ⟨p,0,none⟩)] w fun e w'=>∃b,e= .returned (.bool b)∧(b=true↔Df.sN n es s)∧Below w.heap.size w w':=by
 have j5:∃q,av= .pointer q:=by
  rcases aX with ⟨h,_⟩|⟨_,p,h,_⟩
  ·exact⟨_,h⟩
  ·exact⟨_,h⟩
 obtain⟨q,rfl⟩:=j5
 obtain⟨a1,a2,a3,a4,c1,c2,c3,c4⟩:=f
 have HS:Hid (∀V,Below w.heap.size w V→V.cell? ⟨p,0,none⟩=some (.pointer q)∧V.cell? ⟨p,1,none⟩=some (.slice a1 s.par.length c1)∧V.cell? ⟨p,2,none⟩=some (.slice a2 s.ay.length c2)∧V.cell? ⟨p,3,none⟩=some (.slice a3 s.ord.length c3)∧V.cell? ⟨p,4,none⟩=some (.slice a4 s.aJ.length c4)):=fun V hV=>by
  have:=h.later hV
  exact⟨this.c0,this.c1,this.c2,this.c3,this.c4⟩
 have HN:Hid (∀V,Below w.heap.size w V→Calls Tryz.prog 44 #[.pointer q] V fun e V'=>e= .returned (.int .i64 (n:Int))∧V'=V):=fun V hV=>lY _ n es V (aX.later (h.later hV).aI)
 have HM:Hid (∀V,Below w.heap.size w V→Calls Tryz.prog 78 #[.pointer q] V fun e V'=>e= .returned (.int .i64 (es.length:Int))∧V'=V):=fun V hV=>zv _ n es V (aX.later (h.later hV).aI)
 have hbd:Below w.heap.size w w.drew:=(Below.refl _ _).drew
 have Uu:=h.lt
 obtain⟨m,hm⟩:∃m,es.length=m:=⟨_,rfl⟩
 obtain⟨l1,h1⟩:∃l,s.par.length=l:=⟨_,rfl⟩
 obtain⟨l2,h2⟩:∃l,s.ay.length=l:=⟨_,rfl⟩
 obtain⟨l3,h3⟩:∃l,s.ord.length=l:=⟨_,rfl⟩
 obtain⟨l4,h4⟩:∃l,s.aJ.length=l:=⟨_,rfl⟩
 have hL:Df.sN n es s↔(l1=n∧l2=n∧l3=n∧l4=m):=by unfold Df.sN;rw[h1,h2,h3,h4,hm]
 rw[hm] at HM
 rw[h1,h2,h3,h4] at HS
 have HL:=Nu.hid hL
 clear h aX hm h1 h2 h3 h4 hL
 go_enter Tryz.func152,Tryz.ntmps152
 go_wp2_with fail
 go_region_held3 (fun V=>V.cell? ⟨p,0,none⟩=some (.pointer q)∧V.cell? ⟨p,1,none⟩=some (.slice a1 l1 c1)∧V.cell? ⟨p,2,none⟩=some (.slice a2 l2 c2)∧V.cell? ⟨p,3,none⟩=some (.slice a3 l3 c3)∧V.cell? ⟨p,4,none⟩=some (.slice a4 l4 c4))
  (exact HS.out _ (by repeat (first|assumption|exact Below.refl _ _|with_reducible refine tQ ?_|with_reducible refine tR ?_ _)))
  ((first
    |(go_at_call 44;refine(HN.out _ (by repeat (first|assumption|exact Below.refl _ _|with_reducible refine tQ ?_|with_reducible refine tR ?_ _))).mono ?_;rintro e V1 ⟨rfl,rfl⟩)
    |(go_at_call 78;refine(HM.out _ (by repeat (first|assumption|exact Below.refl _ _|with_reducible refine tQ ?_|with_reducible refine tR ?_ _))).mono ?_;rintro e V1 ⟨rfl,rfl⟩)))
 all_goals
  have hbz:Below w.heap.size w (w.alloc (.cells #[.slice a1 l1 c1,.slice a2 l2 c2,.slice a3 l3 c3,.slice a4 l4 c4] 36)).drew:=tQ (tR (Below.refl _ _) _)
  have oO:=Nu.hid hbz
  clear hbz HS HN HM
  by_cases e1:l1=n
  ·have t1:((l1:Int)==(n:Int))=true:=by simp only[beq_iff_eq];omega
   have E1:=Nu.hid e1
   clear e1
   by_cases e2:l2=n
   ·have t2:((l2:Int)==(n:Int))=true:=by simp only[beq_iff_eq];omega
    have E2:=Nu.hid e2
    clear e2
    by_cases e3:l3=n
    ·have t3:((l3:Int)==(n:Int))=true:=by simp only[beq_iff_eq];omega
     have E3:=Nu.hid e3
     clear e3
     by_cases e4:l4=m
     ·have t4:((l4:Int)==(m:Int))=true:=by simp only[beq_iff_eq];omega
      have E4:=Nu.hid e4
      clear e4
      go_wp2
      go_ret
      exact⟨true,rfl,by rw[HL.out];exact⟨fun _=>⟨E1.out,E2.out,E3.out,E4.out⟩,fun _=>rfl⟩,oO.out⟩
     ·have t4:((l4:Int)==(m:Int))=false:=by simp only[beq_eq_false_iff_ne,ne_eq];omega
      have E4:=Nu.hid e4
      clear e4
      go_wp2
      go_ret
      exact⟨false,rfl,by rw[HL.out];exact⟨fun h=>(by cases h),fun h=>absurd h.2.2.2 E4.out⟩,oO.out⟩
    ·have t3:((l3:Int)==(n:Int))=false:=by simp only[beq_eq_false_iff_ne,ne_eq];omega
     have E3:=Nu.hid e3
     clear e3
     go_wp2
     go_ret
     exact⟨false,rfl,by rw[HL.out];exact⟨fun h=>(by cases h),fun h=>absurd h.2.2.1 E3.out⟩,oO.out⟩
   ·have t2:((l2:Int)==(n:Int))=false:=by simp only[beq_eq_false_iff_ne,ne_eq];omega
    have E2:=Nu.hid e2
    clear e2
    go_wp2
    go_ret
    exact⟨false,rfl,by rw[HL.out];exact⟨fun h=>(by cases h),fun h=>absurd h.2.1 E2.out⟩,oO.out⟩
  ·have t1:((l1:Int)==(n:Int))=false:=by simp only[beq_eq_false_iff_ne,ne_eq];omega
   have E1:=Nu.hid e1
   clear e1
   go_wp2
   go_ret
   exact⟨false,rfl,by rw[HL.out];exact⟨fun h=>(by cases h),fun h=>absurd h.1 E1.out⟩,oO.out⟩
end
end
section
open Go.RowKit
section
variable {w0 w:World} {p:Nat} {av:Value} {f:For} {s:Df.St} {pv bv:Value} {n:Nat} {es:List (Int×Int)}
set_option maxRecDepth 100000 in
set_option maxHeartbeats 8000000 in
theorem wo (v:Nat) (aX:cE w0 av n es) (hF:dF w0 f s) (hL:Df.sN n es s) (h:aO w0 w p av f s pv bv) (hv:v<n):
 Calls Tryz.prog 164 #[.pointer (some ⟨p,0,none⟩),.int .i64 (v:Int)] w (jv (Df.kn es s v) w):=by
 obtain⟨l1,l2,l3,l4⟩:=hL
 obtain⟨CG,lX⟩:=aX.bounds
 have j5:∃q,av= .pointer q:=by
  rcases aX with ⟨h,_⟩|⟨_,p,h,_⟩
  ·exact⟨_,h⟩
  ·exact⟨_,h⟩
 obtain⟨q,rfl⟩:=j5
 obtain⟨a1,a2,a3,a4,k1,k2,k3,k4⟩:=f
 have E9:=hF.later h.aI
 obtain⟨b1,o1,e1,d1⟩:=bZ E9.l1 (i:=v) (by omega)
 obtain⟨b2,o2,e2,d2⟩:=bZ E9.l2 (i:=v) (by omega)
 dsimp only at e1 e2
 subst e1
 subst e2
 have c0:=h.c0
 have c1:=h.c1
 have c2:=h.c2
 have c4:=h.c4
 dsimp only at c1 c2 c4
 rw[l1] at c1
 rw[l2] at c2
 rw[l4] at c4
 obtain⟨x,hx⟩:∃x,s.par.getD v (-1)=x:=⟨_,rfl⟩
 obtain⟨y,hy⟩:∃y,s.ay.getD v (-1)=y:=⟨_,rfl⟩
 have mE:Df.at_ s.par v=x:=hx
 have GV:Df.at_ s.ay v=y:=hy
 rw[hx] at d1
 rw[hy] at d2
 have v0:(0:Int)≤(v:Int):=by omega
 have v1:(v:Int)<(n:Int):=by omega
 have Rq:=lQ (.pointer q) n es x
 by_cases hx1:x= -1
 ·have hH:Df.kn es s v↔y=0:=by
   unfold Df.kn
   rw[mE,GV]
   constructor
   ·rintro(⟨_,h⟩|⟨h,_,h1,_⟩)
    ·exact h
    ·omega
   ·exact fun h=> .inl ⟨hx1,h⟩
  have t1:(x== -1)=true:=by simp[hx1]
  have HH:=Nu.hid hH
  by_cases hy0:y=0
  ·have t2:(y==0)=true:=by simp[hy0]
   have HY:=Nu.hid hy0
   subst hx1
   clear hH E9 hF aX h hx hy mE GV Rq hy0 t1
   go_enter Tryz.func164,Tryz.ntmps164
   go_wp2_with fail
   go_quiet (fail)
   go_wp2
   go_ret
   exact⟨true,rfl,by rw[HH.out];exact⟨fun _=>HY.out,fun _=>rfl⟩,below_drewN (Below.refl _ _) _⟩
  ·have t2:(y==0)=false:=by simp[hy0]
   have HY:=Nu.hid hy0
   subst hx1
   clear hH E9 hF aX h hx hy mE GV Rq hy0 t1
   go_enter Tryz.func164,Tryz.ntmps164
   go_wp2_with fail
   go_quiet (fail)
   go_wp2
   go_ret
   exact⟨false,rfl,by rw[HH.out];exact⟨fun h=>(by cases h),fun h=>absurd h HY.out⟩,below_drewN (Below.refl _ _) _⟩
 ·have t1:(x== -1)=false:=by simp[hx1]
  by_cases pP:(0≤x∧x<2*(es.length:Int))∧Cs.FT es x=(v:Int)
  ·obtain⟨⟨hx0,hx2⟩,hto⟩:=pP
   obtain⟨e,rfl⟩:∃e:Nat,x=(e:Int):=⟨x.toNat,by omega⟩
   have hel:e<2*es.length:=by omega
   have hval:=aX.val hel
   have hfl:=(Cs.bH hval hel).1
   rw[Cs.kB hel] at hto
   obtain⟨jh,mH⟩:∃jh,e/2=jh:=⟨_,rfl⟩
   have wH:(e:Int).tdiv 2=(jh:Int):=by rw[Int.tdiv_eq_ediv_of_nonneg (by omega)];omega
   have AD:(e:Int)/2=(jh:Int):=by omega
   have j0:(0:Int)≤(jh:Int):=by omega
   have j1:(jh:Int)<(es.length:Int):=by omega
   obtain⟨b4,o4,e4,d4⟩:=bZ E9.l4 (i:=jh) (by omega)
   obtain⟨b5,o5,e5,d5⟩:=bZ E9.l2 (i:=Cs.fr es e) (by omega)
   dsimp only at e4 e5
   subst e4
   injection e5 with e5
   injection e5 with e6 e7
   subst e6
   subst e7
   obtain⟨z,hz⟩:∃z,s.ay.getD (Cs.fr es e) (-1)=z:=⟨_,rfl⟩
   obtain⟨o,Qn⟩:∃o,s.aJ.getD jh (-1)=o:=⟨_,rfl⟩
   rw[hz] at d5
   rw[Qn] at d4
   have jx:Hid (∀V,Below w.heap.size w V→Calls Tryz.prog 114 #[.pointer q,.int .i64 (e:Int)] V fun r V'=>r= .returned (.int .i64 (v:Int))∧V'=V):=by
    intro V hV
    have:=lQ (.pointer q) n es e V (aX.later (h.later hV).aI)
    rw[Cs.kB hel,hto] at this
    exact this
   have jO:Hid (∀V,Below w.heap.size w V→Calls Tryz.prog 113 #[.pointer q,.int .i64 (e:Int)] V fun r V'=>r= .returned (.int .i64 (Cs.fr es e:Int))∧V'=V):=by
    intro V hV
    have:=j8 (.pointer q) n es e V (aX.later (h.later hV).aI)
    rw[Cs.jI hel] at this
    exact this
   have hH:Df.kn es s v↔(o=(e:Int)∧y=IntKind.i64.wrap (z+1)):=by
    unfold Df.kn
    rw[mE,GV]
    constructor
    ·rintro(⟨h,_⟩|⟨h',h1,h2,h3,h4,h5⟩)
     ·omega
     ·obtain rfl:h'=e:=by omega
      refine⟨?_,?_⟩
      ·rw[←Qn,←mH];exact h4
      ·rw[←hz];exact h5
    ·rintro⟨h1,h2⟩
     refine .inr ⟨e,hel,rfl,by omega,?_,?_⟩
     ·show s.aJ.getD (e/2) (-1)=_
      rw[mH,Qn];exact h1
     ·rw[h2,←hz]
   have HH:=Nu.hid hH
   obtain⟨fe,pQ⟩:∃fe,Cs.fr es e=fe:=⟨_,rfl⟩
   rw[pQ] at hfl d5 jO
   have f0:(0:Int)≤(fe:Int):=by omega
   have f1:(fe:Int)<(n:Int):=by omega
   have tv:((v:Int) != (v:Int))=false:=by simp
   have VP:Hid (∀W k,W=w.drewN k→W.cell? ⟨p,0,none⟩=some (.pointer q)∧W.cell? ⟨p,2,none⟩=some (.slice (some ⟨b2,o2,none⟩) n k2)∧W.cell? ⟨p,4,none⟩=some (.slice (some ⟨b4,o4,none⟩) es.length k4)∧W.cell? ⟨b4,o4+jh,none⟩=some (.int .i64 o)∧W.cell? ⟨b2,o2+fe,none⟩=some (.int .i64 z)):=fun W k hW=>by subst hW;exact⟨c0,c2,c4,d4,d5⟩
   have hjw:IntKind.i64.wrap (jh:Int)=(jh:Int):=by rw[IntKind.wrap_i64];omega
   by_cases ho:o=(e:Int)
   ·have t3:(o==(e:Int))=true:=by simp[ho]
    have HO:=Nu.hid ho
    clear hH E9 hF aX h hx hy mE GV Rq hz Qn pQ hto hval ho hx1
    go_enter Tryz.func164,Tryz.ntmps164
    go_wp2_with fail
    go_quiet (fail)
    obtain⟨W,hW⟩:∃W,W=w.drewN nq:=⟨_,rfl⟩
    rw[←hW]
    obtain⟨z0,z2,z4,y4,y5⟩:=VP.out W nq hW
    have dU:Below w.heap.size w W:=by rw[hW];exact below_drewN (Below.refl _ _) _
    have l8:=Nu.hid dU
    have Sy:=Nu.hid (jx.out W dU)
    clear hW dU c0 c1 c2 c4 d1 d2 d4 d5
    go_wp2_with (go_at_call 114;refine Sy.out.mono ?_;rintro r V ⟨rfl,hV⟩;obtain rfl:=hV.symm)
    go_quiet ((go_at_call 113;exact Calls.quiet_of_same (jO.out _ (below_drewN l8.out _))))
    go_wp2
    go_ret
    refine⟨_,rfl,?_,below_drewN l8.out _⟩
    have ew:wrap64 (z+1)=IntKind.i64.wrap (z+1):=by rw[IntKind.wrap_i64];unfold wrap64;rfl
    rw[HH.out,beq_iff_eq,ew]
    exact⟨fun h=>⟨HO.out,h⟩,fun h=>h.2⟩
   ·have t3:(o==(e:Int))=false:=by simp[ho]
    have HO:=Nu.hid ho
    clear hH E9 hF aX h hx hy mE GV Rq hz Qn pQ hto hval ho hx1
    go_enter Tryz.func164,Tryz.ntmps164
    go_wp2_with fail
    go_quiet (fail)
    obtain⟨W,hW⟩:∃W,W=w.drewN nq:=⟨_,rfl⟩
    rw[←hW]
    obtain⟨z0,z2,z4,y4,y5⟩:=VP.out W nq hW
    have dU:Below w.heap.size w W:=by rw[hW];exact below_drewN (Below.refl _ _) _
    have l8:=Nu.hid dU
    have Sy:=Nu.hid (jx.out W dU)
    clear hW dU c0 c1 c2 c4 d1 d2 d4 d5
    go_wp2_with (go_at_call 114;refine Sy.out.mono ?_;rintro r V ⟨rfl,hV⟩;obtain rfl:=hV.symm)
    go_quiet ((go_at_call 113;exact Calls.quiet_of_same (jO.out _ (below_drewN l8.out _))))
    go_wp2
    go_ret
    exact⟨false,rfl,by rw[HH.out];exact⟨fun h=>(by cases h),fun h=>absurd h.1 HO.out⟩,below_drewN l8.out _⟩
  ·have hne:Cs.FT es x≠(v:Int):=fun e=>pP ⟨by
    by_cases hx3:0≤x∧x<2*(es.length:Int)
    ·exact hx3
    ·rw[Cs.LF hx3] at e;omega,e⟩
   have hH:¬Df.kn es s v:=by
    unfold Df.kn
    rw[mE,GV]
    rintro(⟨h,_⟩|⟨h',h1,h2,h3,_⟩)
    ·exact hx1 h
    ·apply hne
     rw[h2,Cs.kB h1,h3]
   obtain⟨g,hg⟩:∃g,Cs.FT es x=g:=⟨_,rfl⟩
   have jx:Hid (∀V,Below w.heap.size w V→Calls Tryz.prog 114 #[.pointer q,.int .i64 x] V fun r V'=>r= .returned (.int .i64 g)∧V'=V):=by
    intro V hV
    have:=lQ (.pointer q) n es x V (aX.later (h.later hV).aI)
    rw[hg] at this
    exact this
   rw[hg] at hne
   have t3:(g != (v:Int))=true:=by simpa using hne
   have HH:=Nu.hid hH
   clear hH E9 hF aX h hx hy mE GV Rq pP hne hg hx1
   go_enter Tryz.func164,Tryz.ntmps164
   go_wp2_with fail
   go_quiet (fail)
   go_wp2_with (go_at_call 114;refine(jx.out _ (below_drewN (Below.refl _ _) _)).mono ?_;rintro r V ⟨rfl,hV⟩;obtain rfl:=hV.symm)
   go_ret
   exact⟨false,rfl,⟨fun h=>(by cases h),fun h=>absurd h HH.out⟩,below_drewN (Below.refl _ _) _⟩
set_option maxRecDepth 100000 in
set_option maxHeartbeats 8000000 in
theorem gK (aX:cE w0 av n es) (hF:dF w0 f s) (hL:Df.sN n es s) (h:aO w0 w p av f s pv bv):
 Calls Tryz.prog 154 #[.pointer (some ⟨p,0,none⟩)] w (jv (Df.BR n es s) w):=by
 obtain⟨CG,lX⟩:=aX.bounds
 have c0:=h.c0
 have HN:=Nu.hid (lY av n es w (aX.later h.aI))
 have HRP:Hid (∀V (v:Nat),Below w.heap.size w V→v<n→Calls Tryz.prog 164 #[.pointer (some ⟨p,0,none⟩),.int .i64 (v:Int)] V (jv (Df.kn es s v) V)):=fun V v hV hv=>wo v aX hF hL (h.later hV) hv
 clear aX hF hL h
 go_enter Tryz.func154,Tryz.ntmps154
 go_wp2_with (go_at_call 44;refine HN.out.mono ?_;rintro e w1 ⟨rfl,hw1⟩;obtain rfl:=hw1.symm)
 clear c0
 go_loopw [9] (fun c wr=>∃k:Nat,k≤n∧c= .int .i64 k∧(∀v,v<k→Df.kn es s v)∧Below w.heap.size w wr) (fun c _=>n-(intOf c).toNat)
 case atStart=>exact⟨0,Nat.zero_le _,rfl,fun v hv=>(by omega),Below.refl _ _⟩
 case round=>
  obtain⟨k,hk,rfl,hall,hb⟩:=hrel
  have qg:=Nu.hid hall
  have HB:=Nu.hid hb
  by_cases hlt:k<n
  ·have oA:(k:Int)<(n:Int):=by omega
   have eY:=HRP.out wr k hb hlt
   by_cases hh:Df.kn es s k
   ·have HC:Hid (Calls Tryz.prog 164 #[.pointer (some ⟨p,0,none⟩),.int .i64 (k:Int)] wr fun e V'=>e= .returned (.bool true)∧Below wr.heap.size wr V'):=eY.mono (by
     rintro e V' ⟨b,rfl,h1,h2⟩
     exact⟨by rw[h1.2 hh],h2⟩)
    have HH:=Nu.hid hh
    clear eY hh hall hb
    go_wp2_with (go_at_call 164;refine HC.out.mono ?_;rintro e w2 ⟨rfl,hb2⟩;have cz:=Nu.hid hb2;clear hb2)
    go_roundw
    case rel=>
     refine⟨k+1,by omega,by go_num,fun v hv=> ?_,HB.out.trans (cz.out.mono HB.out.size)⟩
     by_cases e:v=k
     ·rw[e];exact HH.out
     ·exact qg.out v (by omega)
    case measure=>simp[intOf];omega
   ·have HC:Hid (Calls Tryz.prog 164 #[.pointer (some ⟨p,0,none⟩),.int .i64 (k:Int)] wr fun e V'=>e= .returned (.bool false)∧Below wr.heap.size wr V'):=eY.mono (by
     rintro e V' ⟨b,rfl,h1,h2⟩
     cases b with
     |true=>exact absurd (h1.1 rfl) hh
     |false=>exact⟨rfl,h2⟩)
    have HH:=Nu.hid hh
    have yR:=Nu.hid hlt
    clear eY hh hall hb
    go_wp2_with (go_at_call 164;refine HC.out.mono ?_;rintro e w2 ⟨rfl,hb2⟩;have cz:=Nu.hid hb2;clear hb2)
    go_ret
    exact⟨false,rfl,⟨fun h=>(by cases h),fun h=>absurd (h k yR.out) HH.out⟩,HB.out.trans (cz.out.mono HB.out.size)⟩
  ·have hd:¬((k:Int)<(n:Int)):=by omega
   have HK:Hid (k=n):=show k=n by omega
   clear hall hb
   go_wp2
   go_ret
   exact⟨true,rfl,⟨fun _ v hv=>qg.out v (by rw[HK.out];exact hv),fun _=>rfl⟩,HB.out⟩
end
end
section
open Go.RowKit
namespace Df
def vE (n:Nat) (s:St) (k:Nat) (P:List Int):Prop:=P.length=n∧(∀a,a<k→at_ P (at_ s.ord a).toNat=(a:Int))∧∀v:Nat,v<n→(∀a,a<k→at_ s.ord a≠(v:Int))→at_ P v= -1
theorem vE.step {n:Nat} {s:St} {k:Nat} {P:List Int} {v:Nat} (h:vE n s k P) (ho:iq n s k) (hv:at_ s.ord k=(v:Int)) (dh:v<n) (hno:∀a,a<k→at_ s.ord a≠(v:Int)):iq n s (k+1)∧vE n s (k+1) (P.set v (k:Int)):=by
 obtain⟨h1,h2,h3⟩:=h
 have Dy:∀u:Nat,at_ (P.set v (k:Int)) u=if u=v then (k:Int) else at_ P u:=fun u=>by
  unfold at_
  rw[List.getD_eq_getElem?_getD,List.getElem?_set]
  by_cases e:v=u
  ·rw[if_pos e,if_pos (by omega),if_pos e.symm];rfl
  ·rw[if_neg e,if_neg (fun e2=>e e2.symm),←List.getD_eq_getElem?_getD]
 refine⟨fun i hi=> ?_,by simp[h1],fun a ha=> ?_,fun u hu hall=> ?_⟩
 ·by_cases e:i=k
  ·subst e
   rw[hv]
   exact⟨by omega,hno⟩
  ·exact ho i (by omega)
 ·rw[Dy]
  by_cases e:a=k
  ·subst e
   rw[hv,Int.toNat_natCast,if_pos rfl]
  ·have h4:=hno a (by omega)
   have h5:=(ho a (by omega)).1
   rw[if_neg (by omega)]
   exact h2 a (by omega)
 ·rw[Dy,if_neg]
  ·exact h3 u hu fun a ha=>hall a (by omega)
  ·intro e
   exact hall k (by omega) (by rw[hv,e])
end Df
def Oo (w0:World) (p:Nat) (av:Value) (f:For) (s:Df.St) (bv:Value) (n:Nat) (e:Ending) (w':World):Prop:=
 (∃gp P,e= .returned (.bool true)∧Df.iq n s n∧aO w0 w' p av f s (.slice (some ⟨gp,0,none⟩) n n) bv∧aq w' gp P∧Df.iY n s P∧gp≠p∧w0.heap.size≤gp)∨(e= .returned (.bool false)∧¬Df.iq n s n∧Below w0.heap.size w0 w')
section
variable {w0 w:World} {p:Nat} {av:Value} {f:For} {s:Df.St} {pv bv:Value} {n:Nat} {es:List (Int×Int)}
theorem aO.aK {g i:Nat} {x:Value} (h:aO w0 w p av f s pv bv) (hg:g≠p) (hlo:w0.heap.size≤g):aO w0 (w.setCell ⟨g,i,none⟩ x) p av f s pv bv:=
 ⟨h.aI.setCell (p:=⟨g,i,none⟩) hlo _,(cM (fun e=>hg e.symm) _).trans h.blk,h.lo⟩
theorem aO.LH (h:aO w0 w p av f s pv bv) (x:Value):aO w0 (w.setCell ⟨p,5,none⟩ x) p av f s x bv:=by
 refine⟨h.aI.setCell (p:=⟨p,5,none⟩) h.lo _,?_,h.lo⟩
 rw[heap_setCell_same w p 5 _ _ _ h.blk]
 rfl
theorem aO.O7 (h:aO w0 w p av f s pv bv) (x:Value):aO w0 (w.setCell ⟨p,6,none⟩ x) p av f s pv x:=by
 refine⟨h.aI.setCell (p:=⟨p,6,none⟩) h.lo _,?_,h.lo⟩
 rw[heap_setCell_same w p 6 _ _ _ h.blk]
 rfl
set_option maxRecDepth 100000 in
set_option maxHeartbeats 8000000 in
theorem iV (aX:cE w0 av n es) (hF:dF w0 f s) (hL:Df.sN n es s) (h:aO w0 w p av f s pv bv):
 Calls Tryz.prog 153 #[.pointer (some ⟨p,0,none⟩)] w (Oo w0 p av f s bv n):=by
 obtain⟨CG,lX⟩:=aX.bounds
 obtain⟨l1,l2,l3,l4⟩:=hL
 obtain⟨a1,a2,a3,a4,k1,k2,k3,k4⟩:=f
 have c0:=h.c0
 have HN:=Nu.hid (lY av n es w (aX.later h.aI))
 have HU:=Nu.hid (zC n w (by omega))
 have cQ:=Nu.hid aX
 have HF:=Nu.hid hF
 have HR:=Nu.hid h
 have Uu:=h.lt
 have hlo:=h.aI.size
 clear aX hF h
 go_enter Tryz.func153,Tryz.ntmps153
 go_wp2_with (first|(go_at_call 44;refine HN.out.mono ?_;rintro e w1 ⟨rfl,hw1⟩;obtain rfl:=hw1.symm)|(go_at_call 77;refine HU.out.mono ?_;rintro e w1 ⟨g,rfl,hg,hi,hb1⟩;refine Hid.out ?_))
 refine Nu.hid ?_
 have h1:=HR.out.later hb1
 have f5:=h1.free 5
 have c5:=h1.c5
 have ZB:g≠p:=by omega
 have h2:=h1.LH (.slice (some ⟨g,0,none⟩) n n)
 have hi2:=hi.aK (i:=5) (b:=p) ZB (.slice (some ⟨g,0,none⟩) n n)
 obtain⟨w2,hw2⟩:∃w2,w2=w1.setCell ⟨p,5,none⟩ (.slice (some ⟨g,0,none⟩) n n):=⟨_,rfl⟩
 have c3:=h2.c3
 rw[←hw2] at h2 hi2
 have H2:=Nu.hid h2
 have fY:=Nu.hid hi2
 have kR:=Nu.hid hw2
 dsimp only at c3
 clear hi hb1 h1 h2 hi2 hw2 c0 HR
 go_wp2
 rw[←kR.out]
 clear c5 f5 c3
 go_loopw [20] (fun c wr=>∃(k:Nat) (P:List Int),k≤n∧c= .int .i64 k∧Df.iq n s k∧Df.vE n s k P∧aq wr g P∧aO w0 wr p av ⟨a1,a2,a3,a4,k1,k2,k3,k4⟩ s (.slice (some ⟨g,0,none⟩) n n) bv) (fun c _=>n-(intOf c).toNat)
 case atStart=>
  refine⟨0,_,Nat.zero_le _,rfl,fun i hi=>(by omega),⟨by simp,fun a ha=>(by omega),fun v hv _=> ?_⟩,fY.out,H2.out⟩
  simp[Df.at_,List.getD_eq_getElem?_getD,hv]
 case round=>
  obtain⟨k,P,hk,rfl,hO,yE,Hp,hr⟩:=hrel
  have HO:=Nu.hid hO
  have yO:=Nu.hid yE
  have HIP:=Nu.hid Hp
  have xk:=Nu.hid hr
  by_cases hlt:k<n
  ·have oA:(k:Int)<(n:Int):=by omega
   have ag3:(k:Int)<(s.ord.length:Int):=by omega
   have hk0:(0:Int)≤(k:Int):=by omega
   obtain⟨b3,o3,e3,d3⟩:=bZ (HF.out.later hr.aI).l3 (i:=k) (by omega)
   dsimp only at e3
   subst e3
   obtain⟨x,hx⟩:∃x,s.ord.getD k (-1)=x:=⟨_,rfl⟩
   have mE:Df.at_ s.ord k=x:=hx
   rw[hx] at d3
   have eY:=Cn x cQ.out hr
   by_cases hin:0≤x∧x<(n:Int)
   ·rw[decide_eq_true hin] at eY
    obtain⟨v,rfl⟩:∃v:Nat,x=(v:Int):=⟨x.toNat,by omega⟩
    have dh:v<n:=by omega
    obtain⟨v0,v1⟩:=hin
    have ahw:=yE.1
    have c5:=hr.c5
    have d5:=Hp.cell (cP (-1) (by omega:v<P.length))
    have f5:=Hp.free v
    have HC:=Nu.hid eY
    by_cases Q0:∃a,a<k∧Df.at_ s.ord a=(v:Int)
    ·obtain⟨a,ha,j5⟩:=Q0
     have hpa:P.getD v (-1)=(a:Int):=by
      have:=yE.2.1 a ha
      rw[j5,Int.toNat_natCast] at this
      exact this
     rw[hpa] at d5
     have t1:((a:Int) != -1)=true:=by simp only[bne_iff_ne,ne_eq];omega
     have jk:Hid (¬Df.iq n s n):=fun h=>(h k hlt).2 a ha (by rw[j5,mE])
     have vL:=Nu.hid hr.aI
     clear hO yE Hp hr hx mE eY hpa j5
     go_wp2_with (go_at_call 163;refine HC.out.mono ?_;rintro e w3 ⟨rfl,hw3⟩;obtain rfl:=hw3.symm)
     go_ret
     exact .inr ⟨rfl,jk.out,vL.out⟩
    ·have hno:∀a,a<k→Df.at_ s.ord a≠(v:Int):=fun a ha e=>Q0 ⟨a,ha,e⟩
     have hpa:P.getD v (-1)= -1:=yE.2.2 v dh hno
     rw[hpa] at d5
     have HST:=Nu.hid (yE.step hO mE dh hno)
     have BW:=Nu.hid (Hp.set v (k:Int))
     have SR:=Nu.hid (hr.aK (i:=v) (x:= .int .i64 (k:Int)) ZB (by omega:w0.heap.size≤g))
     clear hO yE Hp hr hx mE eY hpa hno Q0
     go_wp2_with (go_at_call 163;refine HC.out.mono ?_;rintro e w3 ⟨rfl,hw3⟩;obtain rfl:=hw3.symm)
     go_roundw
     case rel=>exact⟨k+1,_,by omega,by go_num,HST.out.1,HST.out.2,BW.out,SR.out⟩
     case measure=>simp[intOf];omega
   ·rw[decide_eq_false hin] at eY
    have HC:=Nu.hid eY
    have jk:Hid (¬Df.iq n s n):=fun h=>hin (by have:=(h k hlt).1;rw[mE] at this;exact this)
    have vL:=Nu.hid hr.aI
    clear hO yE Hp hr hx mE eY hin
    go_wp2_with (go_at_call 163;refine HC.out.mono ?_;rintro e w3 ⟨rfl,hw3⟩;obtain rfl:=hw3.symm)
    go_ret
    exact .inr ⟨rfl,jk.out,vL.out⟩
  ·have hd:¬((k:Int)<(s.ord.length:Int)):=by omega
   obtain rfl:k=n:=by omega
   have HGP:=Nu.hid ZB
   have HLG:Hid (w0.heap.size≤g):=show w0.heap.size≤g by omega
   clear hO yE Hp hr
   go_wp2
   go_ret
   exact .inl ⟨g,P,rfl,HO.out,xk.out,HIP.out,⟨yO.out.1,yO.out.2.1⟩,HGP.out,HLG.out⟩
end
end
section
open Go.RowKit
structure eD (w0 w:World) (p q gp gb:Nat) (av:Value) (f:For) (s:Df.St) (n:Nat) (v:Value) (P B W:List Int):Prop where
 rd:aO w0 w p av f s (.slice (some ⟨gp,0,none⟩) n n) (.slice (some ⟨gb,0,none⟩) n n)
 ip:aq w gp P
 ib:aq w gb B
 st:ij w q 0 #[v] 90 w0.heap.size v W.reverse
 ne:p≠gp∧p≠gb∧p≠q∧gp≠gb∧gp≠q∧gb≠q
 lo:w0.heap.size≤gp∧w0.heap.size≤gb∧w0.heap.size≤q
 far:v.ownBlock≠some p∧v.ownBlock≠some gp∧v.ownBlock≠some gb
section
variable {w0 w w':World} {p q gp gb:Nat} {av:Value} {f:For} {s:Df.St} {n:Nat} {v:Value} {P B W:List Int}
theorem ij.later {b o B:Nat} {cs:Array Value} {T:TypeId} {v:Value} {K:List Int} (h:ij w b o cs T B v K) (hb:Below w.heap.size w w'):ij w' b o cs T B v K:=⟨(hb.block b h.lt).trans h.blk,h.at_,h.own.later hb,h.far⟩
theorem eD.later (h:eD w0 w p q gp gb av f s n v P B W) (hb:Below w.heap.size w w'):eD w0 w' p q gp gb av f s n v P B W:=⟨h.rd.later hb,h.ip.later hb,h.ib.later hb,h.st.later hb,h.ne,h.lo,h.far⟩
theorem eD.O7 (h:eD w0 w p q gp gb av f s n v P B W) (u:Nat) (x:Int):eD w0 (w.setCell ⟨gb,u,none⟩ (.int .i64 x)) p q gp gb av f s n v P (B.set u x) W:=by
 obtain⟨n1,n2,n3,n4,n5,n6⟩:=h.ne
 exact⟨h.rd.aK (Ne.symm n2) h.lo.2.1,h.ip.aK n4 _,h.ib.set u x,⟨(cM (Ne.symm n6) _).trans h.st.blk,h.st.at_,h.st.own.aK h.far.2.2 _,h.st.far⟩,h.ne,h.lo,h.far⟩
theorem eD.popped {x:Int} {e:Ending} {W':List Int} (h:eD w0 w p q gp gb av f s n v P B W) (hp:vD q 0 #[v] 90 w0.heap.size v W'.reverse x w e w'):∃v',eD w0 w' p q gp gb av f s n v' P B W':=by
 obtain⟨_,v',hst,hat,hw⟩:=hp
 obtain⟨n1,n2,n3,n4,n5,n6⟩:=h.ne
 have hB:=h.rd.aI.size
 have keep:∀b,b<w.heap.size→b≠q→w'.heap[b]? =w.heap[b]? :=fun b hb h1=>hw.block b hb h1
 exact⟨v',⟨h.rd.aI.trans (hw.below hB fun k hk=>by subst hk;exact h.lo.2.2),(keep p h.rd.lt n3).trans h.rd.blk,h.rd.lo⟩,(keep gp h.ip.lt n5).trans h.ip,(keep gb h.ib.lt n6).trans h.ib,hst,h.ne,h.lo,by rw[hat];exact h.far⟩
theorem eD.pushed {e:Ending} {x:Int} (h:eD w0 w p q gp gb av f s n v P B W) (hp:r8 q 0 #[v] 90 w0.heap.size v (W.reverse++[x]) w e w'):∃v',eD w0 w' p q gp gb av f s n v' P B (x::W):=by
 obtain⟨_,v',hst,hat,hw⟩:=hp
 obtain⟨n1,n2,n3,n4,n5,n6⟩:=h.ne
 have hB:=h.rd.aI.size
 have keep:∀b,b<w.heap.size→b≠q→v.ownBlock≠some b→w'.heap[b]? =w.heap[b]? :=fun b hb h1 h2=>hw.block b hb (fun e=>e.elim h1 h2)
 have hnew:∀b,b<w.heap.size→v.ownBlock≠some b→v'.ownBlock≠some b:=fun b hb hne e=>by
  rcases hat with e1|⟨g,e1,hg⟩
  ·exact hne (e1.symm.trans e)
  ·rw[e1] at e
   have:=Option.some.inj e
   omega
 refine⟨v',⟨h.rd.aI.trans (hw.below hB fun k hk=> ?_),(keep p h.rd.lt n3 h.far.1).trans h.rd.blk,h.rd.lo⟩,(keep gp h.ip.lt n5 h.far.2.1).trans h.ip,(keep gb h.ib.lt n6 h.far.2.2).trans h.ib,?_,h.ne,h.lo,hnew p h.rd.lt h.far.1,hnew gp h.ip.lt h.far.2.1,hnew gb h.ib.lt h.far.2.2⟩
 ·rcases hk with rfl|hk
  ·exact h.lo.2.2
  ·exact(h.st.own.lt hk).1
 ·rw[List.reverse_cons]
  exact hst
def yj (w0:World) (p q gp gb:Nat) (av:Value) (f:For) (s:Df.St) (n:Nat) (P:List Int) (u i:Int) (T:List Int×List Int) (w:World) (k:Nat):Prop:=
 ∃v B W,W.length=k∧eD w0 w p q gp gb av f s n v P B W∧Df.leave u i W B=T∧B.length=n∧∀x∈W,0≤x∧x<(n:Int)
def BQ (w0:World) (p q gp gb:Nat) (av:Value) (f:For) (s:Df.St) (n:Nat) (P:List Int) (T:List Int×List Int) (e:Ending) (w':World):Prop:=
 e= .returned (.tuple #[])∧∃v,eD w0 w' p q gp gb av f s n v P T.2 T.1
set_option maxRecDepth 100000 in
set_option maxHeartbeats 8000000 in
theorem Ar (u i:Int) (h:eD w0 w p q gp gb av f s n v P B W) (hB:B.length=n) (hW:∀x∈W,0≤x∧x<(n:Int)) (hl:W.length≤1048576):
 Calls Tryz.prog 165 #[.pointer (some ⟨p,0,none⟩),.pointer (some ⟨q,0,none⟩),.int .i64 u,.int .i64 i] w (BQ w0 p q gp gb av f s n P (Df.leave u i W B)):=by
 obtain⟨T,hT⟩:∃T,Df.leave u i W B=T:=⟨_,rfl⟩
 have HI:Hid (yj w0 p q gp gb av f s n P u i T w W.length):=⟨v,B,W,rfl,h,hT,hB,hW⟩
 rw[hT]
 have HL:=Nu.hid hl
 clear h hT hB hW hl
 go_enter Tryz.func165,Tryz.ntmps165
 go_wp2
 go_loopw [8] (fun _ wr=>∃k,k≤W.length∧yj w0 p q gp gb av f s n P u i T wr k) (fun _ wr=>leastOf (yj w0 p q gp gb av f s n P u i T wr))
 case atStart=>exact⟨_,Nat.le_refl _,HI.out⟩
 case round=>
  obtain⟨k0,Mf,hk0⟩:=hrel
  obtain⟨hI,hle⟩:=leastOf_spec hk0
  obtain⟨k,hk⟩:∃k,leastOf (yj w0 p q gp gb av f s n P u i T wr)=k:=⟨_,rfl⟩
  rw[hk] at hI hle
  have xp:Hid (∀V k',yj w0 p q gp gb av f s n P u i T V k'→k'<k→leastOf (yj w0 p q gp gb av f s n P u i T V)<leastOf (yj w0 p q gp gb av f s n P u i T wr)):=fun V k' h1 h2=>by
   rw[hk]
   have:=(leastOf_spec h1).2
   omega
  have HKL:Hid (k≤W.length):=show k≤W.length by omega
  have cT:k≤1048576:=by have:=HL.out;have:=HKL.out;omega
  clear hk hk0 hle Mf
  obtain⟨v1,B1,W1,hW1,hs,hT,hB1,hr1⟩:=hI
  cases W1 with
  |nil=>
   have he:=mO q 0 _ _ _ _ _ wr hs.st
   have wO:decide (([]:List Int).reverse.length=0)=true:=rfl
   rw[wO] at he
   have HE:=Nu.hid he
   have bI:Hid (∃v,eD w0 wr p q gp gb av f s n v P T.2 T.1):=⟨v1,by rw[←hT];exact hs⟩
   clear he hs hT wO hr1 hB1 hW1
   go_wp2_with (go_at_call 80;refine HE.out.mono ?_;rintro e w2 ⟨rfl,hw2⟩;obtain rfl:=hw2.symm)
   go_end0
   exact⟨rfl,bI.out⟩
  |cons x W1=>
   have hst:=hs.st
   rw[List.reverse_cons] at hst
   have hlen:W1.reverse.length≤17592186044000:=by rw[List.length_reverse];simp at hW1;omega
   have he:=mO q 0 _ _ _ _ _ wr hst
   have wO:decide ((W1.reverse++[x]).length=0)=false:=by simp
   rw[wO] at he
   have HE:=Nu.hid he
   have lM:Hid (Calls Tryz.prog 111 #[.pointer (some ⟨q,0,none⟩)] wr fun e w'=>e= .returned (.int .i64 x)∧∃k,w'=wr.drewN k):=FR q 0 _ _ _ _ W1.reverse x wr hst hlen
   by_cases hx:x=u
   ·have t1:(x != u)=false:=by simp[hx]
    have bI:Hid (∀d,∃v,eD w0 (wr.drewN d) p q gp gb av f s n v P T.2 T.1):=fun d=>⟨v1,by
     rw[←hT]
     unfold Df.leave
     rw[if_pos hx]
     exact hs.later (below_drewN (Below.refl _ _) d)⟩
    clear he hs hT wO hr1 hB1 hW1 hst hx
    go_wp2_with (first|(go_at_call 80;refine HE.out.mono ?_;rintro e w2 ⟨rfl,hw2⟩;obtain rfl:=hw2.symm)|(go_at_call 111;refine lM.out.mono ?_;rintro e w3 ⟨rfl,d,rfl⟩))
    go_end0
    exact⟨rfl,bI.out d⟩
   ·have t1:(x != u)=true:=by simp[hx]
    have hx0:=hr1 x List.mem_cons_self
    obtain⟨y,rfl⟩:∃y:Nat,x=(y:Int):=⟨x.toNat,by omega⟩
    have y0:(0:Int)≤(y:Int):=by omega
    have y1:(y:Int)<(n:Int):=by omega
    have jM:Hid (∀V,Below wr.heap.size wr V→Calls Tryz.prog 81 #[.pointer (some ⟨q,0,none⟩)] V fun e V'=>e= .returned (.int .i64 (y:Int))∧V'.cell? ⟨p,6,none⟩=some (.slice (some ⟨gb,0,none⟩) n n)∧(∃c,V'.cell? ⟨gb,y,none⟩=some (.int .i64 c))∧V'.frozen? ⟨gb,y,none⟩=false∧(V'.setCell ⟨gb,y,none⟩ (.int .i64 i)).cell? ⟨p,6,none⟩=some (.slice (some ⟨gb,0,none⟩) n n)∧yj w0 p q gp gb av f s n P u i T (V'.setCell ⟨gb,y,none⟩ (.int .i64 i)) W1.length):=fun V hV=>by
     have hsV:=hs.later hV
     have acN:=hst.later hV
     refine(Gj q 0 _ _ _ _ W1.reverse (y:Int) V acN hlen).mono ?_
     intro e V' hp
     obtain⟨v2,h2⟩:=hsV.popped hp
     have h3:=h2.O7 y i
     refine⟨hp.1,h2.rd.c6,⟨_,h2.ib.cell (cP (-1) (by omega:y<B1.length))⟩,h2.ib.free y,h3.rd.c6,v2,B1.set y i,W1,rfl,h3,?_,by simp[hB1],fun z hz=>hr1 z (List.mem_cons_of_mem _ hz)⟩
     rw[←hT]
     conv=>rhs;unfold Df.leave
     rw[if_neg hx,Int.toNat_natCast]
    have HS:Hid (∀V,Below wr.heap.size wr V→V.cell? ⟨p,6,none⟩=some (.slice (some ⟨gb,0,none⟩) n n)):=fun V hV=>(hs.later hV).rd.c6
    have yR:Hid (W1.length<k):=show W1.length<k by simp at hW1;omega
    clear he hs hT wO hr1 hB1 hW1 hst hx hlen hx0
    go_wp2_with (first|(go_at_call 80;refine HE.out.mono ?_;rintro e w2 ⟨rfl,hw2⟩;obtain rfl:=hw2.symm)|(go_at_call 111;refine lM.out.mono ?_;rintro e w3 ⟨rfl,d,rfl⟩))
    have hbd:Below wr.heap.size wr (wr.drewN d).drew:=(below_drewN (Below.refl _ _) _).drew
    have uV:Below wr.heap.size wr (wr.drewN (d+1)):=below_drewN (Below.refl _ _) _
    go_region_held3 (fun V=>V.cell? ⟨p,6,none⟩=some (.slice (some ⟨gb,0,none⟩) n n))
     (first|assumption|exact HS.out _ (by first|assumption|exact hbd|exact uV))
     ((go_at_call 81;refine(jM.out _ (by first|assumption|exact hbd|exact uV)).mono ?_;rintro e V1 ⟨rfl,q1,⟨c1,q2⟩,q3,q4,q5⟩))
    all_goals
     have Q5:=Nu.hid q5
     clear q5
     go_wp2
     go_roundw
     case rel=>exact⟨_,by have:=HKL.out;have:=yR.out;omega,Q5.out⟩
     case measure=>exact xp.out _ _ Q5.out yR.out
end
end
section
open Go.RowKit
def Ok (w0:World) (p gp:Nat) (av:Value) (f:For) (s:Df.St) (n:Nat) (es:List (Int×Int)) (P:List Int) (e:Ending) (w':World):Prop:=
 (∃gb W B,e= .returned (.bool true)∧Df.side n es s n=some (W,B)∧aO w0 w' p av f s (.slice (some ⟨gp,0,none⟩) n n) (.slice (some ⟨gb,0,none⟩) n n)∧aq w' gp P∧aq w' gb (Df.ends n W B))∨(e= .returned (.bool false)∧Df.side n es s n=none∧Below w0.heap.size w0 w')
section
variable {w0 w:World} {p gp:Nat} {av:Value} {f:For} {s:Df.St} {pv bv:Value} {n:Nat} {es:List (Int×Int)} {P:List Int}
set_option maxRecDepth 100000 in
set_option maxHeartbeats 16000000 in
theorem kV (aX:cE w0 av n es) (hF:dF w0 f s) (hL:Df.sN n es s) (ho:Df.iq n s n) (h:aO w0 w p av f s (.slice (some ⟨gp,0,none⟩) n n) bv) (Zy:aq w gp P) (hne:gp≠p) (Zw:w0.heap.size≤gp):
 Calls Tryz.prog 155 #[.pointer (some ⟨p,0,none⟩)] w (Ok w0 p gp av f s n es P):=by
 obtain⟨i0,hi,hz0,hz1,hz2⟩:=info_parts Tryz.bS
 obtain⟨CG,lX⟩:=aX.bounds
 obtain⟨l1,l2,l3,l4⟩:=hL
 obtain⟨a1,a2,a3,a4,k1,k2,k3,k4⟩:=f
 have j5:∃q,av= .pointer q:=by
  rcases aX with ⟨h,_⟩|⟨_,p,h,_⟩
  ·exact⟨_,h⟩
  ·exact⟨_,h⟩
 obtain⟨qa,rfl⟩:=j5
 have c0:=h.c0
 have HN:=Nu.hid (lY (.pointer qa) n es w (aX.later h.aI))
 have hmk:∀V,(Instr.makeSlice 27 (.int .i64 (n:Int)) (.int .i64 (n:Int))).run Tryz.prog V= .ok (.slice (some ⟨V.heap.size,0,none⟩) n n) (V.alloc (.cells (madeCells #[.int .i64 0] n) 3)):=fun V=>by
  have:=run_make (P:=Tryz.prog) V 27 3 i0 (.int .i64 0) Tryz.underlying27 hi hz0 .i64 .i64 (n:Int) (n:Int) (by omega) (Int.le_refl _) (by rw[hz2];omega) (by omega)
  rw[this,hz1]
  simp[Value.cells]
 have Uu:=h.lt
 have ajV:=Zy.lt
 have f6:=h.free 6
 have c6:=h.c6
 obtain⟨w1,hw1⟩:∃w1,w1=w.setCell ⟨p,6,none⟩ (.slice (some ⟨w.heap.size,0,none⟩) n n):=⟨_,rfl⟩
 have h1:=h.O7 (.slice (some ⟨w.heap.size,0,none⟩) n n)
 have QN:=Zy.aK (i:=6) (b:=p) hne (.slice (some ⟨w.heap.size,0,none⟩) n n)
 rw[←hw1] at h1 QN
 have hs1:w1.heap.size=w.heap.size:=by rw[hw1];simp
 obtain⟨w2,hw2⟩:∃w2,w2=w1.alloc (.cells (madeCells #[.int .i64 0] n) 3):=⟨_,rfl⟩
 have hb2:Below w1.heap.size w1 w2:=by rw[hw2];exact(Below.refl _ _).alloc (Nat.le_refl _) _
 have Xh:aq w2 w.heap.size (List.replicate n 0):=by
  unfold aq
  rw[hw2,alloc_at hs1,←cD]
 have h2:=h1.later hb2
 have Xe:=QN.later hb2
 obtain⟨w3,hw3⟩:∃w3,w3=w2.alloc (.cells #[.slice none 0 0] 90):=⟨_,rfl⟩
 have hb3:Below w2.heap.size w2 w3:=by rw[hw3];exact(Below.refl _ _).alloc (Nat.le_refl _) _
 have hs2:w2.heap.size=w.heap.size+1:=by rw[hw2];simp[hs1]
 have PZ:=h.aI.size
 have Ka:eD w0 w3 p (w.heap.size+1) gp w.heap.size (.pointer qa) ⟨a1,a2,a3,a4,k1,k2,k3,k4⟩ s n (.slice none 0 0) P (List.replicate n 0) []:=by
  refine⟨h2.later hb3,Xe.later hb3,Xh.later hb3,⟨?_,rfl,.nil _ _,by simp[Value.ownBlock]⟩,⟨Ne.symm hne,by omega,by omega,by omega,by omega,by omega⟩,⟨Zw,PZ,by omega⟩,by simp[Value.ownBlock]⟩
  rw[hw3]
  exact alloc_at hs2
 have c3:=Ka.rd.c3
 have SJ:=Nu.hid Ka
 have jR:=Nu.hid hw1
 have kR:=Nu.hid hw2
 have m8:=Nu.hid hw3
 have cQ:=Nu.hid aX
 have HF:=Nu.hid hF
 have HO:=Nu.hid ho
 dsimp only at c3
 rw[hw3,hw2,hw1] at c3
 clear aX hF ho h Zy h1 QN hb2 h2 Xh Xe hb3 Ka hw1 hw2 hw3
 go_enter Tryz.func155,Tryz.ntmps155
 go_wp2_with (go_at_call 44;refine HN.out.mono ?_;rintro e w4 ⟨rfl,hw4⟩;obtain rfl:=hw4.symm)
 rw[←jR.out,←kR.out,←m8.out]
 obtain⟨Q,hQ⟩:∃Q,w.heap.size+1=Q:=⟨_,rfl⟩
 obtain⟨gb,hgb⟩:∃gb,w.heap.size=gb:=⟨_,rfl⟩
 rw[hgb] at hQ
 rw[hgb,hQ] at SJ ⊢
 clear hmk c0 c6 f6 c3 jR kR m8
 go_loopw [22] (fun c wr=>∃(k:Nat) (W B:List Int) (v:Value),k≤n∧c= .int .i64 k∧Df.side n es s k=some (W,B)∧eD w0 wr p Q gp gb (.pointer qa) ⟨a1,a2,a3,a4,k1,k2,k3,k4⟩ s n v P B W) (fun c _=>n-(intOf c).toNat)
 case atStart=>exact⟨0,[],List.replicate n 0,_,Nat.zero_le _,rfl,rfl,SJ.out⟩
 case round=>
  obtain⟨k,W,B,v,hk,rfl,aN,hs⟩:=hrel
  obtain⟨hrg,UL,hBl⟩:=Df.qy HO.out hk aN
  have c1:=hs.rd.c1
  have c0:=hs.rd.c0
  have c3:=hs.rd.c3
  dsimp only at c1 c3
  rw[l1] at c1
  rw[l3] at c3
  by_cases hlt:k<n
  ·have oA:(k:Int)<(n:Int):=by omega
   have hk0:(0:Int)≤(k:Int):=by omega
   have hxr:=(HO.out k hlt).1
   obtain⟨b3,o3,e3,d3⟩:=bZ (HF.out.later hs.rd.aI).l3 (i:=k) (by omega)
   dsimp only at e3
   subst e3
   obtain⟨x,hx⟩:∃x,s.ord.getD k (-1)=x:=⟨_,rfl⟩
   have mE:Df.at_ s.ord k=x:=hx
   rw[hx] at d3
   rw[mE] at hxr
   obtain⟨y,rfl⟩:∃y:Nat,x=(y:Int):=⟨x.toNat,by omega⟩
   have y0:(0:Int)≤(y:Int):=by omega
   have y1:(y:Int)<(n:Int):=by omega
   obtain⟨b1,o1,e1,d1⟩:=bZ (HF.out.later hs.rd.aI).l1 (i:=y) (by omega)
   dsimp only at e1
   subst e1
   obtain⟨z,hz⟩:∃z,s.par.getD y (-1)=z:=⟨_,rfl⟩
   rw[hz] at d1
   obtain⟨u,hu⟩:∃u,Cs.Ff es z=u:=⟨_,rfl⟩
   have eP:Df.up es s (Df.at_ s.ord k)=u:=by
    rw[mE]
    unfold Df.up
    rw[Int.toNat_natCast]
    have:Df.at_ s.par y=z:=hz
    rw[this,hu]
   have jO:Hid (∀V,Below wr.heap.size wr V→Calls Tryz.prog 113 #[.pointer qa,.int .i64 z] V fun r V'=>r= .returned (.int .i64 u)∧V'=V):=fun V hV=>by
    have:=j8 (.pointer qa) n es z V (cQ.out.later (hs.later hV).rd.aI)
    rw[hu] at this
    exact this
   have VC:Hid (∀V,Below wr.heap.size wr V→Calls Tryz.prog 165 #[.pointer (some ⟨p,0,none⟩),.pointer (some ⟨Q,0,none⟩),.int .i64 u,.int .i64 (k:Int)] V (BQ w0 p Q gp gb (.pointer qa) ⟨some ⟨b1,o1,none⟩,a2,some ⟨b3,o3,none⟩,a4,k1,k2,k3,k4⟩ s n P (Df.leave u k W B))):=fun V hV=>Ar u k (hs.later hV) hBl hrg (by omega)
   have lV:Df.side n es s (k+1)=if u≠-1∧(Df.leave u k W B).1=[] then none else some ((y:Int)::(Df.leave u k W B).1,(Df.leave u k W B).2):=by
    conv=>lhs;unfold Df.side
    rw[aN,Option.bind_some]
    dsimp only
    rw[eP,mE]
   have Ic:(Df.leave u k W B).1.length≤k:=by
    obtain⟨X,hX,_,_⟩:=Df.mC (p:=u) (i:=(k:Int)) W B
    have:=congrArg List.length hX
    rw[List.length_append] at this
    omega
   obtain⟨T,hT⟩:∃T,Df.leave u k W B=T:=⟨_,rfl⟩
   rw[hT] at VC lV Ic
   have l7:=Nu.hid lV
   clear hT lV eP hu hz hx mE hxr hrg UL hBl aN hs c3
   go_wp2_with fail
   go_quiet ((go_at_call 113;exact Calls.quiet_of_same (jO.out _ (below_drewN (Below.refl _ _) _))))
   go_wp2_with (go_at_call 165;refine(VC.out _ (below_drewN (Below.refl _ _) _)).mono ?_;rintro e w5 ⟨rfl,v5,h5⟩;refine Hid.out ?_)
   refine Nu.hid ?_
   have hem:=mO Q 0 _ _ _ _ _ w5 h5.st
   have AR:=(wB Q 0 _ _ _ _ T.1.reverse (y:Int) w5 h5.st h5.rd.aI.size (by rw[List.length_reverse];omega)).mono (R':=fun e w'=>e= .returned (.tuple #[])∧∃v',eD w0 w' p Q gp gb (.pointer qa) ⟨some ⟨b1,o1,none⟩,a2,some ⟨b3,o3,none⟩,a4,k1,k2,k3,k4⟩ s n v' P T.2 ((y:Int)::T.1)) (fun e w' hp=>⟨hp.1,h5.pushed hp⟩)
   have C2:=Nu.hid AR
   have vL:=Nu.hid h5.rd.aI
   by_cases hu1:u= -1
   ·have t1:(u != -1)=false:=by simp[hu1]
    have kA:=Nu.hid (l7.out.trans (if_neg (fun h=>h.1 hu1)))
    clear hem AR h5 hu1
    go_wp2_with (go_at_call 82;refine C2.out.mono ?_;rintro e w6 ⟨rfl,v6,h6⟩;have H6:=Nu.hid h6;clear h6)
    go_roundw
    case rel=>exact⟨k+1,_,_,v6,by omega,by go_num,kA.out,H6.out⟩
    case measure=>simp[intOf];omega
   ·have t1:(u != -1)=true:=by simp[hu1]
    by_cases hTe:T.1=[]
    ·have hd:decide (T.1.reverse.length=0)=true:=by simp[hTe]
     rw[hd] at hem
     have fZ:=Nu.hid hem
     have kA:Hid (Df.side n es s n=none):=by
      have e1:Df.side n es s (k+1)=none:=by rw[l7.out,if_pos ⟨hu1,hTe⟩]
      have:=Df.zM e1 (n-(k+1))
      rw[show k+1+(n-(k+1))=n by omega] at this
      exact this
     clear hem AR h5 hu1 hTe hd
     go_wp2_with (go_at_call 80;refine fZ.out.mono ?_;rintro e w6 ⟨rfl,Zh⟩;obtain rfl:=Zh.symm)
     go_ret
     exact .inr ⟨rfl,kA.out,vL.out⟩
    ·have hd:decide (T.1.reverse.length=0)=false:=by simp[hTe]
     rw[hd] at hem
     have fZ:=Nu.hid hem
     have kA:=Nu.hid (l7.out.trans (if_neg (fun h=>hTe h.2)))
     clear hem AR h5 hu1 hTe hd
     go_wp2_with (first|(go_at_call 80;refine fZ.out.mono ?_;rintro e w6 ⟨rfl,Zh⟩;obtain rfl:=Zh.symm)|(go_at_call 82;refine C2.out.mono ?_;rintro e w6 ⟨rfl,v6,h6⟩;have H6:=Nu.hid h6;clear h6))
     go_roundw
     case rel=>exact⟨k+1,_,_,v6,by omega,by go_num,kA.out,H6.out⟩
     case measure=>simp[intOf];omega
  ·have hd:¬((k:Int)<(n:Int)):=by omega
   obtain rfl:k=n:=by omega
   have VC:=Nu.hid (Ar (-1) (k:Int) hs hBl hrg (by omega))
   have HSD:=Nu.hid aN
   have HTE:Hid ((Df.leave (-1) (k:Int) W B).2=Df.ends k W B):=rfl
   clear hs aN hrg hBl UL
   go_wp2_with (go_at_call 165;refine VC.out.mono ?_;rintro e w5 ⟨rfl,v5,h5⟩;have H5:=Nu.hid h5;clear h5)
   go_ret
   exact .inl ⟨gb,W,B,rfl,HSD.out,H5.out.rd,H5.out.ip,H5.out.ib⟩
end
end
end Go.Proofs.YtnhcggfbkoppnaaGreat
