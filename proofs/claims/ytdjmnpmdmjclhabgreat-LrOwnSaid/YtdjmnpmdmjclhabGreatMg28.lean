import Derived.Test.YtdjmnpmdmjclhabGreatMg16
import Derived.Test.YtdjmnpmdmjclhabGreatMg08
import Derived.Test.YtdjmnpmdmjclhabGreatMg01
namespace Go.Proofs.YtdjmnpmdmjclhabGreat
section
open Go.RowKit
namespace Lo
open Df
section
variable {n:Nat} {es:List (Int×Int)} {s:St} {e:Nat}
theorem aaQ (hv:Si.Val n es) (h:VF n es s) (he:e<es.length):0≤hf es s e∧hf es s e<(n:Int):=by
 have:=tJ hv h.once h.hang h.side _ (bK hv h he).1
 exact⟨this.1,this.2.1⟩
theorem Hh (hv:Si.Val n es) (h:VF n es s) (he:e<es.length):0≤low es s e∧low es s e≤cz es s e∧cz es s e≤hf es s e∧hf es s e<(n:Int):=⟨Hi hv h he,(Fc es s e).1,(Fc es s e).2,(aaQ hv h he).2⟩
end
end Lo
section
variable {p:Nat} {av:Value} {n:Nat} {es:List (Int×Int)} {f:For} {s:Df.St}
def O9 (es:List (Int×Int)) (s:Df.St) (w:World) (e:Ending) (w':World):Prop:=
 ∃g3,e= .returned (.slice (some ⟨g3,0,none⟩) es.length es.length)∧aq w' g3 (upTo (Lo.nest es s) es.length)∧w.heap.size≤g3∧Below w.heap.size w w'
set_option maxRecDepth 100000 in
set_option maxHeartbeats 16000000 in
theorem Kk (g1 g2:Nat) (w:World) (hd:Wd w p av n es f s) (h1:aF w g1 (upTo (Lo.low es s) es.length)) (h2:aF w g2 (upTo (Lo.cz es s) es.length)):
 Calls Tryz.prog 63 #[.pointer (some ⟨p,0,none⟩),.agg #[.slice (some ⟨g1,0,none⟩) es.length es.length,.slice (some ⟨g2,0,none⟩) es.length es.length,.slice none 0 0,.slice none 0 0]] w (O9 es s w):=by
 have cj:=hd.val.few
 have hn:=hd.val.hi
 obtain⟨i0,hi,hz0,hz1,hz2⟩:=info_parts Tryz.bO
 have hmk:∀W,(Instr.makeSlice 27 (.int .i64 (es.length:Int)) (.int .i64 (es.length:Int))).run Tryz.prog W= .ok (.slice (some ⟨W.heap.size,0,none⟩) es.length es.length) (W.alloc (.cells (madeCells #[.int .i64 0] es.length) 3)):=fun W=>by
  have:=run_make (P:=Tryz.prog) W 27 3 i0 (.int .i64 0) Tryz.underlying27 hi hz0 .i64 .i64 (es.length:Int) (es.length:Int) (by omega) (by omega) (by rw[hz2];omega) (by omega)
  rw[this,hz1]
  simp[Value.cells]
 obtain⟨W0,hW0⟩:∃W0,W0=w.alloc (.cells #[.slice (some ⟨g1,0,none⟩) es.length es.length,.slice (some ⟨g2,0,none⟩) es.length es.length,.slice none 0 0,.slice none 0 0] 86):=⟨_,rfl⟩
 obtain⟨W,hW⟩:∃W,W=W0.alloc (.cells (madeCells #[.int .i64 0] es.length) 3):=⟨_,rfl⟩
 have hs0:W0.heap.size=w.heap.size+1:=by rw[hW0];simp
 have hb0:Below w.heap.size w W0:=by rw[hW0];exact(aae _ _).alloc (aad _) _
 have dS:Below w.heap.size w W:=by rw[hW];exact hb0.alloc hb0.size _
 have YF:W.heap.size=w.heap.size+2:=by rw[hW];simp[hs0]
 have SI:W0.heap[w.heap.size]? =some (.cells #[.slice (some ⟨g1,0,none⟩) es.length es.length,.slice (some ⟨g2,0,none⟩) es.length es.length,.slice none 0 0,.slice none 0 0] 86 (0,0)):=by rw[hW0];exact heap_alloc_new w _
 have hLb:W.heap[w.heap.size]? =some (.cells #[.slice (some ⟨g1,0,none⟩) es.length es.length,.slice (some ⟨g2,0,none⟩) es.length es.length,.slice none 0 0,.slice none 0 0] 86 (0,0)):=by rw[hW,aap _ _ _ (by omega)];exact SI
 have hG:aq W (w.heap.size+1) (List.replicate es.length 0):=by rw[hW];exact sj hs0
 obtain⟨x0,x1,-,-,-⟩:=au SI
 have c4:=(hd.later dS).c4
 have HD:=Nu.hid hd
 have HLb:=Nu.hid hLb
 have HI:Hid (∀V,Below w.heap.size w V→aF V g1 (upTo (Lo.low es s) es.length)∧aF V g2 (upTo (Lo.cz es s) es.length)):=fun V hV=>⟨h1.later hV,h2.later hV⟩
 have mS:g1<w.heap.size∧g2<w.heap.size:=⟨h1.lt,h2.lt⟩
 have HG:=Nu.hid hG
 have jY:=Nu.hid dS
 rw[hW0] at x0
 rw[hW,hW0] at c4
 have HW:Hid (W=(w.alloc (.cells #[.slice (some ⟨g1,0,none⟩) es.length es.length,.slice (some ⟨g2,0,none⟩) es.length es.length,.slice none 0 0,.slice none 0 0] 86)).alloc (.cells (madeCells #[.int .i64 0] es.length) 3)):=by rw[←hW0];exact hW
 clear hd h1 h2 hLb hG dS hW hW0 hb0 hs0 SI x1
 go_enter Tryz.func63,Tryz.ntmps63
 go_wp2
 clear hmk x0 c4
 go_loopw [18] (fun i wr=>∃(k:Nat) (A3:List Int),k≤es.length∧i= .int .i64 (k:Int)∧aq wr (w.heap.size+1) A3∧A3.length=es.length∧(∀j,j<k→A3[j]? =some (Lo.nest es s j))∧wr.heap[w.heap.size]? =some (.cells #[.slice (some ⟨g1,0,none⟩) es.length es.length,.slice (some ⟨g2,0,none⟩) es.length es.length,.slice none 0 0,.slice none 0 0] 86 (0,0))∧Below w.heap.size w wr) (fun i _=>es.length-(intOf i).toNat)
 case atStart=>
  rw[←HW.out]
  exact⟨0,_,aax _,rfl,HG.out,by simp,(fun j hj=>by omega),HLb.out,jY.out⟩
 case round=>
  obtain⟨k,A3,hk,rfl,hA,hAl,VR,hlb,hb⟩:=hrel
  by_cases hlt:k<es.length
  ·have hdw:=HD.out.later hb
   obtain⟨b4,o4,e4,d4⟩:=hdw.aJ hlt
   have d4k:=d4 wr (aae _ _) k hlt
   obtain⟨ho1,ho2,xj,Bi⟩:=Lo.cO HD.out.vf hlt
   rw[ho1] at d4k
   obtain⟨q1,q2⟩:=HI.out wr hb
   have r1:=q1.cell (gT (f:=Lo.low es s) hlt)
   obtain⟨x0,x1,-,-,-⟩:=au hlb
   have aee:=Lo.Hh HD.out.val HD.out.vf hlt
   obtain⟨lo,hlo⟩:∃lo,Lo.low es s k=lo:=⟨_,rfl⟩
   obtain⟨l2,hl2⟩:∃l2,Lo.cz es s k=l2:=⟨_,rfl⟩
   obtain⟨hf,KX⟩:∃hf,Lo.hf es s k=hf:=⟨_,rfl⟩
   obtain⟨hh,IA⟩:∃hh,Lo.oh s k=hh:=⟨_,rfl⟩
   have Ju:Hid (Lo.nest es s k=if lo<l2∧l2<hf then 2*lo+1 else 2*lo):=by
    show _=_
    unfold Lo.nest
    rw[hlo,hl2,KX]
   rw[hlo,hl2,KX] at aee
   rw[hlo] at r1
   rw[IA] at d4k xj
   obtain⟨a3,ha3⟩:∃z,A3[k]? =some z:=⟨_,aac (by omega)⟩
   have y1:=hA.cell ha3
   have y2:=hA.free k
   have yx:Below w.heap.size w (wr.setCell ⟨w.heap.size+1,k,none⟩ (.int .i64 (2*lo))):=hb.setCell (p:=⟨w.heap.size+1,k,none⟩) (by simp) _
   obtain⟨w1,hw1⟩:∃w1,w1=wr.setCell ⟨w.heap.size+1,k,none⟩ (.int .i64 (2*lo)):=⟨_,rfl⟩
   have VS:aq w1 (w.heap.size+1) (A3.set k (2*lo)):=by rw[hw1];exact hA.set k _
   have D9:w1.heap[w.heap.size]? =some (.cells #[.slice (some ⟨g1,0,none⟩) es.length es.length,.slice (some ⟨g2,0,none⟩) es.length es.length,.slice none 0 0,.slice none 0 0] 86 (0,0)):=by rw[hw1,heap_setCell_other _ _ _ _ (by show w.heap.size≠w.heap.size+1;omega)];exact hlb
   rw[←hw1] at yx
   have jE:=Nu.hid hw1
   have aY:=Nu.hid yx
   have CA:=Nu.hid VS
   have EB:=Nu.hid D9
   have hda:=HD.out.later yx
   have Uz:Hid (∀D:LW w1,Calls Tryz.prog 99 #[.pointer (some ⟨p,0,none⟩),.int .i64 (hh:Int)] D.val fun e w'=>e= .returned (.int .i64 hf)∧Below D.val.heap.size D.val w'):=fun D=>by
    have:=yH hh xj (hda.later D.h)
    rw[←IA] at this
    rw[←KX,←IA]
    exact this
   have s0:∀D:LW w1,D.val.cell? ⟨w.heap.size,0,none⟩=some (.slice (some ⟨g1,0,none⟩) es.length es.length):=fun D=>(au ((D.h.block _ (lt_of_block D9)).trans D9)).1
   have s1:∀D:LW w1,D.val.cell? ⟨w.heap.size,1,none⟩=some (.slice (some ⟨g2,0,none⟩) es.length es.length):=fun D=>(au ((D.h.block _ (lt_of_block D9)).trans D9)).2.1
   have t1:∀D:LW w1,D.val.cell? ⟨g1,k,none⟩=some (.int .i64 lo):=fun D=>by
    have:=(HI.out D.val (yx.trans (D.h.mono yx.size))).1.cell (gT (f:=Lo.low es s) hlt)
    rwa[hlo] at this
   have t2:∀D:LW w1,D.val.cell? ⟨g2,k,none⟩=some (.int .i64 l2):=fun D=>by
    have:=(HI.out D.val (yx.trans (D.h.mono yx.size))).2.cell (gT (f:=Lo.cz es s) hlt)
    rwa[hl2] at this
   have hne:=LW.any w1
   have zJ:=Nu.hid hAl
   have HAJ:=Nu.hid VR
   have k0:(0:Int)≤(k:Int):=by omega
   have k1:(k:Int)<(es.length:Int):=by omega
   have e40:f.a4=some ⟨b4,o4,none⟩:=e4
   rw[e40]
   clear hA hAl VR hlb hb hdw d4 q1 q2 hlo hl2 KX IA ho1 ho2 Bi ha3 hw1 yx VS D9 hda e4 e40
   go_wp2
   rw[←jE.out]
   by_cases c1:lo<l2
   ·by_cases c2:l2<hf
    ·refine aB (by kernel_rfl) (by kernel_rfl) ?_
     repeat (go_big_quiet_step ((first|(go_at_call 99;exact Calls.lw (Uz.out _)))))
     refine wpQuiet_nil ?_
     rintro _ ⟨D,rfl⟩
     have Dg:=CA.out.later D.h
     have Us:=Nu.hid Dg
     have Uq:=Nu.hid ((D.h.block _ (lt_of_block EB.out)).trans EB.out)
     have Ur:=Nu.hid (aY.out.trans (D.h.mono aY.out.size))
     have z1:=Dg.cell (i:=k) (x:=2*lo) (by rw[aaq,if_pos rfl,if_pos (by have:=zJ.out;omega)])
     have z2:=Dg.free k
     clear Dg
     go_wp2
     go_roundw
     case rel=>
      refine⟨k+1,_,by omega,by go_num,Us.out.set k _,by simpa using zJ.out,fun j hj=> ?_,?_,Ur.out.setCell (p:=⟨w.heap.size+1,k,none⟩) (by simp) _⟩
      ·rw[aaq]
       by_cases e:k=j
       ·subst e
        rw[if_pos rfl,if_pos (by have:=zJ.out;simp;omega),Ju.out,if_pos ⟨c1,c2⟩]
       ·rw[if_neg e,aaq,if_neg e]
        exact HAJ.out j (by omega)
      ·rw[heap_setCell_other _ _ _ _ (by show w.heap.size≠w.heap.size+1;omega)]
       exact Uq.out
     case measure=>simp[intOf];omega
    ·refine aB (by kernel_rfl) (by kernel_rfl) ?_
     repeat (go_big_quiet_step ((first|(go_at_call 99;exact Calls.lw (Uz.out _)))))
     refine wpQuiet_nil ?_
     rintro _ ⟨D,rfl⟩
     have Dg:=CA.out.later D.h
     have Us:=Nu.hid Dg
     have Uq:=Nu.hid ((D.h.block _ (lt_of_block EB.out)).trans EB.out)
     have Ur:=Nu.hid (aY.out.trans (D.h.mono aY.out.size))
     clear Dg
     go_wp2
     go_roundw
     case rel=>
      refine⟨k+1,_,by omega,by go_num,Us.out,by simpa using zJ.out,fun j hj=> ?_,Uq.out,Ur.out⟩
      rw[aaq]
      by_cases e:k=j
      ·subst e
       rw[if_pos rfl,if_pos (by have:=zJ.out;omega),Ju.out,if_neg (by omega)]
      ·rw[if_neg e]
       exact HAJ.out j (by omega)
     case measure=>simp[intOf];omega
   ·refine aB (by kernel_rfl) (by kernel_rfl) ?_
    repeat (go_big_quiet_step ((first|(go_at_call 99;exact Calls.lw (Uz.out _)))))
    refine wpQuiet_nil ?_
    rintro _ ⟨D,rfl⟩
    have Dg:=CA.out.later D.h
    have Us:=Nu.hid Dg
    have Uq:=Nu.hid ((D.h.block _ (lt_of_block EB.out)).trans EB.out)
    have Ur:=Nu.hid (aY.out.trans (D.h.mono aY.out.size))
    clear Dg
    go_wp2
    go_roundw
    case rel=>
     refine⟨k+1,_,by omega,by go_num,Us.out,by simpa using zJ.out,fun j hj=> ?_,Uq.out,Ur.out⟩
     rw[aaq]
     by_cases e:k=j
     ·subst e
      rw[if_pos rfl,if_pos (by have:=zJ.out;omega),Ju.out,if_neg (by omega)]
     ·rw[if_neg e]
      exact HAJ.out j (by omega)
    case measure=>simp[intOf];omega
  ·have hd:¬((k:Int)<(es.length:Int)):=by omega
   have xl:k=es.length:=by omega
   have HA:=Nu.hid hA
   have HB:=Nu.hid hb
   have HE:Hid (A3=upTo (Lo.nest es s) es.length):=by
    show _=_
    refine aa6 fun j=> ?_
    by_cases hj:j<es.length
    ·rw[gT hj]
     exact VR j (by omega)
    ·rw[aat (by omega),aat (by rw[fE];omega)]
   clear hA hAl VR hlb hb
   go_wp2
   go_ret
   exact⟨_,rfl,by rw[←HE.out];exact HA.out,by omega,HB.out⟩
end
end
section
open Go.RowKit Go.Shelf
attribute [local go_sem] Oper.semAt_some
section
variable {p:Nat} {av:Value} {n:Nat} {es:List (Int×Int)} {f:For} {s:Df.St}
set_option maxRecDepth 100000 in
set_option maxHeartbeats 16000000 in
theorem N8 (w:World) (hd:Wd w p av n es f s):Calls Tryz.prog 62 #[.pointer (some ⟨p,0,none⟩)] w (xK es s w):=by
 have cj:=hd.val.few
 obtain⟨W,hW⟩:∃W,W=(w.alloc (.cells #[.pointer (some ⟨p,0,none⟩)] 123)).alloc (.cells #[.slice none 0 0,.slice none 0 0,.slice none 0 0,.slice none 0 0] 86):=⟨_,rfl⟩
 have dS:Below w.heap.size w W:=by rw[hW];exact((aae _ _).alloc (aad _) _).alloc (by simp) _
 have YF:W.heap.size=w.heap.size+2:=by rw[hW];simp
 have bw:Boxed W w.heap.size 123 (.pointer (some ⟨p,0,none⟩)):=by rw[hW];exact(acF w _ _).alloc _
 have hres:W.heap[w.heap.size+1]? =some (.cells #[.slice none 0 0,.slice none 0 0,.slice none 0 0,.slice none 0 0] 86 (0,0)):=by rw[hW];exact alloc_at (by simp)
 have HM:Hid (∀V,Below W.heap.size W V→Calls Tryz.prog 60 #[av] V fun e w'=>e= .returned (.int .i64 (es.length:Int))∧w'=V):=fun V hV=>zS av n es V (hd.later (dS.trans (hV.mono dS.size))).Dp
 have HS:Hid (∀V,Below W.heap.size W V→(V.cell? ⟨w.heap.size,0,none⟩=some (.pointer (some ⟨p,0,none⟩))∧V.cell? ⟨p,0,none⟩=some av∧Below W.heap.size W V)):=fun V hV=>
  ⟨acG ((hV.block _ bw.lt).trans bw),(hd.later (dS.trans (hV.mono dS.size))).c0,hV⟩
 obtain⟨i0,hi,hz0,hz1,hz2⟩:=info_parts Tryz.bO
 have hmk:∀W,(Instr.makeSlice 27 (.int .i64 (es.length:Int)) (.int .i64 (es.length:Int))).run Tryz.prog W= .ok (.slice (some ⟨W.heap.size,0,none⟩) es.length es.length) (W.alloc (.cells (madeCells #[.int .i64 0] es.length) 3)):=fun W=>by
  have:=run_make (P:=Tryz.prog) W 27 3 i0 (.int .i64 0) Tryz.underlying27 hi hz0 .i64 .i64 (es.length:Int) (es.length:Int) (by omega) (by omega) (by rw[hz2];omega) (by omega)
  rw[this,hz1]
  simp[Value.cells]
 have lg:=Nu.hid hW
 have HD:=Nu.hid hd
 have hm1:(es.length:Int)≤4194304:=by omega
 clear hW hd
 refine(callsIn_wide (n:=13)).1 ?_
 refine callsIn_of_wp_marks Tryz.func62 rfl trivial ?_ rfl
 simp only[Tryz.ntmps62,abR,aar,aaS,Nat.reduceAdd,Nat.reduceSub,abA,abB,abS,abK,aaE,abi]
 refine wpIn_wide.2 ?_
 go_wp2_with fail
 rename_i K hK
 rw[←lg.out]
 have HK:=Nu.hid hK
 clear hK
 have HMK:Hid (∀V Lb g1 g2,Below W.heap.size W V→V.heap[Lb]? =some (.cells #[.slice (some ⟨g1,0,none⟩) es.length es.length,.slice (some ⟨g2,0,none⟩) es.length es.length,.slice none 0 0,.slice none 0 0] 86 (0,0))→aq V g1 (List.replicate es.length 0)→aq V g2 (List.replicate es.length 0)→
  w.heap.size+2≤Lb∧w.heap.size+2≤g1∧w.heap.size+2≤g2∧Lb≠g1∧Lb≠g2∧g1≠g2→Nc w V p es.length w.heap.size (w.heap.size+1) Lb g1 g2):=fun V Lb g1 g2 hV h1 h2 h3 h4=>
  ⟨dS.trans (hV.mono dS.size),(hV.block _ bw.lt).trans bw,(hV.block _ (lt_of_block hres)).trans hres,h1,h2,h3,by omega,by omega⟩
 go_region_held3 (fun V=>V.cell? ⟨w.heap.size,0,none⟩=some (.pointer (some ⟨p,0,none⟩))∧V.cell? ⟨p,0,none⟩=some av∧Below W.heap.size W V)
  (exact HS.out _ (by repeat (first|exact aae _ _|refine ug ?_|refine uh ?_ _)))
  ((go_at_call 60;refine(HM.out _ (by repeat (first|exact aae _ _|refine ug ?_|refine uh ?_ _))).mono ?_;rintro e V1 ⟨rfl,rfl⟩))
 all_goals
  refine HK.out _ _ (Ko w _ w.heap.size (w.heap.size+1) _ _ _ _ _ _ _ _ _ _ _ _ _ _ HD.out (HMK.out _ _ _ _ ?_ ?_ ?_ ?_ ?_))
  ·repeat (first|exact aae _ _|refine ug ?_|refine uh ?_ _)
  ·refine OM ?_
   repeat (first|(refine alloc_at ?_;first|omega|(simp only[aaM];omega))|refine K2 (by first|omega|(simp only[aaM];omega)) ?_)
  ·refine aq.drew ?_
   repeat (first|(refine sj ?_;first|omega|(simp only[aaM];omega))|refine aq.alloc ?_ _)
  ·refine aq.drew ?_
   repeat (first|(refine sj ?_;first|omega|(simp only[aaM];omega))|refine aq.alloc ?_ _)
  ·omega
end
end
section
open Go.RowKit
abbrev Mo (av:Value) (f:For) (s:Df.St) (pv bv:Value):Array Value:= #[av,.slice f.a1 s.par.length f.c1,.slice f.a2 s.az.length f.c2,.slice f.a3 s.ord.length f.c3,.slice f.a4 s.aJ.length f.c4,pv,bv]
structure aN (w0 w:World) (p:Nat) (av:Value) (f:For) (s:Df.St) (pv bv:Value):Prop where
 aI:Below w0.heap.size w0 w
 blk:w.heap[p]? =some (.cells (Mo av f s pv bv) 199 (0,0))
 lo:w0.heap.size≤p
section
variable {w0 w w':World} {p:Nat} {av:Value} {f:For} {s:Df.St} {pv bv:Value} {n:Nat} {es:List (Int×Int)}
theorem aN.c0 (h:aN w0 w p av f s pv bv):w.cell? ⟨p,0,none⟩=some av:=by simp[World.cell?,h.blk]
theorem aN.c1 (h:aN w0 w p av f s pv bv):w.cell? ⟨p,1,none⟩=some (.slice f.a1 s.par.length f.c1):=by simp[World.cell?,h.blk]
theorem aN.c2 (h:aN w0 w p av f s pv bv):w.cell? ⟨p,2,none⟩=some (.slice f.a2 s.az.length f.c2):=by simp[World.cell?,h.blk]
theorem aN.c3 (h:aN w0 w p av f s pv bv):w.cell? ⟨p,3,none⟩=some (.slice f.a3 s.ord.length f.c3):=by simp[World.cell?,h.blk]
theorem aN.c4 (h:aN w0 w p av f s pv bv):w.cell? ⟨p,4,none⟩=some (.slice f.a4 s.aJ.length f.c4):=by simp[World.cell?,h.blk]
theorem aN.c5 (h:aN w0 w p av f s pv bv):w.cell? ⟨p,5,none⟩=some pv:=by simp[World.cell?,h.blk]
theorem aN.c6 (h:aN w0 w p av f s pv bv):w.cell? ⟨p,6,none⟩=some bv:=by simp[World.cell?,h.blk]
theorem aN.free (h:aN w0 w p av f s pv bv) (i:Nat):w.frozen? ⟨p,i,none⟩=false:=by simp[World.frozen?,h.blk]
theorem aN.lt (h:aN w0 w p av f s pv bv):p<w.heap.size:=lt_of_block h.blk
theorem aN.later (h:aN w0 w p av f s pv bv) (hb:Below w.heap.size w w'):aN w0 w' p av f s pv bv:=⟨h.aI.trans (hb.mono h.aI.size),(hb.block p h.lt).trans h.blk,h.lo⟩
set_option maxRecDepth 100000 in
set_option maxHeartbeats 4000000 in
theorem CO (x:Int) (aW:cE w0 av n es) (h:aN w0 w p av f s pv bv):
 Calls Tryz.prog 160 #[.pointer (some ⟨p,0,none⟩),.int .i64 x] w fun e w'=>e= .returned (.bool (decide (0≤x∧x<(n:Int))))∧w'=w:=by
 have c0:=h.c0
 have HN:=Nu.hid (mm av n es w (aW.later h.aI))
 clear h aW
 by_cases h0:0≤x
 ·have hd:decide (0≤x∧x<(n:Int))=decide (x<(n:Int)):=by simp[h0]
  rw[hd]
  go_enter Tryz.func160,Tryz.ntmps160
  go_wp2_with (go_at_call 46;refine HN.out.mono ?_;rintro e w1 ⟨rfl,rfl⟩)
  go_ret
  exact⟨rfl,rfl⟩
 ·have hd:decide (0≤x∧x<(n:Int))=false:=by simp[h0]
  rw[hd]
  go_enter Tryz.func160,Tryz.ntmps160
  go_wp2_with (go_at_call 46;refine HN.out.mono ?_;rintro e w1 ⟨rfl,rfl⟩)
  go_ret
  exact⟨rfl,rfl⟩
set_option maxRecDepth 100000 in
set_option maxHeartbeats 8000000 in
theorem iC (aW:cE w0 av n es) (h:aN w0 w p av f s pv bv):
 Calls Tryz.prog 150 #[.pointer (some ⟨p,0,none⟩)] w fun e w'=>∃b,e= .returned (.bool b)∧(b=true↔Df.tu n es s)∧Below w.heap.size w w':=by
 have kC:∃q,av= .pointer q:=by
  rcases aW with ⟨h,_⟩|⟨_,p,h,_⟩
  ·exact⟨_,h⟩
  ·exact⟨_,h⟩
 obtain⟨q,rfl⟩:=kC
 obtain⟨a1,a2,a3,a4,c1,c2,c3,c4⟩:=f
 have HS:Hid (∀V,Below w.heap.size w V→V.cell? ⟨p,0,none⟩=some (.pointer q)∧V.cell? ⟨p,1,none⟩=some (.slice a1 s.par.length c1)∧V.cell? ⟨p,2,none⟩=some (.slice a2 s.az.length c2)∧V.cell? ⟨p,3,none⟩=some (.slice a3 s.ord.length c3)∧V.cell? ⟨p,4,none⟩=some (.slice a4 s.aJ.length c4)):=fun V hV=>by
  have:=h.later hV
  exact⟨this.c0,this.c1,this.c2,this.c3,this.c4⟩
 have HN:Hid (∀V,Below w.heap.size w V→Calls Tryz.prog 46 #[.pointer q] V fun e V'=>e= .returned (.int .i64 (n:Int))∧V'=V):=fun V hV=>mm _ n es V (aW.later (h.later hV).aI)
 have HM:Hid (∀V,Below w.heap.size w V→Calls Tryz.prog 60 #[.pointer q] V fun e V'=>e= .returned (.int .i64 (es.length:Int))∧V'=V):=fun V hV=>zS _ n es V (aW.later (h.later hV).aI)
 have hbd:Below w.heap.size w w.drew:=(aae _ _).drew
 have Vm:=h.lt
 obtain⟨m,hm⟩:∃m,es.length=m:=⟨_,rfl⟩
 obtain⟨l1,h1⟩:∃l,s.par.length=l:=⟨_,rfl⟩
 obtain⟨l2,h2⟩:∃l,s.az.length=l:=⟨_,rfl⟩
 obtain⟨l3,h3⟩:∃l,s.ord.length=l:=⟨_,rfl⟩
 obtain⟨l4,h4⟩:∃l,s.aJ.length=l:=⟨_,rfl⟩
 have hL:Df.tu n es s↔(l1=n∧l2=n∧l3=n∧l4=m):=by unfold Df.tu;rw[h1,h2,h3,h4,hm]
 rw[hm] at HM
 rw[h1,h2,h3,h4] at HS
 have HL:=Nu.hid hL
 clear h aW hm h1 h2 h3 h4 hL
 go_enter Tryz.func150,Tryz.ntmps150
 go_wp2_with fail
 go_region_held3 (fun V=>V.cell? ⟨p,0,none⟩=some (.pointer q)∧V.cell? ⟨p,1,none⟩=some (.slice a1 l1 c1)∧V.cell? ⟨p,2,none⟩=some (.slice a2 l2 c2)∧V.cell? ⟨p,3,none⟩=some (.slice a3 l3 c3)∧V.cell? ⟨p,4,none⟩=some (.slice a4 l4 c4))
  (exact HS.out _ (by repeat (first|assumption|exact aae _ _|with_reducible refine ug ?_|with_reducible refine uh ?_ _)))
  ((first
    |(go_at_call 46;refine(HN.out _ (by repeat (first|assumption|exact aae _ _|with_reducible refine ug ?_|with_reducible refine uh ?_ _))).mono ?_;rintro e V1 ⟨rfl,rfl⟩)
    |(go_at_call 60;refine(HM.out _ (by repeat (first|assumption|exact aae _ _|with_reducible refine ug ?_|with_reducible refine uh ?_ _))).mono ?_;rintro e V1 ⟨rfl,rfl⟩)))
 all_goals
  have hbz:Below w.heap.size w (w.alloc (.cells #[.slice a1 l1 c1,.slice a2 l2 c2,.slice a3 l3 c3,.slice a4 l4 c4] 36)).drew:=ug (uh (aae _ _) _)
  have oY:=Nu.hid hbz
  clear hbz HS HN HM
  by_cases e1:l1=n
  ·have t1:((l1:Int)==(n:Int))=true:=by simp only[beq_iff_eq];omega
   have E1:=Nu.hid e1
   clear e1
   by_cases e2:l2=n
   ·have t2:((l2:Int)==(n:Int))=true:=by simp only[beq_iff_eq];omega
    have E2:=Nu.hid e2
    clear e2
    by_cases e3:l3=n
    ·have t3:((l3:Int)==(n:Int))=true:=by simp only[beq_iff_eq];omega
     have E3:=Nu.hid e3
     clear e3
     by_cases e4:l4=m
     ·have t4:((l4:Int)==(m:Int))=true:=by simp only[beq_iff_eq];omega
      have E4:=Nu.hid e4
      clear e4
      go_wp2
      go_ret
      exact⟨true,rfl,by rw[HL.out];exact⟨fun _=>⟨E1.out,E2.out,E3.out,E4.out⟩,fun _=>rfl⟩,oY.out⟩
     ·have t4:((l4:Int)==(m:Int))=false:=by simp only[beq_eq_false_iff_ne,ne_eq];omega
      have E4:=Nu.hid e4
      clear e4
      go_wp2
      go_ret
      exact⟨false,rfl,by rw[HL.out];exact⟨fun h=>(by cases h),fun h=>absurd h.2.2.2 E4.out⟩,oY.out⟩
    ·have t3:((l3:Int)==(n:Int))=false:=by simp only[beq_eq_false_iff_ne,ne_eq];omega
     have E3:=Nu.hid e3
     clear e3
     go_wp2
     go_ret
     exact⟨false,rfl,by rw[HL.out];exact⟨fun h=>(by cases h),fun h=>absurd h.2.2.1 E3.out⟩,oY.out⟩
   ·have t2:((l2:Int)==(n:Int))=false:=by simp only[beq_eq_false_iff_ne,ne_eq];omega
    have E2:=Nu.hid e2
    clear e2
    go_wp2
    go_ret
    exact⟨false,rfl,by rw[HL.out];exact⟨fun h=>(by cases h),fun h=>absurd h.2.1 E2.out⟩,oY.out⟩
  ·have t1:((l1:Int)==(n:Int))=false:=by simp only[beq_eq_false_iff_ne,ne_eq];omega
   have E1:=Nu.hid e1
   clear e1
   go_wp2
   go_ret
   exact⟨false,rfl,by rw[HL.out];exact⟨fun h=>(by cases h),fun h=>absurd h.1 E1.out⟩,oY.out⟩
end
end
section
open Go.RowKit
section
variable {w0 w:World} {p:Nat} {av:Value} {f:For} {s:Df.St} {pv bv:Value} {n:Nat} {es:List (Int×Int)}
set_option maxRecDepth 100000 in
set_option maxHeartbeats 8000000 in
theorem wM (v:Nat) (aW:cE w0 av n es) (hF:dI w0 f s) (hL:Df.tu n es s) (h:aN w0 w p av f s pv bv) (hv:v<n):
 Calls Tryz.prog 161 #[.pointer (some ⟨p,0,none⟩),.int .i64 (v:Int)] w (jB (Df.kI es s v) w):=by
 obtain⟨l1,l2,l3,l4⟩:=hL
 obtain⟨C8,mh⟩:=aW.bounds
 have kC:∃q,av= .pointer q:=by
  rcases aW with ⟨h,_⟩|⟨_,p,h,_⟩
  ·exact⟨_,h⟩
  ·exact⟨_,h⟩
 obtain⟨q,rfl⟩:=kC
 obtain⟨a1,a2,a3,a4,k1,k2,k3,k4⟩:=f
 have Fz:=hF.later h.aI
 obtain⟨b1,o1,e1,d1⟩:=cg Fz.l1 (i:=v) (by omega)
 obtain⟨b2,o2,e2,d2⟩:=cg Fz.l2 (i:=v) (by omega)
 dsimp only at e1 e2
 subst e1
 subst e2
 have c0:=h.c0
 have c1:=h.c1
 have c2:=h.c2
 have c4:=h.c4
 dsimp only at c1 c2 c4
 rw[l1] at c1
 rw[l2] at c2
 rw[l4] at c4
 obtain⟨x,hx⟩:∃x,s.par.getD v (-1)=x:=⟨_,rfl⟩
 obtain⟨y,hy⟩:∃y,s.az.getD v (-1)=y:=⟨_,rfl⟩
 have mN:Df.at_ s.par v=x:=hx
 have H7:Df.at_ s.az v=y:=hy
 rw[hx] at d1
 rw[hy] at d2
 have v0:(0:Int)≤(v:Int):=by omega
 have v1:(v:Int)<(n:Int):=by omega
 have Sx:=l7 (.pointer q) n es x
 by_cases hx1:x= -1
 ·have hH:Df.kI es s v↔y=0:=by
   unfold Df.kI
   rw[mN,H7]
   constructor
   ·rintro(⟨_,h⟩|⟨h,_,h1,_⟩)
    ·exact h
    ·omega
   ·exact fun h=> .inl ⟨hx1,h⟩
  have t1:(x== -1)=true:=by simp[hx1]
  have HH:=Nu.hid hH
  by_cases hy0:y=0
  ·have t2:(y==0)=true:=by simp[hy0]
   have HY:=Nu.hid hy0
   subst hx1
   clear hH Fz hF aW h hx hy mN H7 Sx hy0 t1
   go_enter Tryz.func161,Tryz.ntmps161
   go_wp2_with fail
   go_quiet (fail)
   go_wp2
   go_ret
   exact⟨true,rfl,by rw[HH.out];exact⟨fun _=>HY.out,fun _=>rfl⟩,below_drewN (aae _ _) _⟩
  ·have t2:(y==0)=false:=by simp[hy0]
   have HY:=Nu.hid hy0
   subst hx1
   clear hH Fz hF aW h hx hy mN H7 Sx hy0 t1
   go_enter Tryz.func161,Tryz.ntmps161
   go_wp2_with fail
   go_quiet (fail)
   go_wp2
   go_ret
   exact⟨false,rfl,by rw[HH.out];exact⟨fun h=>(by cases h),fun h=>absurd h HY.out⟩,below_drewN (aae _ _) _⟩
 ·have t1:(x== -1)=false:=by simp[hx1]
  by_cases pU:(0≤x∧x<2*(es.length:Int))∧Cs.Gu es x=(v:Int)
  ·obtain⟨⟨hx0,hx2⟩,hto⟩:=pU
   obtain⟨e,rfl⟩:∃e:Nat,x=(e:Int):=⟨x.toNat,by omega⟩
   have hel:e<2*es.length:=by omega
   have hval:=aW.val hel
   have hfl:=(Cs.bH hval hel).1
   rw[Cs.kL hel] at hto
   obtain⟨jh,mP⟩:∃jh,e/2=jh:=⟨_,rfl⟩
   have xd:(e:Int).tdiv 2=(jh:Int):=by rw[aaZ (by omega)];omega
   have A7:(e:Int)/2=(jh:Int):=by omega
   have j0:(0:Int)≤(jh:Int):=by omega
   have j1:(jh:Int)<(es.length:Int):=by omega
   obtain⟨b4,o4,e4,d4⟩:=cg Fz.l4 (i:=jh) (by omega)
   obtain⟨b5,o5,e5,d5⟩:=cg Fz.l2 (i:=Cs.fr es e) (by omega)
   dsimp only at e4 e5
   subst e4
   injection e5 with e5
   injection e5 with e6 e7
   subst e6
   subst e7
   obtain⟨z,hz⟩:∃z,s.az.getD (Cs.fr es e) (-1)=z:=⟨_,rfl⟩
   obtain⟨o,Q8⟩:∃o,s.aJ.getD jh (-1)=o:=⟨_,rfl⟩
   rw[hz] at d5
   rw[Q8] at d4
   have jF:Hid (∀V,Below w.heap.size w V→Calls Tryz.prog 92 #[.pointer q,.int .i64 (e:Int)] V fun r V'=>r= .returned (.int .i64 (v:Int))∧V'=V):=by
    intro V hV
    have:=l7 (.pointer q) n es e V (aW.later (h.later hV).aI)
    rw[Cs.kL hel,hto] at this
    exact this
   have jV:Hid (∀V,Below w.heap.size w V→Calls Tryz.prog 102 #[.pointer q,.int .i64 (e:Int)] V fun r V'=>r= .returned (.int .i64 (Cs.fr es e:Int))∧V'=V):=by
    intro V hV
    have:=kF (.pointer q) n es e V (aW.later (h.later hV).aI)
    rw[Cs.jP hel] at this
    exact this
   have hH:Df.kI es s v↔(o=(e:Int)∧y=IntKind.i64.wrap (z+1)):=by
    unfold Df.kI
    rw[mN,H7]
    constructor
    ·rintro(⟨h,_⟩|⟨h',h1,h2,h3,h4,h5⟩)
     ·omega
     ·obtain rfl:h'=e:=by omega
      refine⟨?_,?_⟩
      ·rw[←Q8,←mP];exact h4
      ·rw[←hz];exact h5
    ·rintro⟨h1,h2⟩
     refine .inr ⟨e,hel,rfl,by omega,?_,?_⟩
     ·show s.aJ.getD (e/2) (-1)=_
      rw[mP,Q8];exact h1
     ·rw[h2,←hz]
   have HH:=Nu.hid hH
   obtain⟨fe,pV⟩:∃fe,Cs.fr es e=fe:=⟨_,rfl⟩
   rw[pV] at hfl d5 jV
   have f0:(0:Int)≤(fe:Int):=by omega
   have f1:(fe:Int)<(n:Int):=by omega
   have tv:((v:Int) != (v:Int))=false:=by simp
   have WZ:Hid (∀W k,W=w.drewN k→W.cell? ⟨p,0,none⟩=some (.pointer q)∧W.cell? ⟨p,2,none⟩=some (.slice (some ⟨b2,o2,none⟩) n k2)∧W.cell? ⟨p,4,none⟩=some (.slice (some ⟨b4,o4,none⟩) es.length k4)∧W.cell? ⟨b4,o4+jh,none⟩=some (.int .i64 o)∧W.cell? ⟨b2,o2+fe,none⟩=some (.int .i64 z)):=fun W k hW=>by subst hW;exact⟨c0,c2,c4,d4,d5⟩
   have hjw:IntKind.i64.wrap (jh:Int)=(jh:Int):=by rw[aa1];omega
   by_cases ho:o=(e:Int)
   ·have t3:(o==(e:Int))=true:=by simp[ho]
    have HO:=Nu.hid ho
    clear hH Fz hF aW h hx hy mN H7 Sx hz Q8 pV hto hval ho hx1
    go_enter Tryz.func161,Tryz.ntmps161
    go_wp2_with fail
    go_quiet (fail)
    obtain⟨W,hW⟩:∃W,W=w.drewN nq:=⟨_,rfl⟩
    rw[←hW]
    obtain⟨z0,z2,z4,y4,y5⟩:=WZ.out W nq hW
    have dS:Below w.heap.size w W:=by rw[hW];exact below_drewN (aae _ _) _
    have jY:=Nu.hid dS
    have Tt:=Nu.hid (jF.out W dS)
    clear hW dS c0 c1 c2 c4 d1 d2 d4 d5
    go_wp2_with (go_at_call 92;refine Tt.out.mono ?_;rintro r V ⟨rfl,hV⟩;obtain rfl:=hV.symm)
    go_quiet ((go_at_call 102;exact acy (jV.out _ (below_drewN jY.out _))))
    go_wp2
    go_ret
    refine⟨_,rfl,?_,below_drewN jY.out _⟩
    have ew:wrap64 (z+1)=IntKind.i64.wrap (z+1):=by rw[aa1];unfold wrap64;rfl
    rw[HH.out,beq_iff_eq,ew]
    exact⟨fun h=>⟨HO.out,h⟩,fun h=>h.2⟩
   ·have t3:(o==(e:Int))=false:=by simp[ho]
    have HO:=Nu.hid ho
    clear hH Fz hF aW h hx hy mN H7 Sx hz Q8 pV hto hval ho hx1
    go_enter Tryz.func161,Tryz.ntmps161
    go_wp2_with fail
    go_quiet (fail)
    obtain⟨W,hW⟩:∃W,W=w.drewN nq:=⟨_,rfl⟩
    rw[←hW]
    obtain⟨z0,z2,z4,y4,y5⟩:=WZ.out W nq hW
    have dS:Below w.heap.size w W:=by rw[hW];exact below_drewN (aae _ _) _
    have jY:=Nu.hid dS
    have Tt:=Nu.hid (jF.out W dS)
    clear hW dS c0 c1 c2 c4 d1 d2 d4 d5
    go_wp2_with (go_at_call 92;refine Tt.out.mono ?_;rintro r V ⟨rfl,hV⟩;obtain rfl:=hV.symm)
    go_quiet ((go_at_call 102;exact acy (jV.out _ (below_drewN jY.out _))))
    go_wp2
    go_ret
    exact⟨false,rfl,by rw[HH.out];exact⟨fun h=>(by cases h),fun h=>absurd h.1 HO.out⟩,below_drewN jY.out _⟩
  ·have hne:Cs.Gu es x≠(v:Int):=fun e=>pU ⟨by
    by_cases hx3:0≤x∧x<2*(es.length:Int)
    ·exact hx3
    ·rw[Cs.Mi hx3] at e;omega,e⟩
   have hH:¬Df.kI es s v:=by
    unfold Df.kI
    rw[mN,H7]
    rintro(⟨h,_⟩|⟨h',h1,h2,h3,_⟩)
    ·exact hx1 h
    ·apply hne
     rw[h2,Cs.kL h1,h3]
   obtain⟨g,hg⟩:∃g,Cs.Gu es x=g:=⟨_,rfl⟩
   have jF:Hid (∀V,Below w.heap.size w V→Calls Tryz.prog 92 #[.pointer q,.int .i64 x] V fun r V'=>r= .returned (.int .i64 g)∧V'=V):=by
    intro V hV
    have:=l7 (.pointer q) n es x V (aW.later (h.later hV).aI)
    rw[hg] at this
    exact this
   rw[hg] at hne
   have t3:(g != (v:Int))=true:=by simpa using hne
   have HH:=Nu.hid hH
   clear hH Fz hF aW h hx hy mN H7 Sx pU hne hg hx1
   go_enter Tryz.func161,Tryz.ntmps161
   go_wp2_with fail
   go_quiet (fail)
   go_wp2_with (go_at_call 92;refine(jF.out _ (below_drewN (aae _ _) _)).mono ?_;rintro r V ⟨rfl,hV⟩;obtain rfl:=hV.symm)
   go_ret
   exact⟨false,rfl,⟨fun h=>(by cases h),fun h=>absurd h HH.out⟩,below_drewN (aae _ _) _⟩
set_option maxRecDepth 100000 in
set_option maxHeartbeats 8000000 in
theorem gK (aW:cE w0 av n es) (hF:dI w0 f s) (hL:Df.tu n es s) (h:aN w0 w p av f s pv bv):
 Calls Tryz.prog 152 #[.pointer (some ⟨p,0,none⟩)] w (jB (Df.Ch n es s) w):=by
 obtain⟨C8,mh⟩:=aW.bounds
 have c0:=h.c0
 have HN:=Nu.hid (mm av n es w (aW.later h.aI))
 have HRP:Hid (∀V (v:Nat),Below w.heap.size w V→v<n→Calls Tryz.prog 161 #[.pointer (some ⟨p,0,none⟩),.int .i64 (v:Int)] V (jB (Df.kI es s v) V)):=fun V v hV hv=>wM v aW hF hL (h.later hV) hv
 clear aW hF hL h
 go_enter Tryz.func152,Tryz.ntmps152
 go_wp2_with (go_at_call 46;refine HN.out.mono ?_;rintro e w1 ⟨rfl,hw1⟩;obtain rfl:=hw1.symm)
 clear c0
 go_loopw [9] (fun c wr=>∃k:Nat,k≤n∧c= .int .i64 k∧(∀v,v<k→Df.kI es s v)∧Below w.heap.size w wr) (fun c _=>n-(intOf c).toNat)
 case atStart=>exact⟨0,aax _,rfl,fun v hv=>(by omega),aae _ _⟩
 case round=>
  obtain⟨k,hk,rfl,hall,hb⟩:=hrel
  have qm:=Nu.hid hall
  have HB:=Nu.hid hb
  by_cases hlt:k<n
  ·have lV:(k:Int)<(n:Int):=by omega
   have dZ:=HRP.out wr k hb hlt
   by_cases hh:Df.kI es s k
   ·have HC:Hid (Calls Tryz.prog 161 #[.pointer (some ⟨p,0,none⟩),.int .i64 (k:Int)] wr fun e V'=>e= .returned (.bool true)∧Below wr.heap.size wr V'):=dZ.mono (by
     rintro e V' ⟨b,rfl,h1,h2⟩
     exact⟨by rw[h1.2 hh],h2⟩)
    have HH:=Nu.hid hh
    clear dZ hh hall hb
    go_wp2_with (go_at_call 161;refine HC.out.mono ?_;rintro e w2 ⟨rfl,hb2⟩;have ct:=Nu.hid hb2;clear hb2)
    go_roundw
    case rel=>
     refine⟨k+1,by omega,by go_num,fun v hv=> ?_,HB.out.trans (ct.out.mono HB.out.size)⟩
     by_cases e:v=k
     ·rw[e];exact HH.out
     ·exact qm.out v (by omega)
    case measure=>simp[intOf];omega
   ·have HC:Hid (Calls Tryz.prog 161 #[.pointer (some ⟨p,0,none⟩),.int .i64 (k:Int)] wr fun e V'=>e= .returned (.bool false)∧Below wr.heap.size wr V'):=dZ.mono (by
     rintro e V' ⟨b,rfl,h1,h2⟩
     cases b with
     |true=>exact absurd (h1.1 rfl) hh
     |false=>exact⟨rfl,h2⟩)
    have HH:=Nu.hid hh
    have vW:=Nu.hid hlt
    clear dZ hh hall hb
    go_wp2_with (go_at_call 161;refine HC.out.mono ?_;rintro e w2 ⟨rfl,hb2⟩;have ct:=Nu.hid hb2;clear hb2)
    go_ret
    exact⟨false,rfl,⟨fun h=>(by cases h),fun h=>absurd (h k vW.out) HH.out⟩,HB.out.trans (ct.out.mono HB.out.size)⟩
  ·have hd:¬((k:Int)<(n:Int)):=by omega
   have HK:Hid (k=n):=show k=n by omega
   clear hall hb
   go_wp2
   go_ret
   exact⟨true,rfl,⟨fun _ v hv=>qm.out v (by rw[HK.out];exact hv),fun _=>rfl⟩,HB.out⟩
end
end
section
open Go.RowKit
namespace Df
def vO (n:Nat) (s:St) (k:Nat) (P:List Int):Prop:=P.length=n∧(∀a,a<k→at_ P (at_ s.ord a).toNat=(a:Int))∧∀v:Nat,v<n→(∀a,a<k→at_ s.ord a≠(v:Int))→at_ P v= -1
theorem vO.step {n:Nat} {s:St} {k:Nat} {P:List Int} {v:Nat} (h:vO n s k P) (ho:iy n s k) (hv:at_ s.ord k=(v:Int)) (dh:v<n) (hno:∀a,a<k→at_ s.ord a≠(v:Int)):iy n s (k+1)∧vO n s (k+1) (P.set v (k:Int)):=by
 obtain⟨h1,h2,h3⟩:=h
 have D8:∀u:Nat,at_ (P.set v (k:Int)) u=if u=v then (k:Int) else at_ P u:=fun u=>by
  unfold at_
  rw[aai,aaq]
  by_cases e:v=u
  ·rw[if_pos e,if_pos (by omega),if_pos e.symm];rfl
  ·rw[if_neg e,if_neg (fun e2=>e e2.symm),←aai]
 refine⟨fun i hi=> ?_,by simp[h1],fun a ha=> ?_,fun u hu hall=> ?_⟩
 ·by_cases e:i=k
  ·subst e
   rw[hv]
   exact⟨by omega,hno⟩
  ·exact ho i (by omega)
 ·rw[D8]
  by_cases e:a=k
  ·subst e
   rw[hv,aaF,if_pos rfl]
  ·have h4:=hno a (by omega)
   have h5:=(ho a (by omega)).1
   rw[if_neg (by omega)]
   exact h2 a (by omega)
 ·rw[D8,if_neg]
  ·exact h3 u hu fun a ha=>hall a (by omega)
  ·intro e
   exact hall k (by omega) (by rw[hv,e])
end Df
def O8 (w0:World) (p:Nat) (av:Value) (f:For) (s:Df.St) (bv:Value) (n:Nat) (e:Ending) (w':World):Prop:=
 (∃gp P,e= .returned (.bool true)∧Df.iy n s n∧aN w0 w' p av f s (.slice (some ⟨gp,0,none⟩) n n) bv∧aq w' gp P∧Df.jf n s P∧gp≠p∧w0.heap.size≤gp)∨(e= .returned (.bool false)∧¬Df.iy n s n∧Below w0.heap.size w0 w')
section
variable {w0 w:World} {p:Nat} {av:Value} {f:For} {s:Df.St} {pv bv:Value} {n:Nat} {es:List (Int×Int)}
theorem aN.aK {g i:Nat} {x:Value} (h:aN w0 w p av f s pv bv) (hg:g≠p) (hlo:w0.heap.size≤g):aN w0 (w.setCell ⟨g,i,none⟩ x) p av f s pv bv:=
 ⟨h.aI.setCell (p:=⟨g,i,none⟩) hlo _,(cN (fun e=>hg e.symm) _).trans h.blk,h.lo⟩
theorem aN.Mk (h:aN w0 w p av f s pv bv) (x:Value):aN w0 (w.setCell ⟨p,5,none⟩ x) p av f s x bv:=by
 refine⟨h.aI.setCell (p:=⟨p,5,none⟩) h.lo _,?_,h.lo⟩
 rw[heap_setCell_same w p 5 _ _ _ h.blk]
 rfl
theorem aN.PX (h:aN w0 w p av f s pv bv) (x:Value):aN w0 (w.setCell ⟨p,6,none⟩ x) p av f s pv x:=by
 refine⟨h.aI.setCell (p:=⟨p,6,none⟩) h.lo _,?_,h.lo⟩
 rw[heap_setCell_same w p 6 _ _ _ h.blk]
 rfl
set_option maxRecDepth 100000 in
set_option maxHeartbeats 8000000 in
theorem iZ (aW:cE w0 av n es) (hF:dI w0 f s) (hL:Df.tu n es s) (h:aN w0 w p av f s pv bv):
 Calls Tryz.prog 151 #[.pointer (some ⟨p,0,none⟩)] w (O8 w0 p av f s bv n):=by
 obtain⟨C8,mh⟩:=aW.bounds
 obtain⟨l1,l2,l3,l4⟩:=hL
 obtain⟨a1,a2,a3,a4,k1,k2,k3,k4⟩:=f
 have c0:=h.c0
 have HN:=Nu.hid (mm av n es w (aW.later h.aI))
 have HU:=Nu.hid (zZ n w (by omega))
 have cT:=Nu.hid aW
 have HF:=Nu.hid hF
 have HR:=Nu.hid h
 have Vm:=h.lt
 have hlo:=h.aI.size
 clear aW hF h
 go_enter Tryz.func151,Tryz.ntmps151
 go_wp2_with (first|(go_at_call 46;refine HN.out.mono ?_;rintro e w1 ⟨rfl,hw1⟩;obtain rfl:=hw1.symm)|(go_at_call 72;refine HU.out.mono ?_;rintro e w1 ⟨g,rfl,hg,hi,hb1⟩;refine aaB ?_))
 refine Nu.hid ?_
 have h1:=HR.out.later hb1
 have f5:=h1.free 5
 have c5:=h1.c5
 have hgp:g≠p:=by omega
 have h2:=h1.Mk (.slice (some ⟨g,0,none⟩) n n)
 have hi2:=hi.aK (i:=5) (b:=p) hgp (.slice (some ⟨g,0,none⟩) n n)
 obtain⟨w2,hw2⟩:∃w2,w2=w1.setCell ⟨p,5,none⟩ (.slice (some ⟨g,0,none⟩) n n):=⟨_,rfl⟩
 have c3:=h2.c3
 rw[←hw2] at h2 hi2
 have H2:=Nu.hid h2
 have fX:=Nu.hid hi2
 have jD:=Nu.hid hw2
 dsimp only at c3
 clear hi hb1 h1 h2 hi2 hw2 c0 HR
 go_wp2
 rw[←jD.out]
 clear c5 f5 c3
 go_loopw [20] (fun c wr=>∃(k:Nat) (P:List Int),k≤n∧c= .int .i64 k∧Df.iy n s k∧Df.vO n s k P∧aq wr g P∧aN w0 wr p av ⟨a1,a2,a3,a4,k1,k2,k3,k4⟩ s (.slice (some ⟨g,0,none⟩) n n) bv) (fun c _=>n-(intOf c).toNat)
 case atStart=>
  refine⟨0,_,aax _,rfl,fun i hi=>(by omega),⟨by simp,fun a ha=>(by omega),fun v hv _=> ?_⟩,fX.out,H2.out⟩
  simp[Df.at_,hv]
 case round=>
  obtain⟨k,P,hk,rfl,hO,zx,Iy,hr⟩:=hrel
  have HO:=Nu.hid hO
  have vU:=Nu.hid zx
  have HIP:=Nu.hid Iy
  have xM:=Nu.hid hr
  by_cases hlt:k<n
  ·have lV:(k:Int)<(n:Int):=by omega
   have aij:(k:Int)<(s.ord.length:Int):=by omega
   have hk0:(0:Int)≤(k:Int):=by omega
   obtain⟨b3,o3,e3,d3⟩:=cg (HF.out.later hr.aI).l3 (i:=k) (by omega)
   dsimp only at e3
   subst e3
   obtain⟨x,hx⟩:∃x,s.ord.getD k (-1)=x:=⟨_,rfl⟩
   have mN:Df.at_ s.ord k=x:=hx
   rw[hx] at d3
   have dZ:=CO x cT.out hr
   by_cases hin:0≤x∧x<(n:Int)
   ·rw[decide_eq_true hin] at dZ
    obtain⟨v,rfl⟩:∃v:Nat,x=(v:Int):=⟨x.toNat,by omega⟩
    have dh:v<n:=by omega
    obtain⟨v0,v1⟩:=hin
    have aiJ:=zx.1
    have c5:=hr.c5
    have d5:=Iy.cell (cQ (-1) (by omega:v<P.length))
    have f5:=Iy.free v
    have HC:=Nu.hid dZ
    by_cases RQ:∃a,a<k∧Df.at_ s.ord a=(v:Int)
    ·obtain⟨a,ha,kC⟩:=RQ
     have hpa:P.getD v (-1)=(a:Int):=by
      have:=zx.2.1 a ha
      rw[kC,aaF] at this
      exact this
     rw[hpa] at d5
     have t1:((a:Int) != -1)=true:=by simp only[bne_iff_ne,ne_eq];omega
     have jt:Hid (¬Df.iy n s n):=fun h=>(h k hlt).2 a ha (by rw[kC,mN])
     have wh:=Nu.hid hr.aI
     clear hO zx Iy hr hx mN dZ hpa kC
     go_wp2_with (go_at_call 160;refine HC.out.mono ?_;rintro e w3 ⟨rfl,hw3⟩;obtain rfl:=hw3.symm)
     go_ret
     exact .inr ⟨rfl,jt.out,wh.out⟩
    ·have hno:∀a,a<k→Df.at_ s.ord a≠(v:Int):=fun a ha e=>RQ ⟨a,ha,e⟩
     have hpa:P.getD v (-1)= -1:=zx.2.2 v dh hno
     rw[hpa] at d5
     have HST:=Nu.hid (zx.step hO mN dh hno)
     have Cn:=Nu.hid (Iy.set v (k:Int))
     have TI:=Nu.hid (hr.aK (i:=v) (x:= .int .i64 (k:Int)) hgp (by omega:w0.heap.size≤g))
     clear hO zx Iy hr hx mN dZ hpa hno RQ
     go_wp2_with (go_at_call 160;refine HC.out.mono ?_;rintro e w3 ⟨rfl,hw3⟩;obtain rfl:=hw3.symm)
     go_roundw
     case rel=>exact⟨k+1,_,by omega,by go_num,HST.out.1,HST.out.2,Cn.out,TI.out⟩
     case measure=>simp[intOf];omega
   ·rw[decide_eq_false hin] at dZ
    have HC:=Nu.hid dZ
    have jt:Hid (¬Df.iy n s n):=fun h=>hin (by have:=(h k hlt).1;rw[mN] at this;exact this)
    have wh:=Nu.hid hr.aI
    clear hO zx Iy hr hx mN dZ hin
    go_wp2_with (go_at_call 160;refine HC.out.mono ?_;rintro e w3 ⟨rfl,hw3⟩;obtain rfl:=hw3.symm)
    go_ret
    exact .inr ⟨rfl,jt.out,wh.out⟩
  ·have hd:¬((k:Int)<(s.ord.length:Int)):=by omega
   obtain rfl:k=n:=by omega
   have HGP:=Nu.hid hgp
   have HLG:Hid (w0.heap.size≤g):=show w0.heap.size≤g by omega
   clear hO zx Iy hr
   go_wp2
   go_ret
   exact .inl ⟨g,P,rfl,HO.out,xM.out,HIP.out,⟨vU.out.1,vU.out.2.1⟩,HGP.out,HLG.out⟩
end
end
end Go.Proofs.YtdjmnpmdmjclhabGreat
