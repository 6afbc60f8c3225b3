import Derived.Test.YtnhcggfbkoppnaaGreatMg19
import Derived.Test.YtnhcggfbkoppnaaGreatMg07
import Derived.Test.YtnhcggfbkoppnaaGreatMg02
import Derived.Test.YtnhcggfbkoppnaaGreatMg04
import Derived.Test.YtnhcggfbkoppnaaGreatMg22
import Derived.Test.YtnhcggfbkoppnaaGreatMg42
import Derived.Test.YtnhcggfbkoppnaaGreatMg00
import Derived.Test.YtnhcggfbkoppnaaGreatMg18
namespace Go.Proofs.YtnhcggfbkoppnaaGreat
section
open Go.RowKit
def K4 (n:Int) (es:List (Int×Int)) (f:For) (s:Df.St) (w:World) (e:Ending) (w':World):Prop:=
 ((Si.valid n es=false∧e= .returned (.tuple #[.pointer none,.int .i64 1]))∨(Si.valid n es=true∧¬oK n es s∧e= .returned (.tuple #[.pointer none,.int .i64 80]))∨
   ∃(p m:Nat) (av:Value),n=(m:Int)∧e= .returned (.tuple #[.pointer (some ⟨p,0,none⟩),.int .i64 0])∧Wd w' p av m es f s)∧Below w.heap.size w w'
set_option maxRecDepth 100000 in
set_option maxHeartbeats 8000000 in
theorem JF (n:Int) (ao:Option Addr) (cap:Nat) (es:List (Int×Int)) (f:For) (s:Df.St) (w:World) (he:aL w ao es) (hl:es.length≤4611686018427387904) (hF:dF w f s):
 Calls Tryz.prog 96 #[cK n ao es.length cap,f.val s] w (K4 n es f s w):=by
 obtain⟨W,hW⟩:∃W,W=(w.alloc (.cells #[.int .i64 n,.slice ao es.length cap] 24)).alloc (.cells #[.slice f.a1 s.par.length f.c1,.slice f.a2 s.ay.length f.c2,.slice f.a3 s.ord.length f.c3,.slice f.a4 s.aJ.length f.c4] 36):=⟨_,rfl⟩
 have hB0:Below w.heap.size w W:=by rw[hW];exact((Below.refl _ _).alloc (Nat.le_refl _) _).alloc (by simp) _
 have g1:W.heap[w.heap.size]? =some (.cells #[.int .i64 n,.slice ao es.length cap] 24 (0,0)):=by
  rw[hW,Below.heap_alloc _ _ _ (by simp)]
  exact heap_alloc_new w _
 have g2:W.heap[w.heap.size+1]? =some (.cells #[.slice f.a1 s.par.length f.c1,.slice f.a2 s.ay.length f.c2,.slice f.a3 s.ord.length f.c3,.slice f.a4 s.aJ.length f.c4] 36 (0,0)):=by
  rw[hW]
  exact alloc_at (by simp)
 have nC:Hid (Calls Tryz.prog 42 #[.agg #[.int .i64 n,.slice ao es.length cap]] W fun e w'=>∃q z,e= .returned (.tuple #[.pointer q,.int .i64 z])∧((∃m p:Nat,n=(m:Int)∧Si.Val n es∧q=some ⟨p,0,none⟩∧z=0∧lD w' W.heap.size p m es)∨(Si.valid n es=false∧q=none∧z=1))∧Below W.heap.size W w'):=(wX n ao cap es W (he.later hB0) hl).mono fun e w' ⟨h,hb⟩=>by
  rcases h with ⟨m,p,h1,h2,h3,h4⟩|⟨h1,h2⟩
  ·exact⟨_,_,h3,.inl ⟨m,p,h1,h2,rfl,rfl,h4⟩,hb⟩
  ·exact⟨_,_,h2,.inr ⟨h1,rfl,rfl⟩,hb⟩
 have mV:Hid (∀V,Below w.heap.size w V→Calls Tryz.prog 121 #[.agg #[.int .i64 n,.slice ao es.length cap],.agg #[.slice f.a1 s.par.length f.c1,.slice f.a2 s.ay.length f.c2,.slice f.a3 s.ord.length f.c3,.slice f.a4 s.aJ.length f.c4]] V (jv (oK n es s) V)):=fun V hV=>Iq n ao cap es f s V (he.later hV) hl (hF.later hV)
 have HF:Hid (∀V,Below w.heap.size w V→dF V f s):=fun V hV=>hF.later hV
 obtain⟨x0,x1,-⟩:=az g1
 have nW:=Nu.hid g1
 have kT:=Nu.hid g2
 have dm:=Nu.hid hB0
 have lZ:=Nu.hid hW
 rw[hW] at x0 x1
 unfold cK For.val
 clear hB0 g1 g2 he hW hF
 go_enter Tryz.func96,Tryz.ntmps96
 go_wp2_with (go_at_call 42;rw[←lZ.out];refine nC.out.mono ?_;rintro e w1 ⟨q,z,rfl,hq,hb1⟩;refine Hid.out ?_)
 refine Nu.hid ?_
 have hB1:Below w.heap.size w w1:=dm.out.trans (hb1.mono dm.out.size)
 clear x0 x1
 rcases hq with ⟨m,pa,hnm,hval,rfl,rfl,aX⟩|⟨hno,rfl,rfl⟩
 ·have hg1:=(hb1.block _ (lt_of_block nW.out)).trans nW.out
  have hg2:=(hb1.block _ (lt_of_block kT.out)).trans kT.out
  obtain⟨x0,x1,-⟩:=az hg1
  obtain⟨k0,k1,k2,k3,-⟩:=au hg2
  have Yl:=Nu.hid hg2
  have cQ:=Nu.hid aX
  have ME:=Nu.hid hval
  have aV:=Nu.hid hB1
  have Sx:=Nu.hid (mV.out w1 hB1)
  have HNM:=Nu.hid hnm
  clear hg1 hg2 aX hval hB1 hb1 hnm
  go_wp2_with (go_at_call 121;refine Sx.out.mono ?_;rintro e w2 ⟨b,rfl,UF,hb2⟩;refine Hid.out ?_)
  refine Nu.hid ?_
  have hB2:Below w.heap.size w w2:=aV.out.trans (hb2.mono aV.out.size)
  cases b with
  |false=>
   have jk:Hid (¬oK n es s):=fun h=>by have:=UF.2 h;cases this
   have cz:=Nu.hid hB2
   clear UF hB2 x0 x1 k0 k1 k2 k3
   go_wp2
   go_ret2
   exact⟨.inr (.inl ⟨Si.bL.2 ME.out,jk.out,rfl⟩),cz.out⟩
  |true=>
   have hyes:=UF.1 rfl
   obtain⟨k0,k1,k2,k3,-⟩:=au ((hb2.block _ (lt_of_block Yl.out)).trans Yl.out)
   have cz:=Nu.hid hB2
   have aeL:=Nu.hid hyes
   have abz:Hid (cE w2 (.pointer (some ⟨pa,0,none⟩)) m es):=cE.later (.inr ⟨_,pa,rfl,by have:=ME.out;rw[HNM.out] at this;exact this,cQ.out⟩) hb2
   clear UF hyes hB2 hb2 x0 x1
   go_wp2
   go_ret2
   obtain⟨m',hm',hv',gO⟩:=aeL.out
   have hmm:m'=m:=by have:=HNM.out;omega
   subst hmm
   have l:=gO.lens
   have uV:Below w2.heap.size w2 (w2.alloc (.cells #[.pointer (some ⟨pa,0,none⟩),.slice f.a1 s.par.length f.c1,.slice f.a2 s.ay.length f.c2,.slice f.a3 s.ord.length f.c3,.slice f.a4 s.aJ.length f.c4] 175)):=(Below.refl _ _).alloc (Nat.le_refl _) _
   refine⟨.inr (.inr ⟨w2.heap.size,m',.pointer (some ⟨pa,0,none⟩),hm',rfl,?_,abz.out.later uV,hv',HF.out _ (cz.out.trans (uV.mono cz.out.size)),gO⟩),cz.out.trans (uV.mono cz.out.size)⟩
   rw[l.1,l.2.1,l.2.2.1,l.2.2.2]
   exact heap_alloc_new w2 _
 ·have aV:=Nu.hid hB1
  have jk:=Nu.hid hno
  clear hb1 hB1 hno
  go_wp2
  go_ret2
  exact⟨.inl ⟨jk.out,rfl⟩,aV.out⟩
end
section
open Go.RowKit
theorem zU {w:World} {B:Nat} {v:Value} {vs:List Value} {ls:List (List Int)} (h:bW w B v vs ls):∃ao c,v= .slice ao ls.length c:=by
 rcases h.outer.2 with ⟨rfl,h0⟩|⟨g,cap,cur,rfl,_⟩
 ·exact⟨none,0,by rw[h0]⟩
 ·exact⟨_,cap,rfl⟩
end
section
open Go.RowKit
namespace Lo
open Df
section
variable {n:Nat} {es:List (Int×Int)} {s:St} {e:Nat}
theorem ZG (hv:Si.Val n es) (h:VF n es s) (he:e<es.length):0≤hf es s e∧hf es s e<(n:Int):=by
 have:=s9 hv h.once h.hang h.side _ (bK hv h he).1
 exact⟨this.1,this.2.1⟩
theorem Gx (hv:Si.Val n es) (h:VF n es s) (he:e<es.length):0≤low es s e∧low es s e≤cj es s e∧cj es s e≤hf es s e∧hf es s e<(n:Int):=⟨Gy hv h he,(EM es s e).1,(EM es s e).2,(ZG hv h he).2⟩
end
end Lo
section
variable {p:Nat} {av:Value} {n:Nat} {es:List (Int×Int)} {f:For} {s:Df.St}
def Oq (es:List (Int×Int)) (s:Df.St) (w:World) (e:Ending) (w':World):Prop:=
 ∃g3,e= .returned (.slice (some ⟨g3,0,none⟩) es.length es.length)∧aq w' g3 (upTo (Lo.nest es s) es.length)∧w.heap.size≤g3∧Below w.heap.size w w'
set_option maxRecDepth 100000 in
set_option maxHeartbeats 16000000 in
theorem JN (g1 g2:Nat) (w:World) (hd:Wd w p av n es f s) (h1:aB w g1 (upTo (Lo.low es s) es.length)) (h2:aB w g2 (upTo (Lo.cj es s) es.length)):
 Calls Tryz.prog 98 #[.pointer (some ⟨p,0,none⟩),.agg #[.slice (some ⟨g1,0,none⟩) es.length es.length,.slice (some ⟨g2,0,none⟩) es.length es.length,.slice none 0 0,.slice none 0 0]] w (Oq es s w):=by
 have cq:=hd.val.few
 have hn:=hd.val.hi
 obtain⟨i0,hi,hz0,hz1,hz2⟩:=info_parts Tryz.bS
 have hmk:∀W,(Instr.makeSlice 27 (.int .i64 (es.length:Int)) (.int .i64 (es.length:Int))).run Tryz.prog W= .ok (.slice (some ⟨W.heap.size,0,none⟩) es.length es.length) (W.alloc (.cells (madeCells #[.int .i64 0] es.length) 3)):=fun W=>by
  have:=run_make (P:=Tryz.prog) W 27 3 i0 (.int .i64 0) Tryz.underlying27 hi hz0 .i64 .i64 (es.length:Int) (es.length:Int) (by omega) (by omega) (by rw[hz2];omega) (by omega)
  rw[this,hz1]
  simp[Value.cells]
 obtain⟨W0,hW0⟩:∃W0,W0=w.alloc (.cells #[.slice (some ⟨g1,0,none⟩) es.length es.length,.slice (some ⟨g2,0,none⟩) es.length es.length,.slice none 0 0,.slice none 0 0] 116):=⟨_,rfl⟩
 obtain⟨W,hW⟩:∃W,W=W0.alloc (.cells (madeCells #[.int .i64 0] es.length) 3):=⟨_,rfl⟩
 have hs0:W0.heap.size=w.heap.size+1:=by rw[hW0];simp
 have hb0:Below w.heap.size w W0:=by rw[hW0];exact(Below.refl _ _).alloc (Nat.le_refl _) _
 have dU:Below w.heap.size w W:=by rw[hW];exact hb0.alloc hb0.size _
 have Xz:W.heap.size=w.heap.size+2:=by rw[hW];simp[hs0]
 have Rz:W0.heap[w.heap.size]? =some (.cells #[.slice (some ⟨g1,0,none⟩) es.length es.length,.slice (some ⟨g2,0,none⟩) es.length es.length,.slice none 0 0,.slice none 0 0] 116 (0,0)):=by rw[hW0];exact heap_alloc_new w _
 have hLb:W.heap[w.heap.size]? =some (.cells #[.slice (some ⟨g1,0,none⟩) es.length es.length,.slice (some ⟨g2,0,none⟩) es.length es.length,.slice none 0 0,.slice none 0 0] 116 (0,0)):=by rw[hW,Below.heap_alloc _ _ _ (by omega)];exact Rz
 have hG:aq W (w.heap.size+1) (List.replicate es.length 0):=by rw[hW];exact rS hs0
 obtain⟨x0,x1,-,-,-⟩:=au Rz
 have c4:=(hd.later dU).c4
 have HD:=Nu.hid hd
 have HLb:=Nu.hid hLb
 have HI:Hid (∀V,Below w.heap.size w V→aB V g1 (upTo (Lo.low es s) es.length)∧aB V g2 (upTo (Lo.cj es s) es.length)):=fun V hV=>⟨h1.later hV,h2.later hV⟩
 have mJ:g1<w.heap.size∧g2<w.heap.size:=⟨h1.lt,h2.lt⟩
 have HG:=Nu.hid hG
 have l8:=Nu.hid dU
 rw[hW0] at x0
 rw[hW,hW0] at c4
 have HW:Hid (W=(w.alloc (.cells #[.slice (some ⟨g1,0,none⟩) es.length es.length,.slice (some ⟨g2,0,none⟩) es.length es.length,.slice none 0 0,.slice none 0 0] 116)).alloc (.cells (madeCells #[.int .i64 0] es.length) 3)):=by rw[←hW0];exact hW
 clear hd h1 h2 hLb hG dU hW hW0 hb0 hs0 Rz x1
 go_enter Tryz.func98,Tryz.ntmps98
 go_wp2
 clear hmk x0 c4
 go_loopw [18] (fun i wr=>∃(k:Nat) (A3:List Int),k≤es.length∧i= .int .i64 (k:Int)∧aq wr (w.heap.size+1) A3∧A3.length=es.length∧(∀j,j<k→A3[j]? =some (Lo.nest es s j))∧wr.heap[w.heap.size]? =some (.cells #[.slice (some ⟨g1,0,none⟩) es.length es.length,.slice (some ⟨g2,0,none⟩) es.length es.length,.slice none 0 0,.slice none 0 0] 116 (0,0))∧Below w.heap.size w wr) (fun i _=>es.length-(intOf i).toNat)
 case atStart=>
  rw[←HW.out]
  exact⟨0,_,Nat.zero_le _,rfl,HG.out,by simp,(fun j hj=>by omega),HLb.out,l8.out⟩
 case round=>
  obtain⟨k,A3,hk,rfl,hA,hAl,UY,hlb,hb⟩:=hrel
  by_cases hlt:k<es.length
  ·have hdw:=HD.out.later hb
   obtain⟨b4,o4,e4,d4⟩:=hdw.aJ hlt
   have d4k:=d4 wr (Below.refl _ _) k hlt
   obtain⟨ho1,ho2,wK,NJ⟩:=Lo.cN HD.out.vf hlt
   rw[ho1] at d4k
   obtain⟨q1,q2⟩:=HI.out wr hb
   have r1:=q1.cell (gR (f:=Lo.low es s) hlt)
   obtain⟨x0,x1,-,-,-⟩:=au hlb
   have acV:=Lo.Gx HD.out.val HD.out.vf hlt
   obtain⟨lo,hlo⟩:∃lo,Lo.low es s k=lo:=⟨_,rfl⟩
   obtain⟨l2,hl2⟩:∃l2,Lo.cj es s k=l2:=⟨_,rfl⟩
   obtain⟨hf,Kn⟩:∃hf,Lo.hf es s k=hf:=⟨_,rfl⟩
   obtain⟨hh,Hr⟩:∃hh,Lo.oh s k=hh:=⟨_,rfl⟩
   have IW:Hid (Lo.nest es s k=if lo<l2∧l2<hf then 2*lo+1 else 2*lo):=by
    show _=_
    unfold Lo.nest
    rw[hlo,hl2,Kn]
   rw[hlo,hl2,Kn] at acV
   rw[hlo] at r1
   rw[Hr] at d4k wK
   obtain⟨a3,ha3⟩:∃z,A3[k]? =some z:=⟨_,List.getElem?_eq_getElem (by omega)⟩
   have y1:=hA.cell ha3
   have y2:=hA.free k
   have xQ:Below w.heap.size w (wr.setCell ⟨w.heap.size+1,k,none⟩ (.int .i64 (2*lo))):=hb.setCell (p:=⟨w.heap.size+1,k,none⟩) (by simp) _
   obtain⟨w1,hw1⟩:∃w1,w1=wr.setCell ⟨w.heap.size+1,k,none⟩ (.int .i64 (2*lo)):=⟨_,rfl⟩
   have UZ:aq w1 (w.heap.size+1) (A3.set k (2*lo)):=by rw[hw1];exact hA.set k _
   have Dz:w1.heap[w.heap.size]? =some (.cells #[.slice (some ⟨g1,0,none⟩) es.length es.length,.slice (some ⟨g2,0,none⟩) es.length es.length,.slice none 0 0,.slice none 0 0] 116 (0,0)):=by rw[hw1,heap_setCell_other _ _ _ _ (by show w.heap.size≠w.heap.size+1;omega)];exact hlb
   rw[←hw1] at xQ
   have jR:=Nu.hid hw1
   have aV:=Nu.hid xQ
   have Cb:=Nu.hid UZ
   have Eh:=Nu.hid Dz
   have hda:=HD.out.later xQ
   have TD:Hid (∀D:LW w1,Calls Tryz.prog 124 #[.pointer (some ⟨p,0,none⟩),.int .i64 (hh:Int)] D.val fun e w'=>e= .returned (.int .i64 hf)∧Below D.val.heap.size D.val w'):=fun D=>by
    have:=x8 hh wK (hda.later D.h)
    rw[←Hr] at this
    rw[←Kn,←Hr]
    exact this
   have s0:∀D:LW w1,D.val.cell? ⟨w.heap.size,0,none⟩=some (.slice (some ⟨g1,0,none⟩) es.length es.length):=fun D=>(au ((D.h.block _ (lt_of_block Dz)).trans Dz)).1
   have s1:∀D:LW w1,D.val.cell? ⟨w.heap.size,1,none⟩=some (.slice (some ⟨g2,0,none⟩) es.length es.length):=fun D=>(au ((D.h.block _ (lt_of_block Dz)).trans Dz)).2.1
   have t1:∀D:LW w1,D.val.cell? ⟨g1,k,none⟩=some (.int .i64 lo):=fun D=>by
    have:=(HI.out D.val (xQ.trans (D.h.mono xQ.size))).1.cell (gR (f:=Lo.low es s) hlt)
    rwa[hlo] at this
   have t2:∀D:LW w1,D.val.cell? ⟨g2,k,none⟩=some (.int .i64 l2):=fun D=>by
    have:=(HI.out D.val (xQ.trans (D.h.mono xQ.size))).2.cell (gR (f:=Lo.cj es s) hlt)
    rwa[hl2] at this
   have hne:=LW.any w1
   have yU:=Nu.hid hAl
   have HAJ:=Nu.hid UY
   have k0:(0:Int)≤(k:Int):=by omega
   have k1:(k:Int)<(es.length:Int):=by omega
   have e40:f.a4=some ⟨b4,o4,none⟩:=e4
   rw[e40]
   clear hA hAl UY hlb hb hdw d4 q1 q2 hlo hl2 Kn Hr ho1 ho2 NJ ha3 hw1 xQ UZ Dz hda e4 e40
   go_wp2
   rw[←jR.out]
   by_cases c1:lo<l2
   ·by_cases c2:l2<hf
    ·refine aC (by kernel_rfl) (by kernel_rfl) ?_
     repeat (go_big_quiet_step ((first|(go_at_call 124;exact Calls.lw (TD.out _)))))
     refine wpQuiet_nil ?_
     rintro _ ⟨D,rfl⟩
     have CN:=Cb.out.later D.h
     have Tw:=Nu.hid CN
     have Tu:=Nu.hid ((D.h.block _ (lt_of_block Eh.out)).trans Eh.out)
     have Tv:=Nu.hid (aV.out.trans (D.h.mono aV.out.size))
     have z1:=CN.cell (i:=k) (x:=2*lo) (by rw[List.getElem?_set,if_pos rfl,if_pos (by have:=yU.out;omega)])
     have z2:=CN.free k
     clear CN
     go_wp2
     go_roundw
     case rel=>
      refine⟨k+1,_,by omega,by go_num,Tw.out.set k _,by simpa using yU.out,fun j hj=> ?_,?_,Tv.out.setCell (p:=⟨w.heap.size+1,k,none⟩) (by simp) _⟩
      ·rw[List.getElem?_set]
       by_cases e:k=j
       ·subst e
        rw[if_pos rfl,if_pos (by have:=yU.out;simp;omega),IW.out,if_pos ⟨c1,c2⟩]
       ·rw[if_neg e,List.getElem?_set,if_neg e]
        exact HAJ.out j (by omega)
      ·rw[heap_setCell_other _ _ _ _ (by show w.heap.size≠w.heap.size+1;omega)]
       exact Tu.out
     case measure=>simp[intOf];omega
    ·refine aC (by kernel_rfl) (by kernel_rfl) ?_
     repeat (go_big_quiet_step ((first|(go_at_call 124;exact Calls.lw (TD.out _)))))
     refine wpQuiet_nil ?_
     rintro _ ⟨D,rfl⟩
     have CN:=Cb.out.later D.h
     have Tw:=Nu.hid CN
     have Tu:=Nu.hid ((D.h.block _ (lt_of_block Eh.out)).trans Eh.out)
     have Tv:=Nu.hid (aV.out.trans (D.h.mono aV.out.size))
     clear CN
     go_wp2
     go_roundw
     case rel=>
      refine⟨k+1,_,by omega,by go_num,Tw.out,by simpa using yU.out,fun j hj=> ?_,Tu.out,Tv.out⟩
      rw[List.getElem?_set]
      by_cases e:k=j
      ·subst e
       rw[if_pos rfl,if_pos (by have:=yU.out;omega),IW.out,if_neg (by omega)]
      ·rw[if_neg e]
       exact HAJ.out j (by omega)
     case measure=>simp[intOf];omega
   ·refine aC (by kernel_rfl) (by kernel_rfl) ?_
    repeat (go_big_quiet_step ((first|(go_at_call 124;exact Calls.lw (TD.out _)))))
    refine wpQuiet_nil ?_
    rintro _ ⟨D,rfl⟩
    have CN:=Cb.out.later D.h
    have Tw:=Nu.hid CN
    have Tu:=Nu.hid ((D.h.block _ (lt_of_block Eh.out)).trans Eh.out)
    have Tv:=Nu.hid (aV.out.trans (D.h.mono aV.out.size))
    clear CN
    go_wp2
    go_roundw
    case rel=>
     refine⟨k+1,_,by omega,by go_num,Tw.out,by simpa using yU.out,fun j hj=> ?_,Tu.out,Tv.out⟩
     rw[List.getElem?_set]
     by_cases e:k=j
     ·subst e
      rw[if_pos rfl,if_pos (by have:=yU.out;omega),IW.out,if_neg (by omega)]
     ·rw[if_neg e]
      exact HAJ.out j (by omega)
    case measure=>simp[intOf];omega
  ·have hd:¬((k:Int)<(es.length:Int)):=by omega
   have wL:k=es.length:=by omega
   have HA:=Nu.hid hA
   have HB:=Nu.hid hb
   have HE:Hid (A3=upTo (Lo.nest es s) es.length):=by
    show _=_
    refine List.ext_getElem? fun j=> ?_
    by_cases hj:j<es.length
    ·rw[gR hj]
     exact UY j (by omega)
    ·rw[List.getElem?_eq_none (by omega),List.getElem?_eq_none (by rw[fG];omega)]
   clear hA hAl UY hlb hb
   go_wp2
   go_ret
   exact⟨_,rfl,by rw[←HE.out];exact HA.out,by omega,HB.out⟩
end
end
section
namespace Lo
open Df
theorem ou {α:Type} {R:α→α→Prop} (QM:∀x,¬R x x) (Rg:∀x y,R x y→¬R y x):∀{X Y:List α},List.Pairwise R X→List.Pairwise R Y→(∀x,x∈X↔x∈Y)→X=Y
 |[],[],_,_,_=>rfl
 |[],y::Y,_,_,h=>by have:=(h y).2 List.mem_cons_self;simp at this
 |x::X,[],_,_,h=>by have:=(h x).1 List.mem_cons_self;simp at this
 |x::X,y::Y,hX,hY,h=>by
  obtain⟨hx1,hx2⟩:=List.pairwise_cons.1 hX
  obtain⟨hy1,hy2⟩:=List.pairwise_cons.1 hY
  have e:x=y:=by
   rcases List.mem_cons.1 ((h x).1 List.mem_cons_self) with e|h1
   ·exact e
   ·rcases List.mem_cons.1 ((h y).2 List.mem_cons_self) with e|h2
    ·exact e.symm
    ·exact absurd (hy1 x h1) (Rg _ _ (hx1 y h2))
  subst e
  congr 1
  refine ou QM Rg hx2 hy2 fun z=>⟨fun hz=> ?_,fun hz=> ?_⟩
  ·rcases List.mem_cons.1 ((h z).1 (List.mem_cons_of_mem _ hz)) with e|h1
   ·subst e;exact absurd (hx1 z hz) (QM z)
   ·exact h1
  ·rcases List.mem_cons.1 ((h z).2 (List.mem_cons_of_mem _ hz)) with e|h1
   ·subst e;exact absurd (hy1 z hz) (QM z)
   ·exact h1
def qW (es:List (Int×Int)) (S:List Int) (v:Nat):List Int:=S.filter fun h=>decide (Cs.fr es h.toNat=v)
def uZ (n:Nat) (es:List (Int×Int)) (S:List Int) (k:Nat):List (List Int):=(List.range n).map fun v=>qW es (S.take k) v
theorem oF (n:Nat) (es:List (Int×Int)) (S:List Int) (k:Nat):(uZ n es S k).length=n:=by simp[uZ]
theorem uY {n:Nat} {es:List (Int×Int)} {S:List Int} {k v:Nat} (h:v<n):(uZ n es S k)[v]? =some (qW es (S.take k) v):=by simp[uZ,h]
theorem NW (n:Nat) (es:List (Int×Int)) (S:List Int):uZ n es S 0=List.replicate n []:=by
 refine List.ext_getElem? fun v=> ?_
 by_cases hv:v<n
 ·rw[uY hv,List.getElem?_replicate,if_pos hv]
  rfl
 ·rw[List.getElem?_eq_none (by rw[oF];omega),List.getElem?_eq_none (by simp;omega)]
theorem NX {n:Nat} {es:List (Int×Int)} {S:List Int} {k:Nat} {h:Int} (hk:S[k]? =some h):uZ n es S (k+1)=(uZ n es S k).set (Cs.fr es h.toNat) (qW es (S.take k) (Cs.fr es h.toNat)++[h]):=by
 refine List.ext_getElem? fun v=> ?_
 have e:S.take (k+1)=S.take k++[h]:=by rw[List.take_add_one,hk];rfl
 by_cases hv:v<n
 ·rw[uY hv,List.getElem?_set,e]
  unfold qW
  rw[List.filter_append]
  by_cases hf:Cs.fr es h.toNat=v
  ·rw[if_pos hf,if_pos (by rw[oF];omega),List.filter_cons_of_pos (by simpa using hf),List.filter_nil,hf]
  ·rw[if_neg hf,uY hv,List.filter_cons_of_neg (by simpa using hf),List.filter_nil,List.append_nil]
   rfl
 ·rw[List.getElem?_eq_none (by rw[oF];omega),List.getElem?_eq_none (by rw[List.length_set,oF];omega)]
theorem KH (es:List (Int×Int)) (S:List Int) (v:Nat):(qW es S v).length≤S.length:=List.length_filter_le _ _
section
variable {n:Nat} {es:List (Int×Int)} {s:St}
noncomputable def jC (es:List (Int×Int)) (s:St) (h:Int):Int:=nest es s (h.toNat/2)
theorem rO (nN:VF n es s) {b:Nat} (hb:b<es.length):s.aJ[b]? =some (at_ s.aJ b):=by
 have:=nN.lens.2.2.2
 unfold at_
 rw[List.getD_eq_getElem?_getD,List.getElem?_eq_getElem (by omega)]
 rfl
theorem EO (nN:VF n es s) {b:Nat} (hb:b<es.length):(s.aJ.map (jC es s))[b]? =some (nest es s b):=by
 rw[List.getElem?_map,rO nN hb]
 show some (jC es s (at_ s.aJ b))=_
 unfold jC
 rw[(eO nN hb).1]
theorem Nn (hv:Si.Val n es) (h:VF n es s) {e:Nat} (he:e<es.length):0≤nest es s e∧nest es s e≤2*(n:Int):=by
 have:=Gx hv h he
 unfold nest
 split<;>omega
theorem Nl (hv:Si.Val n es) (h:VF n es s):Bu.fault (2*(n:Int)) (s.aJ.map (jC es s))=0:=by
 have hn:=hv.hi
 refine Bu.qY (by omega) ?_
 rw[List.any_eq_false]
 intro x hx
 obtain⟨b,hb⟩:=List.getElem?_of_mem hx
 have hl:=h.lens.2.2.2
 have hbl:b<es.length:=by
  have:=(List.getElem?_eq_some_iff.1 hb).1
  rw[List.length_map] at this
  omega
 rw[EO h hbl] at hb
 obtain rfl:=Option.some.inj hb
 have:=Nn hv h hbl
 rw[Bu.My (by omega)]
 decide
theorem xD (h:VF n es s) {S:List Int} (hS:Bu.Sorted (s.aJ.map (jC es s)) s.aJ S):∀x,x∈S↔∃b,b<es.length∧x=at_ s.aJ b:=fun x=>by
 have hl:=h.lens.2.2.2
 have cT:(s.aJ.map (jC es s)).length=es.length:=by rw[List.length_map];exact hl
 constructor
 ·intro hx
  obtain⟨k,hk⟩:=List.getElem?_of_mem hx
  have adq:k<(s.aJ.map (jC es s)).length:=by rw[←hS.len];exact(List.getElem?_eq_some_iff.1 hk).1
  obtain⟨i,hi,rfl⟩:=Bu.zV _ adq
  rw[hS.put i hi,rO h (by omega)] at hk
  exact⟨i,by omega,(Option.some.inj hk).symm⟩
 ·rintro⟨b,hb,rfl⟩
  have:=hS.put b (by omega)
  rw[rO h hb] at this
  exact List.mem_of_getElem? this
theorem Cm (h:VF n es s) {S:List Int} (hS:Bu.Sorted (s.aJ.map (jC es s)) s.aJ S):List.Pairwise (Fy es s) S:=by
 have hl:=h.lens.2.2.2
 have cT:(s.aJ.map (jC es s)).length=es.length:=by rw[List.length_map];exact hl
 refine List.pairwise_iff_getElem.2 fun a b ha hb hab=> ?_
 obtain⟨i,hi,rfl⟩:=Bu.zV (s.aJ.map (jC es s)) (k:=a) (by rw[←hS.len];exact ha)
 obtain⟨j,hj,rfl⟩:=Bu.zV (s.aJ.map (jC es s)) (k:=b) (by rw[←hS.len];exact hb)
 have e1:=hS.put i hi
 have e2:=hS.put j hj
 rw[rO h (by omega),List.getElem?_eq_getElem ha] at e1
 rw[rO h (by omega),List.getElem?_eq_getElem hb] at e2
 rw[Option.some.inj e1,Option.some.inj e2]
 have hne:i≠j:=fun e=>by subst e;omega
 have E7:Bu.Ahead (s.aJ.map (jC es s)) i j:=by
  rcases Bu.Eb (s.aJ.map (jC es s)) hne with h1|h1
  ·exact h1
  ·have:=Bu.wj hj hi h1
   omega
 have k1:=Bu.BG (EO h (b:=i) (by omega))
 have k2:=Bu.BG (EO h (b:=j) (by omega))
 have o1:=eO h (b:=i) (by omega)
 have o2:=eO h (b:=j) (by omega)
 unfold Bu.Ahead at E7
 rw[k1,k2] at E7
 unfold Fy
 rw[o1.1,o2.1]
 rcases E7 with h1|⟨h1,h2⟩
 ·exact .inl h1
 ·exact .inr ⟨h1,by omega⟩
theorem Nw {x y:Int} (h:Fy es s x y):¬Fy es s y x:=by
 unfold Fy at h ⊢
 omega
theorem RO (hv:Si.Val n es) (h:VF n es s) {S:List Int} (hS:Bu.Sorted (s.aJ.map (jC es s)) s.aJ S):uZ n es S S.length=bR n es s es.length:=by
 refine List.ext_getElem? fun v=> ?_
 by_cases dh:v<n
 ·rw[uY dh,List.take_length]
  have hl:v<(bR n es s es.length).length:=by rw[dw];exact dh
  obtain⟨L,hL⟩:∃L,(bR n es s es.length)[v]? =some L:=⟨_,List.getElem?_eq_getElem hl⟩
  rw[hL]
  congr 1
  refine ou (R:=Fy es s) (fun x=>GN) (fun x y=>Nw) ((Cm h hS).filter _) (pF hv h _ (Nat.le_refl _) L (List.mem_of_getElem? hL)) fun x=> ?_
  rw[mz hv h _ (Nat.le_refl _) v L hL x]
  unfold qW
  rw[List.mem_filter,xD h hS,decide_eq_true_iff]
  constructor
  ·rintro⟨⟨b,hb,rfl⟩,hf⟩
   exact⟨b,hb,hf,rfl⟩
  ·rintro⟨b,hb,hf,rfl⟩
   exact⟨⟨b,hb,rfl⟩,hf⟩
 ·rw[List.getElem?_eq_none (by rw[oF];omega),List.getElem?_eq_none (by rw[dw];omega)]
end
end Lo
end
section
open Go.RowKit
theorem M4 {V:World} {B n:Nat} (hB:B≤V.heap.size) (hn:n≤8388608):bW (V.alloc (.cells (madeCells #[.slice none 0 0] n) 27)) B (.slice (some ⟨V.heap.size,0,none⟩) n n) (List.replicate n (.slice none 0 0)) (List.replicate n []):=by
 have em:madeCells #[Value.slice none 0 0] n=Array.replicate n (Value.slice none 0 0):=by
  apply Array.ext
  ·rw[size_madeCells];simp
  ·intro i h1 h2
   simp[madeCells,Nat.mod_one]
 rw[em]
 refine⟨by simp,⟨by simp,.inr ⟨V.heap.size,n,Array.replicate n (Value.slice none 0 0),by simp,hB,heap_alloc_new V _,by simp,by unfold maxLen;omega,by simp,by simp⟩⟩,fun u x l hx hl=> ?_,fun u u' x x' b _ hx _ hb=> ?_,fun u x b hx hb=> ?_⟩
 ·rw[List.getElem?_replicate] at hx hl
  split at hx
  ·rename_i hu
   rw[if_pos hu] at hl
   cases hx
   cases hl
   exact aS.nil _ _
  ·cases hx
 ·rw[List.getElem?_replicate] at hx
  split at hx
  ·cases hx;cases hb
  ·cases hx
 ·rw[List.getElem?_replicate] at hx
  split at hx
  ·cases hx;cases hb
  ·cases hx
section
variable {p:Nat} {av:Value} {n:Nat} {es:List (Int×Int)} {f:For} {s:Df.St}
set_option maxRecDepth 100000 in
set_option maxHeartbeats 4000000 in
theorem Ni (Bn g3 b:Nat) (h:Int) (A3:List Int) (w:World) (hb:Boxed w Bn 27 (.slice (some ⟨g3,0,none⟩) es.length es.length)) (hA:aB w g3 A3) (hl:A3.length=es.length) (hbl:b<es.length) (h0:0≤h) (h2:h.toNat/2=b) (hf:es.length≤4194304):
 Calls Tryz.prog 126 #[.int .i64 h,.pointer (some ⟨Bn,0,none⟩)] w fun e w'=>e= .returned (.int .i64 (A3.getD b 0))∧Below w.heap.size w w':=by
 obtain⟨z,hz⟩:∃z,A3[b]? =some z:=⟨_,List.getElem?_eq_getElem (by omega)⟩
 have c1:=hA.cell hz
 have c0:=hb.cell
 have e:A3.getD b 0=z:=by rw[List.getD_eq_getElem?_getD,hz];rfl
 rw[e]
 have wH:h.tdiv 2=(b:Int):=by rw[Int.tdiv_eq_ediv_of_nonneg h0];omega
 have AD:h/2=(b:Int):=by omega
 have b0:(0:Int)≤(b:Int):=by omega
 have b1:(b:Int)<(es.length:Int):=by omega
 clear hA hb hz e
 go_enter Tryz.func126,Tryz.ntmps126
 go_wp2
 go_ret
 exact⟨rfl,Below.refl _ _⟩
def Om (n:Nat) (es:List (Int×Int)) (s:Df.St) (w:World) (e:Ending) (w':World):Prop:=
 ∃vo vs,e= .returned vo∧bW w' w.heap.size vo vs (Lo.bR n es s es.length)∧Below w.heap.size w w'
set_option maxRecDepth 100000 in
set_option maxHeartbeats 16000000 in
theorem Nf (g3:Nat) (w:World) (hd:Wd w p av n es f s) (h3:aB w g3 (upTo (Lo.nest es s) es.length)):
 Calls Tryz.prog 99 #[.pointer (some ⟨p,0,none⟩),.slice (some ⟨g3,0,none⟩) es.length es.length] w (Om n es s w):=by
 have cq:=hd.val.few
 have hn:=hd.val.hi
 have hlo:=hd.vf.lens.2.2.2
 obtain⟨i0,hi,hz0,hz1,hz2⟩:=info_parts Tryz.bS
 obtain⟨i1,hi1,hy0,hy1,hy2⟩:=info_parts Tryz.Av
 have hmo:∀W,(Instr.makeSlice 62 (.int .i64 (n:Int)) (.int .i64 (n:Int))).run Tryz.prog W= .ok (.slice (some ⟨W.heap.size,0,none⟩) n n) (W.alloc (.cells (madeCells #[.slice none 0 0] n) 27)):=fun W=>by
  have:=run_make (P:=Tryz.prog) W 62 27 i1 (.slice none 0 0) Tryz.underlying62 hi1 hy0 .i64 .i64 (n:Int) (n:Int) (by omega) (by omega) (by rw[hy2];omega) (by omega)
  rw[this,hy1]
  simp[Value.cells]
 obtain⟨W,hW⟩:∃W,W=w.alloc (.cells #[.slice (some ⟨g3,0,none⟩) es.length es.length] 27):=⟨_,rfl⟩
 have dU:Below w.heap.size w W:=by rw[hW];exact(Below.refl _ _).alloc (Nat.le_refl _) _
 have bn:Boxed W w.heap.size 27 (.slice (some ⟨g3,0,none⟩) es.length es.length):=by rw[hW];exact Boxed.new _ _ _
 have UE:=hd.later dU
 have c0:=UE.c0
 have c4:=UE.c4
 have DI:=enters_of Tryz.func126 (by kernel_rfl) rfl
 have HN:Hid (∀V,Below w.heap.size w V→Calls Tryz.prog 44 #[av] V fun e w'=>e= .returned (.int .i64 (n:Int))∧w'=V):=fun V hV=>lY av n es V (hd.later hV).CV
 have xV:iu W f.a4 es.length f.c4 s.aJ:=by have:=UE.ct.l4;rwa[hlo] at this
 have HSO:=Nu.hid (Ey 126 #[.pointer (some ⟨w.heap.size,0,none⟩)] (Lo.jC es s) (2*(n:Int)) f.a4 f.c4 es.length s.aJ (s.aJ.map (Lo.jC es s)) W (by omega) xV rfl DI (fun V x hV hx=>by
  obtain⟨b,hb⟩:=List.getElem?_of_mem hx
  have hbl:b<es.length:=by rw[←hlo];exact(List.getElem?_eq_some_iff.1 hb).1
  rw[Lo.rO hd.vf hbl] at hb
  obtain rfl:=Option.some.inj hb
  have ho:=Lo.eO hd.vf hbl
  have:=Ni (es:=es) w.heap.size g3 b (Df.at_ s.aJ b) (upTo (Lo.nest es s) es.length) V ((hV.block _ bn.lt).trans bn) (h3.later (dU.trans (hV.mono dU.size))) (fG _ _) hbl ho.2.1 ho.1 cq
  have e:(upTo (Lo.nest es s) es.length).getD b 0=Lo.jC es s (Df.at_ s.aJ b):=by
   rw[List.getD_eq_getElem?_getD,gR hbl]
   unfold Lo.jC
   rw[ho.1]
   rfl
  rw[e] at this
  exact this))
 have XT:Hid (Calls Tryz.prog 125 #[.slice f.a4 es.length f.c4,.func (.func 126) #[] #[.pointer (some ⟨w.heap.size,0,none⟩)],.int .i64 (2*(n:Int))] W fun e w'=>∃(gS:Nat) (S:List Int),e= .returned (.tuple #[.slice (some ⟨gS,0,none⟩) es.length es.length,.int .i64 0])∧W.heap.size≤gS∧aq w' gS S∧Bu.Sorted (s.aJ.map (Lo.jC es s)) s.aJ S∧Below W.heap.size W w'):=HSO.out.mono fun e w' h=>by
  obtain⟨nK,hb2⟩:=h
  obtain⟨-,gS,S,he,hgS,iB,Rw⟩:=nK.resolve_left (fun h=>h.1 (Lo.Nl hd.val hd.vf))
  rw[hlo] at he
  exact⟨gS,S,he,hgS,iB,Rw,hb2⟩
 have jO:Hid (∀V (i:Nat),Below w.heap.size w V→i<2*es.length→Calls Tryz.prog 113 #[av,.int .i64 (i:Int)] V fun e w'=>e= .returned (.int .i64 (Cs.fr es i:Int))∧w'=V):=fun V i hV hi=>(j8 av n es (i:Int) V (hd.later hV).CV).mono fun e w' ⟨he,hw⟩=>⟨by rw[he,Cs.jI hi],hw⟩
 have HD:=Nu.hid hd
 have lZ:=Nu.hid hW
 have l8:=Nu.hid dU
 have Zr:(2:Int)*(n:Int)≤2097152:=by omega
 rw[hW] at c0
 clear hW hd UE h3 dU bn xV DI
 go_enter Tryz.func99,Tryz.ntmps99
 go_wp2_with (first|(go_at_call 44;rw[←lZ.out];refine(HN.out _ l8.out).mono ?_;rintro e w1 ⟨rfl,rfl⟩)|(go_at_call 125;refine XT.out.mono ?_;rintro e w2 ⟨gS,S,rfl,hgS,iB,Rw,hb2⟩;refine Hid.out ?_))
 refine Nu.hid ?_
 have hB2:Below w.heap.size w w2:=l8.out.trans (hb2.mono l8.out.size)
 have KB:S.length=es.length:=by rw[Rw.len,List.length_map];exact hlo
 have hlS:=iB.lt
 have d0:=(HD.out.later hB2).c0
 have Tb:=Nu.hid (HN.out w2 hB2)
 have XS:=Nu.hid Rw
 have cz:=Nu.hid hB2
 have HIS:=Nu.hid iB
 have hs2:=hB2.size
 have aaM:Hid (bW (w2.alloc (.cells (madeCells #[.slice none 0 0] n) 27)) w2.heap.size (.slice (some ⟨w2.heap.size,0,none⟩) n n) (List.replicate n (.slice none 0 0)) (Lo.uZ n es S 0)):=by
  rw[Lo.NW]
  exact M4 (Nat.le_refl _) (by omega)
 clear hb2 Rw iB hB2 c4 c0 HSO XT
 go_wp2_with (go_at_call 44;refine Tb.out.mono ?_;rintro e w3 ⟨rfl,rfl⟩)
 clear d0 hmo
 go_loopw [37] (fun i wr=>∃(k:Nat) (vs:List Value),k≤es.length∧i= .int .i64 (k:Int)∧bW wr w3.heap.size (.slice (some ⟨w3.heap.size,0,none⟩) n n) vs (Lo.uZ n es S k)∧Below w3.heap.size w3 wr) (fun i _=>es.length-(intOf i).toNat)
 case atStart=>exact⟨0,_,Nat.zero_le _,rfl,aaM.out,(Below.refl _ _).alloc (Nat.le_refl _) _⟩
 case round=>
  obtain⟨k,vs,hk,rfl,hrows,hb⟩:=hrel
  have hsz:=hb.size
  have kN:Below w.heap.size w wr:=cz.out.trans (hb.mono cz.out.size)
  by_cases hlt:k<es.length
  ·obtain⟨h,hh⟩:∃h,S[k]? =some h:=⟨_,List.getElem?_eq_getElem (by omega)⟩
   obtain⟨e,he,heq⟩:=(Lo.xD HD.out.vf XS.out h).1 (List.mem_of_getElem? hh)
   obtain⟨ho1,-,wK,-⟩:=Lo.cN HD.out.vf he
   rw[ho1] at heq
   subst heq
   obtain⟨i,hie⟩:∃i,Lo.oh s e=i:=⟨_,rfl⟩
   rw[hie] at hh wK
   have cS:=(hb.cell (p:=⟨gS,k,none⟩) hlS).trans (HIS.out.cell hh)
   have dh:=(Cs.bH HD.out.val wK).1
   have HF:=Nu.hid (jO.out wr i kN wK)
   have c0:=(HD.out.later kN).c0
   obtain⟨v,hv⟩:∃v,Cs.fr es i=v:=⟨_,rfl⟩
   have HGS:Hid (Lo.uZ n es S (k+1)=(Lo.uZ n es S k).set v (Lo.qW es (S.take k) v++[(i:Int)])):=by
    show _=_
    have:=Lo.NX (n:=n) (es:=es) hh
    rw[Int.toNat_natCast,hv] at this
    exact this
   rw[hv] at HF dh
   have hl:=Lo.uY (es:=es) (S:=S) (k:=k) dh
   have eH:=Lo.KH es (S.take k) v
   have jZ:(S.take k).length≤k:=by simp;omega
   obtain⟨l,hle⟩:∃l,Lo.qW es (S.take k) v=l:=⟨_,rfl⟩
   rw[hle] at hl eH HGS
   have mJ:=Lo.oF n es S k
   obtain⟨x,hx⟩:=hrows.RY hl
   have Ql:=hrows.row v x l hx hl
   obtain⟨xo,xc,uQ,-,-⟩:=Ql.form
   subst uQ
   have cx:wr.cell? ⟨w3.heap.size,v,none⟩=some (.slice xo l.length xc):=by
    have:=World.ownsRow.cells hrows.outer (g:=w3.heap.size) rfl v _ hx
    have ea:((⟨w3.heap.size,0,none⟩:Addr).add v)=⟨w3.heap.size,v,none⟩:=by
     by_cases h0:v=0<;>simp[Addr.add,h0]
    rwa[ea] at this
   obtain⟨p1,gP⟩:∃p1,l.length=p1:=⟨_,rfl⟩
   unfold aS at Ql
   rw[gP] at Ql hx cx eH
   have HOX:=Nu.hid Ql
   have HX:=Nu.hid hx
   have HL:=Nu.hid hl
   have C3:=Nu.hid gP
   have ud:=Nu.hid hrows
   have HB:=Nu.hid hb
   have HGL:=Nu.hid mJ
   have v0:(0:Int)≤(v:Int):=by omega
   have v1:(v:Int)<(n:Int):=by omega
   have k0:(0:Int)≤(k:Int):=by omega
   have k1:(k:Int)<(es.length:Int):=by omega
   clear Ql hx hl gP hrows hb mJ hh hle hv hie ho1 kN
   go_wp2_with (first|(go_at_call 113;refine HF.out.mono ?_;rintro e w4 ⟨rfl,hw4⟩;obtain rfl:=hw4)|(at_builtin;refine wpList_append_own_at _ rfl _ _ 27 rfl w3.heap.size 3 i0 (.int .i64 0) 1 8 Tryz.underlying27 hi hz0 hz1 hz2 rfl (by decide) _ _ _ rfl (World.ownsRow.alloc HOX.out _) ⟨w4.heap.size,0,none⟩ 1 1 [.int .i64 (i:Int)] rfl rfl (cell_one_new _ _ _) (by simp[Value.oneCell']) (by unfold maxLen;omega) (by omega) (by simp;omega) ?_;refine Hid.out ?_))
   refine Nu.hid ?_
   intro v4 w5 Kh Mh _ Xv
   obtain⟨g4,c4,hv4⟩:=iy Kh
   subst hv4
   have NJ:aS w5 w3.heap.size (.slice (some ⟨g4,0,none⟩) (p1+1) c4) (l++[(i:Int)]):=by
    unfold aS
    rw[List.length_append,List.map_append,C3.out]
    exact Kh
   have hrw:bW w4 w3.heap.size (.slice (some ⟨w3.heap.size,0,none⟩) (Lo.uZ n es S k).length n) vs (Lo.uZ n es S k):=by rw[HGL.out];exact ud.out
   obtain⟨j1,j2,j3,j4⟩:=hrw.put HX.out HL.out NJ Mh (by simpa using Xv)
   rw[HGL.out,←HGS.out] at j3
   have BZ:=Nu.hid j3
   have HJ4:=Nu.hid (HB.out.trans j4)
   clear Kh Mh Xv NJ j3 j4 hrw
   go_wp2
   go_roundw
   case rel=>exact⟨k+1,_,by omega,by go_num,BZ.out,HJ4.out⟩
   case measure=>simp[intOf];omega
  ·have hd:¬((k:Int)<(es.length:Int)):=by omega
   have wL:k=S.length:=by omega
   subst wL
   have HR:Hid (bW wr w3.heap.size (.slice (some ⟨w3.heap.size,0,none⟩) n n) vs (Lo.bR n es s es.length)):=by
    rw[Lo.RO HD.out.val HD.out.vf XS.out] at hrows
    exact hrows
   have HBE:=Nu.hid kN
   clear hrows hb kN
   go_wp2
   go_ret
   exact⟨_,vs,rfl,HR.out.lower hs2,HBE.out⟩
end
end
section
open Go.RowKit Go.Shelf
attribute [local go_sem] Oper.semAt_some
section
variable {p:Nat} {av:Value} {n:Nat} {es:List (Int×Int)} {f:For} {s:Df.St}
set_option maxRecDepth 100000 in
set_option maxHeartbeats 16000000 in
theorem Ns (w:World) (hd:Wd w p av n es f s):Calls Tryz.prog 97 #[.pointer (some ⟨p,0,none⟩)] w (xg es s w):=by
 have cq:=hd.val.few
 obtain⟨W,hW⟩:∃W,W=(w.alloc (.cells #[.pointer (some ⟨p,0,none⟩)] 149)).alloc (.cells #[.slice none 0 0,.slice none 0 0,.slice none 0 0,.slice none 0 0] 116):=⟨_,rfl⟩
 have dU:Below w.heap.size w W:=by rw[hW];exact((Below.refl _ _).alloc (Nat.le_refl _) _).alloc (by simp) _
 have Xz:W.heap.size=w.heap.size+2:=by rw[hW];simp
 have bw:Boxed W w.heap.size 149 (.pointer (some ⟨p,0,none⟩)):=by rw[hW];exact(Boxed.new w _ _).alloc _
 have hres:W.heap[w.heap.size+1]? =some (.cells #[.slice none 0 0,.slice none 0 0,.slice none 0 0,.slice none 0 0] 116 (0,0)):=by rw[hW];exact alloc_at (by simp)
 have HM:Hid (∀V,Below W.heap.size W V→Calls Tryz.prog 78 #[av] V fun e w'=>e= .returned (.int .i64 (es.length:Int))∧w'=V):=fun V hV=>zv av n es V (hd.later (dU.trans (hV.mono dU.size))).CV
 have HS:Hid (∀V,Below W.heap.size W V→(V.cell? ⟨w.heap.size,0,none⟩=some (.pointer (some ⟨p,0,none⟩))∧V.cell? ⟨p,0,none⟩=some av∧Below W.heap.size W V)):=fun V hV=>
  ⟨Boxed.cell ((hV.block _ bw.lt).trans bw),(hd.later (dU.trans (hV.mono dU.size))).c0,hV⟩
 obtain⟨i0,hi,hz0,hz1,hz2⟩:=info_parts Tryz.bS
 have hmk:∀W,(Instr.makeSlice 27 (.int .i64 (es.length:Int)) (.int .i64 (es.length:Int))).run Tryz.prog W= .ok (.slice (some ⟨W.heap.size,0,none⟩) es.length es.length) (W.alloc (.cells (madeCells #[.int .i64 0] es.length) 3)):=fun W=>by
  have:=run_make (P:=Tryz.prog) W 27 3 i0 (.int .i64 0) Tryz.underlying27 hi hz0 .i64 .i64 (es.length:Int) (es.length:Int) (by omega) (by omega) (by rw[hz2];omega) (by omega)
  rw[this,hz1]
  simp[Value.cells]
 have lZ:=Nu.hid hW
 have HD:=Nu.hid hd
 have hm1:(es.length:Int)≤4194304:=by omega
 clear hW hd
 refine(callsIn_wide (n:=13)).1 ?_
 refine callsIn_of_wp_marks Tryz.func97 rfl trivial ?_ rfl
 simp only[Tryz.ntmps97,List.size_toArray,List.length_cons,List.length_nil,Nat.reduceAdd,Nat.reduceSub,Array.replicate_succ,Array.replicate_zero,List.push_toArray,List.append_toArray,List.nil_append,List.cons_append]
 refine wpIn_wide.2 ?_
 go_wp2_with fail
 rename_i K hK
 rw[←lZ.out]
 have HK:=Nu.hid hK
 clear hK
 have HMK:Hid (∀V Lb g1 g2,Below W.heap.size W V→V.heap[Lb]? =some (.cells #[.slice (some ⟨g1,0,none⟩) es.length es.length,.slice (some ⟨g2,0,none⟩) es.length es.length,.slice none 0 0,.slice none 0 0] 116 (0,0))→aq V g1 (List.replicate es.length 0)→aq V g2 (List.replicate es.length 0)→
  w.heap.size+2≤Lb∧w.heap.size+2≤g1∧w.heap.size+2≤g2∧Lb≠g1∧Lb≠g2∧g1≠g2→MD w V p es.length w.heap.size (w.heap.size+1) Lb g1 g2):=fun V Lb g1 g2 hV h1 h2 h3 h4=>
  ⟨dU.trans (hV.mono dU.size),(hV.block _ bw.lt).trans bw,(hV.block _ (lt_of_block hres)).trans hres,h1,h2,h3,by omega,by omega⟩
 go_region_held3 (fun V=>V.cell? ⟨w.heap.size,0,none⟩=some (.pointer (some ⟨p,0,none⟩))∧V.cell? ⟨p,0,none⟩=some av∧Below W.heap.size W V)
  (exact HS.out _ (by repeat (first|exact Below.refl _ _|refine tQ ?_|refine tR ?_ _)))
  ((go_at_call 78;refine(HM.out _ (by repeat (first|exact Below.refl _ _|refine tQ ?_|refine tR ?_ _))).mono ?_;rintro e V1 ⟨rfl,rfl⟩))
 all_goals
  refine HK.out _ _ (JR w _ w.heap.size (w.heap.size+1) _ _ _ _ _ _ _ _ _ _ _ _ _ _ HD.out (HMK.out _ _ _ _ ?_ ?_ ?_ ?_ ?_))
  ·repeat (first|exact Below.refl _ _|refine tQ ?_|refine tR ?_ _)
  ·refine N2 ?_
   repeat (first|(refine alloc_at ?_;first|omega|(simp only[World.size_alloc];omega))|refine Ks (by first|omega|(simp only[World.size_alloc];omega)) ?_)
  ·refine aq.drew ?_
   repeat (first|(refine rS ?_;first|omega|(simp only[World.size_alloc];omega))|refine aq.alloc ?_ _)
  ·refine aq.drew ?_
   repeat (first|(refine rS ?_;first|omega|(simp only[World.size_alloc];omega))|refine aq.alloc ?_ _)
  ·omega
end
end
end Go.Proofs.YtnhcggfbkoppnaaGreat
