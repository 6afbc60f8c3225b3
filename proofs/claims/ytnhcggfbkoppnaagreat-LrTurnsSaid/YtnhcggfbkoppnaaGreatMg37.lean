import Derived.Test.YtnhcggfbkoppnaaGreatMg42
import Derived.Test.YtnhcggfbkoppnaaGreatMg18
namespace Go.Proofs.YtnhcggfbkoppnaaGreat
section
open Go.RowKit Lt
structure ApAt (c:Wp) (LB RB:Nat) (tl tr:List Int) (W V:World) (h1 h2:Int):Prop where
 aI:Below W.heap.size W V
 il:aq V LB tl
 ir:aq V RB tr
 lt:LB<W.heap.size∧RB<W.heap.size
 b1:Boxed V W.heap.size 3 (.int .i64 h1)
 b2:Boxed V (W.heap.size+1) 3 (.int .i64 h2)
section
variable {c:Wp} {LB RB:Nat} {tl tr:List Int} {W V X:World} {h1 h2:Int}
theorem ApAt.later (h:ApAt c LB RB tl tr W V h1 h2) (hb:Below V.heap.size V X):ApAt c LB RB tl tr W X h1 h2:=⟨h.aI.trans (hb.mono h.aI.size),h.il.later hb,h.ir.later hb,h.lt,(hb.block _ h.b1.lt).trans h.b1,(hb.block _ h.b2.lt).trans h.b2⟩
theorem BB {w:World} {b:Nat} {t:TypeId} {x y:Value} (h:Boxed w b t x):Boxed (w.setCell ⟨b,0,none⟩ y) b t y:=by
 have:=heap_setCell_same w b 0 _ _ y h
 show(w.setCell ⟨b,0,none⟩ y).heap[b]? =some (.cells #[y] t (0,0))
 simpa using this
theorem ApAt.VW (h:ApAt c LB RB tl tr W X h1 h2) (z:Int):ApAt c LB RB tl tr W (X.drew.setCell ⟨W.heap.size,0,none⟩ (.int .i64 z)) z h2:=by
 obtain⟨l1,l2⟩:=h.lt
 have h':ApAt c LB RB tl tr W X.drew h1 h2:=h.later ((Below.refl _ _).drew)
 exact⟨h'.aI.setCell (p:=⟨W.heap.size,0,none⟩) (Nat.le_refl _) _,h'.il.aK (by omega) _,h'.ir.aK (by omega) _,h.lt,BB h'.b1,(heap_setCell_other X.drew ⟨W.heap.size,0,none⟩ _ _ (by show W.heap.size+1≠W.heap.size;omega)).trans h'.b2⟩
theorem ApAt.VV (h:ApAt c LB RB tl tr W X h1 h2) (z:Int):ApAt c LB RB tl tr W (X.drew.setCell ⟨W.heap.size+1,0,none⟩ (.int .i64 z)) h1 z:=by
 obtain⟨l1,l2⟩:=h.lt
 have h':ApAt c LB RB tl tr W X.drew h1 h2:=h.later ((Below.refl _ _).drew)
 exact⟨h'.aI.setCell (p:=⟨W.heap.size+1,0,none⟩) (by show W.heap.size≤W.heap.size+1;omega) _,h'.il.aK (by omega) _,h'.ir.aK (by omega) _,h.lt,(heap_setCell_other X.drew ⟨W.heap.size+1,0,none⟩ _ _ (by show W.heap.size≠W.heap.size+1;omega)).trans h'.b1,BB h'.b2⟩
end
section
variable {c:Wp} {p j:Nat} {pa:Option Addr} {pc:Nat} {ps:List Int} {W:World}
theorem Nj {v L R:Nat→Int}:∀{l:List Nat} {i:Nat},wC v L R l.reverse→wC v L R (l.take i).reverse:=by
 intro l i h
 have e:l.reverse=(l.drop i).reverse++(l.take i).reverse:=by rw[←List.reverse_append,List.take_append_drop]
 rw[e] at h
 revert h
 generalize (l.drop i).reverse=a
 induction a with
 |nil=>exact id
 |cons x a ih=>exact fun h=>ih h.2
set_option maxRecDepth 100000 in
set_option maxHeartbeats 16000000 in
theorem Fu (h:mQ c p j pa pc ps W) {LB RB:Nat} {tl tr:List Int} (hl:aq W LB tl) (hr:aq W RB tr) (ll:tl.length=c.es.length) (lr:tr.length=c.es.length) {v:Nat} (hv:v<c.n):
 Calls Tryz.prog 73 #[.pointer (some ⟨j,0,none⟩),.int .i64 (v:Int),.slice (some ⟨LB,0,none⟩) c.es.length c.es.length,.slice (some ⟨RB,0,none⟩) c.es.length c.es.length] W fun e w'=>∃b,e= .returned (.bool b)∧(b=true↔eE (Lo.low c.es c.s) (g tl) (g tr) (c.oe v))∧Below W.heap.size W w':=by
 have cq:=h.wk.val.few
 obtain⟨sZ,hrw⟩:∃l,(Lo.bR c.n c.es c.s c.es.length)[v]? =some l:=⟨_,List.getElem?_eq_getElem (by rw[Lo.dw];exact hv)⟩
 obtain⟨go,co,ao,ca,Ip,hout⟩:=h.wk.outs hrw
 obtain⟨l,eH⟩:∃l,l=c.oe v:=⟨_,rfl⟩
 have yC:∀e∈l,e<c.es.length:=fun e he=>((Wp.Ab h.wk.val h.wk.vf).1 (by rw[←eH];exact he)).1
 have hmap:sZ=l.map fun e=>((Lo.oh c.s e:Nat):Int):=by
  rw[←Wp.Ac h.wk.val h.wk.vf hrw,←eH]
  refine List.map_congr_left fun e he=>(Lo.cN h.wk.vf (yC e he)).1
 have hlen:sZ.length=l.length:=by rw[hmap];simp
 have lN:Hid (oM c ao l W):=fun V hV k hk=>by
  have:=(hout V hV).2 k ((Lo.oh c.s l[k]:Nat):Int) (by rw[hmap,List.getElem?_map,List.getElem?_eq_getElem hk];rfl)
  exact this
 rw[hlen] at hout
 have hnd:l.Nodup:=by
  rw[eH]
  exact(Wp.rP h.wk.val h.wk.vf v).imp fun q=>q.2
 have hlk:l.length≤c.es.length:=fH hnd yC
 rw[←eH]
 have x0:=h.cells.1
 have x9:=h.wk.c9
 rw[Ip] at x9
 have x10:=(hout W (Below.refl _ _)).1
 have v0:(0:Int)≤(v:Int):=by omega
 have v1:(v:Int)<(c.n:Int):=by omega
 obtain⟨W1,hW1⟩:∃W1,W1=(W.alloc (.cells #[.int .i64 (-1)] 3)).alloc (.cells #[.int .i64 (-1)] 3):=⟨_,rfl⟩
 have VR:Hid (ApAt c LB RB tl tr W W1 (-1) (-1)):=by
  have hb:Below W.heap.size W W1:=by rw[hW1];exact((Below.refl _ _).alloc (Nat.le_refl _) _).alloc (by simp) _
  refine⟨hb,hl.later hb,hr.later hb,⟨hl.lt,hr.lt⟩,?_,?_⟩
  ·rw[hW1]
   show _=_
   rw[Below.heap_alloc _ _ _ (by simp)]
   exact heap_alloc_new W _
  ·rw[hW1]
   have:=heap_alloc_new (W.alloc (.cells #[.int .i64 (-1)] 3)) (.cells #[.int .i64 (-1)] 3)
   rw[show(W.alloc (.cells #[.int .i64 (-1)] 3)).heap.size=W.heap.size+1 by simp] at this
   exact this
 have jR:=Nu.hid hW1
 have HJ:=Nu.hid h
 have HLM:=Nu.hid yC
 have yT:=Nu.hid ll
 have Td:=Nu.hid lr
 clear h hl hr ll lr hrw Ip hout eH yC hmap hlen hnd hW1
 go_enter Tryz.func73,Tryz.ntmps73
 go_wp2_with fail
 rw[←jR.out]
 go_loopw [29] (fun iv wr=>∃(i:Nat) (h1 h2:Int),iv= .int .i64 (i:Int)∧i≤l.length∧ApAt c LB RB tl tr W wr h1 h2∧Ew (g tl) (g tr) (l.take i).reverse=(h1,h2)∧(∀k,k<i→Aa (Lo.low c.es c.s) (g tl) (g tr) l k)∧wC (Lo.low c.es c.s) (g tl) (g tr) (l.take i).reverse) (fun iv _=>l.length-(intOf iv).toNat)
 case atStart=>exact⟨0,-1,-1,rfl,Nat.zero_le _,VR.out,rfl,fun k hk=>absurd hk (by omega),trivial⟩
 case round=>
  obtain⟨i,h1,h2,rfl,hil,hap,hst,NI,Ki⟩:=hrel
  by_cases hlt:i<l.length
  ·have hJ:=HJ.out.later hap.aI
   obtain⟨e,he⟩:∃e,l[i]=e:=⟨_,rfl⟩
   have hem:e<c.es.length:=by rw[←he];exact HLM.out _ (List.getElem_mem hlt)
   obtain⟨o1,-,o3,o4⟩:=Lo.cN hJ.wk.vf hem
   obtain⟨b,eb,hcb⟩:=lN.out wr hap.aI i hlt
   rw[he] at hcb
   obtain⟨q,hq⟩:∃q,Lo.oh c.s e=q:=⟨_,rfl⟩
   rw[hq] at o4 hcb
   have Uo:=(eC o4).1
   obtain⟨lb,lc,wV,dZ⟩:=HJ.out.wk.Ds hem
   obtain⟨zl,hzl⟩:∃z,tl[e]? =some z:=⟨_,List.getElem?_eq_getElem (by rw[yT.out];exact hem)⟩
   obtain⟨zr,GU⟩:∃z,tr[e]? =some z:=⟨_,List.getElem?_eq_getElem (by rw[Td.out];exact hem)⟩
   have mJ:g tl e=zl:=by unfold g;rw[hzl];rfl
   have hgr:g tr e=zr:=by unfold g;rw[GU];rfl
   obtain⟨zw,Cv⟩:∃z,Lo.low c.es c.s e=z:=⟨_,rfl⟩
   have OO:Hid (∀V,Below W.heap.size W V→V.cell? ⟨p,6,none⟩=some (.slice (some ⟨lb,0,none⟩) c.es.length lc)):=fun V hV=>by
    rw[←wV]
    exact(HJ.out.later hV).wk.c6
   have C6:Hid (∀V,Below W.heap.size W V→V.cell? ⟨lb,e,none⟩=some (.int .i64 zw)):=fun V hV=>by
    rw[←Cv]
    exact dZ V hV e hem
   have jZ:(l.take (i+1)).reverse=e::(l.take i).reverse:=by
    rw[List.take_add_one,List.getElem?_eq_getElem hlt,he]
    simp
   have CY:=Nu.hid jZ
   have Vo:=Nu.hid Cv
   have MK:Hid (∀v',¬cur (g tl) (g tr) (l.take i).reverse (sg (g tl) (g tr) e)≤v'→v'=zw→¬eE (Lo.low c.es c.s) (g tl) (g tr) l):=fun v' hno hv' hap=>by
    have:=Nj (i:=i+1) hap.2
    rw[jZ] at this
    exact hno (by rw[hv',←Cv];exact this.1)
   have XR:Hid (zr<zl→Ew (g tl) (g tr) (e::(l.take i).reverse)=(max zl zr,h2)):=fun hx=>by
    show(if _ then _ else _)=_
    rw[mJ,hgr,if_pos hx,hst]
   have Ef:Hid (zl≤zr→Ew (g tl) (g tr) (e::(l.take i).reverse)=(h1,max zl zr)):=fun hx=>by
    show(if _ then _ else _)=_
    rw[mJ,hgr,if_neg (by omega),hst]
   have Ty:Hid (zr<zl→cur (g tl) (g tr) (l.take i).reverse (sg (g tl) (g tr) e)=h1):=fun hx=>by
    unfold cur sg
    rw[mJ,hgr,hst]
    simp[hx]
   have Tx:Hid (zl≤zr→cur (g tl) (g tr) (l.take i).reverse (sg (g tl) (g tr) e)=h2):=fun hx=>by
    unfold cur sg
    rw[mJ,hgr,hst]
    have hx':¬zr<zl:=by omega
    simp[hx']
   have XY:Hid (zr<zl→zw<h1→¬eE (Lo.low c.es c.s) (g tl) (g tr) l):=fun hx hn=>MK.out zw (by rw[Ty.out hx];omega) rfl
   have XX:Hid (zl≤zr→zw<h2→¬eE (Lo.low c.es c.s) (g tl) (g tr) l):=fun hx hn=>MK.out zw (by rw[Tx.out hx];omega) rfl
   have MJ:Hid (wC (Lo.low c.es c.s) (g tl) (g tr) (l.take i).reverse):=Ki
   have K8:=Nu.hid hzl
   have K7:=Nu.hid GU
   have vG:=Nu.hid hap
   have HAi:Hid (Aa (Lo.low c.es c.s) (g tl) (g tr) l i↔(1<l.length→min zl zr≤gu (Lo.low c.es c.s) l i)):=by
    show _↔_
    unfold Aa
    rw[List.getElem?_eq_getElem hlt,Option.getD_some,he,mJ,hgr]
   have CS:(0:Int)≤(e:Int):=by omega
   have CR:(e:Int)<(c.es.length:Int):=by omega
   have i0:(0:Int)≤(i:Int):=by omega
   have i1:(i:Int)<(l.length:Int):=by omega
   have i2:(i:Int)+1≤4194304:=by omega
   have PT:IntKind.i64.wrap (e:Int)=(e:Int):=by rw[IntKind.wrap_i64];omega
   have q0:∀D:LW wr,D.val.cell? ⟨LB,e,none⟩=some (.int .i64 zl):=fun D=>(vG.out.later D.h).il.cell K8.out
   have q1:∀D:LW wr,D.val.cell? ⟨RB,e,none⟩=some (.int .i64 zr):=fun D=>(vG.out.later D.h).ir.cell K7.out
   have uT:=LW.any wr
   have HOA:=Nu.hid NI
   by_cases h2l:1<l.length
   ·have IY:Hid (∀D:LW wr,Calls Tryz.prog 106 #[.pointer (some ⟨j,0,none⟩),.slice (some ⟨b,0,none⟩) l.length ca,.int .i64 (i:Int)] D.val fun e w'=>e= .returned (.int .i64 (gu (Lo.low c.es c.s) l i))∧Below D.val.heap.size D.val w'):=fun D=>by
     have wP:=hap.aI.trans (D.h.mono hap.aI.size)
     have:=GM (ca:=ca) (HJ.out.later wP) HLM.out (lN.out.later wP) h2l i
     rw[eb] at this
     exact this
    obtain⟨zo,NB⟩:∃z,gu (Lo.low c.es c.s) l i=z:=⟨_,rfl⟩
    rw[NB] at IY HAi
    have l2:(1:Int)<(l.length:Int):=by omega
    have q2:=trivial
    have q3:=trivial
    have q4:=trivial
    rw[eb]
    by_cases hok:min zl zr≤zo
    ·have IV:Hid (∀k,k<i+1→Aa (Lo.low c.es c.s) (g tl) (g tr) l k):=fun k hk=>by
      by_cases hki:k=i
      ·rw[hki];exact HAi.out.2 fun _=>hok
      ·exact HOA.out k (by omega)
     have G6:decide (zo<if zr<zl then zr else zl)=false:=by simp only[decide_eq_false_iff_not];split<;>omega
     clear hJ hap hst NI Ki he o1 o3 o4 eb hq wV dZ hzl GU mJ hgr Cv jZ NB
     go_wp2_with fail
     refine aC (by kernel_rfl) (by kernel_rfl) ?_
     repeat (go_big_quiet_step ((first|(go_at_call 106;exact Calls.lw (IY.out _)))))
     refine wpQuiet_nil ?_
     rintro _ ⟨D1,rfl⟩
     try rw[G6]
     try generalize (if zr<zl then zr else zl)=zmn
     clear G6 hok
     obtain⟨X0,j6⟩:∃X0,X0=D1.val:=⟨_,rfl⟩
     have hb0:Below wr.heap.size wr X0:=by rw[j6];exact D1.h
     rw[←j6]
     clear q0 q1 q2 q3 q4 uT j6 D1
     have BV:=Nu.hid (vG.out.later hb0)
     have q5:∀D:LW X0,D.val.cell? ⟨LB,e,none⟩=some (.int .i64 zl):=fun D=>(BV.out.later D.h).il.cell K8.out
     have q6:∀D:LW X0,D.val.cell? ⟨RB,e,none⟩=some (.int .i64 zr):=fun D=>(BV.out.later D.h).ir.cell K7.out
     have uT:=LW.any X0
     clear hb0
     rcases Int.lt_or_le zr zl with hlr|hlr
     ·have qN:decide (zr<zl)=true:=by simp only[decide_eq_true_eq];exact hlr
      have SE:=Nu.hid (XR.out hlr)
      have Lu:=Nu.hid (Ty.out hlr)
      have Ta:=Nu.hid (XY.out hlr)
      go_wp2_with fail
      refine aC (by kernel_rfl) (by kernel_rfl) ?_
      repeat (go_big_quiet_step (fail))
      refine wpQuiet_nil ?_
      rintro _ ⟨D2,rfl⟩
      try rw[qN]
      clear qN hlr
      obtain⟨X1,iC⟩:∃X1,X1=D2.val:=⟨_,rfl⟩
      have hb1:Below X0.heap.size X0 X1:=by rw[iC];exact D2.h
      rw[←iC]
      clear q5 q6 uT iC D2
      have eN:=Nu.hid (BV.out.later hb1)
      clear hb1
      have y0:∀D:LW X1,D.val.cell? ⟨W.heap.size,0,none⟩=some (.int .i64 h1):=fun D=>(eN.out.later D.h).b1.cell
      have y1:∀D:LW X1,D.val.cell? ⟨j,0,none⟩=some (.pointer (some ⟨p,0,none⟩)):=fun D=>(HJ.out.later (eN.out.aI.trans (D.h.mono eN.out.aI.size))).cells.1
      have y2:∀D:LW X1,D.val.cell? ⟨p,6,none⟩=some (.slice (some ⟨lb,0,none⟩) c.es.length lc):=fun D=>OO.out _ (eN.out.aI.trans (D.h.mono eN.out.aI.size))
      have y3:∀D:LW X1,D.val.cell? ⟨lb,e,none⟩=some (.int .i64 zw):=fun D=>C6.out _ (eN.out.aI.trans (D.h.mono eN.out.aI.size))
      have hne:=LW.any X1
      go_wp2_with fail
      rcases Int.lt_or_le zw h1 with hB|hB
      ·have mK:decide (zw<h1)=true:=by simp only[decide_eq_true_eq];exact hB
       have jk:Hid (¬eE (Lo.low c.es c.s) (g tl) (g tr) l):=Ta.out hB
       refine aC (by kernel_rfl) (by kernel_rfl) ?_
       repeat (go_big_quiet_step (fail))
       refine wpQuiet_nil ?_
       rintro _ ⟨D3,rfl⟩
       try rw[mK]
       clear mK
       clear hB
       have dM:Hid (Below W.heap.size W D3.val):=eN.out.aI.trans (D3.h.mono eN.out.aI.size)
       clear y0 y1 y2 y3 hne
       go_wp2_with fail
       go_ret
       exact⟨false,rfl,⟨(fun q=>by cases q),fun q=>absurd q jk.out⟩,dM.out⟩
      ·have mK:decide (zw<h1)=false:=by simp only[decide_eq_false_iff_not];omega
       refine aC (by kernel_rfl) (by kernel_rfl) ?_
       repeat (go_big_quiet_step (fail))
       refine wpQuiet_nil ?_
       rintro _ ⟨D3,rfl⟩
       try rw[mK]
       clear mK
       have l9:=Nu.hid hB
       clear hB
       obtain⟨X2,jF⟩:∃X2,X2=D3.val:=⟨_,rfl⟩
       have hb2:Below X1.heap.size X1 X2:=by rw[jF];exact D3.h
       rw[←jF]
       clear y0 y1 y2 y3 hne jF D3
       have HT:=Nu.hid (eN.out.later hb2)
       have kb:X2.drew.cell? ⟨W.heap.size,0,none⟩=some (.int .i64 h1):=HT.out.b1.cell
       have kf:X2.drew.frozen? ⟨W.heap.size,0,none⟩=false:=HT.out.b1.frozen
       have kl:X2.drew.cell? ⟨LB,e,none⟩=some (.int .i64 zl):=HT.out.il.cell K8.out
       have kr:X2.drew.cell? ⟨RB,e,none⟩=some (.int .i64 zr):=HT.out.ir.cell K7.out
       clear hb2
       go_wp2_with fail
       refine wp_region_any (by kernel_rfl) ?_
       refine aj.oI (fun ix=>match ix with|0=> .pointer (some ⟨W.heap.size,0,none⟩)|1=> .slice (some ⟨LB,0,none⟩) c.es.length c.es.length|2=> .int .i64 (e:Int)|3=> .pointer (some ⟨LB,e,none⟩)|4=> .int .i64 zl|5=> .slice (some ⟨RB,0,none⟩) c.es.length c.es.length|6=> .int .i64 (e:Int)|7=> .pointer (some ⟨RB,e,none⟩)|8=> .int .i64 zr|9=> .int .i64 (max zl zr)|10=> .pointer (some ⟨W.heap.size,0,none⟩)|_=>undef) (AnyM.bG X2.drew [(11,X2.drew.setCell ⟨W.heap.size,0,none⟩ (.int .i64 (max zl zr)))]) 91 rfl (by kernel_rfl) rfl ?_ ?_
       ·intro ix o' Ls V ev ho bO hC bU hdc aA aR kW iQ
        have hc:ix=0∨ix=1∨ix=2∨ix=3∨ix=4∨ix=5∨ix=6∨ix=7∨ix=8∨ix=9∨ix=10∨ix=11:=by
         have:ix<12:=(Array.getElem?_eq_some_iff.1 ho).1
         omega
        have hst:Ls 11=false:=by
         cases h:Ls 11 with
         |false=>rfl
         |true=>
          exfalso
          have hq:Ls ix=true:=by
           rcases hc with rfl|rfl|rfl|rfl|rfl|rfl|rfl|rfl|rfl|rfl|rfl|rfl
           ·exact hdc 11 _ rfl h ⟨0,.phase⟩ (by simp) rfl
           ·exact hdc 11 _ rfl h ⟨1,.phase⟩ (by simp) rfl
           ·exact hdc 11 _ rfl h ⟨2,.phase⟩ (by simp) rfl
           ·exact hdc 11 _ rfl h ⟨3,.phase⟩ (by simp) rfl
           ·exact hdc 11 _ rfl h ⟨4,.phase⟩ (by simp) rfl
           ·exact hdc 11 _ rfl h ⟨5,.phase⟩ (by simp) rfl
           ·exact hdc 11 _ rfl h ⟨6,.phase⟩ (by simp) rfl
           ·exact hdc 11 _ rfl h ⟨7,.phase⟩ (by simp) rfl
           ·exact hdc 11 _ rfl h ⟨8,.phase⟩ (by simp) rfl
           ·exact hdc 11 _ rfl h ⟨9,.data⟩ (by simp) rfl
           ·exact hdc 11 _ rfl h ⟨10,.data⟩ (by simp) rfl
           ·exact h
          rw[bO] at hq
          cases hq
        have hV:V=X2.drew:=by
         simp only[AnyM.bG,hst,Bool.false_eq_true,if_false] at hC
         exact hC
        subst hV
        rcases hc with rfl|rfl|rfl|rfl|rfl|rfl|rfl|rfl|rfl|rfl|rfl|rfl<;>obtain rfl:=Option.some.inj ho
        ·have e1:ev (.tmp 15)= .pointer (some ⟨W.heap.size,0,none⟩):=aR 15 (by kernel_rfl)
         exact aj.ah (v:= .pointer (some ⟨W.heap.size,0,none⟩)) (w':=_) (by simp[execOp,go_sem,e1]) ⟨rfl,AnyM.other rfl hC⟩
        ·have e1:ev (.tmp 2)= .slice (some ⟨LB,0,none⟩) c.es.length c.es.length:=aR 2 (by kernel_rfl)
         exact aj.ah (v:= .slice (some ⟨LB,0,none⟩) c.es.length c.es.length) (w':=_) (by simp[execOp,go_sem,e1]) ⟨rfl,AnyM.other rfl hC⟩
        ·have e1:ev (.tmp 14)= .int .i64 (e:Int):=aR 14 (by kernel_rfl)
         exact aj.ah (v:= .int .i64 (e:Int)) (w':=_) (by simp[execOp,go_sem,e1]) ⟨rfl,AnyM.other rfl hC⟩
        ·have e1:ev (.tmp 80)= .slice (some ⟨LB,0,none⟩) c.es.length c.es.length:=aA 1 80 (by omega) rfl (by decide)
         have e2:ev (.tmp 81)= .int .i64 (e:Int):=aA 2 81 (by omega) rfl (by decide)
         exact aj.ah (v:= .pointer (some ⟨LB,e,none⟩)) (w':=_) (by simp[execOp,go_sem,e1,e2,CS,CR]) ⟨rfl,AnyM.other rfl hC⟩
        ·have e1:ev (.tmp 82)= .pointer (some ⟨LB,e,none⟩):=aA 3 82 (by omega) rfl (by decide)
         exact aj.ah (v:= .int .i64 zl) (w':=_) (by simp[execOp,go_sem,e1,kl]) ⟨rfl,AnyM.other rfl hC⟩
        ·have e1:ev (.tmp 3)= .slice (some ⟨RB,0,none⟩) c.es.length c.es.length:=aR 3 (by kernel_rfl)
         exact aj.ah (v:= .slice (some ⟨RB,0,none⟩) c.es.length c.es.length) (w':=_) (by simp[execOp,go_sem,e1]) ⟨rfl,AnyM.other rfl hC⟩
        ·have e1:ev (.tmp 14)= .int .i64 (e:Int):=aR 14 (by kernel_rfl)
         exact aj.ah (v:= .int .i64 (e:Int)) (w':=_) (by simp[execOp,go_sem,e1]) ⟨rfl,AnyM.other rfl hC⟩
        ·have e1:ev (.tmp 84)= .slice (some ⟨RB,0,none⟩) c.es.length c.es.length:=aA 5 84 (by omega) rfl (by decide)
         have e2:ev (.tmp 85)= .int .i64 (e:Int):=aA 6 85 (by omega) rfl (by decide)
         exact aj.ah (v:= .pointer (some ⟨RB,e,none⟩)) (w':=_) (by simp[execOp,go_sem,e1,e2,CS,CR]) ⟨rfl,AnyM.other rfl hC⟩
        ·have e1:ev (.tmp 86)= .pointer (some ⟨RB,e,none⟩):=aA 7 86 (by omega) rfl (by decide)
         exact aj.ah (v:= .int .i64 zr) (w':=_) (by simp[execOp,go_sem,e1,kr]) ⟨rfl,AnyM.other rfl hC⟩
        ·have e1:ev (.tmp 83)= .int .i64 zl:=aA 4 83 (by omega) rfl (by decide)
         have e2:ev (.tmp 87)= .int .i64 zr:=aA 8 87 (by omega) rfl (by decide)
         exact aj.ah (v:= .int .i64 (max zl zr)) (w':=_) (by simp[execOp,go_sem,e1,e2];split<;>omega) ⟨rfl,AnyM.other rfl hC⟩
        ·have e1:ev (.tmp 79)= .pointer (some ⟨W.heap.size,0,none⟩):=aA 0 79 (by omega) rfl (by decide)
         exact aj.ah (v:= .pointer (some ⟨W.heap.size,0,none⟩)) (w':=_) (by simp[execOp,go_sem,e1]) ⟨rfl,AnyM.other rfl hC⟩
        ·have e1:ev (.tmp 89)= .pointer (some ⟨W.heap.size,0,none⟩):=aA 10 89 (by omega) rfl (by decide)
         have e2:ev (.tmp 88)= .int .i64 (max zl zr):=aA 9 88 (by omega) rfl (by decide)
         refine aj.bF (w':=X2.drew.setCell ⟨W.heap.size,0,none⟩ (.int .i64 (max zl zr))) (by simp[execOp,go_sem,e1,e2,kb,kf]) ⟨rfl,?_⟩
         simp[AnyM.bG,aj.bQ]
       ·intro Ls V hall hC
        unfold AnyM.bG at hC
        rw[if_pos (hall 11 (by decide))] at hC
        subst hC
        have fB:Hid (ApAt c LB RB tl tr W (X2.drew.setCell ⟨W.heap.size,0,none⟩ (.int .i64 (max zl zr))) (max zl zr) h2):=HT.out.VW _
        clear kb kf kl kr hall
        simp only[aj.canon,aj.dst,Array.size,List.length_cons,List.length_nil]
        simp[Act.put]
        go_wp2_with fail
        go_roundw
        case rel=>
         refine⟨i+1,max zl zr,h2,by simp,by omega,fB.out,?_,?_,?_⟩
         ·rw[CY.out,SE.out]
         ·exact IV.out
         ·rw[CY.out]
          exact⟨by rw[Lu.out,Vo.out];exact l9.out,MJ.out⟩
        case measure=>
         simp[intOf]
         omega
     ·have qN:decide (zr<zl)=false:=by simp only[decide_eq_false_iff_not];omega
      have SD:=Nu.hid (Ef.out hlr)
      have Lq:=Nu.hid (Tx.out hlr)
      have S9:=Nu.hid (XX.out hlr)
      go_wp2_with fail
      refine aC (by kernel_rfl) (by kernel_rfl) ?_
      repeat (go_big_quiet_step (fail))
      refine wpQuiet_nil ?_
      rintro _ ⟨D2,rfl⟩
      try rw[qN]
      clear qN hlr
      obtain⟨X1,iC⟩:∃X1,X1=D2.val:=⟨_,rfl⟩
      have hb1:Below X0.heap.size X0 X1:=by rw[iC];exact D2.h
      rw[←iC]
      clear q5 q6 uT iC D2
      have eN:=Nu.hid (BV.out.later hb1)
      clear hb1
      have y0:∀D:LW X1,D.val.cell? ⟨W.heap.size+1,0,none⟩=some (.int .i64 h2):=fun D=>(eN.out.later D.h).b2.cell
      have y1:∀D:LW X1,D.val.cell? ⟨j,0,none⟩=some (.pointer (some ⟨p,0,none⟩)):=fun D=>(HJ.out.later (eN.out.aI.trans (D.h.mono eN.out.aI.size))).cells.1
      have y2:∀D:LW X1,D.val.cell? ⟨p,6,none⟩=some (.slice (some ⟨lb,0,none⟩) c.es.length lc):=fun D=>OO.out _ (eN.out.aI.trans (D.h.mono eN.out.aI.size))
      have y3:∀D:LW X1,D.val.cell? ⟨lb,e,none⟩=some (.int .i64 zw):=fun D=>C6.out _ (eN.out.aI.trans (D.h.mono eN.out.aI.size))
      have hne:=LW.any X1
      go_wp2_with fail
      rcases Int.lt_or_le zw h2 with hB|hB
      ·have mK:decide (zw<h2)=true:=by simp only[decide_eq_true_eq];exact hB
       have jk:Hid (¬eE (Lo.low c.es c.s) (g tl) (g tr) l):=S9.out hB
       refine aC (by kernel_rfl) (by kernel_rfl) ?_
       repeat (go_big_quiet_step (fail))
       refine wpQuiet_nil ?_
       rintro _ ⟨D3,rfl⟩
       try rw[mK]
       clear mK
       clear hB
       have dM:Hid (Below W.heap.size W D3.val):=eN.out.aI.trans (D3.h.mono eN.out.aI.size)
       clear y0 y1 y2 y3 hne
       go_wp2_with fail
       go_ret
       exact⟨false,rfl,⟨(fun q=>by cases q),fun q=>absurd q jk.out⟩,dM.out⟩
      ·have mK:decide (zw<h2)=false:=by simp only[decide_eq_false_iff_not];omega
       refine aC (by kernel_rfl) (by kernel_rfl) ?_
       repeat (go_big_quiet_step (fail))
       refine wpQuiet_nil ?_
       rintro _ ⟨D3,rfl⟩
       try rw[mK]
       clear mK
       have l9:=Nu.hid hB
       clear hB
       obtain⟨X2,jF⟩:∃X2,X2=D3.val:=⟨_,rfl⟩
       have hb2:Below X1.heap.size X1 X2:=by rw[jF];exact D3.h
       rw[←jF]
       clear y0 y1 y2 y3 hne jF D3
       have HT:=Nu.hid (eN.out.later hb2)
       have kb:X2.drew.cell? ⟨W.heap.size+1,0,none⟩=some (.int .i64 h2):=HT.out.b2.cell
       have kf:X2.drew.frozen? ⟨W.heap.size+1,0,none⟩=false:=HT.out.b2.frozen
       have kl:X2.drew.cell? ⟨LB,e,none⟩=some (.int .i64 zl):=HT.out.il.cell K8.out
       have kr:X2.drew.cell? ⟨RB,e,none⟩=some (.int .i64 zr):=HT.out.ir.cell K7.out
       clear hb2
       go_wp2_with fail
       refine wp_region_any (by kernel_rfl) ?_
       refine aj.oI (fun ix=>match ix with|0=> .pointer (some ⟨W.heap.size+1,0,none⟩)|1=> .slice (some ⟨LB,0,none⟩) c.es.length c.es.length|2=> .int .i64 (e:Int)|3=> .pointer (some ⟨LB,e,none⟩)|4=> .int .i64 zl|5=> .slice (some ⟨RB,0,none⟩) c.es.length c.es.length|6=> .int .i64 (e:Int)|7=> .pointer (some ⟨RB,e,none⟩)|8=> .int .i64 zr|9=> .int .i64 (max zl zr)|10=> .pointer (some ⟨W.heap.size+1,0,none⟩)|_=>undef) (AnyM.bG X2.drew [(11,X2.drew.setCell ⟨W.heap.size+1,0,none⟩ (.int .i64 (max zl zr)))]) 91 rfl (by kernel_rfl) rfl ?_ ?_
       ·intro ix o' Ls V ev ho bO hC bU hdc aA aR kW iQ
        have hc:ix=0∨ix=1∨ix=2∨ix=3∨ix=4∨ix=5∨ix=6∨ix=7∨ix=8∨ix=9∨ix=10∨ix=11:=by
         have:ix<12:=(Array.getElem?_eq_some_iff.1 ho).1
         omega
        have hst:Ls 11=false:=by
         cases h:Ls 11 with
         |false=>rfl
         |true=>
          exfalso
          have hq:Ls ix=true:=by
           rcases hc with rfl|rfl|rfl|rfl|rfl|rfl|rfl|rfl|rfl|rfl|rfl|rfl
           ·exact hdc 11 _ rfl h ⟨0,.phase⟩ (by simp) rfl
           ·exact hdc 11 _ rfl h ⟨1,.phase⟩ (by simp) rfl
           ·exact hdc 11 _ rfl h ⟨2,.phase⟩ (by simp) rfl
           ·exact hdc 11 _ rfl h ⟨3,.phase⟩ (by simp) rfl
           ·exact hdc 11 _ rfl h ⟨4,.phase⟩ (by simp) rfl
           ·exact hdc 11 _ rfl h ⟨5,.phase⟩ (by simp) rfl
           ·exact hdc 11 _ rfl h ⟨6,.phase⟩ (by simp) rfl
           ·exact hdc 11 _ rfl h ⟨7,.phase⟩ (by simp) rfl
           ·exact hdc 11 _ rfl h ⟨8,.phase⟩ (by simp) rfl
           ·exact hdc 11 _ rfl h ⟨9,.data⟩ (by simp) rfl
           ·exact hdc 11 _ rfl h ⟨10,.data⟩ (by simp) rfl
           ·exact h
          rw[bO] at hq
          cases hq
        have hV:V=X2.drew:=by
         simp only[AnyM.bG,hst,Bool.false_eq_true,if_false] at hC
         exact hC
        subst hV
        rcases hc with rfl|rfl|rfl|rfl|rfl|rfl|rfl|rfl|rfl|rfl|rfl|rfl<;>obtain rfl:=Option.some.inj ho
        ·have e1:ev (.tmp 15)= .pointer (some ⟨W.heap.size+1,0,none⟩):=aR 15 (by kernel_rfl)
         exact aj.ah (v:= .pointer (some ⟨W.heap.size+1,0,none⟩)) (w':=_) (by simp[execOp,go_sem,e1]) ⟨rfl,AnyM.other rfl hC⟩
        ·have e1:ev (.tmp 2)= .slice (some ⟨LB,0,none⟩) c.es.length c.es.length:=aR 2 (by kernel_rfl)
         exact aj.ah (v:= .slice (some ⟨LB,0,none⟩) c.es.length c.es.length) (w':=_) (by simp[execOp,go_sem,e1]) ⟨rfl,AnyM.other rfl hC⟩
        ·have e1:ev (.tmp 14)= .int .i64 (e:Int):=aR 14 (by kernel_rfl)
         exact aj.ah (v:= .int .i64 (e:Int)) (w':=_) (by simp[execOp,go_sem,e1]) ⟨rfl,AnyM.other rfl hC⟩
        ·have e1:ev (.tmp 80)= .slice (some ⟨LB,0,none⟩) c.es.length c.es.length:=aA 1 80 (by omega) rfl (by decide)
         have e2:ev (.tmp 81)= .int .i64 (e:Int):=aA 2 81 (by omega) rfl (by decide)
         exact aj.ah (v:= .pointer (some ⟨LB,e,none⟩)) (w':=_) (by simp[execOp,go_sem,e1,e2,CS,CR]) ⟨rfl,AnyM.other rfl hC⟩
        ·have e1:ev (.tmp 82)= .pointer (some ⟨LB,e,none⟩):=aA 3 82 (by omega) rfl (by decide)
         exact aj.ah (v:= .int .i64 zl) (w':=_) (by simp[execOp,go_sem,e1,kl]) ⟨rfl,AnyM.other rfl hC⟩
        ·have e1:ev (.tmp 3)= .slice (some ⟨RB,0,none⟩) c.es.length c.es.length:=aR 3 (by kernel_rfl)
         exact aj.ah (v:= .slice (some ⟨RB,0,none⟩) c.es.length c.es.length) (w':=_) (by simp[execOp,go_sem,e1]) ⟨rfl,AnyM.other rfl hC⟩
        ·have e1:ev (.tmp 14)= .int .i64 (e:Int):=aR 14 (by kernel_rfl)
         exact aj.ah (v:= .int .i64 (e:Int)) (w':=_) (by simp[execOp,go_sem,e1]) ⟨rfl,AnyM.other rfl hC⟩
        ·have e1:ev (.tmp 84)= .slice (some ⟨RB,0,none⟩) c.es.length c.es.length:=aA 5 84 (by omega) rfl (by decide)
         have e2:ev (.tmp 85)= .int .i64 (e:Int):=aA 6 85 (by omega) rfl (by decide)
         exact aj.ah (v:= .pointer (some ⟨RB,e,none⟩)) (w':=_) (by simp[execOp,go_sem,e1,e2,CS,CR]) ⟨rfl,AnyM.other rfl hC⟩
        ·have e1:ev (.tmp 86)= .pointer (some ⟨RB,e,none⟩):=aA 7 86 (by omega) rfl (by decide)
         exact aj.ah (v:= .int .i64 zr) (w':=_) (by simp[execOp,go_sem,e1,kr]) ⟨rfl,AnyM.other rfl hC⟩
        ·have e1:ev (.tmp 83)= .int .i64 zl:=aA 4 83 (by omega) rfl (by decide)
         have e2:ev (.tmp 87)= .int .i64 zr:=aA 8 87 (by omega) rfl (by decide)
         exact aj.ah (v:= .int .i64 (max zl zr)) (w':=_) (by simp[execOp,go_sem,e1,e2];split<;>omega) ⟨rfl,AnyM.other rfl hC⟩
        ·have e1:ev (.tmp 79)= .pointer (some ⟨W.heap.size+1,0,none⟩):=aA 0 79 (by omega) rfl (by decide)
         exact aj.ah (v:= .pointer (some ⟨W.heap.size+1,0,none⟩)) (w':=_) (by simp[execOp,go_sem,e1]) ⟨rfl,AnyM.other rfl hC⟩
        ·have e1:ev (.tmp 89)= .pointer (some ⟨W.heap.size+1,0,none⟩):=aA 10 89 (by omega) rfl (by decide)
         have e2:ev (.tmp 88)= .int .i64 (max zl zr):=aA 9 88 (by omega) rfl (by decide)
         refine aj.bF (w':=X2.drew.setCell ⟨W.heap.size+1,0,none⟩ (.int .i64 (max zl zr))) (by simp[execOp,go_sem,e1,e2,kb,kf]) ⟨rfl,?_⟩
         simp[AnyM.bG,aj.bQ]
       ·intro Ls V hall hC
        unfold AnyM.bG at hC
        rw[if_pos (hall 11 (by decide))] at hC
        subst hC
        have fB:Hid (ApAt c LB RB tl tr W (X2.drew.setCell ⟨W.heap.size+1,0,none⟩ (.int .i64 (max zl zr))) h1 (max zl zr)):=HT.out.VV _
        clear kb kf kl kr hall
        simp only[aj.canon,aj.dst,Array.size,List.length_cons,List.length_nil]
        simp[Act.put]
        go_wp2_with fail
        go_roundw
        case rel=>
         refine⟨i+1,h1,max zl zr,by simp,by omega,fB.out,?_,?_,?_⟩
         ·rw[CY.out,SD.out]
         ·exact IV.out
         ·rw[CY.out]
          exact⟨by rw[Lq.out,Vo.out];exact l9.out,MJ.out⟩
        case measure=>
         simp[intOf]
         omega
    ·have jk:Hid (¬eE (Lo.low c.es c.s) (g tl) (g tr) l):=fun q=>hok (HAi.out.1 (q.1 i hlt) h2l)
     have G6:decide (zo<if zr<zl then zr else zl)=true:=by simp only[decide_eq_true_eq];split<;>omega
     clear hJ hap hst NI Ki he o1 o3 o4 eb hq wV dZ hzl GU mJ hgr Cv jZ NB
     go_wp2_with fail
     refine aC (by kernel_rfl) (by kernel_rfl) ?_
     repeat (go_big_quiet_step ((first|(go_at_call 106;exact Calls.lw (IY.out _)))))
     refine wpQuiet_nil ?_
     rintro _ ⟨D1,rfl⟩
     try rw[G6]
     try generalize (if zr<zl then zr else zl)=zmn
     clear G6 hok
     have dM:Hid (Below W.heap.size W D1.val):=vG.out.aI.trans (D1.h.mono vG.out.aI.size)
     clear q0 q1 q2 q3 q4 uT
     go_wp2_with fail
     go_ret
     exact⟨false,rfl,⟨(fun q=>by cases q),fun q=>absurd q jk.out⟩,dM.out⟩
   ·have IV:Hid (∀k,k<i+1→Aa (Lo.low c.es c.s) (g tl) (g tr) l k):=fun k hk=>fun q=>absurd q h2l
    have l2:decide ((1:Int)<(l.length:Int))=false:=by simp only[decide_eq_false_iff_not];omega
    have q2:=trivial
    have q3:=trivial
    have q4:=trivial
    rw[eb]
    clear hJ hap hst NI Ki he o1 o3 o4 eb hq wV dZ hzl GU mJ hgr Cv jZ
    go_wp2_with fail
    refine aC (by kernel_rfl) (by kernel_rfl) ?_
    repeat (go_big_quiet_step (fail))
    refine wpQuiet_nil ?_
    rintro _ ⟨D1,rfl⟩
    obtain⟨X0,j6⟩:∃X0,X0=D1.val:=⟨_,rfl⟩
    have hb0:Below wr.heap.size wr X0:=by rw[j6];exact D1.h
    rw[←j6]
    clear q0 q1 q2 q3 q4 uT j6 D1
    have BV:=Nu.hid (vG.out.later hb0)
    have q5:∀D:LW X0,D.val.cell? ⟨LB,e,none⟩=some (.int .i64 zl):=fun D=>(BV.out.later D.h).il.cell K8.out
    have q6:∀D:LW X0,D.val.cell? ⟨RB,e,none⟩=some (.int .i64 zr):=fun D=>(BV.out.later D.h).ir.cell K7.out
    have uT:=LW.any X0
    clear hb0
    rcases Int.lt_or_le zr zl with hlr|hlr
    ·have qN:decide (zr<zl)=true:=by simp only[decide_eq_true_eq];exact hlr
     have SE:=Nu.hid (XR.out hlr)
     have Lu:=Nu.hid (Ty.out hlr)
     have Ta:=Nu.hid (XY.out hlr)
     go_wp2_with fail
     refine aC (by kernel_rfl) (by kernel_rfl) ?_
     repeat (go_big_quiet_step (fail))
     refine wpQuiet_nil ?_
     rintro _ ⟨D2,rfl⟩
     try rw[qN]
     clear qN hlr
     obtain⟨X1,iC⟩:∃X1,X1=D2.val:=⟨_,rfl⟩
     have hb1:Below X0.heap.size X0 X1:=by rw[iC];exact D2.h
     rw[←iC]
     clear q5 q6 uT iC D2
     have eN:=Nu.hid (BV.out.later hb1)
     clear hb1
     have y0:∀D:LW X1,D.val.cell? ⟨W.heap.size,0,none⟩=some (.int .i64 h1):=fun D=>(eN.out.later D.h).b1.cell
     have y1:∀D:LW X1,D.val.cell? ⟨j,0,none⟩=some (.pointer (some ⟨p,0,none⟩)):=fun D=>(HJ.out.later (eN.out.aI.trans (D.h.mono eN.out.aI.size))).cells.1
     have y2:∀D:LW X1,D.val.cell? ⟨p,6,none⟩=some (.slice (some ⟨lb,0,none⟩) c.es.length lc):=fun D=>OO.out _ (eN.out.aI.trans (D.h.mono eN.out.aI.size))
     have y3:∀D:LW X1,D.val.cell? ⟨lb,e,none⟩=some (.int .i64 zw):=fun D=>C6.out _ (eN.out.aI.trans (D.h.mono eN.out.aI.size))
     have hne:=LW.any X1
     go_wp2_with fail
     rcases Int.lt_or_le zw h1 with hB|hB
     ·have mK:decide (zw<h1)=true:=by simp only[decide_eq_true_eq];exact hB
      have jk:Hid (¬eE (Lo.low c.es c.s) (g tl) (g tr) l):=Ta.out hB
      refine aC (by kernel_rfl) (by kernel_rfl) ?_
      repeat (go_big_quiet_step (fail))
      refine wpQuiet_nil ?_
      rintro _ ⟨D3,rfl⟩
      try rw[mK]
      clear mK
      clear hB
      have dM:Hid (Below W.heap.size W D3.val):=eN.out.aI.trans (D3.h.mono eN.out.aI.size)
      clear y0 y1 y2 y3 hne
      go_wp2_with fail
      go_ret
      exact⟨false,rfl,⟨(fun q=>by cases q),fun q=>absurd q jk.out⟩,dM.out⟩
     ·have mK:decide (zw<h1)=false:=by simp only[decide_eq_false_iff_not];omega
      refine aC (by kernel_rfl) (by kernel_rfl) ?_
      repeat (go_big_quiet_step (fail))
      refine wpQuiet_nil ?_
      rintro _ ⟨D3,rfl⟩
      try rw[mK]
      clear mK
      have l9:=Nu.hid hB
      clear hB
      obtain⟨X2,jF⟩:∃X2,X2=D3.val:=⟨_,rfl⟩
      have hb2:Below X1.heap.size X1 X2:=by rw[jF];exact D3.h
      rw[←jF]
      clear y0 y1 y2 y3 hne jF D3
      have HT:=Nu.hid (eN.out.later hb2)
      have kb:X2.drew.cell? ⟨W.heap.size,0,none⟩=some (.int .i64 h1):=HT.out.b1.cell
      have kf:X2.drew.frozen? ⟨W.heap.size,0,none⟩=false:=HT.out.b1.frozen
      have kl:X2.drew.cell? ⟨LB,e,none⟩=some (.int .i64 zl):=HT.out.il.cell K8.out
      have kr:X2.drew.cell? ⟨RB,e,none⟩=some (.int .i64 zr):=HT.out.ir.cell K7.out
      clear hb2
      go_wp2_with fail
      refine wp_region_any (by kernel_rfl) ?_
      refine aj.oI (fun ix=>match ix with|0=> .pointer (some ⟨W.heap.size,0,none⟩)|1=> .slice (some ⟨LB,0,none⟩) c.es.length c.es.length|2=> .int .i64 (e:Int)|3=> .pointer (some ⟨LB,e,none⟩)|4=> .int .i64 zl|5=> .slice (some ⟨RB,0,none⟩) c.es.length c.es.length|6=> .int .i64 (e:Int)|7=> .pointer (some ⟨RB,e,none⟩)|8=> .int .i64 zr|9=> .int .i64 (max zl zr)|10=> .pointer (some ⟨W.heap.size,0,none⟩)|_=>undef) (AnyM.bG X2.drew [(11,X2.drew.setCell ⟨W.heap.size,0,none⟩ (.int .i64 (max zl zr)))]) 91 rfl (by kernel_rfl) rfl ?_ ?_
      ·intro ix o' Ls V ev ho bO hC bU hdc aA aR kW iQ
       have hc:ix=0∨ix=1∨ix=2∨ix=3∨ix=4∨ix=5∨ix=6∨ix=7∨ix=8∨ix=9∨ix=10∨ix=11:=by
        have:ix<12:=(Array.getElem?_eq_some_iff.1 ho).1
        omega
       have hst:Ls 11=false:=by
        cases h:Ls 11 with
        |false=>rfl
        |true=>
         exfalso
         have hq:Ls ix=true:=by
          rcases hc with rfl|rfl|rfl|rfl|rfl|rfl|rfl|rfl|rfl|rfl|rfl|rfl
          ·exact hdc 11 _ rfl h ⟨0,.phase⟩ (by simp) rfl
          ·exact hdc 11 _ rfl h ⟨1,.phase⟩ (by simp) rfl
          ·exact hdc 11 _ rfl h ⟨2,.phase⟩ (by simp) rfl
          ·exact hdc 11 _ rfl h ⟨3,.phase⟩ (by simp) rfl
          ·exact hdc 11 _ rfl h ⟨4,.phase⟩ (by simp) rfl
          ·exact hdc 11 _ rfl h ⟨5,.phase⟩ (by simp) rfl
          ·exact hdc 11 _ rfl h ⟨6,.phase⟩ (by simp) rfl
          ·exact hdc 11 _ rfl h ⟨7,.phase⟩ (by simp) rfl
          ·exact hdc 11 _ rfl h ⟨8,.phase⟩ (by simp) rfl
          ·exact hdc 11 _ rfl h ⟨9,.data⟩ (by simp) rfl
          ·exact hdc 11 _ rfl h ⟨10,.data⟩ (by simp) rfl
          ·exact h
         rw[bO] at hq
         cases hq
       have hV:V=X2.drew:=by
        simp only[AnyM.bG,hst,Bool.false_eq_true,if_false] at hC
        exact hC
       subst hV
       rcases hc with rfl|rfl|rfl|rfl|rfl|rfl|rfl|rfl|rfl|rfl|rfl|rfl<;>obtain rfl:=Option.some.inj ho
       ·have e1:ev (.tmp 15)= .pointer (some ⟨W.heap.size,0,none⟩):=aR 15 (by kernel_rfl)
        exact aj.ah (v:= .pointer (some ⟨W.heap.size,0,none⟩)) (w':=_) (by simp[execOp,go_sem,e1]) ⟨rfl,AnyM.other rfl hC⟩
       ·have e1:ev (.tmp 2)= .slice (some ⟨LB,0,none⟩) c.es.length c.es.length:=aR 2 (by kernel_rfl)
        exact aj.ah (v:= .slice (some ⟨LB,0,none⟩) c.es.length c.es.length) (w':=_) (by simp[execOp,go_sem,e1]) ⟨rfl,AnyM.other rfl hC⟩
       ·have e1:ev (.tmp 14)= .int .i64 (e:Int):=aR 14 (by kernel_rfl)
        exact aj.ah (v:= .int .i64 (e:Int)) (w':=_) (by simp[execOp,go_sem,e1]) ⟨rfl,AnyM.other rfl hC⟩
       ·have e1:ev (.tmp 80)= .slice (some ⟨LB,0,none⟩) c.es.length c.es.length:=aA 1 80 (by omega) rfl (by decide)
        have e2:ev (.tmp 81)= .int .i64 (e:Int):=aA 2 81 (by omega) rfl (by decide)
        exact aj.ah (v:= .pointer (some ⟨LB,e,none⟩)) (w':=_) (by simp[execOp,go_sem,e1,e2,CS,CR]) ⟨rfl,AnyM.other rfl hC⟩
       ·have e1:ev (.tmp 82)= .pointer (some ⟨LB,e,none⟩):=aA 3 82 (by omega) rfl (by decide)
        exact aj.ah (v:= .int .i64 zl) (w':=_) (by simp[execOp,go_sem,e1,kl]) ⟨rfl,AnyM.other rfl hC⟩
       ·have e1:ev (.tmp 3)= .slice (some ⟨RB,0,none⟩) c.es.length c.es.length:=aR 3 (by kernel_rfl)
        exact aj.ah (v:= .slice (some ⟨RB,0,none⟩) c.es.length c.es.length) (w':=_) (by simp[execOp,go_sem,e1]) ⟨rfl,AnyM.other rfl hC⟩
       ·have e1:ev (.tmp 14)= .int .i64 (e:Int):=aR 14 (by kernel_rfl)
        exact aj.ah (v:= .int .i64 (e:Int)) (w':=_) (by simp[execOp,go_sem,e1]) ⟨rfl,AnyM.other rfl hC⟩
       ·have e1:ev (.tmp 84)= .slice (some ⟨RB,0,none⟩) c.es.length c.es.length:=aA 5 84 (by omega) rfl (by decide)
        have e2:ev (.tmp 85)= .int .i64 (e:Int):=aA 6 85 (by omega) rfl (by decide)
        exact aj.ah (v:= .pointer (some ⟨RB,e,none⟩)) (w':=_) (by simp[execOp,go_sem,e1,e2,CS,CR]) ⟨rfl,AnyM.other rfl hC⟩
       ·have e1:ev (.tmp 86)= .pointer (some ⟨RB,e,none⟩):=aA 7 86 (by omega) rfl (by decide)
        exact aj.ah (v:= .int .i64 zr) (w':=_) (by simp[execOp,go_sem,e1,kr]) ⟨rfl,AnyM.other rfl hC⟩
       ·have e1:ev (.tmp 83)= .int .i64 zl:=aA 4 83 (by omega) rfl (by decide)
        have e2:ev (.tmp 87)= .int .i64 zr:=aA 8 87 (by omega) rfl (by decide)
        exact aj.ah (v:= .int .i64 (max zl zr)) (w':=_) (by simp[execOp,go_sem,e1,e2];split<;>omega) ⟨rfl,AnyM.other rfl hC⟩
       ·have e1:ev (.tmp 79)= .pointer (some ⟨W.heap.size,0,none⟩):=aA 0 79 (by omega) rfl (by decide)
        exact aj.ah (v:= .pointer (some ⟨W.heap.size,0,none⟩)) (w':=_) (by simp[execOp,go_sem,e1]) ⟨rfl,AnyM.other rfl hC⟩
       ·have e1:ev (.tmp 89)= .pointer (some ⟨W.heap.size,0,none⟩):=aA 10 89 (by omega) rfl (by decide)
        have e2:ev (.tmp 88)= .int .i64 (max zl zr):=aA 9 88 (by omega) rfl (by decide)
        refine aj.bF (w':=X2.drew.setCell ⟨W.heap.size,0,none⟩ (.int .i64 (max zl zr))) (by simp[execOp,go_sem,e1,e2,kb,kf]) ⟨rfl,?_⟩
        simp[AnyM.bG,aj.bQ]
      ·intro Ls V hall hC
       unfold AnyM.bG at hC
       rw[if_pos (hall 11 (by decide))] at hC
       subst hC
       have fB:Hid (ApAt c LB RB tl tr W (X2.drew.setCell ⟨W.heap.size,0,none⟩ (.int .i64 (max zl zr))) (max zl zr) h2):=HT.out.VW _
       clear kb kf kl kr hall
       simp only[aj.canon,aj.dst,Array.size,List.length_cons,List.length_nil]
       simp[Act.put]
       go_wp2_with fail
       go_roundw
       case rel=>
        refine⟨i+1,max zl zr,h2,by simp,by omega,fB.out,?_,?_,?_⟩
        ·rw[CY.out,SE.out]
        ·exact IV.out
        ·rw[CY.out]
         exact⟨by rw[Lu.out,Vo.out];exact l9.out,MJ.out⟩
       case measure=>
        simp[intOf]
        omega
    ·have qN:decide (zr<zl)=false:=by simp only[decide_eq_false_iff_not];omega
     have SD:=Nu.hid (Ef.out hlr)
     have Lq:=Nu.hid (Tx.out hlr)
     have S9:=Nu.hid (XX.out hlr)
     go_wp2_with fail
     refine aC (by kernel_rfl) (by kernel_rfl) ?_
     repeat (go_big_quiet_step (fail))
     refine wpQuiet_nil ?_
     rintro _ ⟨D2,rfl⟩
     try rw[qN]
     clear qN hlr
     obtain⟨X1,iC⟩:∃X1,X1=D2.val:=⟨_,rfl⟩
     have hb1:Below X0.heap.size X0 X1:=by rw[iC];exact D2.h
     rw[←iC]
     clear q5 q6 uT iC D2
     have eN:=Nu.hid (BV.out.later hb1)
     clear hb1
     have y0:∀D:LW X1,D.val.cell? ⟨W.heap.size+1,0,none⟩=some (.int .i64 h2):=fun D=>(eN.out.later D.h).b2.cell
     have y1:∀D:LW X1,D.val.cell? ⟨j,0,none⟩=some (.pointer (some ⟨p,0,none⟩)):=fun D=>(HJ.out.later (eN.out.aI.trans (D.h.mono eN.out.aI.size))).cells.1
     have y2:∀D:LW X1,D.val.cell? ⟨p,6,none⟩=some (.slice (some ⟨lb,0,none⟩) c.es.length lc):=fun D=>OO.out _ (eN.out.aI.trans (D.h.mono eN.out.aI.size))
     have y3:∀D:LW X1,D.val.cell? ⟨lb,e,none⟩=some (.int .i64 zw):=fun D=>C6.out _ (eN.out.aI.trans (D.h.mono eN.out.aI.size))
     have hne:=LW.any X1
     go_wp2_with fail
     rcases Int.lt_or_le zw h2 with hB|hB
     ·have mK:decide (zw<h2)=true:=by simp only[decide_eq_true_eq];exact hB
      have jk:Hid (¬eE (Lo.low c.es c.s) (g tl) (g tr) l):=S9.out hB
      refine aC (by kernel_rfl) (by kernel_rfl) ?_
      repeat (go_big_quiet_step (fail))
      refine wpQuiet_nil ?_
      rintro _ ⟨D3,rfl⟩
      try rw[mK]
      clear mK
      clear hB
      have dM:Hid (Below W.heap.size W D3.val):=eN.out.aI.trans (D3.h.mono eN.out.aI.size)
      clear y0 y1 y2 y3 hne
      go_wp2_with fail
      go_ret
      exact⟨false,rfl,⟨(fun q=>by cases q),fun q=>absurd q jk.out⟩,dM.out⟩
     ·have mK:decide (zw<h2)=false:=by simp only[decide_eq_false_iff_not];omega
      refine aC (by kernel_rfl) (by kernel_rfl) ?_
      repeat (go_big_quiet_step (fail))
      refine wpQuiet_nil ?_
      rintro _ ⟨D3,rfl⟩
      try rw[mK]
      clear mK
      have l9:=Nu.hid hB
      clear hB
      obtain⟨X2,jF⟩:∃X2,X2=D3.val:=⟨_,rfl⟩
      have hb2:Below X1.heap.size X1 X2:=by rw[jF];exact D3.h
      rw[←jF]
      clear y0 y1 y2 y3 hne jF D3
      have HT:=Nu.hid (eN.out.later hb2)
      have kb:X2.drew.cell? ⟨W.heap.size+1,0,none⟩=some (.int .i64 h2):=HT.out.b2.cell
      have kf:X2.drew.frozen? ⟨W.heap.size+1,0,none⟩=false:=HT.out.b2.frozen
      have kl:X2.drew.cell? ⟨LB,e,none⟩=some (.int .i64 zl):=HT.out.il.cell K8.out
      have kr:X2.drew.cell? ⟨RB,e,none⟩=some (.int .i64 zr):=HT.out.ir.cell K7.out
      clear hb2
      go_wp2_with fail
      refine wp_region_any (by kernel_rfl) ?_
      refine aj.oI (fun ix=>match ix with|0=> .pointer (some ⟨W.heap.size+1,0,none⟩)|1=> .slice (some ⟨LB,0,none⟩) c.es.length c.es.length|2=> .int .i64 (e:Int)|3=> .pointer (some ⟨LB,e,none⟩)|4=> .int .i64 zl|5=> .slice (some ⟨RB,0,none⟩) c.es.length c.es.length|6=> .int .i64 (e:Int)|7=> .pointer (some ⟨RB,e,none⟩)|8=> .int .i64 zr|9=> .int .i64 (max zl zr)|10=> .pointer (some ⟨W.heap.size+1,0,none⟩)|_=>undef) (AnyM.bG X2.drew [(11,X2.drew.setCell ⟨W.heap.size+1,0,none⟩ (.int .i64 (max zl zr)))]) 91 rfl (by kernel_rfl) rfl ?_ ?_
      ·intro ix o' Ls V ev ho bO hC bU hdc aA aR kW iQ
       have hc:ix=0∨ix=1∨ix=2∨ix=3∨ix=4∨ix=5∨ix=6∨ix=7∨ix=8∨ix=9∨ix=10∨ix=11:=by
        have:ix<12:=(Array.getElem?_eq_some_iff.1 ho).1
        omega
       have hst:Ls 11=false:=by
        cases h:Ls 11 with
        |false=>rfl
        |true=>
         exfalso
         have hq:Ls ix=true:=by
          rcases hc with rfl|rfl|rfl|rfl|rfl|rfl|rfl|rfl|rfl|rfl|rfl|rfl
          ·exact hdc 11 _ rfl h ⟨0,.phase⟩ (by simp) rfl
          ·exact hdc 11 _ rfl h ⟨1,.phase⟩ (by simp) rfl
          ·exact hdc 11 _ rfl h ⟨2,.phase⟩ (by simp) rfl
          ·exact hdc 11 _ rfl h ⟨3,.phase⟩ (by simp) rfl
          ·exact hdc 11 _ rfl h ⟨4,.phase⟩ (by simp) rfl
          ·exact hdc 11 _ rfl h ⟨5,.phase⟩ (by simp) rfl
          ·exact hdc 11 _ rfl h ⟨6,.phase⟩ (by simp) rfl
          ·exact hdc 11 _ rfl h ⟨7,.phase⟩ (by simp) rfl
          ·exact hdc 11 _ rfl h ⟨8,.phase⟩ (by simp) rfl
          ·exact hdc 11 _ rfl h ⟨9,.data⟩ (by simp) rfl
          ·exact hdc 11 _ rfl h ⟨10,.data⟩ (by simp) rfl
          ·exact h
         rw[bO] at hq
         cases hq
       have hV:V=X2.drew:=by
        simp only[AnyM.bG,hst,Bool.false_eq_true,if_false] at hC
        exact hC
       subst hV
       rcases hc with rfl|rfl|rfl|rfl|rfl|rfl|rfl|rfl|rfl|rfl|rfl|rfl<;>obtain rfl:=Option.some.inj ho
       ·have e1:ev (.tmp 15)= .pointer (some ⟨W.heap.size+1,0,none⟩):=aR 15 (by kernel_rfl)
        exact aj.ah (v:= .pointer (some ⟨W.heap.size+1,0,none⟩)) (w':=_) (by simp[execOp,go_sem,e1]) ⟨rfl,AnyM.other rfl hC⟩
       ·have e1:ev (.tmp 2)= .slice (some ⟨LB,0,none⟩) c.es.length c.es.length:=aR 2 (by kernel_rfl)
        exact aj.ah (v:= .slice (some ⟨LB,0,none⟩) c.es.length c.es.length) (w':=_) (by simp[execOp,go_sem,e1]) ⟨rfl,AnyM.other rfl hC⟩
       ·have e1:ev (.tmp 14)= .int .i64 (e:Int):=aR 14 (by kernel_rfl)
        exact aj.ah (v:= .int .i64 (e:Int)) (w':=_) (by simp[execOp,go_sem,e1]) ⟨rfl,AnyM.other rfl hC⟩
       ·have e1:ev (.tmp 80)= .slice (some ⟨LB,0,none⟩) c.es.length c.es.length:=aA 1 80 (by omega) rfl (by decide)
        have e2:ev (.tmp 81)= .int .i64 (e:Int):=aA 2 81 (by omega) rfl (by decide)
        exact aj.ah (v:= .pointer (some ⟨LB,e,none⟩)) (w':=_) (by simp[execOp,go_sem,e1,e2,CS,CR]) ⟨rfl,AnyM.other rfl hC⟩
       ·have e1:ev (.tmp 82)= .pointer (some ⟨LB,e,none⟩):=aA 3 82 (by omega) rfl (by decide)
        exact aj.ah (v:= .int .i64 zl) (w':=_) (by simp[execOp,go_sem,e1,kl]) ⟨rfl,AnyM.other rfl hC⟩
       ·have e1:ev (.tmp 3)= .slice (some ⟨RB,0,none⟩) c.es.length c.es.length:=aR 3 (by kernel_rfl)
        exact aj.ah (v:= .slice (some ⟨RB,0,none⟩) c.es.length c.es.length) (w':=_) (by simp[execOp,go_sem,e1]) ⟨rfl,AnyM.other rfl hC⟩
       ·have e1:ev (.tmp 14)= .int .i64 (e:Int):=aR 14 (by kernel_rfl)
        exact aj.ah (v:= .int .i64 (e:Int)) (w':=_) (by simp[execOp,go_sem,e1]) ⟨rfl,AnyM.other rfl hC⟩
       ·have e1:ev (.tmp 84)= .slice (some ⟨RB,0,none⟩) c.es.length c.es.length:=aA 5 84 (by omega) rfl (by decide)
        have e2:ev (.tmp 85)= .int .i64 (e:Int):=aA 6 85 (by omega) rfl (by decide)
        exact aj.ah (v:= .pointer (some ⟨RB,e,none⟩)) (w':=_) (by simp[execOp,go_sem,e1,e2,CS,CR]) ⟨rfl,AnyM.other rfl hC⟩
       ·have e1:ev (.tmp 86)= .pointer (some ⟨RB,e,none⟩):=aA 7 86 (by omega) rfl (by decide)
        exact aj.ah (v:= .int .i64 zr) (w':=_) (by simp[execOp,go_sem,e1,kr]) ⟨rfl,AnyM.other rfl hC⟩
       ·have e1:ev (.tmp 83)= .int .i64 zl:=aA 4 83 (by omega) rfl (by decide)
        have e2:ev (.tmp 87)= .int .i64 zr:=aA 8 87 (by omega) rfl (by decide)
        exact aj.ah (v:= .int .i64 (max zl zr)) (w':=_) (by simp[execOp,go_sem,e1,e2];split<;>omega) ⟨rfl,AnyM.other rfl hC⟩
       ·have e1:ev (.tmp 79)= .pointer (some ⟨W.heap.size+1,0,none⟩):=aA 0 79 (by omega) rfl (by decide)
        exact aj.ah (v:= .pointer (some ⟨W.heap.size+1,0,none⟩)) (w':=_) (by simp[execOp,go_sem,e1]) ⟨rfl,AnyM.other rfl hC⟩
       ·have e1:ev (.tmp 89)= .pointer (some ⟨W.heap.size+1,0,none⟩):=aA 10 89 (by omega) rfl (by decide)
        have e2:ev (.tmp 88)= .int .i64 (max zl zr):=aA 9 88 (by omega) rfl (by decide)
        refine aj.bF (w':=X2.drew.setCell ⟨W.heap.size+1,0,none⟩ (.int .i64 (max zl zr))) (by simp[execOp,go_sem,e1,e2,kb,kf]) ⟨rfl,?_⟩
        simp[AnyM.bG,aj.bQ]
      ·intro Ls V hall hC
       unfold AnyM.bG at hC
       rw[if_pos (hall 11 (by decide))] at hC
       subst hC
       have fB:Hid (ApAt c LB RB tl tr W (X2.drew.setCell ⟨W.heap.size+1,0,none⟩ (.int .i64 (max zl zr))) h1 (max zl zr)):=HT.out.VV _
       clear kb kf kl kr hall
       simp only[aj.canon,aj.dst,Array.size,List.length_cons,List.length_nil]
       simp[Act.put]
       go_wp2_with fail
       go_roundw
       case rel=>
        refine⟨i+1,h1,max zl zr,by simp,by omega,fB.out,?_,?_,?_⟩
        ·rw[CY.out,SD.out]
        ·exact IV.out
        ·rw[CY.out]
         exact⟨by rw[Lq.out,Vo.out];exact l9.out,MJ.out⟩
       case measure=>
        simp[intOf]
        omega
  ·obtain rfl:i=l.length:=by omega
   have rD:Hid (eE (Lo.low c.es c.s) (g tl) (g tr) l):=by
    rw[List.take_length] at Ki
    exact⟨NI,Ki⟩
   have HB:=Nu.hid hap.aI
   clear hap hst NI Ki
   go_wp2_with fail
   go_ret
   exact⟨true,rfl,⟨fun _=>rD.out,fun _=>rfl⟩,HB.out⟩
end
end
end Go.Proofs.YtnhcggfbkoppnaaGreat
