import Derived.Test.YtdjmnpmdmjclhabGreatMg26
import Derived.Test.YtdjmnpmdmjclhabGreatMg05
namespace Go.Proofs.YtdjmnpmdmjclhabGreat
section
open Go.RowKit Lt
structure ApAt (c:Wp) (LB RB:Nat) (tl tr:List Int) (W V:World) (h1 h2:Int):Prop where
 aI:Below W.heap.size W V
 il:aq V LB tl
 ir:aq V RB tr
 lt:LB<W.heap.size∧RB<W.heap.size
 b1:Boxed V W.heap.size 3 (.int .i64 h1)
 b2:Boxed V (W.heap.size+1) 3 (.int .i64 h2)
section
variable {c:Wp} {LB RB:Nat} {tl tr:List Int} {W V X:World} {h1 h2:Int}
theorem ApAt.later (h:ApAt c LB RB tl tr W V h1 h2) (hb:Below V.heap.size V X):ApAt c LB RB tl tr W X h1 h2:=⟨h.aI.trans (hb.mono h.aI.size),h.il.later hb,h.ir.later hb,h.lt,(hb.block _ h.b1.lt).trans h.b1,(hb.block _ h.b2.lt).trans h.b2⟩
theorem BW {w:World} {b:Nat} {t:TypeId} {x y:Value} (h:Boxed w b t x):Boxed (w.setCell ⟨b,0,none⟩ y) b t y:=by
 have:=heap_setCell_same w b 0 _ _ y h
 show(w.setCell ⟨b,0,none⟩ y).heap[b]? =some (.cells #[y] t (0,0))
 simpa using this
theorem ApAt.Xi (h:ApAt c LB RB tl tr W X h1 h2) (z:Int):ApAt c LB RB tl tr W (X.drew.setCell ⟨W.heap.size,0,none⟩ (.int .i64 z)) z h2:=by
 obtain⟨l1,l2⟩:=h.lt
 have h':ApAt c LB RB tl tr W X.drew h1 h2:=h.later ((aae _ _).drew)
 exact⟨h'.aI.setCell (p:=⟨W.heap.size,0,none⟩) (aad _) _,h'.il.aK (by omega) _,h'.ir.aK (by omega) _,h.lt,BW h'.b1,(heap_setCell_other X.drew ⟨W.heap.size,0,none⟩ _ _ (by show W.heap.size+1≠W.heap.size;omega)).trans h'.b2⟩
theorem ApAt.Xh (h:ApAt c LB RB tl tr W X h1 h2) (z:Int):ApAt c LB RB tl tr W (X.drew.setCell ⟨W.heap.size+1,0,none⟩ (.int .i64 z)) h1 z:=by
 obtain⟨l1,l2⟩:=h.lt
 have h':ApAt c LB RB tl tr W X.drew h1 h2:=h.later ((aae _ _).drew)
 exact⟨h'.aI.setCell (p:=⟨W.heap.size+1,0,none⟩) (by show W.heap.size≤W.heap.size+1;omega) _,h'.il.aK (by omega) _,h'.ir.aK (by omega) _,h.lt,(heap_setCell_other X.drew ⟨W.heap.size+1,0,none⟩ _ _ (by show W.heap.size≠W.heap.size+1;omega)).trans h'.b1,BW h'.b2⟩
end
section
variable {c:Wp} {p j:Nat} {pa:Option Addr} {pc:Nat} {ps:List Int} {W:World}
theorem N0 {v L R:Nat→Int}:∀{l:List Nat} {i:Nat},wR v L R l.reverse→wR v L R (l.take i).reverse:=by
 intro l i h
 have e:l.reverse=(l.drop i).reverse++(l.take i).reverse:=by rw[←List.reverse_append,acR]
 rw[e] at h
 revert h
 generalize (l.drop i).reverse=a
 induction a with
 |nil=>exact id
 |cons x a ih=>exact fun h=>ih h.2
set_option maxRecDepth 100000 in
set_option maxHeartbeats 16000000 in
theorem FT (h:mY c p j pa pc ps W) {LB RB:Nat} {tl tr:List Int} (hl:aq W LB tl) (hr:aq W RB tr) (ll:tl.length=c.es.length) (lr:tr.length=c.es.length) {v:Nat} (hv:v<c.n):
 Calls Tryz.prog 44 #[.pointer (some ⟨j,0,none⟩),.int .i64 (v:Int),.slice (some ⟨LB,0,none⟩) c.es.length c.es.length,.slice (some ⟨RB,0,none⟩) c.es.length c.es.length] W fun e w'=>∃b,e= .returned (.bool b)∧(b=true↔eE (Lo.low c.es c.s) (g tl) (g tr) (c.oe v))∧Below W.heap.size W w':=by
 have cj:=h.wk.val.few
 obtain⟨tH,hrw⟩:∃l,(Lo.bS c.n c.es c.s c.es.length)[v]? =some l:=⟨_,aac (by rw[Lo.dw];exact hv)⟩
 obtain⟨go,co,ao,ca,I8,hout⟩:=h.wk.outs hrw
 obtain⟨l,eK⟩:∃l,l=c.oe v:=⟨_,rfl⟩
 have xk:∀e∈l,e<c.es.length:=fun e he=>((Wp.AA h.wk.val h.wk.vf).1 (by rw[←eK];exact he)).1
 have hmap:tH=l.map fun e=>((Lo.oh c.s e:Nat):Int):=by
  rw[←Wp.AB h.wk.val h.wk.vf hrw,←eK]
  refine abT fun e he=>(Lo.cO h.wk.vf (xk e he)).1
 have hlen:tH.length=l.length:=by rw[hmap];simp
 have j8:Hid (oO c ao l W):=fun V hV k hk=>by
  have:=(hout V hV).2 k ((Lo.oh c.s l[k]:Nat):Int) (by rw[hmap,aay,aac hk];rfl)
  exact this
 rw[hlen] at hout
 have hnd:l.Nodup:=by
  rw[eK]
  exact(Wp.rZ h.wk.val h.wk.vf v).imp fun q=>q.2
 have hlk:l.length≤c.es.length:=fG hnd xk
 rw[←eK]
 have x0:=h.cells.1
 have x9:=h.wk.c9
 rw[I8] at x9
 have x10:=(hout W (aae _ _)).1
 have v0:(0:Int)≤(v:Int):=by omega
 have v1:(v:Int)<(c.n:Int):=by omega
 obtain⟨W1,hW1⟩:∃W1,W1=(W.alloc (.cells #[.int .i64 (-1)] 3)).alloc (.cells #[.int .i64 (-1)] 3):=⟨_,rfl⟩
 have Xc:Hid (ApAt c LB RB tl tr W W1 (-1) (-1)):=by
  have hb:Below W.heap.size W W1:=by rw[hW1];exact((aae _ _).alloc (aad _) _).alloc (by simp) _
  refine⟨hb,hl.later hb,hr.later hb,⟨hl.lt,hr.lt⟩,?_,?_⟩
  ·rw[hW1]
   show _=_
   rw[aap _ _ _ (by simp)]
   exact heap_alloc_new W _
  ·rw[hW1]
   have:=heap_alloc_new (W.alloc (.cells #[.int .i64 (-1)] 3)) (.cells #[.int .i64 (-1)] 3)
   rw[show(W.alloc (.cells #[.int .i64 (-1)] 3)).heap.size=W.heap.size+1 by simp] at this
   exact this
 have jE:=Nu.hid hW1
 have HJ:=Nu.hid h
 have HLM:=Nu.hid xk
 have zH:=Nu.hid ll
 have Ua:=Nu.hid lr
 clear h hl hr ll lr hrw I8 hout eK xk hmap hlen hnd hW1
 go_enter Tryz.func44,Tryz.ntmps44
 go_wp2_with fail
 rw[←jE.out]
 go_loopw [29] (fun iv wr=>∃(i:Nat) (h1 h2:Int),iv= .int .i64 (i:Int)∧i≤l.length∧ApAt c LB RB tl tr W wr h1 h2∧ES (g tl) (g tr) (l.take i).reverse=(h1,h2)∧(∀k,k<i→Az (Lo.low c.es c.s) (g tl) (g tr) l k)∧wR (Lo.low c.es c.s) (g tl) (g tr) (l.take i).reverse) (fun iv _=>l.length-(intOf iv).toNat)
 case atStart=>exact⟨0,-1,-1,rfl,aax _,Xc.out,rfl,fun k hk=>absurd hk (by omega),trivial⟩
 case round=>
  obtain⟨i,h1,h2,rfl,hil,hap,hst,Om,KS⟩:=hrel
  by_cases hlt:i<l.length
  ·have hJ:=HJ.out.later hap.aI
   obtain⟨e,he⟩:∃e,l[i]=e:=⟨_,rfl⟩
   have hem:e<c.es.length:=by rw[←he];exact HLM.out _ (aaX hlt)
   obtain⟨o1,-,o3,o4⟩:=Lo.cO hJ.wk.vf hem
   obtain⟨b,eb,hcb⟩:=j8.out wr hap.aI i hlt
   rw[he] at hcb
   obtain⟨q,hq⟩:∃q,Lo.oh c.s e=q:=⟨_,rfl⟩
   rw[hq] at o4 hcb
   have Vh:=(eC o4).1
   obtain⟨lb,lc,xD,dH⟩:=HJ.out.wk.DX hem
   obtain⟨zl,hzl⟩:∃z,tl[e]? =some z:=⟨_,aac (by rw[zH.out];exact hem)⟩
   obtain⟨zr,Hz⟩:∃z,tr[e]? =some z:=⟨_,aac (by rw[Ua.out];exact hem)⟩
   have mS:g tl e=zl:=by unfold g;rw[hzl];rfl
   have hgr:g tr e=zr:=by unfold g;rw[Hz];rfl
   obtain⟨zw,CV⟩:∃z,Lo.low c.es c.s e=z:=⟨_,rfl⟩
   have Pz:Hid (∀V,Below W.heap.size W V→V.cell? ⟨p,6,none⟩=some (.slice (some ⟨lb,0,none⟩) c.es.length lc)):=fun V hV=>by
    rw[←xD]
    exact(HJ.out.later hV).wk.c6
   have Dv:Hid (∀V,Below W.heap.size W V→V.cell? ⟨lb,e,none⟩=some (.int .i64 zw)):=fun V hV=>by
    rw[←CV]
    exact dH V hV e hem
   have kB:(l.take (i+1)).reverse=e::(l.take i).reverse:=by
    rw[abL,aac hlt,he]
    simp
   have Dr:=Nu.hid kB
   have Ws:=Nu.hid CV
   have Nl:Hid (∀v',¬cur (g tl) (g tr) (l.take i).reverse (sg (g tl) (g tr) e)≤v'→v'=zw→¬eE (Lo.low c.es c.s) (g tl) (g tr) l):=fun v' hno hv' hap=>by
    have:=N0 (i:=i+1) hap.2
    rw[kB] at this
    exact hno (by rw[hv',←CV];exact this.1)
   have YX:Hid (zr<zl→ES (g tl) (g tr) (e::(l.take i).reverse)=(max zl zr,h2)):=fun hx=>by
    show(if _ then _ else _)=_
    rw[mS,hgr,if_pos hx,hst]
   have Ez:Hid (zl≤zr→ES (g tl) (g tr) (e::(l.take i).reverse)=(h1,max zl zr)):=fun hx=>by
    show(if _ then _ else _)=_
    rw[mS,hgr,if_neg (by omega),hst]
   have Uu:Hid (zr<zl→cur (g tl) (g tr) (l.take i).reverse (sg (g tl) (g tr) e)=h1):=fun hx=>by
    unfold cur sg
    rw[mS,hgr,hst]
    simp[hx]
   have Ut:Hid (zl≤zr→cur (g tl) (g tr) (l.take i).reverse (sg (g tl) (g tr) e)=h2):=fun hx=>by
    unfold cur sg
    rw[mS,hgr,hst]
    have hx':¬zr<zl:=by omega
    simp[hx']
   have Y5:Hid (zr<zl→zw<h1→¬eE (Lo.low c.es c.s) (g tl) (g tr) l):=fun hx hn=>Nl.out zw (by rw[Uu.out hx];omega) rfl
   have Y4:Hid (zl≤zr→zw<h2→¬eE (Lo.low c.es c.s) (g tl) (g tr) l):=fun hx hn=>Nl.out zw (by rw[Ut.out hx];omega) rfl
   have Nk:Hid (wR (Lo.low c.es c.s) (g tl) (g tr) (l.take i).reverse):=KS
   have LS:=Nu.hid hzl
   have LQ:=Nu.hid Hz
   have vR:=Nu.hid hap
   have HAi:Hid (Az (Lo.low c.es c.s) (g tl) (g tr) l i↔(1<l.length→min zl zr≤gj (Lo.low c.es c.s) l i)):=by
    show _↔_
    unfold Az
    rw[aac hlt,aa8,he,mS,hgr]
   have Dl:(0:Int)≤(e:Int):=by omega
   have Dk:(e:Int)<(c.es.length:Int):=by omega
   have i0:(0:Int)≤(i:Int):=by omega
   have i1:(i:Int)<(l.length:Int):=by omega
   have i2:(i:Int)+1≤4194304:=by omega
   have QB:IntKind.i64.wrap (e:Int)=(e:Int):=by rw[aa1];omega
   have q0:∀D:LW wr,D.val.cell? ⟨LB,e,none⟩=some (.int .i64 zl):=fun D=>(vR.out.later D.h).il.cell LS.out
   have q1:∀D:LW wr,D.val.cell? ⟨RB,e,none⟩=some (.int .i64 zr):=fun D=>(vR.out.later D.h).ir.cell LQ.out
   have vk:=LW.any wr
   have HOA:=Nu.hid Om
   by_cases h2l:1<l.length
   ·have Jy:Hid (∀D:LW wr,Calls Tryz.prog 71 #[.pointer (some ⟨j,0,none⟩),.slice (some ⟨b,0,none⟩) l.length ca,.int .i64 (i:Int)] D.val fun e w'=>e= .returned (.int .i64 (gj (Lo.low c.es c.s) l i))∧Below D.val.heap.size D.val w'):=fun D=>by
     have xw:=hap.aI.trans (D.h.mono hap.aI.size)
     have:=Ht (ca:=ca) (HJ.out.later xw) HLM.out (j8.out.later xw) h2l i
     rw[eb] at this
     exact this
    obtain⟨zo,Oh⟩:∃z,gj (Lo.low c.es c.s) l i=z:=⟨_,rfl⟩
    rw[Oh] at Jy HAi
    have l2:(1:Int)<(l.length:Int):=by omega
    have q2:=trivial
    have q3:=trivial
    have q4:=trivial
    rw[eb]
    by_cases hok:min zl zr≤zo
    ·have Jt:Hid (∀k,k<i+1→Az (Lo.low c.es c.s) (g tl) (g tr) l k):=fun k hk=>by
      by_cases hki:k=i
      ·rw[hki];exact HAi.out.2 fun _=>hok
      ·exact HOA.out k (by omega)
     have Ih:decide (zo<if zr<zl then zr else zl)=false:=by simp only[decide_eq_false_iff_not];split<;>omega
     clear hJ hap hst Om KS he o1 o3 o4 eb hq xD dH hzl Hz mS hgr CV kB Oh
     go_wp2_with fail
     refine aB (by kernel_rfl) (by kernel_rfl) ?_
     repeat (go_big_quiet_step ((first|(go_at_call 71;exact Calls.lw (Jy.out _)))))
     refine wpQuiet_nil ?_
     rintro _ ⟨D1,rfl⟩
     try rw[Ih]
     try generalize (if zr<zl then zr else zl)=zmn
     clear Ih hok
     obtain⟨X0,kD⟩:∃X0,X0=D1.val:=⟨_,rfl⟩
     have hb0:Below wr.heap.size wr X0:=by rw[kD];exact D1.h
     rw[←kD]
     clear q0 q1 q2 q3 q4 vk kD D1
     have Cm:=Nu.hid (vR.out.later hb0)
     have q5:∀D:LW X0,D.val.cell? ⟨LB,e,none⟩=some (.int .i64 zl):=fun D=>(Cm.out.later D.h).il.cell LS.out
     have q6:∀D:LW X0,D.val.cell? ⟨RB,e,none⟩=some (.int .i64 zr):=fun D=>(Cm.out.later D.h).ir.cell LQ.out
     have vk:=LW.any X0
     clear hb0
     rcases acV zr zl with hlr|hlr
     ·have qX:decide (zr<zl)=true:=by simp only[decide_eq_true_eq];exact hlr
      have Ty:=Nu.hid (YX.out hlr)
      have Me:=Nu.hid (Uu.out hlr)
      have T7:=Nu.hid (Y5.out hlr)
      go_wp2_with fail
      refine aB (by kernel_rfl) (by kernel_rfl) ?_
      repeat (go_big_quiet_step (fail))
      refine wpQuiet_nil ?_
      rintro _ ⟨D2,rfl⟩
      try rw[qX]
      clear qX hlr
      obtain⟨X1,iE⟩:∃X1,X1=D2.val:=⟨_,rfl⟩
      have hb1:Below X0.heap.size X0 X1:=by rw[iE];exact D2.h
      rw[←iE]
      clear q5 q6 vk iE D2
      have eN:=Nu.hid (Cm.out.later hb1)
      clear hb1
      have y0:∀D:LW X1,D.val.cell? ⟨W.heap.size,0,none⟩=some (.int .i64 h1):=fun D=>(eN.out.later D.h).b1.cell
      have y1:∀D:LW X1,D.val.cell? ⟨j,0,none⟩=some (.pointer (some ⟨p,0,none⟩)):=fun D=>(HJ.out.later (eN.out.aI.trans (D.h.mono eN.out.aI.size))).cells.1
      have y2:∀D:LW X1,D.val.cell? ⟨p,6,none⟩=some (.slice (some ⟨lb,0,none⟩) c.es.length lc):=fun D=>Pz.out _ (eN.out.aI.trans (D.h.mono eN.out.aI.size))
      have y3:∀D:LW X1,D.val.cell? ⟨lb,e,none⟩=some (.int .i64 zw):=fun D=>Dv.out _ (eN.out.aI.trans (D.h.mono eN.out.aI.size))
      have hne:=LW.any X1
      go_wp2_with fail
      rcases acV zw h1 with hB|hB
      ·have mU:decide (zw<h1)=true:=by simp only[decide_eq_true_eq];exact hB
       have jt:Hid (¬eE (Lo.low c.es c.s) (g tl) (g tr) l):=T7.out hB
       refine aB (by kernel_rfl) (by kernel_rfl) ?_
       repeat (go_big_quiet_step (fail))
       refine wpQuiet_nil ?_
       rintro _ ⟨D3,rfl⟩
       try rw[mU]
       clear mU
       clear hB
       have dm:Hid (Below W.heap.size W D3.val):=eN.out.aI.trans (D3.h.mono eN.out.aI.size)
       clear y0 y1 y2 y3 hne
       go_wp2_with fail
       go_ret
       exact⟨false,rfl,⟨(fun q=>by cases q),fun q=>absurd q jt.out⟩,dm.out⟩
      ·have mU:decide (zw<h1)=false:=by simp only[decide_eq_false_iff_not];omega
       refine aB (by kernel_rfl) (by kernel_rfl) ?_
       repeat (go_big_quiet_step (fail))
       refine wpQuiet_nil ?_
       rintro _ ⟨D3,rfl⟩
       try rw[mU]
       clear mU
       have mq:=Nu.hid hB
       clear hB
       obtain⟨X2,jM⟩:∃X2,X2=D3.val:=⟨_,rfl⟩
       have hb2:Below X1.heap.size X1 X2:=by rw[jM];exact D3.h
       rw[←jM]
       clear y0 y1 y2 y3 hne jM D3
       have HT:=Nu.hid (eN.out.later hb2)
       have kb:X2.drew.cell? ⟨W.heap.size,0,none⟩=some (.int .i64 h1):=HT.out.b1.cell
       have kf:X2.drew.frozen? ⟨W.heap.size,0,none⟩=false:=HT.out.b1.frozen
       have kl:X2.drew.cell? ⟨LB,e,none⟩=some (.int .i64 zl):=HT.out.il.cell LS.out
       have kr:X2.drew.cell? ⟨RB,e,none⟩=some (.int .i64 zr):=HT.out.ir.cell LQ.out
       clear hb2
       go_wp2_with fail
       refine wp_region_any (by kernel_rfl) ?_
       refine aj.oK (fun ix=>match ix with|0=> .pointer (some ⟨W.heap.size,0,none⟩)|1=> .slice (some ⟨LB,0,none⟩) c.es.length c.es.length|2=> .int .i64 (e:Int)|3=> .pointer (some ⟨LB,e,none⟩)|4=> .int .i64 zl|5=> .slice (some ⟨RB,0,none⟩) c.es.length c.es.length|6=> .int .i64 (e:Int)|7=> .pointer (some ⟨RB,e,none⟩)|8=> .int .i64 zr|9=> .int .i64 (max zl zr)|10=> .pointer (some ⟨W.heap.size,0,none⟩)|_=>undef) (AnyM.bG X2.drew [(11,X2.drew.setCell ⟨W.heap.size,0,none⟩ (.int .i64 (max zl zr)))]) 91 rfl (by kernel_rfl) rfl ?_ ?_
       ·intro ix o' Ls V ev ho bP hC bU hdc aA aS lG iW
        have hc:ix=0∨ix=1∨ix=2∨ix=3∨ix=4∨ix=5∨ix=6∨ix=7∨ix=8∨ix=9∨ix=10∨ix=11:=by
         have:ix<12:=(aam.1 ho).1
         omega
        have hst:Ls 11=false:=by
         cases h:Ls 11 with
         |false=>rfl
         |true=>
          exfalso
          have hq:Ls ix=true:=by
           rcases hc with rfl|rfl|rfl|rfl|rfl|rfl|rfl|rfl|rfl|rfl|rfl|rfl
           ·exact hdc 11 _ rfl h ⟨0,.phase⟩ (by simp) rfl
           ·exact hdc 11 _ rfl h ⟨1,.phase⟩ (by simp) rfl
           ·exact hdc 11 _ rfl h ⟨2,.phase⟩ (by simp) rfl
           ·exact hdc 11 _ rfl h ⟨3,.phase⟩ (by simp) rfl
           ·exact hdc 11 _ rfl h ⟨4,.phase⟩ (by simp) rfl
           ·exact hdc 11 _ rfl h ⟨5,.phase⟩ (by simp) rfl
           ·exact hdc 11 _ rfl h ⟨6,.phase⟩ (by simp) rfl
           ·exact hdc 11 _ rfl h ⟨7,.phase⟩ (by simp) rfl
           ·exact hdc 11 _ rfl h ⟨8,.phase⟩ (by simp) rfl
           ·exact hdc 11 _ rfl h ⟨9,.data⟩ (by simp) rfl
           ·exact hdc 11 _ rfl h ⟨10,.data⟩ (by simp) rfl
           ·exact h
          rw[bP] at hq
          cases hq
        have hV:V=X2.drew:=by
         simp only[AnyM.bG,hst,aau,if_false] at hC
         exact hC
        subst hV
        rcases hc with rfl|rfl|rfl|rfl|rfl|rfl|rfl|rfl|rfl|rfl|rfl|rfl<;>obtain rfl:=aak ho
        ·have e1:ev (.tmp 15)= .pointer (some ⟨W.heap.size,0,none⟩):=aS 15 (by kernel_rfl)
         exact aj.ah (v:= .pointer (some ⟨W.heap.size,0,none⟩)) (w':=_) (by simp[execOp,go_sem,e1]) ⟨rfl,AnyM.other rfl hC⟩
        ·have e1:ev (.tmp 2)= .slice (some ⟨LB,0,none⟩) c.es.length c.es.length:=aS 2 (by kernel_rfl)
         exact aj.ah (v:= .slice (some ⟨LB,0,none⟩) c.es.length c.es.length) (w':=_) (by simp[execOp,go_sem,e1]) ⟨rfl,AnyM.other rfl hC⟩
        ·have e1:ev (.tmp 14)= .int .i64 (e:Int):=aS 14 (by kernel_rfl)
         exact aj.ah (v:= .int .i64 (e:Int)) (w':=_) (by simp[execOp,go_sem,e1]) ⟨rfl,AnyM.other rfl hC⟩
        ·have e1:ev (.tmp 80)= .slice (some ⟨LB,0,none⟩) c.es.length c.es.length:=aA 1 80 (by omega) rfl (by decide)
         have e2:ev (.tmp 81)= .int .i64 (e:Int):=aA 2 81 (by omega) rfl (by decide)
         exact aj.ah (v:= .pointer (some ⟨LB,e,none⟩)) (w':=_) (by simp[execOp,go_sem,e1,e2,Dl,Dk]) ⟨rfl,AnyM.other rfl hC⟩
        ·have e1:ev (.tmp 82)= .pointer (some ⟨LB,e,none⟩):=aA 3 82 (by omega) rfl (by decide)
         exact aj.ah (v:= .int .i64 zl) (w':=_) (by simp[execOp,go_sem,e1,kl]) ⟨rfl,AnyM.other rfl hC⟩
        ·have e1:ev (.tmp 3)= .slice (some ⟨RB,0,none⟩) c.es.length c.es.length:=aS 3 (by kernel_rfl)
         exact aj.ah (v:= .slice (some ⟨RB,0,none⟩) c.es.length c.es.length) (w':=_) (by simp[execOp,go_sem,e1]) ⟨rfl,AnyM.other rfl hC⟩
        ·have e1:ev (.tmp 14)= .int .i64 (e:Int):=aS 14 (by kernel_rfl)
         exact aj.ah (v:= .int .i64 (e:Int)) (w':=_) (by simp[execOp,go_sem,e1]) ⟨rfl,AnyM.other rfl hC⟩
        ·have e1:ev (.tmp 84)= .slice (some ⟨RB,0,none⟩) c.es.length c.es.length:=aA 5 84 (by omega) rfl (by decide)
         have e2:ev (.tmp 85)= .int .i64 (e:Int):=aA 6 85 (by omega) rfl (by decide)
         exact aj.ah (v:= .pointer (some ⟨RB,e,none⟩)) (w':=_) (by simp[execOp,go_sem,e1,e2,Dl,Dk]) ⟨rfl,AnyM.other rfl hC⟩
        ·have e1:ev (.tmp 86)= .pointer (some ⟨RB,e,none⟩):=aA 7 86 (by omega) rfl (by decide)
         exact aj.ah (v:= .int .i64 zr) (w':=_) (by simp[execOp,go_sem,e1,kr]) ⟨rfl,AnyM.other rfl hC⟩
        ·have e1:ev (.tmp 83)= .int .i64 zl:=aA 4 83 (by omega) rfl (by decide)
         have e2:ev (.tmp 87)= .int .i64 zr:=aA 8 87 (by omega) rfl (by decide)
         exact aj.ah (v:= .int .i64 (max zl zr)) (w':=_) (by simp[execOp,go_sem,e1,e2];split<;>omega) ⟨rfl,AnyM.other rfl hC⟩
        ·have e1:ev (.tmp 79)= .pointer (some ⟨W.heap.size,0,none⟩):=aA 0 79 (by omega) rfl (by decide)
         exact aj.ah (v:= .pointer (some ⟨W.heap.size,0,none⟩)) (w':=_) (by simp[execOp,go_sem,e1]) ⟨rfl,AnyM.other rfl hC⟩
        ·have e1:ev (.tmp 89)= .pointer (some ⟨W.heap.size,0,none⟩):=aA 10 89 (by omega) rfl (by decide)
         have e2:ev (.tmp 88)= .int .i64 (max zl zr):=aA 9 88 (by omega) rfl (by decide)
         refine aj.bF (w':=X2.drew.setCell ⟨W.heap.size,0,none⟩ (.int .i64 (max zl zr))) (by simp[execOp,go_sem,e1,e2,kb,kf]) ⟨rfl,?_⟩
         simp[AnyM.bG,aj.bR]
       ·intro Ls V hall hC
        unfold AnyM.bG at hC
        rw[if_pos (hall 11 (by decide))] at hC
        subst hC
        have fB:Hid (ApAt c LB RB tl tr W (X2.drew.setCell ⟨W.heap.size,0,none⟩ (.int .i64 (max zl zr))) (max zl zr) h2):=HT.out.Xi _
        clear kb kf kl kr hall
        simp only[aj.canon,aj.dst,Array.size,aar,aaS]
        simp[Act.put]
        go_wp2_with fail
        go_roundw
        case rel=>
         refine⟨i+1,max zl zr,h2,by simp,by omega,fB.out,?_,?_,?_⟩
         ·rw[Dr.out,Ty.out]
         ·exact Jt.out
         ·rw[Dr.out]
          exact⟨by rw[Me.out,Ws.out];exact mq.out,Nk.out⟩
        case measure=>
         simp[intOf]
         omega
     ·have qX:decide (zr<zl)=false:=by simp only[decide_eq_false_iff_not];omega
      have Tx:=Nu.hid (Ez.out hlr)
      have Md:=Nu.hid (Ut.out hlr)
      have T6:=Nu.hid (Y4.out hlr)
      go_wp2_with fail
      refine aB (by kernel_rfl) (by kernel_rfl) ?_
      repeat (go_big_quiet_step (fail))
      refine wpQuiet_nil ?_
      rintro _ ⟨D2,rfl⟩
      try rw[qX]
      clear qX hlr
      obtain⟨X1,iE⟩:∃X1,X1=D2.val:=⟨_,rfl⟩
      have hb1:Below X0.heap.size X0 X1:=by rw[iE];exact D2.h
      rw[←iE]
      clear q5 q6 vk iE D2
      have eN:=Nu.hid (Cm.out.later hb1)
      clear hb1
      have y0:∀D:LW X1,D.val.cell? ⟨W.heap.size+1,0,none⟩=some (.int .i64 h2):=fun D=>(eN.out.later D.h).b2.cell
      have y1:∀D:LW X1,D.val.cell? ⟨j,0,none⟩=some (.pointer (some ⟨p,0,none⟩)):=fun D=>(HJ.out.later (eN.out.aI.trans (D.h.mono eN.out.aI.size))).cells.1
      have y2:∀D:LW X1,D.val.cell? ⟨p,6,none⟩=some (.slice (some ⟨lb,0,none⟩) c.es.length lc):=fun D=>Pz.out _ (eN.out.aI.trans (D.h.mono eN.out.aI.size))
      have y3:∀D:LW X1,D.val.cell? ⟨lb,e,none⟩=some (.int .i64 zw):=fun D=>Dv.out _ (eN.out.aI.trans (D.h.mono eN.out.aI.size))
      have hne:=LW.any X1
      go_wp2_with fail
      rcases acV zw h2 with hB|hB
      ·have mU:decide (zw<h2)=true:=by simp only[decide_eq_true_eq];exact hB
       have jt:Hid (¬eE (Lo.low c.es c.s) (g tl) (g tr) l):=T6.out hB
       refine aB (by kernel_rfl) (by kernel_rfl) ?_
       repeat (go_big_quiet_step (fail))
       refine wpQuiet_nil ?_
       rintro _ ⟨D3,rfl⟩
       try rw[mU]
       clear mU
       clear hB
       have dm:Hid (Below W.heap.size W D3.val):=eN.out.aI.trans (D3.h.mono eN.out.aI.size)
       clear y0 y1 y2 y3 hne
       go_wp2_with fail
       go_ret
       exact⟨false,rfl,⟨(fun q=>by cases q),fun q=>absurd q jt.out⟩,dm.out⟩
      ·have mU:decide (zw<h2)=false:=by simp only[decide_eq_false_iff_not];omega
       refine aB (by kernel_rfl) (by kernel_rfl) ?_
       repeat (go_big_quiet_step (fail))
       refine wpQuiet_nil ?_
       rintro _ ⟨D3,rfl⟩
       try rw[mU]
       clear mU
       have mq:=Nu.hid hB
       clear hB
       obtain⟨X2,jM⟩:∃X2,X2=D3.val:=⟨_,rfl⟩
       have hb2:Below X1.heap.size X1 X2:=by rw[jM];exact D3.h
       rw[←jM]
       clear y0 y1 y2 y3 hne jM D3
       have HT:=Nu.hid (eN.out.later hb2)
       have kb:X2.drew.cell? ⟨W.heap.size+1,0,none⟩=some (.int .i64 h2):=HT.out.b2.cell
       have kf:X2.drew.frozen? ⟨W.heap.size+1,0,none⟩=false:=HT.out.b2.frozen
       have kl:X2.drew.cell? ⟨LB,e,none⟩=some (.int .i64 zl):=HT.out.il.cell LS.out
       have kr:X2.drew.cell? ⟨RB,e,none⟩=some (.int .i64 zr):=HT.out.ir.cell LQ.out
       clear hb2
       go_wp2_with fail
       refine wp_region_any (by kernel_rfl) ?_
       refine aj.oK (fun ix=>match ix with|0=> .pointer (some ⟨W.heap.size+1,0,none⟩)|1=> .slice (some ⟨LB,0,none⟩) c.es.length c.es.length|2=> .int .i64 (e:Int)|3=> .pointer (some ⟨LB,e,none⟩)|4=> .int .i64 zl|5=> .slice (some ⟨RB,0,none⟩) c.es.length c.es.length|6=> .int .i64 (e:Int)|7=> .pointer (some ⟨RB,e,none⟩)|8=> .int .i64 zr|9=> .int .i64 (max zl zr)|10=> .pointer (some ⟨W.heap.size+1,0,none⟩)|_=>undef) (AnyM.bG X2.drew [(11,X2.drew.setCell ⟨W.heap.size+1,0,none⟩ (.int .i64 (max zl zr)))]) 91 rfl (by kernel_rfl) rfl ?_ ?_
       ·intro ix o' Ls V ev ho bP hC bU hdc aA aS lG iW
        have hc:ix=0∨ix=1∨ix=2∨ix=3∨ix=4∨ix=5∨ix=6∨ix=7∨ix=8∨ix=9∨ix=10∨ix=11:=by
         have:ix<12:=(aam.1 ho).1
         omega
        have hst:Ls 11=false:=by
         cases h:Ls 11 with
         |false=>rfl
         |true=>
          exfalso
          have hq:Ls ix=true:=by
           rcases hc with rfl|rfl|rfl|rfl|rfl|rfl|rfl|rfl|rfl|rfl|rfl|rfl
           ·exact hdc 11 _ rfl h ⟨0,.phase⟩ (by simp) rfl
           ·exact hdc 11 _ rfl h ⟨1,.phase⟩ (by simp) rfl
           ·exact hdc 11 _ rfl h ⟨2,.phase⟩ (by simp) rfl
           ·exact hdc 11 _ rfl h ⟨3,.phase⟩ (by simp) rfl
           ·exact hdc 11 _ rfl h ⟨4,.phase⟩ (by simp) rfl
           ·exact hdc 11 _ rfl h ⟨5,.phase⟩ (by simp) rfl
           ·exact hdc 11 _ rfl h ⟨6,.phase⟩ (by simp) rfl
           ·exact hdc 11 _ rfl h ⟨7,.phase⟩ (by simp) rfl
           ·exact hdc 11 _ rfl h ⟨8,.phase⟩ (by simp) rfl
           ·exact hdc 11 _ rfl h ⟨9,.data⟩ (by simp) rfl
           ·exact hdc 11 _ rfl h ⟨10,.data⟩ (by simp) rfl
           ·exact h
          rw[bP] at hq
          cases hq
        have hV:V=X2.drew:=by
         simp only[AnyM.bG,hst,aau,if_false] at hC
         exact hC
        subst hV
        rcases hc with rfl|rfl|rfl|rfl|rfl|rfl|rfl|rfl|rfl|rfl|rfl|rfl<;>obtain rfl:=aak ho
        ·have e1:ev (.tmp 15)= .pointer (some ⟨W.heap.size+1,0,none⟩):=aS 15 (by kernel_rfl)
         exact aj.ah (v:= .pointer (some ⟨W.heap.size+1,0,none⟩)) (w':=_) (by simp[execOp,go_sem,e1]) ⟨rfl,AnyM.other rfl hC⟩
        ·have e1:ev (.tmp 2)= .slice (some ⟨LB,0,none⟩) c.es.length c.es.length:=aS 2 (by kernel_rfl)
         exact aj.ah (v:= .slice (some ⟨LB,0,none⟩) c.es.length c.es.length) (w':=_) (by simp[execOp,go_sem,e1]) ⟨rfl,AnyM.other rfl hC⟩
        ·have e1:ev (.tmp 14)= .int .i64 (e:Int):=aS 14 (by kernel_rfl)
         exact aj.ah (v:= .int .i64 (e:Int)) (w':=_) (by simp[execOp,go_sem,e1]) ⟨rfl,AnyM.other rfl hC⟩
        ·have e1:ev (.tmp 80)= .slice (some ⟨LB,0,none⟩) c.es.length c.es.length:=aA 1 80 (by omega) rfl (by decide)
         have e2:ev (.tmp 81)= .int .i64 (e:Int):=aA 2 81 (by omega) rfl (by decide)
         exact aj.ah (v:= .pointer (some ⟨LB,e,none⟩)) (w':=_) (by simp[execOp,go_sem,e1,e2,Dl,Dk]) ⟨rfl,AnyM.other rfl hC⟩
        ·have e1:ev (.tmp 82)= .pointer (some ⟨LB,e,none⟩):=aA 3 82 (by omega) rfl (by decide)
         exact aj.ah (v:= .int .i64 zl) (w':=_) (by simp[execOp,go_sem,e1,kl]) ⟨rfl,AnyM.other rfl hC⟩
        ·have e1:ev (.tmp 3)= .slice (some ⟨RB,0,none⟩) c.es.length c.es.length:=aS 3 (by kernel_rfl)
         exact aj.ah (v:= .slice (some ⟨RB,0,none⟩) c.es.length c.es.length) (w':=_) (by simp[execOp,go_sem,e1]) ⟨rfl,AnyM.other rfl hC⟩
        ·have e1:ev (.tmp 14)= .int .i64 (e:Int):=aS 14 (by kernel_rfl)
         exact aj.ah (v:= .int .i64 (e:Int)) (w':=_) (by simp[execOp,go_sem,e1]) ⟨rfl,AnyM.other rfl hC⟩
        ·have e1:ev (.tmp 84)= .slice (some ⟨RB,0,none⟩) c.es.length c.es.length:=aA 5 84 (by omega) rfl (by decide)
         have e2:ev (.tmp 85)= .int .i64 (e:Int):=aA 6 85 (by omega) rfl (by decide)
         exact aj.ah (v:= .pointer (some ⟨RB,e,none⟩)) (w':=_) (by simp[execOp,go_sem,e1,e2,Dl,Dk]) ⟨rfl,AnyM.other rfl hC⟩
        ·have e1:ev (.tmp 86)= .pointer (some ⟨RB,e,none⟩):=aA 7 86 (by omega) rfl (by decide)
         exact aj.ah (v:= .int .i64 zr) (w':=_) (by simp[execOp,go_sem,e1,kr]) ⟨rfl,AnyM.other rfl hC⟩
        ·have e1:ev (.tmp 83)= .int .i64 zl:=aA 4 83 (by omega) rfl (by decide)
         have e2:ev (.tmp 87)= .int .i64 zr:=aA 8 87 (by omega) rfl (by decide)
         exact aj.ah (v:= .int .i64 (max zl zr)) (w':=_) (by simp[execOp,go_sem,e1,e2];split<;>omega) ⟨rfl,AnyM.other rfl hC⟩
        ·have e1:ev (.tmp 79)= .pointer (some ⟨W.heap.size+1,0,none⟩):=aA 0 79 (by omega) rfl (by decide)
         exact aj.ah (v:= .pointer (some ⟨W.heap.size+1,0,none⟩)) (w':=_) (by simp[execOp,go_sem,e1]) ⟨rfl,AnyM.other rfl hC⟩
        ·have e1:ev (.tmp 89)= .pointer (some ⟨W.heap.size+1,0,none⟩):=aA 10 89 (by omega) rfl (by decide)
         have e2:ev (.tmp 88)= .int .i64 (max zl zr):=aA 9 88 (by omega) rfl (by decide)
         refine aj.bF (w':=X2.drew.setCell ⟨W.heap.size+1,0,none⟩ (.int .i64 (max zl zr))) (by simp[execOp,go_sem,e1,e2,kb,kf]) ⟨rfl,?_⟩
         simp[AnyM.bG,aj.bR]
       ·intro Ls V hall hC
        unfold AnyM.bG at hC
        rw[if_pos (hall 11 (by decide))] at hC
        subst hC
        have fB:Hid (ApAt c LB RB tl tr W (X2.drew.setCell ⟨W.heap.size+1,0,none⟩ (.int .i64 (max zl zr))) h1 (max zl zr)):=HT.out.Xh _
        clear kb kf kl kr hall
        simp only[aj.canon,aj.dst,Array.size,aar,aaS]
        simp[Act.put]
        go_wp2_with fail
        go_roundw
        case rel=>
         refine⟨i+1,h1,max zl zr,by simp,by omega,fB.out,?_,?_,?_⟩
         ·rw[Dr.out,Tx.out]
         ·exact Jt.out
         ·rw[Dr.out]
          exact⟨by rw[Md.out,Ws.out];exact mq.out,Nk.out⟩
        case measure=>
         simp[intOf]
         omega
    ·have jt:Hid (¬eE (Lo.low c.es c.s) (g tl) (g tr) l):=fun q=>hok (HAi.out.1 (q.1 i hlt) h2l)
     have Ih:decide (zo<if zr<zl then zr else zl)=true:=by simp only[decide_eq_true_eq];split<;>omega
     clear hJ hap hst Om KS he o1 o3 o4 eb hq xD dH hzl Hz mS hgr CV kB Oh
     go_wp2_with fail
     refine aB (by kernel_rfl) (by kernel_rfl) ?_
     repeat (go_big_quiet_step ((first|(go_at_call 71;exact Calls.lw (Jy.out _)))))
     refine wpQuiet_nil ?_
     rintro _ ⟨D1,rfl⟩
     try rw[Ih]
     try generalize (if zr<zl then zr else zl)=zmn
     clear Ih hok
     have dm:Hid (Below W.heap.size W D1.val):=vR.out.aI.trans (D1.h.mono vR.out.aI.size)
     clear q0 q1 q2 q3 q4 vk
     go_wp2_with fail
     go_ret
     exact⟨false,rfl,⟨(fun q=>by cases q),fun q=>absurd q jt.out⟩,dm.out⟩
   ·have Jt:Hid (∀k,k<i+1→Az (Lo.low c.es c.s) (g tl) (g tr) l k):=fun k hk=>fun q=>absurd q h2l
    have l2:decide ((1:Int)<(l.length:Int))=false:=by simp only[decide_eq_false_iff_not];omega
    have q2:=trivial
    have q3:=trivial
    have q4:=trivial
    rw[eb]
    clear hJ hap hst Om KS he o1 o3 o4 eb hq xD dH hzl Hz mS hgr CV kB
    go_wp2_with fail
    refine aB (by kernel_rfl) (by kernel_rfl) ?_
    repeat (go_big_quiet_step (fail))
    refine wpQuiet_nil ?_
    rintro _ ⟨D1,rfl⟩
    obtain⟨X0,kD⟩:∃X0,X0=D1.val:=⟨_,rfl⟩
    have hb0:Below wr.heap.size wr X0:=by rw[kD];exact D1.h
    rw[←kD]
    clear q0 q1 q2 q3 q4 vk kD D1
    have Cm:=Nu.hid (vR.out.later hb0)
    have q5:∀D:LW X0,D.val.cell? ⟨LB,e,none⟩=some (.int .i64 zl):=fun D=>(Cm.out.later D.h).il.cell LS.out
    have q6:∀D:LW X0,D.val.cell? ⟨RB,e,none⟩=some (.int .i64 zr):=fun D=>(Cm.out.later D.h).ir.cell LQ.out
    have vk:=LW.any X0
    clear hb0
    rcases acV zr zl with hlr|hlr
    ·have qX:decide (zr<zl)=true:=by simp only[decide_eq_true_eq];exact hlr
     have Ty:=Nu.hid (YX.out hlr)
     have Me:=Nu.hid (Uu.out hlr)
     have T7:=Nu.hid (Y5.out hlr)
     go_wp2_with fail
     refine aB (by kernel_rfl) (by kernel_rfl) ?_
     repeat (go_big_quiet_step (fail))
     refine wpQuiet_nil ?_
     rintro _ ⟨D2,rfl⟩
     try rw[qX]
     clear qX hlr
     obtain⟨X1,iE⟩:∃X1,X1=D2.val:=⟨_,rfl⟩
     have hb1:Below X0.heap.size X0 X1:=by rw[iE];exact D2.h
     rw[←iE]
     clear q5 q6 vk iE D2
     have eN:=Nu.hid (Cm.out.later hb1)
     clear hb1
     have y0:∀D:LW X1,D.val.cell? ⟨W.heap.size,0,none⟩=some (.int .i64 h1):=fun D=>(eN.out.later D.h).b1.cell
     have y1:∀D:LW X1,D.val.cell? ⟨j,0,none⟩=some (.pointer (some ⟨p,0,none⟩)):=fun D=>(HJ.out.later (eN.out.aI.trans (D.h.mono eN.out.aI.size))).cells.1
     have y2:∀D:LW X1,D.val.cell? ⟨p,6,none⟩=some (.slice (some ⟨lb,0,none⟩) c.es.length lc):=fun D=>Pz.out _ (eN.out.aI.trans (D.h.mono eN.out.aI.size))
     have y3:∀D:LW X1,D.val.cell? ⟨lb,e,none⟩=some (.int .i64 zw):=fun D=>Dv.out _ (eN.out.aI.trans (D.h.mono eN.out.aI.size))
     have hne:=LW.any X1
     go_wp2_with fail
     rcases acV zw h1 with hB|hB
     ·have mU:decide (zw<h1)=true:=by simp only[decide_eq_true_eq];exact hB
      have jt:Hid (¬eE (Lo.low c.es c.s) (g tl) (g tr) l):=T7.out hB
      refine aB (by kernel_rfl) (by kernel_rfl) ?_
      repeat (go_big_quiet_step (fail))
      refine wpQuiet_nil ?_
      rintro _ ⟨D3,rfl⟩
      try rw[mU]
      clear mU
      clear hB
      have dm:Hid (Below W.heap.size W D3.val):=eN.out.aI.trans (D3.h.mono eN.out.aI.size)
      clear y0 y1 y2 y3 hne
      go_wp2_with fail
      go_ret
      exact⟨false,rfl,⟨(fun q=>by cases q),fun q=>absurd q jt.out⟩,dm.out⟩
     ·have mU:decide (zw<h1)=false:=by simp only[decide_eq_false_iff_not];omega
      refine aB (by kernel_rfl) (by kernel_rfl) ?_
      repeat (go_big_quiet_step (fail))
      refine wpQuiet_nil ?_
      rintro _ ⟨D3,rfl⟩
      try rw[mU]
      clear mU
      have mq:=Nu.hid hB
      clear hB
      obtain⟨X2,jM⟩:∃X2,X2=D3.val:=⟨_,rfl⟩
      have hb2:Below X1.heap.size X1 X2:=by rw[jM];exact D3.h
      rw[←jM]
      clear y0 y1 y2 y3 hne jM D3
      have HT:=Nu.hid (eN.out.later hb2)
      have kb:X2.drew.cell? ⟨W.heap.size,0,none⟩=some (.int .i64 h1):=HT.out.b1.cell
      have kf:X2.drew.frozen? ⟨W.heap.size,0,none⟩=false:=HT.out.b1.frozen
      have kl:X2.drew.cell? ⟨LB,e,none⟩=some (.int .i64 zl):=HT.out.il.cell LS.out
      have kr:X2.drew.cell? ⟨RB,e,none⟩=some (.int .i64 zr):=HT.out.ir.cell LQ.out
      clear hb2
      go_wp2_with fail
      refine wp_region_any (by kernel_rfl) ?_
      refine aj.oK (fun ix=>match ix with|0=> .pointer (some ⟨W.heap.size,0,none⟩)|1=> .slice (some ⟨LB,0,none⟩) c.es.length c.es.length|2=> .int .i64 (e:Int)|3=> .pointer (some ⟨LB,e,none⟩)|4=> .int .i64 zl|5=> .slice (some ⟨RB,0,none⟩) c.es.length c.es.length|6=> .int .i64 (e:Int)|7=> .pointer (some ⟨RB,e,none⟩)|8=> .int .i64 zr|9=> .int .i64 (max zl zr)|10=> .pointer (some ⟨W.heap.size,0,none⟩)|_=>undef) (AnyM.bG X2.drew [(11,X2.drew.setCell ⟨W.heap.size,0,none⟩ (.int .i64 (max zl zr)))]) 91 rfl (by kernel_rfl) rfl ?_ ?_
      ·intro ix o' Ls V ev ho bP hC bU hdc aA aS lG iW
       have hc:ix=0∨ix=1∨ix=2∨ix=3∨ix=4∨ix=5∨ix=6∨ix=7∨ix=8∨ix=9∨ix=10∨ix=11:=by
        have:ix<12:=(aam.1 ho).1
        omega
       have hst:Ls 11=false:=by
        cases h:Ls 11 with
        |false=>rfl
        |true=>
         exfalso
         have hq:Ls ix=true:=by
          rcases hc with rfl|rfl|rfl|rfl|rfl|rfl|rfl|rfl|rfl|rfl|rfl|rfl
          ·exact hdc 11 _ rfl h ⟨0,.phase⟩ (by simp) rfl
          ·exact hdc 11 _ rfl h ⟨1,.phase⟩ (by simp) rfl
          ·exact hdc 11 _ rfl h ⟨2,.phase⟩ (by simp) rfl
          ·exact hdc 11 _ rfl h ⟨3,.phase⟩ (by simp) rfl
          ·exact hdc 11 _ rfl h ⟨4,.phase⟩ (by simp) rfl
          ·exact hdc 11 _ rfl h ⟨5,.phase⟩ (by simp) rfl
          ·exact hdc 11 _ rfl h ⟨6,.phase⟩ (by simp) rfl
          ·exact hdc 11 _ rfl h ⟨7,.phase⟩ (by simp) rfl
          ·exact hdc 11 _ rfl h ⟨8,.phase⟩ (by simp) rfl
          ·exact hdc 11 _ rfl h ⟨9,.data⟩ (by simp) rfl
          ·exact hdc 11 _ rfl h ⟨10,.data⟩ (by simp) rfl
          ·exact h
         rw[bP] at hq
         cases hq
       have hV:V=X2.drew:=by
        simp only[AnyM.bG,hst,aau,if_false] at hC
        exact hC
       subst hV
       rcases hc with rfl|rfl|rfl|rfl|rfl|rfl|rfl|rfl|rfl|rfl|rfl|rfl<;>obtain rfl:=aak ho
       ·have e1:ev (.tmp 15)= .pointer (some ⟨W.heap.size,0,none⟩):=aS 15 (by kernel_rfl)
        exact aj.ah (v:= .pointer (some ⟨W.heap.size,0,none⟩)) (w':=_) (by simp[execOp,go_sem,e1]) ⟨rfl,AnyM.other rfl hC⟩
       ·have e1:ev (.tmp 2)= .slice (some ⟨LB,0,none⟩) c.es.length c.es.length:=aS 2 (by kernel_rfl)
        exact aj.ah (v:= .slice (some ⟨LB,0,none⟩) c.es.length c.es.length) (w':=_) (by simp[execOp,go_sem,e1]) ⟨rfl,AnyM.other rfl hC⟩
       ·have e1:ev (.tmp 14)= .int .i64 (e:Int):=aS 14 (by kernel_rfl)
        exact aj.ah (v:= .int .i64 (e:Int)) (w':=_) (by simp[execOp,go_sem,e1]) ⟨rfl,AnyM.other rfl hC⟩
       ·have e1:ev (.tmp 80)= .slice (some ⟨LB,0,none⟩) c.es.length c.es.length:=aA 1 80 (by omega) rfl (by decide)
        have e2:ev (.tmp 81)= .int .i64 (e:Int):=aA 2 81 (by omega) rfl (by decide)
        exact aj.ah (v:= .pointer (some ⟨LB,e,none⟩)) (w':=_) (by simp[execOp,go_sem,e1,e2,Dl,Dk]) ⟨rfl,AnyM.other rfl hC⟩
       ·have e1:ev (.tmp 82)= .pointer (some ⟨LB,e,none⟩):=aA 3 82 (by omega) rfl (by decide)
        exact aj.ah (v:= .int .i64 zl) (w':=_) (by simp[execOp,go_sem,e1,kl]) ⟨rfl,AnyM.other rfl hC⟩
       ·have e1:ev (.tmp 3)= .slice (some ⟨RB,0,none⟩) c.es.length c.es.length:=aS 3 (by kernel_rfl)
        exact aj.ah (v:= .slice (some ⟨RB,0,none⟩) c.es.length c.es.length) (w':=_) (by simp[execOp,go_sem,e1]) ⟨rfl,AnyM.other rfl hC⟩
       ·have e1:ev (.tmp 14)= .int .i64 (e:Int):=aS 14 (by kernel_rfl)
        exact aj.ah (v:= .int .i64 (e:Int)) (w':=_) (by simp[execOp,go_sem,e1]) ⟨rfl,AnyM.other rfl hC⟩
       ·have e1:ev (.tmp 84)= .slice (some ⟨RB,0,none⟩) c.es.length c.es.length:=aA 5 84 (by omega) rfl (by decide)
        have e2:ev (.tmp 85)= .int .i64 (e:Int):=aA 6 85 (by omega) rfl (by decide)
        exact aj.ah (v:= .pointer (some ⟨RB,e,none⟩)) (w':=_) (by simp[execOp,go_sem,e1,e2,Dl,Dk]) ⟨rfl,AnyM.other rfl hC⟩
       ·have e1:ev (.tmp 86)= .pointer (some ⟨RB,e,none⟩):=aA 7 86 (by omega) rfl (by decide)
        exact aj.ah (v:= .int .i64 zr) (w':=_) (by simp[execOp,go_sem,e1,kr]) ⟨rfl,AnyM.other rfl hC⟩
       ·have e1:ev (.tmp 83)= .int .i64 zl:=aA 4 83 (by omega) rfl (by decide)
        have e2:ev (.tmp 87)= .int .i64 zr:=aA 8 87 (by omega) rfl (by decide)
        exact aj.ah (v:= .int .i64 (max zl zr)) (w':=_) (by simp[execOp,go_sem,e1,e2];split<;>omega) ⟨rfl,AnyM.other rfl hC⟩
       ·have e1:ev (.tmp 79)= .pointer (some ⟨W.heap.size,0,none⟩):=aA 0 79 (by omega) rfl (by decide)
        exact aj.ah (v:= .pointer (some ⟨W.heap.size,0,none⟩)) (w':=_) (by simp[execOp,go_sem,e1]) ⟨rfl,AnyM.other rfl hC⟩
       ·have e1:ev (.tmp 89)= .pointer (some ⟨W.heap.size,0,none⟩):=aA 10 89 (by omega) rfl (by decide)
        have e2:ev (.tmp 88)= .int .i64 (max zl zr):=aA 9 88 (by omega) rfl (by decide)
        refine aj.bF (w':=X2.drew.setCell ⟨W.heap.size,0,none⟩ (.int .i64 (max zl zr))) (by simp[execOp,go_sem,e1,e2,kb,kf]) ⟨rfl,?_⟩
        simp[AnyM.bG,aj.bR]
      ·intro Ls V hall hC
       unfold AnyM.bG at hC
       rw[if_pos (hall 11 (by decide))] at hC
       subst hC
       have fB:Hid (ApAt c LB RB tl tr W (X2.drew.setCell ⟨W.heap.size,0,none⟩ (.int .i64 (max zl zr))) (max zl zr) h2):=HT.out.Xi _
       clear kb kf kl kr hall
       simp only[aj.canon,aj.dst,Array.size,aar,aaS]
       simp[Act.put]
       go_wp2_with fail
       go_roundw
       case rel=>
        refine⟨i+1,max zl zr,h2,by simp,by omega,fB.out,?_,?_,?_⟩
        ·rw[Dr.out,Ty.out]
        ·exact Jt.out
        ·rw[Dr.out]
         exact⟨by rw[Me.out,Ws.out];exact mq.out,Nk.out⟩
       case measure=>
        simp[intOf]
        omega
    ·have qX:decide (zr<zl)=false:=by simp only[decide_eq_false_iff_not];omega
     have Tx:=Nu.hid (Ez.out hlr)
     have Md:=Nu.hid (Ut.out hlr)
     have T6:=Nu.hid (Y4.out hlr)
     go_wp2_with fail
     refine aB (by kernel_rfl) (by kernel_rfl) ?_
     repeat (go_big_quiet_step (fail))
     refine wpQuiet_nil ?_
     rintro _ ⟨D2,rfl⟩
     try rw[qX]
     clear qX hlr
     obtain⟨X1,iE⟩:∃X1,X1=D2.val:=⟨_,rfl⟩
     have hb1:Below X0.heap.size X0 X1:=by rw[iE];exact D2.h
     rw[←iE]
     clear q5 q6 vk iE D2
     have eN:=Nu.hid (Cm.out.later hb1)
     clear hb1
     have y0:∀D:LW X1,D.val.cell? ⟨W.heap.size+1,0,none⟩=some (.int .i64 h2):=fun D=>(eN.out.later D.h).b2.cell
     have y1:∀D:LW X1,D.val.cell? ⟨j,0,none⟩=some (.pointer (some ⟨p,0,none⟩)):=fun D=>(HJ.out.later (eN.out.aI.trans (D.h.mono eN.out.aI.size))).cells.1
     have y2:∀D:LW X1,D.val.cell? ⟨p,6,none⟩=some (.slice (some ⟨lb,0,none⟩) c.es.length lc):=fun D=>Pz.out _ (eN.out.aI.trans (D.h.mono eN.out.aI.size))
     have y3:∀D:LW X1,D.val.cell? ⟨lb,e,none⟩=some (.int .i64 zw):=fun D=>Dv.out _ (eN.out.aI.trans (D.h.mono eN.out.aI.size))
     have hne:=LW.any X1
     go_wp2_with fail
     rcases acV zw h2 with hB|hB
     ·have mU:decide (zw<h2)=true:=by simp only[decide_eq_true_eq];exact hB
      have jt:Hid (¬eE (Lo.low c.es c.s) (g tl) (g tr) l):=T6.out hB
      refine aB (by kernel_rfl) (by kernel_rfl) ?_
      repeat (go_big_quiet_step (fail))
      refine wpQuiet_nil ?_
      rintro _ ⟨D3,rfl⟩
      try rw[mU]
      clear mU
      clear hB
      have dm:Hid (Below W.heap.size W D3.val):=eN.out.aI.trans (D3.h.mono eN.out.aI.size)
      clear y0 y1 y2 y3 hne
      go_wp2_with fail
      go_ret
      exact⟨false,rfl,⟨(fun q=>by cases q),fun q=>absurd q jt.out⟩,dm.out⟩
     ·have mU:decide (zw<h2)=false:=by simp only[decide_eq_false_iff_not];omega
      refine aB (by kernel_rfl) (by kernel_rfl) ?_
      repeat (go_big_quiet_step (fail))
      refine wpQuiet_nil ?_
      rintro _ ⟨D3,rfl⟩
      try rw[mU]
      clear mU
      have mq:=Nu.hid hB
      clear hB
      obtain⟨X2,jM⟩:∃X2,X2=D3.val:=⟨_,rfl⟩
      have hb2:Below X1.heap.size X1 X2:=by rw[jM];exact D3.h
      rw[←jM]
      clear y0 y1 y2 y3 hne jM D3
      have HT:=Nu.hid (eN.out.later hb2)
      have kb:X2.drew.cell? ⟨W.heap.size+1,0,none⟩=some (.int .i64 h2):=HT.out.b2.cell
      have kf:X2.drew.frozen? ⟨W.heap.size+1,0,none⟩=false:=HT.out.b2.frozen
      have kl:X2.drew.cell? ⟨LB,e,none⟩=some (.int .i64 zl):=HT.out.il.cell LS.out
      have kr:X2.drew.cell? ⟨RB,e,none⟩=some (.int .i64 zr):=HT.out.ir.cell LQ.out
      clear hb2
      go_wp2_with fail
      refine wp_region_any (by kernel_rfl) ?_
      refine aj.oK (fun ix=>match ix with|0=> .pointer (some ⟨W.heap.size+1,0,none⟩)|1=> .slice (some ⟨LB,0,none⟩) c.es.length c.es.length|2=> .int .i64 (e:Int)|3=> .pointer (some ⟨LB,e,none⟩)|4=> .int .i64 zl|5=> .slice (some ⟨RB,0,none⟩) c.es.length c.es.length|6=> .int .i64 (e:Int)|7=> .pointer (some ⟨RB,e,none⟩)|8=> .int .i64 zr|9=> .int .i64 (max zl zr)|10=> .pointer (some ⟨W.heap.size+1,0,none⟩)|_=>undef) (AnyM.bG X2.drew [(11,X2.drew.setCell ⟨W.heap.size+1,0,none⟩ (.int .i64 (max zl zr)))]) 91 rfl (by kernel_rfl) rfl ?_ ?_
      ·intro ix o' Ls V ev ho bP hC bU hdc aA aS lG iW
       have hc:ix=0∨ix=1∨ix=2∨ix=3∨ix=4∨ix=5∨ix=6∨ix=7∨ix=8∨ix=9∨ix=10∨ix=11:=by
        have:ix<12:=(aam.1 ho).1
        omega
       have hst:Ls 11=false:=by
        cases h:Ls 11 with
        |false=>rfl
        |true=>
         exfalso
         have hq:Ls ix=true:=by
          rcases hc with rfl|rfl|rfl|rfl|rfl|rfl|rfl|rfl|rfl|rfl|rfl|rfl
          ·exact hdc 11 _ rfl h ⟨0,.phase⟩ (by simp) rfl
          ·exact hdc 11 _ rfl h ⟨1,.phase⟩ (by simp) rfl
          ·exact hdc 11 _ rfl h ⟨2,.phase⟩ (by simp) rfl
          ·exact hdc 11 _ rfl h ⟨3,.phase⟩ (by simp) rfl
          ·exact hdc 11 _ rfl h ⟨4,.phase⟩ (by simp) rfl
          ·exact hdc 11 _ rfl h ⟨5,.phase⟩ (by simp) rfl
          ·exact hdc 11 _ rfl h ⟨6,.phase⟩ (by simp) rfl
          ·exact hdc 11 _ rfl h ⟨7,.phase⟩ (by simp) rfl
          ·exact hdc 11 _ rfl h ⟨8,.phase⟩ (by simp) rfl
          ·exact hdc 11 _ rfl h ⟨9,.data⟩ (by simp) rfl
          ·exact hdc 11 _ rfl h ⟨10,.data⟩ (by simp) rfl
          ·exact h
         rw[bP] at hq
         cases hq
       have hV:V=X2.drew:=by
        simp only[AnyM.bG,hst,aau,if_false] at hC
        exact hC
       subst hV
       rcases hc with rfl|rfl|rfl|rfl|rfl|rfl|rfl|rfl|rfl|rfl|rfl|rfl<;>obtain rfl:=aak ho
       ·have e1:ev (.tmp 15)= .pointer (some ⟨W.heap.size+1,0,none⟩):=aS 15 (by kernel_rfl)
        exact aj.ah (v:= .pointer (some ⟨W.heap.size+1,0,none⟩)) (w':=_) (by simp[execOp,go_sem,e1]) ⟨rfl,AnyM.other rfl hC⟩
       ·have e1:ev (.tmp 2)= .slice (some ⟨LB,0,none⟩) c.es.length c.es.length:=aS 2 (by kernel_rfl)
        exact aj.ah (v:= .slice (some ⟨LB,0,none⟩) c.es.length c.es.length) (w':=_) (by simp[execOp,go_sem,e1]) ⟨rfl,AnyM.other rfl hC⟩
       ·have e1:ev (.tmp 14)= .int .i64 (e:Int):=aS 14 (by kernel_rfl)
        exact aj.ah (v:= .int .i64 (e:Int)) (w':=_) (by simp[execOp,go_sem,e1]) ⟨rfl,AnyM.other rfl hC⟩
       ·have e1:ev (.tmp 80)= .slice (some ⟨LB,0,none⟩) c.es.length c.es.length:=aA 1 80 (by omega) rfl (by decide)
        have e2:ev (.tmp 81)= .int .i64 (e:Int):=aA 2 81 (by omega) rfl (by decide)
        exact aj.ah (v:= .pointer (some ⟨LB,e,none⟩)) (w':=_) (by simp[execOp,go_sem,e1,e2,Dl,Dk]) ⟨rfl,AnyM.other rfl hC⟩
       ·have e1:ev (.tmp 82)= .pointer (some ⟨LB,e,none⟩):=aA 3 82 (by omega) rfl (by decide)
        exact aj.ah (v:= .int .i64 zl) (w':=_) (by simp[execOp,go_sem,e1,kl]) ⟨rfl,AnyM.other rfl hC⟩
       ·have e1:ev (.tmp 3)= .slice (some ⟨RB,0,none⟩) c.es.length c.es.length:=aS 3 (by kernel_rfl)
        exact aj.ah (v:= .slice (some ⟨RB,0,none⟩) c.es.length c.es.length) (w':=_) (by simp[execOp,go_sem,e1]) ⟨rfl,AnyM.other rfl hC⟩
       ·have e1:ev (.tmp 14)= .int .i64 (e:Int):=aS 14 (by kernel_rfl)
        exact aj.ah (v:= .int .i64 (e:Int)) (w':=_) (by simp[execOp,go_sem,e1]) ⟨rfl,AnyM.other rfl hC⟩
       ·have e1:ev (.tmp 84)= .slice (some ⟨RB,0,none⟩) c.es.length c.es.length:=aA 5 84 (by omega) rfl (by decide)
        have e2:ev (.tmp 85)= .int .i64 (e:Int):=aA 6 85 (by omega) rfl (by decide)
        exact aj.ah (v:= .pointer (some ⟨RB,e,none⟩)) (w':=_) (by simp[execOp,go_sem,e1,e2,Dl,Dk]) ⟨rfl,AnyM.other rfl hC⟩
       ·have e1:ev (.tmp 86)= .pointer (some ⟨RB,e,none⟩):=aA 7 86 (by omega) rfl (by decide)
        exact aj.ah (v:= .int .i64 zr) (w':=_) (by simp[execOp,go_sem,e1,kr]) ⟨rfl,AnyM.other rfl hC⟩
       ·have e1:ev (.tmp 83)= .int .i64 zl:=aA 4 83 (by omega) rfl (by decide)
        have e2:ev (.tmp 87)= .int .i64 zr:=aA 8 87 (by omega) rfl (by decide)
        exact aj.ah (v:= .int .i64 (max zl zr)) (w':=_) (by simp[execOp,go_sem,e1,e2];split<;>omega) ⟨rfl,AnyM.other rfl hC⟩
       ·have e1:ev (.tmp 79)= .pointer (some ⟨W.heap.size+1,0,none⟩):=aA 0 79 (by omega) rfl (by decide)
        exact aj.ah (v:= .pointer (some ⟨W.heap.size+1,0,none⟩)) (w':=_) (by simp[execOp,go_sem,e1]) ⟨rfl,AnyM.other rfl hC⟩
       ·have e1:ev (.tmp 89)= .pointer (some ⟨W.heap.size+1,0,none⟩):=aA 10 89 (by omega) rfl (by decide)
        have e2:ev (.tmp 88)= .int .i64 (max zl zr):=aA 9 88 (by omega) rfl (by decide)
        refine aj.bF (w':=X2.drew.setCell ⟨W.heap.size+1,0,none⟩ (.int .i64 (max zl zr))) (by simp[execOp,go_sem,e1,e2,kb,kf]) ⟨rfl,?_⟩
        simp[AnyM.bG,aj.bR]
      ·intro Ls V hall hC
       unfold AnyM.bG at hC
       rw[if_pos (hall 11 (by decide))] at hC
       subst hC
       have fB:Hid (ApAt c LB RB tl tr W (X2.drew.setCell ⟨W.heap.size+1,0,none⟩ (.int .i64 (max zl zr))) h1 (max zl zr)):=HT.out.Xh _
       clear kb kf kl kr hall
       simp only[aj.canon,aj.dst,Array.size,aar,aaS]
       simp[Act.put]
       go_wp2_with fail
       go_roundw
       case rel=>
        refine⟨i+1,h1,max zl zr,by simp,by omega,fB.out,?_,?_,?_⟩
        ·rw[Dr.out,Tx.out]
        ·exact Jt.out
        ·rw[Dr.out]
         exact⟨by rw[Md.out,Ws.out];exact mq.out,Nk.out⟩
       case measure=>
        simp[intOf]
        omega
  ·obtain rfl:i=l.length:=by omega
   have oQ:Hid (eE (Lo.low c.es c.s) (g tl) (g tr) l):=by
    rw[acg] at KS
    exact⟨Om,KS⟩
   have HB:=Nu.hid hap.aI
   clear hap hst Om KS
   go_wp2_with fail
   go_ret
   exact⟨true,rfl,⟨fun _=>oQ.out,fun _=>rfl⟩,HB.out⟩
end
end
end Go.Proofs.YtdjmnpmdmjclhabGreat
