import Derived.Test.YtnhcggfbkoppnaaGreatMg17
import Derived.Test.YtnhcggfbkoppnaaGreatMg18
import Derived.Laws.AppendOwnNone
import Derived.Test.YtnhcggfbkoppnaaGreatMg21
import Derived.Test.YtnhcggfbkoppnaaGreatMg11
import Derived.Test.YtnhcggfbkoppnaaGreatMg16
namespace Go.Proofs.YtnhcggfbkoppnaaGreat
section
open Go.RowKit Lt
def mD (es:List (Int×Int)) (s:Df.St) (i v:Nat):List Int:=((List.range i).filter fun e=> !Lo.tree es s e&&decide (Lo.bJ es s e=v)).map fun e=>((Lo.oh s e:Nat):Int)
def eK (n:Nat) (es:List (Int×Int)) (s:Df.St) (i:Nat):List (List Int):=(List.range n).map (mD es s i)
theorem Aw (es:List (Int×Int)) (s:Df.St) (i v:Nat):(mD es s i v).length≤i:=by
 unfold mD
 rw[List.length_map]
 exact Nat.le_trans (List.length_filter_le _ _) (by simp)
theorem jo (n:Nat) (es:List (Int×Int)) (s:Df.St) (i:Nat):(eK n es s i).length=n:=by simp[eK]
theorem jY {n:Nat} {es:List (Int×Int)} {s:Df.St} {i v:Nat} (hv:v<n):(eK n es s i)[v]? =some (mD es s i v):=by
 unfold eK
 rw[List.getElem?_map,List.getElem?_range hv]
 rfl
theorem Cu (n:Nat) (es:List (Int×Int)) (s:Df.St):eK n es s 0=List.replicate n []:=by
 refine List.ext_getElem? fun k=> ?_
 rw[List.getElem?_replicate]
 by_cases h:k<n
 ·rw[if_pos h,jY h]
  rfl
 ·rw[if_neg h,List.getElem?_eq_none (by rw[jo];omega)]
theorem qG (es:List (Int×Int)) (s:Df.St) (i v:Nat):mD es s (i+1) v=if (!Lo.tree es s i&&decide (Lo.bJ es s i=v))=true then mD es s i v++[((Lo.oh s i:Nat):Int)] else mD es s i v:=by
 unfold mD
 rw[List.range_succ,List.filter_append,List.map_append]
 by_cases h:(!Lo.tree es s i&&decide (Lo.bJ es s i=v))=true
 ·rw[if_pos h]
  simp[h]
 ·rw[if_neg h]
  simp only[List.filter_cons,h,if_false,List.filter_nil,List.map_nil,List.append_nil,Bool.false_eq_true]
theorem ER {n:Nat} {es:List (Int×Int)} {s:Df.St} {i:Nat} (ht:Lo.tree es s i=true):eK n es s (i+1)=eK n es s i:=by
 unfold eK
 refine List.map_congr_left fun v _=> ?_
 rw[qG,if_neg (by simp[ht])]
theorem ES {n:Nat} {es:List (Int×Int)} {s:Df.St} {i:Nat} (ht:Lo.tree es s i=false) (hv:Lo.bJ es s i<n):(eK n es s i).set (Lo.bJ es s i) (mD es s i (Lo.bJ es s i)++[((Lo.oh s i:Nat):Int)])=eK n es s (i+1):=by
 refine List.ext_getElem? fun k=> ?_
 rw[List.getElem?_set]
 by_cases e:Lo.bJ es s i=k
 ·rw[if_pos e,if_pos (by rw[jo];omega),jY (by omega),qG,if_pos (by simp[ht,e]),e]
 ·rw[if_neg e]
  by_cases h:k<n
  ·rw[jY h,jY h,qG,if_neg (by simp[e])]
  ·rw[List.getElem?_eq_none (by rw[jo];omega),List.getElem?_eq_none (by rw[jo];omega)]
theorem Gc {W:World} {B g n:Nat} (h:W.ownsRow B 27 1 (.slice (some ⟨g,0,none⟩) n n) n (madeCells #[.slice none 0 0] n).toList):bW W B (.slice (some ⟨g,0,none⟩) n n) (List.replicate n (.slice none 0 0)) (List.replicate n []):=by
 rw[toList_madeCells_one] at h
 refine⟨by simp,by rw[List.length_replicate];exact h,fun u x l hx hl=> ?_,fun u u' x x' b _ hx _ hb=> ?_,fun u x b hx hb=> ?_⟩
 ·rw[List.getElem?_replicate] at hx hl
  split at hx
  ·rw[if_pos (by assumption)] at hl
   cases hx
   cases hl
   exact aS.nil _ _
  ·cases hx
 ·rw[List.getElem?_replicate] at hx
  split at hx
  ·cases hx
   cases hb
  ·cases hx
 ·rw[List.getElem?_replicate] at hx
  split at hx
  ·cases hx
   cases hb
  ·cases hx
section
variable {c:Wp} {p j0:Nat} {pa:Option Addr} {pc:Nat} {ps:List Int} {W:World}
def Ox (c:Wp) (W:World) (e:Ending) (w':World):Prop:=∃G vs,e= .returned (.slice (some ⟨G,0,none⟩) c.n c.n)∧bW w' W.heap.size (.slice (some ⟨G,0,none⟩) c.n c.n) vs (eK c.n c.es c.s c.es.length)∧Below W.heap.size W w'
set_option maxRecDepth 100000 in
set_option maxHeartbeats 16000000 in
theorem Ny (h:mQ c p j0 pa pc ps W):Calls Tryz.prog 71 #[.pointer (some ⟨j0,0,none⟩)] W (Ox c W):=by
 obtain⟨i1,hi1,hy0,hy1,hy2⟩:=info_parts Tryz.Av
 have cq:=h.wk.val.few
 have hhi:=h.wk.val.hi
 have x0:=h.cells.1
 have x1:=h.wk.c0
 have HJ:=Nu.hid h
 clear h
 go_enter Tryz.func71,Tryz.ntmps71
 go_wp2_with (at_make;refine wpList_make_full _ rfl _ _ 62 rfl W.heap.size 27 i1 (.slice none 0 0) 1 Tryz.underlying62 hi1 hy0 hy1 _ _ _ _ c.n rfl rfl rfl rfl (by rw[hy2];omega) (by unfold maxLen;omega) (Nat.le_refl _) ?_;refine Hid.out ?_)
 refine Nu.hid ?_
 intro w2 hrow hg2
 have hb2:Below W.heap.size W w2:=(Below.refl _ _).grown hg2 (Nat.le_refl _) (fun j hj=>by cases hj)
 have su:Hid (bW w2 W.heap.size (.slice (some ⟨W.heap.size,0,none⟩) c.n c.n) (List.replicate c.n (.slice none 0 0)) (eK c.n c.es c.s 0)):=by
  rw[Cu]
  exact Gc hrow
 have hJ2:=HJ.out.later hb2
 have y0:=hJ2.cells.1
 have y5:=hJ2.wk.c5
 have cz:=Nu.hid hb2
 clear hrow hg2 hb2 hJ2 x0 x1
 go_wp2_with fail
 go_loopw [24] (fun iv wr=>∃(i:Nat) (vs:List Value),iv= .int .i64 (i:Int)∧i≤c.es.length∧bW wr W.heap.size (.slice (some ⟨W.heap.size,0,none⟩) c.n c.n) vs (eK c.n c.es c.s i)∧Below W.heap.size W wr) (fun iv _=>c.es.length-(intOf iv).toNat)
 case atStart=>exact⟨0,_,rfl,Nat.zero_le _,su.out,cz.out⟩
 case round=>
  obtain⟨i,vs,rfl,UA,hrows,hb⟩:=hrel
  by_cases hlt:i<c.es.length
  ·have hJ:=HJ.out.later hb
   obtain⟨h1,-,h3,h4⟩:=Lo.cN hJ.wk.vf hlt
   have kZ:=BF hJ.wk.vf hlt
   have hgo:Cs.to c.es (Lo.oh c.s i)=Lo.bJ c.es c.s i:=rfl
   have mJ:=(Lo.bK hJ.wk.val hJ.wk.vf hlt).2
   have Mb:=ER (n:=c.n) (es:=c.es) (s:=c.s) (i:=i)
   have AV:=ES (n:=c.n) (es:=c.es) (s:=c.s) (i:=i)
   have hat:=jY (es:=c.es) (s:=c.s) (i:=i) mJ
   have hrl:=Aw c.es c.s i (Lo.bJ c.es c.s i)
   obtain⟨q,hq⟩:∃q,Lo.oh c.s i=q:=⟨_,rfl⟩
   obtain⟨v,hv⟩:∃v,Lo.bJ c.es c.s i=v:=⟨_,rfl⟩
   obtain⟨r,hr⟩:∃r,mD c.es c.s i (Lo.bJ c.es c.s i)=r:=⟨_,rfl⟩
   obtain⟨tr,qH⟩:∃tr,Lo.tree c.es c.s i=tr:=⟨_,rfl⟩
   rw[hr] at AV hat hrl
   rw[hq] at h1 h3 h4 kZ hgo AV
   rw[hv] at hgo mJ AV hat
   rw[qH] at kZ Mb AV
   obtain⟨bo,oo,eo,kX⟩:=hJ.wk.aJ hlt
   have z0:=hJ.cells.1
   have z1:=kX wr (Below.refl _ _) i hlt
   rw[h1] at z1
   rw[eo]
   have vM:=Nu.hid (oV hJ.wk h3)
   rw[kZ] at vM
   have i0:(0:Int)≤(i:Int):=by omega
   have i1:(i:Int)<(c.es.length:Int):=by omega
   have i2:(i:Int)+1≤4194304:=by omega
   have HR:=Nu.hid hrows
   have HB:=Nu.hid hb
   cases tr with
   |true=>
    have kA:=Nu.hid (Mb rfl)
    clear hrows hb hJ h1 h3 h4 kZ hq hv hr qH kX eo Mb AV hgo hat hrl
    go_wp2_with (go_at_call 67;refine vM.out.mono ?_;rintro e1 w1 ⟨rfl,hb1⟩;have aV:=Nu.hid hb1;clear hb1)
    go_roundw
    case rel=>
     refine⟨i+1,vs,by simp,by omega,?_,HB.out.trans (aV.out.mono HB.out.size)⟩
     rw[kA.out]
     exact HR.out.later aV.out
    case measure=>
     simp[intOf]
     omega
   |false=>
    have kA:=Nu.hid (AV rfl mJ)
    have Ln:=Nu.hid hgo
    have HQ:=Nu.hid h3
    have I2:=Nu.hid hat
    have SQ:=Nu.hid hrl
    clear hrows hb hJ h1 h3 h4 kZ hq hv hr qH kX eo Mb AV hgo hat hrl
    go_wp2_with (go_at_call 67;refine vM.out.mono ?_;rintro e1 w1 ⟨rfl,hb1⟩;have aV:=Nu.hid hb1;clear hb1)
    have hJ1:=HJ.out.later (HB.out.trans (aV.out.mono HB.out.size))
    have Ms:Below W.heap.size W w1:=HB.out.trans (aV.out.mono HB.out.size)
    have hR1:bW w1.drew W.heap.size (.slice (some ⟨W.heap.size,0,none⟩) (eK c.n c.es c.s i).length c.n) vs (eK c.n c.es c.s i):=by
     rw[jo]
     exact HR.out.later (aV.out.trans ((Below.refl _ _).drew))
    obtain⟨xv,Cw⟩:=hR1.RY I2.out
    have hown:=hR1.row v xv r Cw I2.out
    obtain⟨ra,rc,rfl,-,-⟩:=hown.form
    obtain⟨W2,hW2⟩:∃W2,W2=w1.drew.alloc (.cells #[.int .i64 (q:Int)] 3):=⟨_,rfl⟩
    have hsz:=Ms.size
    have hb2:Below w1.drew.heap.size w1.drew W2:=by rw[hW2];exact(Below.refl _ _).alloc (Nat.le_refl _) _
    have hg2:W2.heap[w1.drew.heap.size]? =some (.cells #[.int .i64 (q:Int)] 3 (0,0)):=by rw[hW2];exact heap_alloc_new _ _
    have hB2:Below W.heap.size W W2:=(Ms.trans ((Below.refl _ _).drew)).trans (hb2.mono hsz)
    obtain⟨v',W3,hrun,wK,QV,Xw⟩:=JA W.heap.size (.slice ra r.length rc) r (q:Int) (hown.later hb2) hB2.size w1.drew.heap.size hg2 (by have:=SQ.out;omega)
    obtain⟨Cp,Co,hv',-,-⟩:=wK.form
    rw[List.length_append,List.length_singleton] at hv'
    subst hv'
    have Ko:=QV
    rw[hW2] at Ko
    have Rf:(Value.slice Cp (r.length+1) Co).ownBlock=(Value.slice ra r.length rc).ownBlock∨(Value.slice Cp (r.length+1) Co).ownBlock=some (w1.drew.heap.size+1):=by
     rcases Xw with k|k
     ·exact .inl k
     ·right
      rw[k,hW2]
      simp
    obtain⟨pc1,pc2,YJ,pc4⟩:=hR1.put Cw I2.out wK Ko Rf
    have Us:∀b,(Value.slice ra r.length rc).ownBlock=some b→W.heap.size≤b:=fun b hb=>(World.ownsRow.lt hown b hb).1
    have tK:Below W.heap.size W W3:=hB2.grown QV hB2.size Us
    have LJ:w1.drew.cell? ⟨W.heap.size,v,none⟩=some (.slice ra r.length rc):=by
     obtain⟨gg,ee⟩:∃gg,gg=W.heap.size:=⟨_,rfl⟩
     have:=World.ownsRow.cells hR1.outer (g:=W.heap.size) rfl v _ Cw
     rwa[show((⟨W.heap.size,0,none⟩:Addr).add v)=⟨W.heap.size,v,none⟩ by by_cases h0:v=0<;>simp[Addr.add,h0]] at this
    have hGl:W.heap.size<w1.heap.size:=(World.ownsRow.lt hR1.outer W.heap.size rfl).2
    have HV:Hid (∀V,V=w1.drew∨V=W2∨V=W3→V.cell? ⟨j0,0,none⟩=some (.pointer (some ⟨p,0,none⟩))∧bV c p V∧V.cell? ⟨W.heap.size,v,none⟩=some (.slice ra r.length rc)):=by
     rintro V (rfl|rfl|rfl)
     ·have:=HJ.out.later (Ms.trans ((Below.refl _ _).drew))
      exact⟨this.cells.1,this.wk,LJ⟩
     ·have:=HJ.out.later hB2
      refine⟨this.cells.1,this.wk,?_⟩
      have hk:=hb2.block W.heap.size hGl
      unfold World.cell? at LJ ⊢
      rw[hk]
      exact LJ
     ·have:=HJ.out.later tK
      exact⟨this.cells.1,this.wk,pc1⟩
    have jx:Hid (∀V,bV c p V→Calls Tryz.prog 100 #[.pointer (some ⟨p,0,none⟩),.int .i64 (q:Int)] V fun e w'=>e= .returned (.int .i64 (v:Int))∧w'=V):=fun V hV=>by
     have:=ur hV HQ.out
     rw[Ln.out] at this
     exact this
    have hen:∀args w,(callFunc 100 args).run Tryz.prog w= .ok (.enter 100 args) w:=enters_of Tryz.func100 (by kernel_rfl) rfl
    have v0:(0:Int)≤(v:Int):=by omega
    have v1:(v:Int)<(c.n:Int):=by omega
    have kR:=Nu.hid hW2
    have MI:=Nu.hid hrun
    have Tr:=Nu.hid pc2
    have OB:Hid (bW (W3.setCell ⟨W.heap.size,v,none⟩ (.slice Cp (r.length+1) Co)) W.heap.size (.slice (some ⟨W.heap.size,0,none⟩) c.n c.n) (vs.set v (.slice Cp (r.length+1) Co)) (eK c.n c.es c.s (i+1))):=by
     rw[kA.out,jo] at YJ
     exact YJ
    have gJ:Hid (Below W.heap.size W (W3.setCell ⟨W.heap.size,v,none⟩ (.slice Cp (r.length+1) Co))):=tK.setCell (p:=⟨W.heap.size,v,none⟩) (Nat.le_refl _) _
    clear hJ1 Ms hR1 Cw hown hW2 hsz hb2 hg2 hB2 hrun wK QV Xw Ko Rf pc1 pc2 YJ pc4 Us tK LJ hGl
    refine wp_region_any (by kernel_rfl) ?_
    refine aj.oI (fun j=>match j with|0=> .slice (some ⟨W.heap.size,0,none⟩) c.n c.n|1=> .pointer (some ⟨j0,0,none⟩)|2=> .pointer (some ⟨j0,0,none⟩)|3=> .pointer (some ⟨j0,0,none⟩)|4=> .pointer (some ⟨p,0,none⟩)|5=> .int .i64 (q:Int)|6=> .int .i64 (v:Int)|7=> .slice (some ⟨W.heap.size,0,none⟩) c.n c.n|8=> .pointer (some ⟨j0,0,none⟩)|9=> .pointer (some ⟨j0,0,none⟩)|10=> .pointer (some ⟨j0,0,none⟩)|11=> .pointer (some ⟨p,0,none⟩)|12=> .int .i64 (q:Int)|13=> .int .i64 (v:Int)|14=> .pointer (some ⟨W.heap.size,v,none⟩)|15=> .slice ra r.length rc|16=> .int .i64 (q:Int)|17=> .slice (some ⟨w1.heap.size,0,none⟩) 1 1|18=> .slice Cp (r.length+1) Co|19=> .pointer (some ⟨W.heap.size,v,none⟩)|_=>undef) (AnyM.bG w1.drew [(20,(W3.setCell ⟨W.heap.size,v,none⟩ (.slice Cp (r.length+1) Co))),(18,W3),(17,W2)]) 56 rfl (by kernel_rfl) rfl ?_ ?_
    ·intro j o' Ls V ev ho bO hC bU hdc aA aR kW iQ
     have hc:j=0∨j=1∨j=2∨j=3∨j=4∨j=5∨j=6∨j=7∨j=8∨j=9∨j=10∨j=11∨j=12∨j=13∨j=14∨j=15∨j=16∨j=17∨j=18∨j=19∨j=20:=by
      have:j<21:=(Array.getElem?_eq_some_iff.1 ho).1
      omega
     have hst:Ls 20=false:=by
      cases h:Ls 20 with
      |false=>rfl
      |true=>
       exfalso
       have hq:Ls j=true:=by
        rcases hc with rfl|rfl|rfl|rfl|rfl|rfl|rfl|rfl|rfl|rfl|rfl|rfl|rfl|rfl|rfl|rfl|rfl|rfl|rfl|rfl|rfl
        ·exact hdc 20 _ rfl h ⟨0,.phase⟩ (by simp) rfl
        ·exact hdc 20 _ rfl h ⟨1,.phase⟩ (by simp) rfl
        ·exact hdc 20 _ rfl h ⟨2,.phase⟩ (by simp) rfl
        ·exact hdc 20 _ rfl h ⟨3,.phase⟩ (by simp) rfl
        ·exact hdc 20 _ rfl h ⟨4,.phase⟩ (by simp) rfl
        ·exact hdc 20 _ rfl h ⟨5,.phase⟩ (by simp) rfl
        ·exact hdc 20 _ rfl h ⟨6,.phase⟩ (by simp) rfl
        ·exact hdc 20 _ rfl h ⟨7,.phase⟩ (by simp) rfl
        ·exact hdc 20 _ rfl h ⟨8,.phase⟩ (by simp) rfl
        ·exact hdc 20 _ rfl h ⟨9,.phase⟩ (by simp) rfl
        ·exact hdc 20 _ rfl h ⟨10,.phase⟩ (by simp) rfl
        ·exact hdc 20 _ rfl h ⟨11,.phase⟩ (by simp) rfl
        ·exact hdc 20 _ rfl h ⟨12,.phase⟩ (by simp) rfl
        ·exact hdc 20 _ rfl h ⟨13,.phase⟩ (by simp) rfl
        ·exact hdc 20 _ rfl h ⟨14,.phase⟩ (by simp) rfl
        ·exact hdc 20 _ rfl h ⟨15,.phase⟩ (by simp) rfl
        ·exact hdc 20 _ rfl h ⟨16,.phase⟩ (by simp) rfl
        ·exact hdc 20 _ rfl h ⟨17,.phase⟩ (by simp) rfl
        ·exact hdc 20 _ rfl h ⟨18,.data⟩ (by simp) rfl
        ·exact hdc 20 _ rfl h ⟨19,.data⟩ (by simp) rfl
        ·exact h
       rw[bO] at hq
       cases hq
     have qU:V=w1.drew∨V=W2∨V=W3:=by
      cases h17:Ls 17<;>cases U0:Ls 18<;>simp[AnyM.bG,hst,h17,U0] at hC<;>simp[hC]
     obtain⟨k1,k2,k3⟩:=HV.out V qU
     rcases hc with rfl|rfl|rfl|rfl|rfl|rfl|rfl|rfl|rfl|rfl|rfl|rfl|rfl|rfl|rfl|rfl|rfl|rfl|rfl|rfl|rfl<;>obtain rfl:=Option.some.inj ho
     ·have e1:ev (.tmp 3)= .slice (some ⟨W.heap.size,0,none⟩) c.n c.n:=aR 3 (by kernel_rfl)
      exact aj.ah (v:= .slice (some ⟨W.heap.size,0,none⟩) c.n c.n) (w':=V) (by simp[execOp,go_sem,e1]) ⟨rfl,AnyM.other rfl hC⟩
     ·have e1:ev (.tmp 0)= .pointer (some ⟨j0,0,none⟩):=aR 0 (by kernel_rfl)
      exact aj.ah (v:= .pointer (some ⟨j0,0,none⟩)) (w':=V) (by simp[execOp,go_sem,e1]) ⟨rfl,AnyM.other rfl hC⟩
     ·have e1:ev (.tmp 35)= .pointer (some ⟨j0,0,none⟩):=aA 1 35 (by omega) rfl (by decide)
      exact aj.ah (v:= .pointer (some ⟨j0,0,none⟩)) (w':=V) (by simp[execOp,go_sem,e1]) ⟨rfl,AnyM.other rfl hC⟩
     ·have e1:ev (.tmp 36)= .pointer (some ⟨j0,0,none⟩):=aA 2 36 (by omega) rfl (by decide)
      exact aj.ah (v:= .pointer (some ⟨j0,0,none⟩)) (w':=V) (by simp[execOp,go_sem,e1]) ⟨rfl,AnyM.other rfl hC⟩
     ·have e1:ev (.tmp 37)= .pointer (some ⟨j0,0,none⟩):=aA 3 37 (by omega) rfl (by decide)
      exact aj.ah (v:= .pointer (some ⟨p,0,none⟩)) (w':=V) (by simp[execOp,go_sem,e1,k1]) ⟨rfl,AnyM.other rfl hC⟩
     ·have e1:ev (.tmp 5)= .int .i64 (q:Int):=aR 5 (by kernel_rfl)
      exact aj.ah (v:= .int .i64 (q:Int)) (w':=V) (by simp[execOp,go_sem,e1]) ⟨rfl,AnyM.other rfl hC⟩
     ·have e1:ev (.tmp 38)= .pointer (some ⟨p,0,none⟩):=aA 4 38 (by omega) rfl (by decide)
      have e2:ev (.tmp 39)= .int .i64 (q:Int):=aA 5 39 (by omega) rfl (by decide)
      exact AnyM.jH (f:=100) (args:= #[.pointer (some ⟨p,0,none⟩),.int .i64 (q:Int)]) (by simp[execOp,go_sem,e1,e2,hen,iQ]) (jx.out V k2) ⟨rfl,AnyM.other rfl hC⟩
     ·have e1:ev (.tmp 3)= .slice (some ⟨W.heap.size,0,none⟩) c.n c.n:=aR 3 (by kernel_rfl)
      exact aj.ah (v:= .slice (some ⟨W.heap.size,0,none⟩) c.n c.n) (w':=V) (by simp[execOp,go_sem,e1]) ⟨rfl,AnyM.other rfl hC⟩
     ·have e1:ev (.tmp 0)= .pointer (some ⟨j0,0,none⟩):=aR 0 (by kernel_rfl)
      exact aj.ah (v:= .pointer (some ⟨j0,0,none⟩)) (w':=V) (by simp[execOp,go_sem,e1]) ⟨rfl,AnyM.other rfl hC⟩
     ·have e1:ev (.tmp 42)= .pointer (some ⟨j0,0,none⟩):=aA 8 42 (by omega) rfl (by decide)
      exact aj.ah (v:= .pointer (some ⟨j0,0,none⟩)) (w':=V) (by simp[execOp,go_sem,e1]) ⟨rfl,AnyM.other rfl hC⟩
     ·have e1:ev (.tmp 43)= .pointer (some ⟨j0,0,none⟩):=aA 9 43 (by omega) rfl (by decide)
      exact aj.ah (v:= .pointer (some ⟨j0,0,none⟩)) (w':=V) (by simp[execOp,go_sem,e1]) ⟨rfl,AnyM.other rfl hC⟩
     ·have e1:ev (.tmp 44)= .pointer (some ⟨j0,0,none⟩):=aA 10 44 (by omega) rfl (by decide)
      exact aj.ah (v:= .pointer (some ⟨p,0,none⟩)) (w':=V) (by simp[execOp,go_sem,e1,k1]) ⟨rfl,AnyM.other rfl hC⟩
     ·have e1:ev (.tmp 5)= .int .i64 (q:Int):=aR 5 (by kernel_rfl)
      exact aj.ah (v:= .int .i64 (q:Int)) (w':=V) (by simp[execOp,go_sem,e1]) ⟨rfl,AnyM.other rfl hC⟩
     ·have e1:ev (.tmp 45)= .pointer (some ⟨p,0,none⟩):=aA 11 45 (by omega) rfl (by decide)
      have e2:ev (.tmp 46)= .int .i64 (q:Int):=aA 12 46 (by omega) rfl (by decide)
      exact AnyM.jH (f:=100) (args:= #[.pointer (some ⟨p,0,none⟩),.int .i64 (q:Int)]) (by simp[execOp,go_sem,e1,e2,hen,iQ]) (jx.out V k2) ⟨rfl,AnyM.other rfl hC⟩
     ·have e1:ev (.tmp 41)= .slice (some ⟨W.heap.size,0,none⟩) c.n c.n:=aA 7 41 (by omega) rfl (by decide)
      have e2:ev (.tmp 47)= .int .i64 (v:Int):=aA 13 47 (by omega) rfl (by decide)
      exact aj.ah (v:= .pointer (some ⟨W.heap.size,v,none⟩)) (w':=V) (by simp[execOp,go_sem,e1,e2,v0,v1]) ⟨rfl,AnyM.other rfl hC⟩
     ·have e1:ev (.tmp 48)= .pointer (some ⟨W.heap.size,v,none⟩):=aA 14 48 (by omega) rfl (by decide)
      exact aj.ah (v:= .slice ra r.length rc) (w':=V) (by simp[execOp,go_sem,e1,k3]) ⟨rfl,AnyM.other rfl hC⟩
     ·have e1:ev (.tmp 5)= .int .i64 (q:Int):=aR 5 (by kernel_rfl)
      exact aj.ah (v:= .int .i64 (q:Int)) (w':=V) (by simp[execOp,go_sem,e1]) ⟨rfl,AnyM.other rfl hC⟩
     ·have e1:ev (.tmp 50)= .int .i64 (q:Int):=aA 16 50 (by omega) rfl (by decide)
      have WW:Ls 18=false:=by
       cases h:Ls 18 with
       |false=>rfl
       |true=>
        have WM:Ls 17=true:=hdc 18 _ rfl h ⟨17,.data⟩ (by simp) rfl
        rw[bO] at WM
        cases WM
      have iD:V=w1.drew:=by
       simp only[AnyM.bG] at hC
       simp only[WW,bO,hst,Bool.false_eq_true,if_false] at hC
       exact hC
      rw[iD]
      refine aj.ah (v:= .slice (some ⟨w1.heap.size,0,none⟩) 1 1) (w':=W2) (by simp[execOp,go_sem,e1,kR.out]) ⟨rfl,?_⟩
      simp[AnyM.bG,aj.bQ,WW,hst]
     ·have e1:ev (.tmp 49)= .slice ra r.length rc:=aA 15 49 (by omega) rfl (by decide)
      have e2:ev (.tmp 51)= .slice (some ⟨w1.heap.size,0,none⟩) 1 1:=aA 17 51 (by omega) rfl (by decide)
      have hp:Ls 17=true:=bU ⟨17,.data⟩ (by simp) rfl
      have iD:V=W2:=by
       simp only[AnyM.bG] at hC
       simp only[bO,hp,hst,Bool.false_eq_true,if_false,if_true] at hC
       exact hC
      rw[iD]
      refine aj.ah (v:= .slice Cp (r.length+1) Co) (w':=W3) (MI.out _ ev _ _ rfl rfl e1 e2) ⟨rfl,?_⟩
      simp[AnyM.bG,aj.bQ,hst]
     ·have e1:ev (.tmp 34)= .slice (some ⟨W.heap.size,0,none⟩) c.n c.n:=aA 0 34 (by omega) rfl (by decide)
      have e2:ev (.tmp 40)= .int .i64 (v:Int):=aA 6 40 (by omega) rfl (by decide)
      exact aj.ah (v:= .pointer (some ⟨W.heap.size,v,none⟩)) (w':=V) (by simp[execOp,go_sem,e1,e2,v0,v1]) ⟨rfl,AnyM.other rfl hC⟩
     ·have e1:ev (.tmp 53)= .pointer (some ⟨W.heap.size,v,none⟩):=aA 19 53 (by omega) rfl (by decide)
      have e2:ev (.tmp 52)= .slice Cp (r.length+1) Co:=aA 18 52 (by omega) rfl (by decide)
      have hp:Ls 18=true:=bU ⟨18,.data⟩ (by simp) rfl
      have iD:V=W3:=by
       simp only[AnyM.bG] at hC
       simp only[bO,hp,Bool.false_eq_true,if_false,if_true] at hC
       exact hC
      rw[iD]
      rw[iD] at k3
      refine aj.bF (w':=(W3.setCell ⟨W.heap.size,v,none⟩ (.slice Cp (r.length+1) Co))) (by simp[execOp,go_sem,e1,e2,k3,Tr.out]) ⟨rfl,?_⟩
      simp[AnyM.bG,aj.bQ]
    ·intro Ls V hall hC
     unfold AnyM.bG at hC
     rw[if_pos (hall 20 (by decide))] at hC
     subst hC
     simp only[aj.canon,aj.dst,Array.size,List.length_cons,List.length_nil]
     simp[Act.put]
     go_wp2_with fail
     go_roundw
     case rel=>exact⟨i+1,_,by simp,by omega,OB.out,gJ.out⟩
     case measure=>
      simp[intOf]
      omega
  ·obtain rfl:i=c.es.length:=by omega
   have HR:=Nu.hid hrows
   have HB:=Nu.hid hb
   clear hrows hb
   go_wp2_with fail
   go_ret
   exact⟨_,_,rfl,HR.out,HB.out⟩
end
end
section
open Go.RowKit Go.Shelf
set_option maxRecDepth 100000 in
set_option maxHeartbeats 2000000 in
theorem wZ (Bs n₀ c n:Nat) (S:Nat→Prop) (ao:Option Addr) (l:List Int) (hn:n≤8388608) (w:World) (hS:¬S Bs) (hB:Boxed w Bs 27 (.slice ao n c))
 (hc:∀i,i<n→∃b o,ao=some ⟨b,o,none⟩∧∀W,bE n₀ S w W→W.cell? ⟨b,o+i,none⟩=some (.int .i64 (Df.at_ l i))) (hn₀:n₀≤w.heap.size):
 tY Tryz.prog 101 #[.pointer (some ⟨Bs,0,none⟩)] (Mu l) n₀ S (fy n) w 0:=by
 intro lp J Jx W hW _ _ _ hY h0
 have RJ:Boxed W Bs 27 (.slice ao n c):=(hW.block Bs hB.lt).trans hB
 have hb0:=RJ.cell
 have dU:bE n₀ S w W:=(bE.refl _ _ _).grow hW hn₀
 clear hB hW
 refine(callsIn_wide (n:=5)).1 ?_
 refine callsIn_of_wp Tryz.func101 rfl trivial ?_ rfl
 simp only[Tryz.ntmps101,List.size_toArray,List.length_cons,List.length_nil,Nat.reduceAdd,Nat.reduceSub,Array.replicate_succ,Array.replicate_zero,List.push_toArray,List.append_toArray,List.nil_append,List.cons_append]
 have hn1:(n:Int)≤8388608:=by omega
 gi_wp2
 gi_loopw [3] (fun i wr=>∃k:Nat,k≤n∧i= .int .i64 ((n:Int)-1-(k:Int))∧J ((fy n).take k) wr∧bE n₀ S W wr∧W.heap.size≤wr.heap.size) (fun i _=>((intOf i)+1).toNat)
 case atStart=>exact⟨0,Nat.zero_le _,by go_num,by simpa using h0,bE.refl _ _ _,Nat.le_refl _⟩
 case round=>
  obtain⟨k,hk,rfl,hJs,fN,hsz⟩:=hrel
  by_cases hlt:k<n
  ·obtain⟨x,hx⟩:∃x:Nat,(n:Int)-1-(k:Int)=(x:Int):=⟨n-1-k,by omega⟩
   have Cx:x<n:=by omega
   obtain⟨b,o,rfl,hcz⟩:=hc x Cx
   have hb1:wr.cell? ⟨Bs,0,none⟩=some (.slice (some ⟨b,o,none⟩) n c):=fN.cell hb0 hS
   have hc1:=hcz wr (dU.trans fN)
   have hat:(fy n)[k]? =some x:=by rw[wW hlt];congr 1;omega
   obtain⟨fn,tmps,assign,body,hy,hR⟩:=hY ((fy n).take k) x wr (vV hat) hJs (by omega) 4
   have lV:(fy n).take (k+1)=(fy n).take k++[x]:=by
    rw[List.take_add_one,hat]
    rfl
   obtain⟨z,hz⟩:∃z,Df.at_ l x=z:=⟨_,rfl⟩
   rw[hx]
   unfold Mu at hy
   rw[hz] at hc1 hy
   have x0:(0:Int)≤(x:Int):=by omega
   have x1:(x:Int)<(n:Int):=by omega
   have x2:(x:Int)-1=(n:Int)-1-((k+1:Nat):Int):=by omega
   have l7:=Nu.hid lV
   have HJ:=Nu.hid hJs
   have kA:=Nu.hid fN
   have vH:=Nu.hid hsz
   have Le:=Nu.hid x2
   clear lV hJs fN hY hcz hz hsz hat hx hc x2
   gi_wp2
   refine hR.mono ?_
   rintro e W3 ⟨mG,(⟨rfl,hJ3,hk3⟩|⟨rfl,hJx3⟩)⟩
   ·have BZ:=Nu.hid hJ3
    have uj:=Nu.hid hk3
    have vI:=Nu.hid mG.size
    clear hJ3 hk3 mG
    gi_wp2
    go_roundw
    case rel=>exact⟨k+1,by omega,by rw[←Le.out],by rw[l7.out];exact BZ.out,kA.out.trans uj.out,Nat.le_trans vH.out vI.out⟩
    case measure=>simp[intOf]
   ·have IZ:=Nu.hid hJx3
    clear hJx3
    gi_wp2
    refine bodyPost_ret (results_none rfl _ _ _) rfl ?_
    exact⟨⟨_,rfl⟩,.inr ⟨_,by rw[←l7.out];exact List.take_prefix _ _,IZ.out⟩⟩
  ·have wL:k=n:=by omega
   subst wL
   have hm:(k:Int)-1-(k:Int)= -1:=by omega
   have HJ:Hid (J (fy k) wr):=by
    show J (fy k) wr
    rw[List.take_of_length_le (by rw[jg];exact Nat.le_refl _)] at hJs
    exact hJs
   rw[hm]
   clear hJs fN hY hc hm
   gi_wp2
   go_end0
   exact⟨⟨_,rfl⟩,.inl HJ.out⟩
end
section
namespace Pl
namespace DF
end DF
def ahead (m:Nat) (p q:Nat→Nat) (W:Nat→Nat→Bool) (C:Nat→Bool) (v e:Nat):Bool:=px m fun f=>C f&&(inc p q f v&&(!decide (f=e)&&W f e))
section
end
end Pl
end
section
namespace Pl
def it (f:Nat→Nat):Nat→Nat→Nat
 |0,x=>x
 |k+1,x=>it f k (f x)
section
end
section
end
end Pl
end
section
namespace Pl
namespace DF
variable {n m:Nat} {T:DF n m} {sd:Nat→Bool}
def hst (T:DF n m) (b e:Nat):Prop:=T.aY e b∧∀b',T.aY e b'→T.ay (T.go b')≤T.ay (T.go b)
open Classical in
noncomputable def lo (T:DF n m) (e:Nat):Int:=if h:∃b,T.ct b e then T.ay (T.go (Classical.choose h)) else T.ay (T.fr e)
open Classical in
noncomputable def hi (T:DF n m) (e:Nat):Int:=if h:∃b,T.hst b e then T.ay (T.go (Classical.choose h)) else T.ay (T.fr e)
open Classical in
noncomputable def sgn (T:DF n m) (sd:Nat→Bool) (e:Nat):Bool:=decide (∃b,T.hst b e∧sd b=true)
noncomputable def Cq (T:DF n m) (e:Nat):Int:=2*T.lo e+if T.lo e<T.hi e then 1 else 0
noncomputable def key (T:DF n m) (sd:Nat→Bool) (e:Nat):Int:=if T.sgn sd e=true then T.Cq e else -1-T.Cq e
noncomputable def ord (T:DF n m) (sd:Nat→Bool) (e f:Nat):Bool:=decide (T.key sd e<T.key sd f∨(T.key sd e=T.key sd f∧e<f))
end DF
end Pl
end
section
namespace Pl
namespace DF
variable {n m:Nat} {T:DF n m} {sd:Nat→Bool}
open Classical in
noncomputable def dn (T:DF n m) (b:Nat):Nat:=if h:∃t,t<m∧T.N5 b t=true∧T.fr t=T.go b then Classical.choose h else 0
open Classical in
noncomputable def od (T:DF n m) (sd:Nat→Bool) (b c:Nat):Bool:=decide (∃d d',d<m∧d'<m∧T.N5 b d=true∧T.N5 c d'=true∧T.fr d=T.fr d'∧d≠d'∧T.ord sd d d'=true)
noncomputable def wf (T:DF n m) (sd:Nat→Bool) (e f:Nat):Bool:=
 if e=f then true
 else if T.fr e=T.fr f then T.ord sd e f
 else if T.fr e=T.go f then (if T.tree f=true then false else if e=T.dn f then sd f else T.ord sd e (T.dn f))
 else if T.go e=T.fr f then (if T.tree e=true then true else if f=T.dn e then !sd e else T.ord sd (T.dn e) f)
 else if T.go e=T.go f then (if T.tree e=true then true else if T.tree f=true then false else if T.dn e=T.dn f then (if sd e=sd f then !T.od sd e f else sd f) else T.ord sd (T.dn e) (T.dn f))
 else false
section
end
end DF
end Pl
end
section
namespace Pl
namespace DF
variable {n m:Nat} {T:DF n m} {sd:Nat→Bool}
noncomputable def grp (T:DF n m) (v x:Nat):Nat:=if T.fr x=v then x else T.dn x
end DF
end Pl
end
section
namespace Pl
section
end
namespace DF
variable {n m:Nat} {T:DF n m}
def Root (T:DF n m) (v:Nat):Prop:=∀e,e<m→T.tree e=true→T.go e≠v
end DF
end Pl
end
section
namespace Lo
open Df
section
variable {n:Nat} {es:List (Int×Int)} {s:St} {e:Nat}
theorem RZ (hv:Si.Val n es) (h:VF n es s) {a c u:Nat} (hu:u<n) (han:a<n) (ha:bP es s a u) (hc:bP es s c u) (hle:at_ s.ay a≤at_ s.ay c):bP es s a c:=by
 obtain⟨⟨W,B⟩,hs'⟩:=h.side
 obtain⟨Y,hw,_,_⟩:=jz (es:=es) h.once hs' hu
 have hma:=(bP.iff hw).1 ha
 obtain⟨X,Z,NV⟩:=List.append_of_mem ((bP.iff hw).1 hc)
 rw[NV] at hma hw
 rcases List.mem_append.1 hma with h1|h1
 ·obtain⟨X1,X2,hX⟩:=List.append_of_mem h1
  have hw2:=hw
  rw[hX,List.append_assoc] at hw2
  have hca:bP es s c a:=⟨_,hw2.tail,by simp⟩
  by_cases hac:c=a
  ·rw[hac]
   exact rZ h han
  ·have:=q7 hv h.once h.hang h.side han hac hca
   omega
 ·exact⟨_,hw.tail,h1⟩
theorem KQ (hv:Si.Val n es) (h:VF n es s) (he:e<es.length) (ht:tree es s e=true):bP es s (fr es s e) (bJ es s e):=by
 obtain⟨eP,_⟩:=jA hv h he ht
 obtain⟨⟨W,B⟩,hs'⟩:=h.side
 obtain⟨Y,hw,_,_⟩:=jz (es:=es) h.once hs' (bK hv h he).2
 exact pZ hw List.mem_cons_self eP (by omega)
theorem IC (hv:Si.Val n es) (h:VF n es s) (he:e<es.length) (ht:tree es s e=true) {a:Nat} (ha:bP es s a (bJ es s e)) (hne:a≠bJ es s e):bP es s a (fr es s e):=by
 obtain⟨eP,_⟩:=jA hv h he ht
 obtain⟨⟨W,B⟩,hs'⟩:=h.side
 obtain⟨Y,hw,_,_⟩:=jz (es:=es) h.once hs' (bK hv h he).2
 have hm:=(bP.iff hw).1 ha
 rcases List.mem_cons.1 hm with e1|hm
 ·omega
 ·cases Y with
  |nil=>simp at hm
  |cons y Y=>
   have h1:=hw.2.1
   rw[eP] at h1
   have hy:(fr es s e:Int)=y:=by simpa using h1
   subst hy
   exact⟨Y,hw.2.2,hm⟩
end
end Lo
end
section
namespace Lo
open Df
def eU (es:List (Int×Int)) (k:Nat):Nat:=Cs.fr es (2*k)
def eV (es:List (Int×Int)) (k:Nat):Nat:=Cs.to es (2*k)
section
variable {n:Nat} {es:List (Int×Int)} {s:St} {e:Nat}
theorem DW (h:VF n es s) {k:Nat} (hk:k<es.length):(fr es s k=eU es k∧bJ es s k=eV es k)∨(fr es s k=eV es k∧bJ es s k=eU es k):=by
 obtain⟨_,h2,_,_⟩:=cN h hk
 obtain⟨p,hp⟩:∃p,es[k]? =some p:=⟨_,List.getElem?_eq_getElem hk⟩
 obtain⟨e1,e2⟩:=Cs.iR hp
 obtain⟨e3,e4⟩:=Cs.nw hp
 unfold fr bJ eU eV
 rcases h2 with h2|h2
 ·rw[h2];exact .inl ⟨rfl,rfl⟩
 ·rw[h2,e3,e4,e1,e2];exact .inr ⟨rfl,rfl⟩
def sm:List Int→Nat
 |[]=>0
 |x::l=>x.toNat+sm l
end
end Lo
end
section
namespace Bl
open Df Lo
section
variable {n:Nat} {es:List (Int×Int)} {s:St} {v:Nat}
theorem MP (h:VF n es s) {p q:Nat} (hp:p<es.length) (hq:q<es.length) (tp:tree es s p=true) (tq:tree es s q=true) (he:bJ es s p=bJ es s q):p=q:=by
 have h1:=(jV h hp).1 tp
 have h2:=(jV h hq).1 tq
 rw[he,h2] at h1
 have h3:=(cN h hp).2.2.2
 have h4:=(cN h hq).2.2.2
 have:oh s q=oh s p:=by omega
 omega
def head (es:List (Int×Int)) (s:St) (e:Nat):Prop:=tree es s e=true∧hf es s e≤low es s e
inductive HD (es:List (Int×Int)) (s:St):Nat→Nat→Prop
 |self {e:Nat}:e<es.length→head es s e→HD es s e e
 |up {k p e:Nat}:k<es.length→¬head es s k→p<es.length→tree es s p=true→bJ es s p=fr es s k→HD es s p e→HD es s k e
end
end Bl
end
section
namespace Lr
open Df Lo
section
variable {n:Nat} {es:List (Int×Int)} {s:St}
theorem zB (hv:Si.Val n es):∀(d:Nat) {i:Nat} {p q:Int×Int},es[i]? =some p→es[i+d+1]? =some q→Si.lt p q:=by
 intro d
 induction d with
 |zero=>exact fun {i p q} hp hq=>hv.up i p q hp hq
 |succ d ih=>
  intro i p q hp hq
  obtain⟨r,hr⟩:∃r,es[i+1]? =some r:=⟨_,List.getElem?_eq_getElem (by
   have:=(List.getElem?_eq_some_iff.1 hq).1
   omega)⟩
  have h1:=hv.up i p r hp hr
  have h2:=ih hr (by rw[show i+1+d+1=i+(d+1)+1 by omega];exact hq)
  unfold Si.lt at h1 h2 ⊢
  omega
theorem Fi (hv:Si.Val n es) {i j:Nat} (hi:i<es.length) (hj:j<es.length) (hne:i≠j):¬(eU es i=eU es j∧eV es i=eV es j)∧¬(eU es i=eV es j∧eV es i=eU es j):=by
 obtain⟨p,hp⟩:∃p,es[i]? =some p:=⟨_,List.getElem?_eq_getElem hi⟩
 obtain⟨q,hq⟩:∃q,es[j]? =some q:=⟨_,List.getElem?_eq_getElem hj⟩
 have op:=hv.each _ p hp
 have oq:=hv.each _ q hq
 have hlt:Si.lt p q∨Si.lt q p:=by
  rcases Nat.lt_or_gt_of_ne hne with h|h
  ·exact .inl (zB hv (j-i-1) hp (by rw[show i+(j-i-1)+1=j by omega];exact hq))
  ·exact .inr (zB hv (i-j-1) hq (by rw[show j+(i-j-1)+1=i by omega];exact hp))
 have e1:eU es i=p.1.toNat∧eV es i=p.2.toNat:=Cs.iR hp
 have e2:eU es j=q.1.toNat∧eV es j=q.2.toNat:=Cs.iR hq
 rw[e1.1,e1.2,e2.1,e2.2]
 unfold Si.ok at op oq
 unfold Si.lt at hlt
 refine⟨fun h=> ?_,fun h=> ?_⟩<;>omega
def df (hv:Si.Val n es) (h:VF n es s):Pl.DF n es.length where
 fr:=fr es s
 go:=bJ es s
 tree:=tree es s
 ay:=fun v=>at_ s.ay v
 bP:=fun u v=>bP es s u v
 lt:=fun e he=>bK hv h he
 refl:=fun v dh=>rZ h dh
 trans:=fun h1 h2=>tV h1 h2
 up:=fun _ dh ha hne=>q7 hv h.once h.hang h.side dh hne ha
 cmp:=fun ha _ hc h1 h2 hle=>RZ hv h hc ha h1 h2 hle
 dP:=fun e he ht=>⟨(jA hv h he ht).2,KQ hv h he ht⟩
 one:=fun e f he hf te tf hg=>Bl.MP h he hf te tf hg
 par:=fun he _ te ha hne=>IC hv h he te ha hne
 back:=fun e he tb=>⟨D8 h he tb,Bj hv h he⟩
 child:=fun _ dh ha hne=>wY h dh ha hne
 simple:=fun e f he hf hne=>by
  have:=Fi hv he hf hne
  rcases DW h he with ⟨a,b⟩|⟨a,b⟩<;>rcases DW h hf with ⟨c,d⟩|⟨c,d⟩<;>rw[a,b,c,d]
  ·exact this
  ·exact⟨this.2,this.1⟩
  ·exact⟨fun k=>this.2 ⟨k.2,k.1⟩,fun k=>this.1 ⟨k.2,k.1⟩⟩
  ·exact⟨fun k=>this.1 ⟨k.2,k.1⟩,fun k=>this.2 ⟨k.2,k.1⟩⟩
 low:=fun v dh=>by
  have:=s9 hv h.once h.hang h.side v dh
  exact⟨this.1,this.2.1⟩
variable (hv:Si.Val n es) (h:VF n es s)
theorem uH {e b:Nat} (he:e<es.length):(df hv h).aY e b↔b∈sH es s e:=by
 cases te:tree es s e with
 |true=>
  rw[cO te]
  constructor
  ·rintro⟨h1,h2,h3|⟨_,h4,h5⟩⟩
   ·subst h3
    have h2':tree es s e=false:=h2
    rw[te] at h2';cases h2'
   ·exact⟨h1,h2,h5,h4⟩
  ·rintro⟨h1,h2,h3,h4⟩
   exact⟨h1,h2,.inr ⟨te,h4,h3⟩⟩
 |false=>
  rw[iZ te,List.mem_singleton]
  constructor
  ·rintro⟨h1,h2,h3|⟨h3,_⟩⟩
   ·exact h3.symm
   ·have h3':tree es s e=true:=h3
    rw[te] at h3';cases h3'
  ·rintro rfl
   exact⟨he,te,.inl rfl⟩
end
end Lr
end
section
namespace Lt
open Pl
section
variable {n m:Nat} {T:DF n m} {U tp:List Int} {Told aat:Nat→Prop} {sd:Nat→Bool} {s:Bool} {Q:Nat→Prop}
def vF (T:DF n m) (Told:Nat→Prop) (x r:Nat):Prop:=r<n∧T.bP r x∧¬Told r∧∀z,z<n→T.bP z x→T.ay r<T.ay z→Told z
theorem vF.unique {x r r':Nat} (hx:x<n) (h:vF T Told x r) (h':vF T Told x r'):r=r':=by
 obtain⟨a1,a2,a3,a4⟩:=h
 obtain⟨b1,b2,b3,b4⟩:=h'
 rcases Int.lt_trichotomy (T.ay r) (T.ay r') with q|q|q
 ·exact absurd (a4 r' b1 b2 q) b3
 ·exact T.same a1 b1 hx a2 b2 q
 ·exact absurd (b4 r a1 a2 q) a3
theorem Sk.rt (h:Sk T U Told):∀(d x:Nat),x<n→(T.ay x).toNat≤d→∃r,vF T Told x r:=by
 intro d
 induction d with
 |zero=>
  intro x hx hd
  obtain⟨y,y1,y2,y3,y4,y5⟩:=h.up x hx
  by_cases e:y=x
  ·subst e
   exact⟨y,hx,y3,y4 rfl,y5⟩
  ·have:=T.up y1 hx y3 e
   have:=(T.low y y1).1
   omega
 |succ d ih=>
  intro x hx hd
  obtain⟨y,y1,y2,y3,y4,y5⟩:=h.up x hx
  by_cases e:y=x
  ·subst e
   exact⟨y,hx,y3,y4 rfl,y5⟩
  ·have hlt:=T.up y1 hx y3 e
   have:=(T.low y y1).1
   obtain⟨r,r1,r2,r3,r4⟩:=ih y y1 (by omega)
   refine⟨r,r1,T.trans r2 y3,r3,fun z hz J4 hlz=> ?_⟩
   by_cases k:T.ay y<T.ay z
   ·exact y5 z hz J4 k
   ·exact r4 z hz (T.cmp hz y1 hx J4 y3 (by omega)) hlz
theorem Sk.root (h:Sk T U Told) {x:Nat} (hx:x<n):∃r,vF T Told x r:=h.rt _ x hx (Nat.le_refl _)
theorem fK.first {b r:Nat} (h:fK T sd s (fun _ c=>Q c) tp Told) (hb:b<m) (tb:T.tree b=false) (hs:sd b=s) (hr:vF T Told (T.fr b) r):fK T sd s (PB T Q b (T.ay r)) (tp.set b (T.ay (T.go b))) Told:=by
 have hf:=(T.lt b hb).1
 refine(h.begin hb tb hs).skip (T.le hr.1 hf hr.2.1) fun e he te AK hlt _=> ?_
 exact hr.2.2.2 _ (T.lt e he).2 (kG AK (kE te tb)).2.1 hlt
theorem fK.step {b e r':Nat} (h:fK T sd s (PB T Q b (T.ay (T.go e))) tp Told) (he:e<m) (te:T.tree e=true) (hb:b<m) (tb:T.tree b=false) (hs:sd b=s) (jE:T.bP (T.go e) (T.fr b)) (hgt:T.ay (T.go b)+1<T.ay (T.go e)) (hn:¬Told (T.go e))
 (hq:∀d,d<m→T.tree d=false→T.bP (T.go b) (T.go d)→T.go b≠T.go d→Q d) (hr:vF T (fun z=>Told z∨z=T.go e) (T.go e) r'):
 fK T sd s (PB T Q b (T.ay r')) (tp.set e (T.ay (T.go b))) (fun z=>Told z∨z=T.go e)∧T.bP r' (T.fr b)∧T.ay r'<T.ay (T.go e):=by
 obtain⟨t1,t2⟩:=T.dP e he te
 have hg:=(T.lt e he).2
 have hf:=(T.lt b hb).1
 have AK:T.aY e b:=⟨hb,tb,.inr ⟨te,jE,by omega⟩⟩
 have hne:r'≠T.go e:=fun q=>hr.2.2.1 (.inr q)
 have hlt:=T.up hr.1 hg hr.2.1 hne
 refine⟨(h.tell he te AK hs rfl hn fun d hd _ hlt=> ?_).skip (by omega) fun e' he' qh acX hlt' hle'=> ?_,T.trans hr.2.1 jE,hlt⟩
 ·obtain⟨k1,k2⟩:=JC he te AK hd hlt
  exact hq d hd.1 hd.2.1 k1 k2
 ·have ha:=(kG acX (kE qh tb)).2.1
  exact hr.2.2.2 _ (T.lt e' he').2 (T.cmp (T.lt e' he').2 hg hf ha jE (by omega)) hlt'
end
end Lt
end
end Go.Proofs.YtnhcggfbkoppnaaGreat
