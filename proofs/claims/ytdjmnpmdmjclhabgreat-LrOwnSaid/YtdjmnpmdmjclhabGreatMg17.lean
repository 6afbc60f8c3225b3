import Derived.Test.YtdjmnpmdmjclhabGreatMg13
import Derived.Test.YtdjmnpmdmjclhabGreatMg05
import Derived.Laws.AppendOwnNone
import Derived.Test.YtdjmnpmdmjclhabGreatMg08
import Derived.Test.YtdjmnpmdmjclhabGreatMg07
import Derived.Test.YtdjmnpmdmjclhabGreatMg01
import Derived.Laws.Bits64b
import Derived.Laws.CopyOwn
import Derived.BigRegion
import Derived.Deep.RegionLaw
namespace Go.Proofs.YtdjmnpmdmjclhabGreat
section
open Go.RowKit Lt
def mM (es:List (Int×Int)) (s:Df.St) (i v:Nat):List Int:=((List.range i).filter fun e=> !Lo.tree es s e&&decide (Lo.bJ es s e=v)).map fun e=>((Lo.oh s e:Nat):Int)
def eJ (n:Nat) (es:List (Int×Int)) (s:Df.St) (i:Nat):List (List Int):=(List.range n).map (mM es s i)
theorem A0 (es:List (Int×Int)) (s:Df.St) (i v:Nat):(mM es s i v).length≤i:=by
 unfold mM
 rw[aa3]
 exact abb (List.length_filter_le _ _) (by simp)
theorem jw (n:Nat) (es:List (Int×Int)) (s:Df.St) (i:Nat):(eJ n es s i).length=n:=by simp[eJ]
theorem kA {n:Nat} {es:List (Int×Int)} {s:Df.St} {i v:Nat} (hv:v<n):(eJ n es s i)[v]? =some (mM es s i v):=by
 unfold eJ
 rw[aay,acf hv]
 rfl
theorem CU (n:Nat) (es:List (Int×Int)) (s:Df.St):eJ n es s 0=List.replicate n []:=by
 refine aa6 fun k=> ?_
 rw[aaI]
 by_cases h:k<n
 ·rw[if_pos h,kA h]
  rfl
 ·rw[if_neg h,aat (by rw[jw];omega)]
theorem qO (es:List (Int×Int)) (s:Df.St) (i v:Nat):mM es s (i+1) v=if (!Lo.tree es s i&&decide (Lo.bJ es s i=v))=true then mM es s i v++[((Lo.oh s i:Nat):Int)] else mM es s i v:=by
 unfold mM
 rw[adI,acL,abl]
 by_cases h:(!Lo.tree es s i&&decide (Lo.bJ es s i=v))=true
 ·rw[if_pos h]
  simp[h]
 ·rw[if_neg h]
  simp only[List.filter_cons,h,if_false,adh,adD,abf,aau]
theorem Fg {n:Nat} {es:List (Int×Int)} {s:Df.St} {i:Nat} (ht:Lo.tree es s i=true):eJ n es s (i+1)=eJ n es s i:=by
 unfold eJ
 refine abT fun v _=> ?_
 rw[qO,if_neg (by simp[ht])]
theorem Fh {n:Nat} {es:List (Int×Int)} {s:Df.St} {i:Nat} (ht:Lo.tree es s i=false) (hv:Lo.bJ es s i<n):(eJ n es s i).set (Lo.bJ es s i) (mM es s i (Lo.bJ es s i)++[((Lo.oh s i:Nat):Int)])=eJ n es s (i+1):=by
 refine aa6 fun k=> ?_
 rw[aaq]
 by_cases e:Lo.bJ es s i=k
 ·rw[if_pos e,if_pos (by rw[jw];omega),kA (by omega),qO,if_pos (by simp[ht,e]),e]
 ·rw[if_neg e]
  by_cases h:k<n
  ·rw[kA h,kA h,qO,if_neg (by simp[e])]
  ·rw[aat (by rw[jw];omega),aat (by rw[jw];omega)]
theorem GN {W:World} {B g n:Nat} (h:W.ownsRow B 27 1 (.slice (some ⟨g,0,none⟩) n n) n (madeCells #[.slice none 0 0] n).toList):bW W B (.slice (some ⟨g,0,none⟩) n n) (List.replicate n (.slice none 0 0)) (List.replicate n []):=by
 rw[toList_madeCells_one] at h
 refine⟨by simp,by rw[adf];exact h,fun u x l hx hl=> ?_,fun u u' x x' b _ hx _ hb=> ?_,fun u x b hx hb=> ?_⟩
 ·rw[aaI] at hx hl
  split at hx
  ·rw[if_pos (by assumption)] at hl
   cases hx
   cases hl
   exact aP.nil _ _
  ·cases hx
 ·rw[aaI] at hx
  split at hx
  ·cases hx
   cases hb
  ·cases hx
 ·rw[aaI] at hx
  split at hx
  ·cases hx
   cases hb
  ·cases hx
section
variable {c:Wp} {p j0:Nat} {pa:Option Addr} {pc:Nat} {ps:List Int} {W:World}
def Pe (c:Wp) (W:World) (e:Ending) (w':World):Prop:=∃G vs,e= .returned (.slice (some ⟨G,0,none⟩) c.n c.n)∧bW w' W.heap.size (.slice (some ⟨G,0,none⟩) c.n c.n) vs (eJ c.n c.es c.s c.es.length)∧Below W.heap.size W w'
set_option maxRecDepth 100000 in
set_option maxHeartbeats 16000000 in
theorem Od (h:mY c p j0 pa pc ps W):Calls Tryz.prog 42 #[.pointer (some ⟨j0,0,none⟩)] W (Pe c W):=by
 obtain⟨i1,hi1,hy0,hy1,hy2⟩:=info_parts Tryz.AZ
 have cj:=h.wk.val.few
 have hhi:=h.wk.val.hi
 have x0:=h.cells.1
 have x1:=h.wk.c0
 have HJ:=Nu.hid h
 clear h
 go_enter Tryz.func42,Tryz.ntmps42
 go_wp2_with (at_make;refine wpList_make_full _ rfl _ _ 72 rfl W.heap.size 27 i1 (.slice none 0 0) 1 Tryz.underlying72 hi1 hy0 hy1 _ _ _ _ c.n rfl rfl rfl rfl (by rw[hy2];omega) (by unfold maxLen;omega) (aad _) ?_;refine aaB ?_)
 refine Nu.hid ?_
 intro w2 hrow hg2
 have hb2:Below W.heap.size W w2:=(aae _ _).grown hg2 (aad _) (fun j hj=>by cases hj)
 have qy:Hid (bW w2 W.heap.size (.slice (some ⟨W.heap.size,0,none⟩) c.n c.n) (List.replicate c.n (.slice none 0 0)) (eJ c.n c.es c.s 0)):=by
  rw[CU]
  exact GN hrow
 have hJ2:=HJ.out.later hb2
 have y0:=hJ2.cells.1
 have y5:=hJ2.wk.c5
 have ct:=Nu.hid hb2
 clear hrow hg2 hb2 hJ2 x0 x1
 go_wp2_with fail
 go_loopw [24] (fun iv wr=>∃(i:Nat) (vs:List Value),iv= .int .i64 (i:Int)∧i≤c.es.length∧bW wr W.heap.size (.slice (some ⟨W.heap.size,0,none⟩) c.n c.n) vs (eJ c.n c.es c.s i)∧Below W.heap.size W wr) (fun iv _=>c.es.length-(intOf iv).toNat)
 case atStart=>exact⟨0,_,rfl,aax _,qy.out,ct.out⟩
 case round=>
  obtain⟨i,vs,rfl,Vs,hrows,hb⟩:=hrel
  by_cases hlt:i<c.es.length
  ·have hJ:=HJ.out.later hb
   obtain⟨h1,-,h3,h4⟩:=Lo.cO hJ.wk.vf hlt
   have lJ:=B3 hJ.wk.vf hlt
   have hgo:Cs.to c.es (Lo.oh c.s i)=Lo.bJ c.es c.s i:=rfl
   have mS:=(Lo.bK hJ.wk.val hJ.wk.vf hlt).2
   have ME:=Fg (n:=c.n) (es:=c.es) (s:=c.s) (i:=i)
   have Bj:=Fh (n:=c.n) (es:=c.es) (s:=c.s) (i:=i)
   have hat:=kA (es:=c.es) (s:=c.s) (i:=i) mS
   have hrl:=A0 c.es c.s i (Lo.bJ c.es c.s i)
   obtain⟨q,hq⟩:∃q,Lo.oh c.s i=q:=⟨_,rfl⟩
   obtain⟨v,hv⟩:∃v,Lo.bJ c.es c.s i=v:=⟨_,rfl⟩
   obtain⟨r,hr⟩:∃r,mM c.es c.s i (Lo.bJ c.es c.s i)=r:=⟨_,rfl⟩
   obtain⟨tr,qP⟩:∃tr,Lo.tree c.es c.s i=tr:=⟨_,rfl⟩
   rw[hr] at Bj hat hrl
   rw[hq] at h1 h3 h4 lJ hgo Bj
   rw[hv] at hgo mS Bj hat
   rw[qP] at lJ ME Bj
   obtain⟨bo,oo,eo,lI⟩:=hJ.wk.aJ hlt
   have z0:=hJ.cells.1
   have z1:=lI wr (aae _ _) i hlt
   rw[h1] at z1
   rw[eo]
   have wj:=Nu.hid (o8 hJ.wk h3)
   rw[lJ] at wj
   have i0:(0:Int)≤(i:Int):=by omega
   have i1:(i:Int)<(c.es.length:Int):=by omega
   have i2:(i:Int)+1≤4194304:=by omega
   have HR:=Nu.hid hrows
   have HB:=Nu.hid hb
   cases tr with
   |true=>
    have kK:=Nu.hid (ME rfl)
    clear hrows hb hJ h1 h3 h4 lJ hq hv hr qP lI eo ME Bj hgo hat hrl
    go_wp2_with (go_at_call 38;refine wj.out.mono ?_;rintro e1 w1 ⟨rfl,hb1⟩;have aY:=Nu.hid hb1;clear hb1)
    go_roundw
    case rel=>
     refine⟨i+1,vs,by simp,by omega,?_,HB.out.trans (aY.out.mono HB.out.size)⟩
     rw[kK.out]
     exact HR.out.later aY.out
    case measure=>
     simp[intOf]
     omega
   |false=>
    have kK:=Nu.hid (Bj rfl mS)
    have Mb:=Nu.hid hgo
    have HQ:=Nu.hid h3
    have JD:=Nu.hid hat
    have TH:=Nu.hid hrl
    clear hrows hb hJ h1 h3 h4 lJ hq hv hr qP lI eo ME Bj hgo hat hrl
    go_wp2_with (go_at_call 38;refine wj.out.mono ?_;rintro e1 w1 ⟨rfl,hb1⟩;have aY:=Nu.hid hb1;clear hb1)
    have hJ1:=HJ.out.later (HB.out.trans (aY.out.mono HB.out.size))
    have MV:Below W.heap.size W w1:=HB.out.trans (aY.out.mono HB.out.size)
    have hR1:bW w1.drew W.heap.size (.slice (some ⟨W.heap.size,0,none⟩) (eJ c.n c.es c.s i).length c.n) vs (eJ c.n c.es c.s i):=by
     rw[jw]
     exact HR.out.later (aY.out.trans ((aae _ _).drew))
    obtain⟨xv,CW⟩:=hR1.S5 JD.out
    have hown:=hR1.row v xv r CW JD.out
    obtain⟨ra,rc,rfl,-,-⟩:=hown.form
    obtain⟨W2,hW2⟩:∃W2,W2=w1.drew.alloc (.cells #[.int .i64 (q:Int)] 3):=⟨_,rfl⟩
    have hsz:=MV.size
    have hb2:Below w1.drew.heap.size w1.drew W2:=by rw[hW2];exact(aae _ _).alloc (aad _) _
    have hg2:W2.heap[w1.drew.heap.size]? =some (.cells #[.int .i64 (q:Int)] 3 (0,0)):=by rw[hW2];exact heap_alloc_new _ _
    have hB2:Below W.heap.size W W2:=(MV.trans ((aae _ _).drew)).trans (hb2.mono hsz)
    obtain⟨v',W3,hrun,xj,RH,YC⟩:=J6 W.heap.size (.slice ra r.length rc) r (q:Int) (hown.later hb2) hB2.size w1.drew.heap.size hg2 (by have:=TH.out;omega)
    obtain⟨CQ,CP,hv',-,-⟩:=xj.form
    rw[aaA,abn] at hv'
    subst hv'
    have KY:=RH
    rw[hW2] at KY
    have Sj:(Value.slice CQ (r.length+1) CP).ownBlock=(Value.slice ra r.length rc).ownBlock∨(Value.slice CQ (r.length+1) CP).ownBlock=some (w1.drew.heap.size+1):=by
     rcases YC with k|k
     ·exact .inl k
     ·right
      rw[k,hW2]
      simp
    obtain⟨pc1,pc2,ZN,pc4⟩:=hR1.put CW JD.out xj KY Sj
    have Vk:∀b,(Value.slice ra r.length rc).ownBlock=some b→W.heap.size≤b:=fun b hb=>(aa9 hown b hb).1
    have tU:Below W.heap.size W W3:=hB2.grown RH hB2.size Vk
    have Mm:w1.drew.cell? ⟨W.heap.size,v,none⟩=some (.slice ra r.length rc):=by
     obtain⟨gg,ee⟩:∃gg,gg=W.heap.size:=⟨_,rfl⟩
     have:=abj hR1.outer (g:=W.heap.size) rfl v _ CW
     rwa[show((⟨W.heap.size,0,none⟩:Addr).add v)=⟨W.heap.size,v,none⟩ by by_cases h0:v=0<;>simp[Addr.add,h0]] at this
    have hGl:W.heap.size<w1.heap.size:=(aa9 hR1.outer W.heap.size rfl).2
    have HV:Hid (∀V,V=w1.drew∨V=W2∨V=W3→V.cell? ⟨j0,0,none⟩=some (.pointer (some ⟨p,0,none⟩))∧bV c p V∧V.cell? ⟨W.heap.size,v,none⟩=some (.slice ra r.length rc)):=by
     rintro V (rfl|rfl|rfl)
     ·have:=HJ.out.later (MV.trans ((aae _ _).drew))
      exact⟨this.cells.1,this.wk,Mm⟩
     ·have:=HJ.out.later hB2
      refine⟨this.cells.1,this.wk,?_⟩
      have hk:=hb2.block W.heap.size hGl
      unfold World.cell? at Mm ⊢
      rw[hk]
      exact Mm
     ·have:=HJ.out.later tU
      exact⟨this.cells.1,this.wk,pc1⟩
    have jF:Hid (∀V,bV c p V→Calls Tryz.prog 65 #[.pointer (some ⟨p,0,none⟩),.int .i64 (q:Int)] V fun e w'=>e= .returned (.int .i64 (v:Int))∧w'=V):=fun V hV=>by
     have:=uH hV HQ.out
     rw[Mb.out] at this
     exact this
    have hen:∀args w,(callFunc 65 args).run Tryz.prog w= .ok (.enter 65 args) w:=enters_of Tryz.func65 (by kernel_rfl) rfl
    have v0:(0:Int)≤(v:Int):=by omega
    have v1:(v:Int)<(c.n:Int):=by omega
    have jD:=Nu.hid hW2
    have Nj:=Nu.hid hrun
    have Um:=Nu.hid pc2
    have Pk:Hid (bW (W3.setCell ⟨W.heap.size,v,none⟩ (.slice CQ (r.length+1) CP)) W.heap.size (.slice (some ⟨W.heap.size,0,none⟩) c.n c.n) (vs.set v (.slice CQ (r.length+1) CP)) (eJ c.n c.es c.s (i+1))):=by
     rw[kK.out,jw] at ZN
     exact ZN
    have gJ:Hid (Below W.heap.size W (W3.setCell ⟨W.heap.size,v,none⟩ (.slice CQ (r.length+1) CP))):=tU.setCell (p:=⟨W.heap.size,v,none⟩) (aad _) _
    clear hJ1 MV hR1 CW hown hW2 hsz hb2 hg2 hB2 hrun xj RH YC KY Sj pc1 pc2 ZN pc4 Vk tU Mm hGl
    refine wp_region_any (by kernel_rfl) ?_
    refine aj.oK (fun j=>match j with|0=> .slice (some ⟨W.heap.size,0,none⟩) c.n c.n|1=> .pointer (some ⟨j0,0,none⟩)|2=> .pointer (some ⟨j0,0,none⟩)|3=> .pointer (some ⟨j0,0,none⟩)|4=> .pointer (some ⟨p,0,none⟩)|5=> .int .i64 (q:Int)|6=> .int .i64 (v:Int)|7=> .slice (some ⟨W.heap.size,0,none⟩) c.n c.n|8=> .pointer (some ⟨j0,0,none⟩)|9=> .pointer (some ⟨j0,0,none⟩)|10=> .pointer (some ⟨j0,0,none⟩)|11=> .pointer (some ⟨p,0,none⟩)|12=> .int .i64 (q:Int)|13=> .int .i64 (v:Int)|14=> .pointer (some ⟨W.heap.size,v,none⟩)|15=> .slice ra r.length rc|16=> .int .i64 (q:Int)|17=> .slice (some ⟨w1.heap.size,0,none⟩) 1 1|18=> .slice CQ (r.length+1) CP|19=> .pointer (some ⟨W.heap.size,v,none⟩)|_=>undef) (AnyM.bG w1.drew [(20,(W3.setCell ⟨W.heap.size,v,none⟩ (.slice CQ (r.length+1) CP))),(18,W3),(17,W2)]) 56 rfl (by kernel_rfl) rfl ?_ ?_
    ·intro j o' Ls V ev ho bP hC bU hdc aA aS lG iW
     have hc:j=0∨j=1∨j=2∨j=3∨j=4∨j=5∨j=6∨j=7∨j=8∨j=9∨j=10∨j=11∨j=12∨j=13∨j=14∨j=15∨j=16∨j=17∨j=18∨j=19∨j=20:=by
      have:j<21:=(aam.1 ho).1
      omega
     have hst:Ls 20=false:=by
      cases h:Ls 20 with
      |false=>rfl
      |true=>
       exfalso
       have hq:Ls j=true:=by
        rcases hc with rfl|rfl|rfl|rfl|rfl|rfl|rfl|rfl|rfl|rfl|rfl|rfl|rfl|rfl|rfl|rfl|rfl|rfl|rfl|rfl|rfl
        ·exact hdc 20 _ rfl h ⟨0,.phase⟩ (by simp) rfl
        ·exact hdc 20 _ rfl h ⟨1,.phase⟩ (by simp) rfl
        ·exact hdc 20 _ rfl h ⟨2,.phase⟩ (by simp) rfl
        ·exact hdc 20 _ rfl h ⟨3,.phase⟩ (by simp) rfl
        ·exact hdc 20 _ rfl h ⟨4,.phase⟩ (by simp) rfl
        ·exact hdc 20 _ rfl h ⟨5,.phase⟩ (by simp) rfl
        ·exact hdc 20 _ rfl h ⟨6,.phase⟩ (by simp) rfl
        ·exact hdc 20 _ rfl h ⟨7,.phase⟩ (by simp) rfl
        ·exact hdc 20 _ rfl h ⟨8,.phase⟩ (by simp) rfl
        ·exact hdc 20 _ rfl h ⟨9,.phase⟩ (by simp) rfl
        ·exact hdc 20 _ rfl h ⟨10,.phase⟩ (by simp) rfl
        ·exact hdc 20 _ rfl h ⟨11,.phase⟩ (by simp) rfl
        ·exact hdc 20 _ rfl h ⟨12,.phase⟩ (by simp) rfl
        ·exact hdc 20 _ rfl h ⟨13,.phase⟩ (by simp) rfl
        ·exact hdc 20 _ rfl h ⟨14,.phase⟩ (by simp) rfl
        ·exact hdc 20 _ rfl h ⟨15,.phase⟩ (by simp) rfl
        ·exact hdc 20 _ rfl h ⟨16,.phase⟩ (by simp) rfl
        ·exact hdc 20 _ rfl h ⟨17,.phase⟩ (by simp) rfl
        ·exact hdc 20 _ rfl h ⟨18,.data⟩ (by simp) rfl
        ·exact hdc 20 _ rfl h ⟨19,.data⟩ (by simp) rfl
        ·exact h
       rw[bP] at hq
       cases hq
     have rj:V=w1.drew∨V=W2∨V=W3:=by
      cases h17:Ls 17<;>cases VT:Ls 18<;>simp[AnyM.bG,hst,h17,VT] at hC<;>simp[hC]
     obtain⟨k1,k2,k3⟩:=HV.out V rj
     rcases hc with rfl|rfl|rfl|rfl|rfl|rfl|rfl|rfl|rfl|rfl|rfl|rfl|rfl|rfl|rfl|rfl|rfl|rfl|rfl|rfl|rfl<;>obtain rfl:=aak ho
     ·have e1:ev (.tmp 3)= .slice (some ⟨W.heap.size,0,none⟩) c.n c.n:=aS 3 (by kernel_rfl)
      exact aj.ah (v:= .slice (some ⟨W.heap.size,0,none⟩) c.n c.n) (w':=V) (by simp[execOp,go_sem,e1]) ⟨rfl,AnyM.other rfl hC⟩
     ·have e1:ev (.tmp 0)= .pointer (some ⟨j0,0,none⟩):=aS 0 (by kernel_rfl)
      exact aj.ah (v:= .pointer (some ⟨j0,0,none⟩)) (w':=V) (by simp[execOp,go_sem,e1]) ⟨rfl,AnyM.other rfl hC⟩
     ·have e1:ev (.tmp 35)= .pointer (some ⟨j0,0,none⟩):=aA 1 35 (by omega) rfl (by decide)
      exact aj.ah (v:= .pointer (some ⟨j0,0,none⟩)) (w':=V) (by simp[execOp,go_sem,e1]) ⟨rfl,AnyM.other rfl hC⟩
     ·have e1:ev (.tmp 36)= .pointer (some ⟨j0,0,none⟩):=aA 2 36 (by omega) rfl (by decide)
      exact aj.ah (v:= .pointer (some ⟨j0,0,none⟩)) (w':=V) (by simp[execOp,go_sem,e1]) ⟨rfl,AnyM.other rfl hC⟩
     ·have e1:ev (.tmp 37)= .pointer (some ⟨j0,0,none⟩):=aA 3 37 (by omega) rfl (by decide)
      exact aj.ah (v:= .pointer (some ⟨p,0,none⟩)) (w':=V) (by simp[execOp,go_sem,e1,k1]) ⟨rfl,AnyM.other rfl hC⟩
     ·have e1:ev (.tmp 5)= .int .i64 (q:Int):=aS 5 (by kernel_rfl)
      exact aj.ah (v:= .int .i64 (q:Int)) (w':=V) (by simp[execOp,go_sem,e1]) ⟨rfl,AnyM.other rfl hC⟩
     ·have e1:ev (.tmp 38)= .pointer (some ⟨p,0,none⟩):=aA 4 38 (by omega) rfl (by decide)
      have e2:ev (.tmp 39)= .int .i64 (q:Int):=aA 5 39 (by omega) rfl (by decide)
      exact AnyM.jO (f:=65) (args:= #[.pointer (some ⟨p,0,none⟩),.int .i64 (q:Int)]) (by simp[execOp,go_sem,e1,e2,hen,iW]) (jF.out V k2) ⟨rfl,AnyM.other rfl hC⟩
     ·have e1:ev (.tmp 3)= .slice (some ⟨W.heap.size,0,none⟩) c.n c.n:=aS 3 (by kernel_rfl)
      exact aj.ah (v:= .slice (some ⟨W.heap.size,0,none⟩) c.n c.n) (w':=V) (by simp[execOp,go_sem,e1]) ⟨rfl,AnyM.other rfl hC⟩
     ·have e1:ev (.tmp 0)= .pointer (some ⟨j0,0,none⟩):=aS 0 (by kernel_rfl)
      exact aj.ah (v:= .pointer (some ⟨j0,0,none⟩)) (w':=V) (by simp[execOp,go_sem,e1]) ⟨rfl,AnyM.other rfl hC⟩
     ·have e1:ev (.tmp 42)= .pointer (some ⟨j0,0,none⟩):=aA 8 42 (by omega) rfl (by decide)
      exact aj.ah (v:= .pointer (some ⟨j0,0,none⟩)) (w':=V) (by simp[execOp,go_sem,e1]) ⟨rfl,AnyM.other rfl hC⟩
     ·have e1:ev (.tmp 43)= .pointer (some ⟨j0,0,none⟩):=aA 9 43 (by omega) rfl (by decide)
      exact aj.ah (v:= .pointer (some ⟨j0,0,none⟩)) (w':=V) (by simp[execOp,go_sem,e1]) ⟨rfl,AnyM.other rfl hC⟩
     ·have e1:ev (.tmp 44)= .pointer (some ⟨j0,0,none⟩):=aA 10 44 (by omega) rfl (by decide)
      exact aj.ah (v:= .pointer (some ⟨p,0,none⟩)) (w':=V) (by simp[execOp,go_sem,e1,k1]) ⟨rfl,AnyM.other rfl hC⟩
     ·have e1:ev (.tmp 5)= .int .i64 (q:Int):=aS 5 (by kernel_rfl)
      exact aj.ah (v:= .int .i64 (q:Int)) (w':=V) (by simp[execOp,go_sem,e1]) ⟨rfl,AnyM.other rfl hC⟩
     ·have e1:ev (.tmp 45)= .pointer (some ⟨p,0,none⟩):=aA 11 45 (by omega) rfl (by decide)
      have e2:ev (.tmp 46)= .int .i64 (q:Int):=aA 12 46 (by omega) rfl (by decide)
      exact AnyM.jO (f:=65) (args:= #[.pointer (some ⟨p,0,none⟩),.int .i64 (q:Int)]) (by simp[execOp,go_sem,e1,e2,hen,iW]) (jF.out V k2) ⟨rfl,AnyM.other rfl hC⟩
     ·have e1:ev (.tmp 41)= .slice (some ⟨W.heap.size,0,none⟩) c.n c.n:=aA 7 41 (by omega) rfl (by decide)
      have e2:ev (.tmp 47)= .int .i64 (v:Int):=aA 13 47 (by omega) rfl (by decide)
      exact aj.ah (v:= .pointer (some ⟨W.heap.size,v,none⟩)) (w':=V) (by simp[execOp,go_sem,e1,e2,v0,v1]) ⟨rfl,AnyM.other rfl hC⟩
     ·have e1:ev (.tmp 48)= .pointer (some ⟨W.heap.size,v,none⟩):=aA 14 48 (by omega) rfl (by decide)
      exact aj.ah (v:= .slice ra r.length rc) (w':=V) (by simp[execOp,go_sem,e1,k3]) ⟨rfl,AnyM.other rfl hC⟩
     ·have e1:ev (.tmp 5)= .int .i64 (q:Int):=aS 5 (by kernel_rfl)
      exact aj.ah (v:= .int .i64 (q:Int)) (w':=V) (by simp[execOp,go_sem,e1]) ⟨rfl,AnyM.other rfl hC⟩
     ·have e1:ev (.tmp 50)= .int .i64 (q:Int):=aA 16 50 (by omega) rfl (by decide)
      have X8:Ls 18=false:=by
       cases h:Ls 18 with
       |false=>rfl
       |true=>
        have XQ:Ls 17=true:=hdc 18 _ rfl h ⟨17,.data⟩ (by simp) rfl
        rw[bP] at XQ
        cases XQ
      have iG:V=w1.drew:=by
       simp only[AnyM.bG] at hC
       simp only[X8,bP,hst,aau,if_false] at hC
       exact hC
      rw[iG]
      refine aj.ah (v:= .slice (some ⟨w1.heap.size,0,none⟩) 1 1) (w':=W2) (by simp[execOp,go_sem,e1,jD.out]) ⟨rfl,?_⟩
      simp[AnyM.bG,aj.bR,X8,hst]
     ·have e1:ev (.tmp 49)= .slice ra r.length rc:=aA 15 49 (by omega) rfl (by decide)
      have e2:ev (.tmp 51)= .slice (some ⟨w1.heap.size,0,none⟩) 1 1:=aA 17 51 (by omega) rfl (by decide)
      have hp:Ls 17=true:=bU ⟨17,.data⟩ (by simp) rfl
      have iG:V=W2:=by
       simp only[AnyM.bG] at hC
       simp only[bP,hp,hst,aau,if_false,if_true] at hC
       exact hC
      rw[iG]
      refine aj.ah (v:= .slice CQ (r.length+1) CP) (w':=W3) (Nj.out _ ev _ _ rfl rfl e1 e2) ⟨rfl,?_⟩
      simp[AnyM.bG,aj.bR,hst]
     ·have e1:ev (.tmp 34)= .slice (some ⟨W.heap.size,0,none⟩) c.n c.n:=aA 0 34 (by omega) rfl (by decide)
      have e2:ev (.tmp 40)= .int .i64 (v:Int):=aA 6 40 (by omega) rfl (by decide)
      exact aj.ah (v:= .pointer (some ⟨W.heap.size,v,none⟩)) (w':=V) (by simp[execOp,go_sem,e1,e2,v0,v1]) ⟨rfl,AnyM.other rfl hC⟩
     ·have e1:ev (.tmp 53)= .pointer (some ⟨W.heap.size,v,none⟩):=aA 19 53 (by omega) rfl (by decide)
      have e2:ev (.tmp 52)= .slice CQ (r.length+1) CP:=aA 18 52 (by omega) rfl (by decide)
      have hp:Ls 18=true:=bU ⟨18,.data⟩ (by simp) rfl
      have iG:V=W3:=by
       simp only[AnyM.bG] at hC
       simp only[bP,hp,aau,if_false,if_true] at hC
       exact hC
      rw[iG]
      rw[iG] at k3
      refine aj.bF (w':=(W3.setCell ⟨W.heap.size,v,none⟩ (.slice CQ (r.length+1) CP))) (by simp[execOp,go_sem,e1,e2,k3,Um.out]) ⟨rfl,?_⟩
      simp[AnyM.bG,aj.bR]
    ·intro Ls V hall hC
     unfold AnyM.bG at hC
     rw[if_pos (hall 20 (by decide))] at hC
     subst hC
     simp only[aj.canon,aj.dst,Array.size,aar,aaS]
     simp[Act.put]
     go_wp2_with fail
     go_roundw
     case rel=>exact⟨i+1,_,by simp,by omega,Pk.out,gJ.out⟩
     case measure=>
      simp[intOf]
      omega
  ·obtain rfl:i=c.es.length:=by omega
   have HR:=Nu.hid hrows
   have HB:=Nu.hid hb
   clear hrows hb
   go_wp2_with fail
   go_ret
   exact⟨_,_,rfl,HR.out,HB.out⟩
end
end
section
namespace Pl
namespace DF
variable {n m:Nat} {T:DF n m} {sd:Nat→Bool}
def hst (T:DF n m) (b e:Nat):Prop:=T.aX e b∧∀b',T.aX e b'→T.az (T.go b')≤T.az (T.go b)
open Classical in
noncomputable def lo (T:DF n m) (e:Nat):Int:=if h:∃b,T.cG b e then T.az (T.go (Classical.choose h)) else T.az (T.fr e)
open Classical in
noncomputable def hi (T:DF n m) (e:Nat):Int:=if h:∃b,T.hst b e then T.az (T.go (Classical.choose h)) else T.az (T.fr e)
open Classical in
noncomputable def sgn (T:DF n m) (sd:Nat→Bool) (e:Nat):Bool:=decide (∃b,T.hst b e∧sd b=true)
noncomputable def CR (T:DF n m) (e:Nat):Int:=2*T.lo e+if T.lo e<T.hi e then 1 else 0
noncomputable def key (T:DF n m) (sd:Nat→Bool) (e:Nat):Int:=if T.sgn sd e=true then T.CR e else -1-T.CR e
noncomputable def ord (T:DF n m) (sd:Nat→Bool) (e f:Nat):Bool:=decide (T.key sd e<T.key sd f∨(T.key sd e=T.key sd f∧e<f))
end DF
end Pl
end
section
namespace Pl
namespace DF
variable {n m:Nat} {T:DF n m} {sd:Nat→Bool}
open Classical in
noncomputable def dn (T:DF n m) (b:Nat):Nat:=if h:∃t,t<m∧T.OP b t=true∧T.fr t=T.go b then Classical.choose h else 0
open Classical in
noncomputable def od (T:DF n m) (sd:Nat→Bool) (b c:Nat):Bool:=decide (∃d d',d<m∧d'<m∧T.OP b d=true∧T.OP c d'=true∧T.fr d=T.fr d'∧d≠d'∧T.ord sd d d'=true)
noncomputable def wf (T:DF n m) (sd:Nat→Bool) (e f:Nat):Bool:=
 if e=f then true
 else if T.fr e=T.fr f then T.ord sd e f
 else if T.fr e=T.go f then (if T.tree f=true then false else if e=T.dn f then sd f else T.ord sd e (T.dn f))
 else if T.go e=T.fr f then (if T.tree e=true then true else if f=T.dn e then !sd e else T.ord sd (T.dn e) f)
 else if T.go e=T.go f then (if T.tree e=true then true else if T.tree f=true then false else if T.dn e=T.dn f then (if sd e=sd f then !T.od sd e f else sd f) else T.ord sd (T.dn e) (T.dn f))
 else false
section
end
end DF
end Pl
end
section
namespace Pl
namespace DF
variable {n m:Nat} {T:DF n m} {sd:Nat→Bool}
noncomputable def grp (T:DF n m) (v x:Nat):Nat:=if T.fr x=v then x else T.dn x
end DF
end Pl
end
section
namespace Pl
namespace DF
end DF
def ahead (m:Nat) (p q:Nat→Nat) (W:Nat→Nat→Bool) (C:Nat→Bool) (v e:Nat):Bool:=px m fun f=>C f&&(inc p q f v&&(!decide (f=e)&&W f e))
section
end
end Pl
end
section
namespace Pl
def it (f:Nat→Nat):Nat→Nat→Nat
 |0,x=>x
 |k+1,x=>it f k (f x)
section
end
section
end
end Pl
end
section
namespace Pl
section
end
namespace DF
variable {n m:Nat} {T:DF n m}
def Root (T:DF n m) (v:Nat):Prop:=∀e,e<m→T.tree e=true→T.go e≠v
end DF
end Pl
end
section
namespace Lo
open Df
section
variable {n:Nat} {es:List (Int×Int)} {s:St} {e:Nat}
theorem S6 (hv:Si.Val n es) (h:VF n es s) {a c u:Nat} (hu:u<n) (han:a<n) (ha:bQ es s a u) (hc:bQ es s c u) (hle:at_ s.az a≤at_ s.az c):bQ es s a c:=by
 obtain⟨⟨W,B⟩,hs'⟩:=h.side
 obtain⟨Y,hw,_,_⟩:=jG (es:=es) h.once hs' hu
 have hma:=(bQ.iff hw).1 ha
 obtain⟨X,Z,OD⟩:=acK ((bQ.iff hw).1 hc)
 rw[OD] at hma hw
 rcases aal.1 hma with h1|h1
 ·obtain⟨X1,X2,hX⟩:=acK h1
  have hw2:=hw
  rw[hX,aaH] at hw2
  have hca:bQ es s c a:=⟨_,hw2.tail,by simp⟩
  by_cases hac:c=a
  ·rw[hac]
   exact sG h han
  ·have:=rF hv h.once h.hang h.side han hac hca
   omega
 ·exact⟨_,hw.tail,h1⟩
theorem Lu (hv:Si.Val n es) (h:VF n es s) (he:e<es.length) (ht:tree es s e=true):bQ es s (fr es s e) (bJ es s e):=by
 obtain⟨eP,_⟩:=jH hv h he ht
 obtain⟨⟨W,B⟩,hs'⟩:=h.side
 obtain⟨Y,hw,_,_⟩:=jG (es:=es) h.once hs' (bK hv h he).2
 exact p9 hw aag eP (by omega)
theorem Jh (hv:Si.Val n es) (h:VF n es s) (he:e<es.length) (ht:tree es s e=true) {a:Nat} (ha:bQ es s a (bJ es s e)) (hne:a≠bJ es s e):bQ es s a (fr es s e):=by
 obtain⟨eP,_⟩:=jH hv h he ht
 obtain⟨⟨W,B⟩,hs'⟩:=h.side
 obtain⟨Y,hw,_,_⟩:=jG (es:=es) h.once hs' (bK hv h he).2
 have hm:=(bQ.iff hw).1 ha
 rcases aaj.1 hm with e1|hm
 ·omega
 ·cases Y with
  |nil=>simp at hm
  |cons y Y=>
   have h1:=hw.2.1
   rw[eP] at h1
   have hy:(fr es s e:Int)=y:=by simpa using h1
   subst hy
   exact⟨Y,hw.2.2,hm⟩
end
end Lo
end
section
namespace Lo
open Df
def eU (es:List (Int×Int)) (k:Nat):Nat:=Cs.fr es (2*k)
def eV (es:List (Int×Int)) (k:Nat):Nat:=Cs.to es (2*k)
section
variable {n:Nat} {es:List (Int×Int)} {s:St} {e:Nat}
theorem Em (h:VF n es s) {k:Nat} (hk:k<es.length):(fr es s k=eU es k∧bJ es s k=eV es k)∨(fr es s k=eV es k∧bJ es s k=eU es k):=by
 obtain⟨_,h2,_,_⟩:=cO h hk
 obtain⟨p,hp⟩:∃p,es[k]? =some p:=⟨_,aac hk⟩
 obtain⟨e1,e2⟩:=Cs.iY hp
 obtain⟨e3,e4⟩:=Cs.nH hp
 unfold fr bJ eU eV
 rcases h2 with h2|h2
 ·rw[h2];exact .inl ⟨rfl,rfl⟩
 ·rw[h2,e3,e4,e1,e2];exact .inr ⟨rfl,rfl⟩
def sm:List Int→Nat
 |[]=>0
 |x::l=>x.toNat+sm l
end
end Lo
end
section
namespace Bl
open Df Lo
section
variable {n:Nat} {es:List (Int×Int)} {s:St} {v:Nat}
theorem Nv (h:VF n es s) {p q:Nat} (hp:p<es.length) (hq:q<es.length) (tp:tree es s p=true) (tq:tree es s q=true) (he:bJ es s p=bJ es s q):p=q:=by
 have h1:=(kg h hp).1 tp
 have h2:=(kg h hq).1 tq
 rw[he,h2] at h1
 have h3:=(cO h hp).2.2.2
 have h4:=(cO h hq).2.2.2
 have:oh s q=oh s p:=by omega
 omega
def head (es:List (Int×Int)) (s:St) (e:Nat):Prop:=tree es s e=true∧hf es s e≤low es s e
inductive HD (es:List (Int×Int)) (s:St):Nat→Nat→Prop
 |self {e:Nat}:e<es.length→head es s e→HD es s e e
 |up {k p e:Nat}:k<es.length→¬head es s k→p<es.length→tree es s p=true→bJ es s p=fr es s k→HD es s p e→HD es s k e
end
end Bl
end
section
namespace Lr
open Df Lo
section
variable {n:Nat} {es:List (Int×Int)} {s:St}
theorem zY (hv:Si.Val n es):∀(d:Nat) {i:Nat} {p q:Int×Int},es[i]? =some p→es[i+d+1]? =some q→Si.lt p q:=by
 intro d
 induction d with
 |zero=>exact fun {i p q} hp hq=>hv.up i p q hp hq
 |succ d ih=>
  intro i p q hp hq
  obtain⟨r,hr⟩:∃r,es[i+1]? =some r:=⟨_,aac (by
   have:=(aas.1 hq).1
   omega)⟩
  have h1:=hv.up i p r hp hr
  have h2:=ih hr (by rw[show i+1+d+1=i+(d+1)+1 by omega];exact hq)
  unfold Si.lt at h1 h2 ⊢
  omega
theorem FK (hv:Si.Val n es) {i j:Nat} (hi:i<es.length) (hj:j<es.length) (hne:i≠j):¬(eU es i=eU es j∧eV es i=eV es j)∧¬(eU es i=eV es j∧eV es i=eU es j):=by
 obtain⟨p,hp⟩:∃p,es[i]? =some p:=⟨_,aac hi⟩
 obtain⟨q,hq⟩:∃q,es[j]? =some q:=⟨_,aac hj⟩
 have op:=hv.each _ p hp
 have oq:=hv.each _ q hq
 have hlt:Si.lt p q∨Si.lt q p:=by
  rcases Nat.lt_or_gt_of_ne hne with h|h
  ·exact .inl (zY hv (j-i-1) hp (by rw[show i+(j-i-1)+1=j by omega];exact hq))
  ·exact .inr (zY hv (i-j-1) hq (by rw[show j+(i-j-1)+1=i by omega];exact hp))
 have e1:eU es i=p.1.toNat∧eV es i=p.2.toNat:=Cs.iY hp
 have e2:eU es j=q.1.toNat∧eV es j=q.2.toNat:=Cs.iY hq
 rw[e1.1,e1.2,e2.1,e2.2]
 unfold Si.ok at op oq
 unfold Si.lt at hlt
 refine⟨fun h=> ?_,fun h=> ?_⟩<;>omega
def df (hv:Si.Val n es) (h:VF n es s):Pl.DF n es.length where
 fr:=fr es s
 go:=bJ es s
 tree:=tree es s
 az:=fun v=>at_ s.az v
 bQ:=fun u v=>bQ es s u v
 lt:=fun e he=>bK hv h he
 refl:=fun v dh=>sG h dh
 trans:=fun h1 h2=>uq h1 h2
 up:=fun _ dh ha hne=>rF hv h.once h.hang h.side dh hne ha
 cmp:=fun ha _ hc h1 h2 hle=>S6 hv h hc ha h1 h2 hle
 dN:=fun e he ht=>⟨(jH hv h he ht).2,Lu hv h he ht⟩
 one:=fun e f he hf te tf hg=>Bl.Nv h he hf te tf hg
 par:=fun he _ te ha hne=>Jh hv h he te ha hne
 back:=fun e he tb=>⟨Et h he tb,BO hv h he⟩
 child:=fun _ dh ha hne=>xG h dh ha hne
 simple:=fun e f he hf hne=>by
  have:=FK hv he hf hne
  rcases Em h he with ⟨a,b⟩|⟨a,b⟩<;>rcases Em h hf with ⟨c,d⟩|⟨c,d⟩<;>rw[a,b,c,d]
  ·exact this
  ·exact⟨this.2,this.1⟩
  ·exact⟨fun k=>this.2 ⟨k.2,k.1⟩,fun k=>this.1 ⟨k.2,k.1⟩⟩
  ·exact⟨fun k=>this.1 ⟨k.2,k.1⟩,fun k=>this.2 ⟨k.2,k.1⟩⟩
 low:=fun v dh=>by
  have:=tJ hv h.once h.hang h.side v dh
  exact⟨this.1,this.2.1⟩
variable (hv:Si.Val n es) (h:VF n es s)
theorem uR {e b:Nat} (he:e<es.length):(df hv h).aX e b↔b∈sW es s e:=by
 cases te:tree es s e with
 |true=>
  rw[cP te]
  constructor
  ·rintro⟨h1,h2,h3|⟨_,h4,h5⟩⟩
   ·subst h3
    have h2':tree es s e=false:=h2
    rw[te] at h2';cases h2'
   ·exact⟨h1,h2,h5,h4⟩
  ·rintro⟨h1,h2,h3,h4⟩
   exact⟨h1,h2,.inr ⟨te,h4,h3⟩⟩
 |false=>
  rw[ji te,aao]
  constructor
  ·rintro⟨h1,h2,h3|⟨h3,_⟩⟩
   ·exact h3.symm
   ·have h3':tree es s e=true:=h3
    rw[te] at h3';cases h3'
  ·rintro rfl
   exact⟨he,te,.inl rfl⟩
end
end Lr
end
section
namespace Lt
open Pl
section
variable {n m:Nat} {T:DF n m} {U tp:List Int} {Told abD:Nat→Prop} {sd:Nat→Bool} {s:Bool} {Q:Nat→Prop}
def vP (T:DF n m) (Told:Nat→Prop) (x r:Nat):Prop:=r<n∧T.bQ r x∧¬Told r∧∀z,z<n→T.bQ z x→T.az r<T.az z→Told z
theorem vP.unique {x r r':Nat} (hx:x<n) (h:vP T Told x r) (h':vP T Told x r'):r=r':=by
 obtain⟨a1,a2,a3,a4⟩:=h
 obtain⟨b1,b2,b3,b4⟩:=h'
 rcases Int.lt_trichotomy (T.az r) (T.az r') with q|q|q
 ·exact absurd (a4 r' b1 b2 q) b3
 ·exact T.same a1 b1 hx a2 b2 q
 ·exact absurd (b4 r a1 a2 q) a3
theorem Sk.rt (h:Sk T U Told):∀(d x:Nat),x<n→(T.az x).toNat≤d→∃r,vP T Told x r:=by
 intro d
 induction d with
 |zero=>
  intro x hx hd
  obtain⟨y,y1,y2,y3,y4,y5⟩:=h.up x hx
  by_cases e:y=x
  ·subst e
   exact⟨y,hx,y3,y4 rfl,y5⟩
  ·have:=T.up y1 hx y3 e
   have:=(T.low y y1).1
   omega
 |succ d ih=>
  intro x hx hd
  obtain⟨y,y1,y2,y3,y4,y5⟩:=h.up x hx
  by_cases e:y=x
  ·subst e
   exact⟨y,hx,y3,y4 rfl,y5⟩
  ·have hlt:=T.up y1 hx y3 e
   have:=(T.low y y1).1
   obtain⟨r,r1,r2,r3,r4⟩:=ih y y1 (by omega)
   refine⟨r,r1,T.trans r2 y3,r3,fun z hz KD hlz=> ?_⟩
   by_cases k:T.az y<T.az z
   ·exact y5 z hz KD k
   ·exact r4 z hz (T.cmp hz y1 hx KD y3 (by omega)) hlz
theorem Sk.root (h:Sk T U Told) {x:Nat} (hx:x<n):∃r,vP T Told x r:=h.rt _ x hx (aad _)
theorem fJ.first {b r:Nat} (h:fJ T sd s (fun _ c=>Q c) tp Told) (hb:b<m) (tb:T.tree b=false) (hs:sd b=s) (hr:vP T Told (T.fr b) r):fJ T sd s (PB T Q b (T.az r)) (tp.set b (T.az (T.go b))) Told:=by
 have hf:=(T.lt b hb).1
 refine(h.begin hb tb hs).skip (T.le hr.1 hf hr.2.1) fun e he te Bb hlt _=> ?_
 exact hr.2.2.2 _ (T.lt e he).2 (kQ Bb (kP te tb)).2.1 hlt
theorem fJ.step {b e r':Nat} (h:fJ T sd s (PB T Q b (T.az (T.go e))) tp Told) (he:e<m) (te:T.tree e=true) (hb:b<m) (tb:T.tree b=false) (hs:sd b=s) (jL:T.bQ (T.go e) (T.fr b)) (hgt:T.az (T.go b)+1<T.az (T.go e)) (hn:¬Told (T.go e))
 (hq:∀d,d<m→T.tree d=false→T.bQ (T.go b) (T.go d)→T.go b≠T.go d→Q d) (hr:vP T (fun z=>Told z∨z=T.go e) (T.go e) r'):
 fJ T sd s (PB T Q b (T.az r')) (tp.set e (T.az (T.go b))) (fun z=>Told z∨z=T.go e)∧T.bQ r' (T.fr b)∧T.az r'<T.az (T.go e):=by
 obtain⟨t1,t2⟩:=T.dN e he te
 have hg:=(T.lt e he).2
 have hf:=(T.lt b hb).1
 have Bb:T.aX e b:=⟨hb,tb,.inr ⟨te,jL,by omega⟩⟩
 have hne:r'≠T.go e:=fun q=>hr.2.2.1 (.inr q)
 have hlt:=T.up hr.1 hg hr.2.1 hne
 refine⟨(h.tell he te Bb hs rfl hn fun d hd _ hlt=> ?_).skip (by omega) fun e' he' qo aeg hlt' hle'=> ?_,T.trans hr.2.1 jL,hlt⟩
 ·obtain⟨k1,k2⟩:=J8 he te Bb hd hlt
  exact hq d hd.1 hd.2.1 k1 k2
 ·have ha:=(kQ aeg (kP qo tb)).2.1
  exact hr.2.2.2 _ (T.lt e' he').2 (T.cmp (T.lt e' he').2 hg hf ha jL (by omega)) hlt'
end
end Lt
end
section
open Go.RowKit
set_option maxRecDepth 100000 in
set_option maxHeartbeats 4000000 in
theorem Kl (m:Nat) (hm:m≤4294967295) (w:World):Calls Tryz.prog 107 #[.int .u64 1,.int .u64 (m:Int)] w fun e w'=>e= .returned (.tuple #[.int .u64 0,.int .u64 (m:Int)])∧w'=w:=by
 have mask:∀a:Nat,a≤4294967295→bits .and .u64 (a:Int) 4294967295=(a:Int):=fun a ha=>by
  have h:=bits_and_u64_nat a 4294967295 (by omega) (by omega)
  have e:a &&& 4294967295=a%4294967296:=Nat.and_two_pow_sub_one_eq_mod a 32
  rw[e,Nat.mod_eq_of_lt (by omega)] at h
  exact h
 have b1:=mask 1 (by omega)
 have b0:=mask 0 (by omega)
 have bm:=mask m hm
 have wr:∀a:Nat,a≤4294967295→IntKind.u64.wrap (a:Int)=(a:Int):=fun a ha=>by rw[adG];omega
 have w0:=wr 0 (by omega)
 have wm:=wr m hm
 have d0:(m:Int)/4294967296=0:=by omega
 clear mask wr
 go_enter Tryz.func107,Tryz.ntmps107
 go_wp2_with fail
 simp only[Int.natCast_one,Int.natCast_zero] at b1 b0 w0
 simp only[b1,Int.one_mul,wm,d0,w0,Int.zero_ediv,b0]
 go_ret2
 exact⟨rfl,rfl⟩
set_option maxRecDepth 100000 in
set_option maxHeartbeats 4000000 in
theorem Fb (m:Nat) (hm:m≤4294967295) (w:World):Calls Tryz.prog 80 #[.int .u64 1,.int .u64 (m:Int)] w fun e w'=>e= .returned (.tuple #[.int .u64 0,.int .u64 (m:Int)])∧w'=w:=by
 have HC:=Nu.hid (Kl m hm w)
 have wm:IntKind.u64.wrap (m:Int)=(m:Int):=by rw[adG];omega
 have HW:=Nu.hid wm
 clear hm wm
 go_enter Tryz.func80,Tryz.ntmps80
 go_wp2_with (go_at_call 107;refine HC.out.mono ?_;rintro e w' ⟨rfl,hw⟩;rw[hw])
 go_ret2
 exact⟨rfl,rfl⟩
end
section
open Go.RowKit
def Lt.laid (m n:Nat) (x:Int):List Int:=List.replicate n x++List.replicate (m-n) 0
theorem Lt.AY (m n k:Nat) (x:Int) (h:n+k≤m):splice ((Lt.laid m n x).map (Value.int .i64)) n ((List.replicate k x).map (Value.int .i64))=(Lt.laid m (n+k) x).map (Value.int .i64):=by
 unfold Lt.laid splice
 simp only[abl,ads,adf]
 rw[List.take_left' (by simp)]
 have hd:List.drop (n+k) (List.replicate n (Value.int IntKind.i64 x)++List.replicate (m-n) (Value.int IntKind.i64 0))=List.replicate (m-(n+k)) (Value.int .i64 0):=by
  rw[List.drop_append,adf,acN (by simp),aaE,List.drop_replicate]
  congr 1
  omega
 rw[hd]
 rw[←aaH,List.replicate_append_replicate]
def vM (x:Int) (m:Nat) (w:World) (e:Ending) (w':World):Prop:=∃g,e= .returned (.slice (some ⟨g,0,none⟩) m m)∧aq w' g (List.replicate m x)∧w.heap.size≤g∧Below w.heap.size w w'
set_option maxRecDepth 100000 in
set_option maxHeartbeats 4000000 in
theorem qI (x:Int) (m b cap:Nat) (hm:m≤8388608) (w:World) (hx:aq w b [x]):Calls Tryz.prog 50 #[.slice (some ⟨b,0,none⟩) 1 cap,.int .i64 (m:Int)] w (vM x m w):=by
 obtain⟨i0,hi,hz0,hz1,hz2⟩:=info_parts Tryz.bO
 have HC:=Nu.hid (Fb m (by omega) w)
 have HX:=Nu.hid hx
 have hxc:=hx.cell (i:=0) (x:=x) rfl
 have hbl:=hx.lt
 have hwm:IntKind.u64.wrap (m:Int)=(m:Int):=by rw[adG];omega
 have hu:Tryz.prog.underlying 27=some (.slice 3):=Tryz.underlying27
 have yz:(Tryz.prog.info? 3).map (·.size)=some 1:=by rw[hi,Option.map_some,hz1]
 clear hx
 go_enter Tryz.func50,Tryz.ntmps50
 go_wp2_with (first|(go_at_call 80;refine HC.out.mono ?_;rintro e w' ⟨rfl,hw⟩;rw[hw])|(at_make;refine wpList_make_full _ rfl _ _ 27 rfl w.heap.size 3 i0 (.int .i64 0) 1 Tryz.underlying27 hi hz0 hz1 _ _ _ _ m rfl rfl rfl rfl (by rw[hz2];omega) (by unfold maxLen;omega) (aad _) ?_;refine aaB ?_))
 refine Nu.hid ?_
 intro w2 hrow hg2
 rw[cD] at hrow
 have hik:=dy hrow
 have hb2:Below w.heap.size w w2:=(aae _ _).grown hg2 (aad _) (fun j hj=>by cases hj)
 have fX:Hid (w2.heap[w.heap.size]? =some (.cells ((Lt.laid m 0 x).map (Value.int .i64)).toArray 3 (0,0))):=by
  have e:Lt.laid m 0 x=List.replicate m 0:=by unfold Lt.laid;simp
  rw[e]
  exact hik
 have hx2:w2.cell? ⟨b,0,none⟩=some (.int .i64 x):=by
  have:=(HX.out.later hb2).cell (i:=0) (x:=x) rfl
  exact this
 have ct:=Nu.hid hb2
 clear hrow hg2 hik hb2
 obtain⟨C0,hC0⟩:∃C0,C0=(Lt.laid m 0 x).map (Value.int .i64):=⟨_,rfl⟩
 rw[←hC0] at fX
 obtain⟨q,hq,xg⟩:∃q:Nat,q=min 1 m∧(q=0∨q=1):=⟨min 1 m,rfl,by omega⟩
 obtain⟨X0,kD⟩:∃X0,X0=(List.replicate q x).map (Value.int .i64):=⟨_,rfl⟩
 have HC0:=Nu.hid hC0
 have Tn:=Nu.hid kD
 have HQ:=Nu.hid hq
 have Sv:X0.length=Nat.min 1 m:=by rw[Tn.out];simp;exact HQ.out
 have SL:C0.length=m:=by rw[HC0.out];unfold Lt.laid;simp
 have Pq:=Nu.hid Sv
 have T9:=Nu.hid SL
 have af2:Hid (∀v∈X0,v.oneCell'=true):=fun v hv=>by
  rw[Tn.out] at hv
  obtain⟨y,-,rfl⟩:=aa2.1 hv
  rfl
 have af3:Hid (∀j v,X0[j]? =some v→w2.cell? ((⟨b,0,none⟩:Addr).add j)=some v):=fun j v hj=>by
  rw[Tn.out,aay,aaI] at hj
  by_cases k:j<q
  ·rw[if_pos k] at hj
   cases hj
   have hj0:j=0:=by rcases xg with r|r<;>omega
   subst hj0
   exact hx2
  ·rw[if_neg k] at hj
   cases hj
 have HF0:Hid (0+X0.length≤C0.length):=by show _≤_;rw[Sv,SL,abv];exact Nat.min_le_right _ _
 clear hC0 kD hq Sv SL
 go_wp2_with (refine wpList_copy_splice rfl (.tmp 31) (.tmp 32) 27 27 rfl 3 hu yz _ _ _ _ _ _ rfl rfl w.heap.size 0 C0 3 fX.out X0 Pq.out (fun _=>⟨rfl,_,rfl,af3.out⟩) HF0.out af2.out w.heap.size w ct.out (aad _) ?_;refine aaB ?_)
 refine Nu.hid ?_
 intro w3 Py hb3
 have C3:aq w3 w.heap.size (Lt.laid m q x):=by
  have h3:=Py.out
  have hq:=HQ.out
  rw[HC0.out,Tn.out] at h3
  have e:=Lt.AY m 0 q x (by omega)
  rw[e,abv] at h3
  exact h3
 have Ok:q≤m∧(0<q∨m=0):=by have:=HQ.out;omega
 have Ol:X0.length=q:=by rw[Tn.out];simp
 rw[Ol]
 have dm:=Nu.hid hb3
 have uE:=Nu.hid C3
 have HQM:=Nu.hid Ok
 clear C3 hb3 Ok Ol hx2 xg
 go_wp2
 go_loopw [8] (fun c wr=>∃n:Nat,c= .int .i64 (n:Int)∧n≤m∧(0<n∨m=0)∧aq wr w.heap.size (Lt.laid m n x)∧Below w.heap.size w wr) (fun c _=>m-(intOf c).toNat)
 case atStart=>exact⟨q,rfl,HQM.out.1,HQM.out.2,uE.out,dm.out⟩
 case round=>
  obtain⟨k,rfl,hkm,hk0,hik,hbk⟩:=hrel
  by_cases hlt:k<m
  ·have i1:(k:Int)<(m:Int):=by omega
   have i0:(0:Int)≤(k:Int):=by omega
   obtain⟨Ck,VQ⟩:∃Ck,Ck=(Lt.laid m k x).map (Value.int .i64):=⟨_,rfl⟩
   obtain⟨d,hd⟩:∃d,d=min k (m-k):=⟨_,rfl⟩
   obtain⟨Xk,OC⟩:∃Xk,Xk=(List.replicate d x).map (Value.int .i64):=⟨_,rfl⟩
   have Uf:Hid (wr.heap[w.heap.size]? =some (.cells Ck.toArray 3 (0,0))):=by rw[VQ];exact hik
   have Ge:Hid (Ck.length=m):=by show _=_;rw[VQ];unfold Lt.laid;simp;omega
   have HXL:Hid (Xk.length=d):=by show _=_;rw[OC];simp
   have HXV:Hid (∀v∈Xk,v.oneCell'=true):=fun v hv=>by
    rw[OC] at hv
    obtain⟨y,-,rfl⟩:=aa2.1 hv
    rfl
   have HXC:Hid (∀j v,Xk[j]? =some v→wr.cell? ((⟨w.heap.size,0,none⟩:Addr).add j)=some v):=fun j v hj=>by
    rw[OC,aay,aaI] at hj
    by_cases r:j<d
    ·rw[if_pos r] at hj
     cases hj
     rw[show(⟨w.heap.size,0,none⟩:Addr).add j=⟨w.heap.size,j,none⟩ by unfold Addr.add;simp;omega]
     refine hik.cell (i:=j) ?_
     unfold Lt.laid
     rw[abI (by simp;omega),aaI,if_pos (by omega)]
    ·rw[if_neg r] at hj
     cases hj
   have HXM:Hid (Xk.length=Nat.min k (m-k)):=by show _=_;rw[OC,hd];simp
   have EE:Hid (k+Xk.length≤Ck.length):=by show _≤_;rw[HXL.out,Ge.out];omega
   have HCK:=Nu.hid VQ
   have HXK:=Nu.hid OC
   have HD:=Nu.hid hd
   have xU:Hid (Below w.heap.size w wr.drew):=hbk.drew
   have hne:¬m=k:=by omega
   clear hik hbk VQ OC hd
   go_wp2
   go_region_law (refine step_copy_splice rfl (.tmp 41) (.tmp 44) 27 27 rfl 3 hu yz (some ⟨w.heap.size,k,none⟩) (some ⟨w.heap.size,0,none⟩) (m-k) (m-k) k m (by simp[Act.eval,Act.put]) (by simp[Act.eval,Act.put]) w.heap.size k Ck 3 Uf.out Xk HXM.out (fun _=>⟨rfl,_,rfl,HXC.out⟩) EE.out HXV.out w.heap.size w xU.out (aad _) ?_;intro w4 hg4 hb4;rw[HXL.out])
   have hwr:IntKind.i64.wrap ((k:Int)+(d:Int))=((k+d:Nat):Int):=by rw[aa1];have:=HD.out;omega
   rw[hwr]
   have Cw:=Nu.hid hg4.out
   have gJ:=Nu.hid hb4
   clear hg4 hb4 hwr
   simp only[Act.put,List.getElem_toArray,List.getElem_cons_succ,List.getElem_cons_zero,adu,List.set_cons_succ,List.set_cons_zero]
   go_wp2
   go_roundw
   case rel=>
    refine⟨k+d,rfl,by have:=HD.out;omega,by have:=HD.out;omega,?_,gJ.out⟩
    have h4:=Cw.out
    have e:=Lt.AY m k d x (by have:=HD.out;omega)
    rw[HCK.out,HXK.out,e] at h4
    exact h4
   case measure=>
    have:=HD.out
    simp[intOf]
    omega
  ·obtain rfl:k=m:=by omega
   have Uf:=Nu.hid hik
   have xU:=Nu.hid hbk
   clear hik hbk
   go_wp2
   go_ret
   refine⟨_,rfl,?_,aad _,xU.out⟩
   have h4:=Uf.out
   unfold Lt.laid at h4
   simpa using h4
end
end Go.Proofs.YtdjmnpmdmjclhabGreat
