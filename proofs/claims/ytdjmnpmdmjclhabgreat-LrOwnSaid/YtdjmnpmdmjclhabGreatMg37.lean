import Derived.Test.YtdjmnpmdmjclhabGreatMg04
import Derived.Test.YtdjmnpmdmjclhabGreatMg01
import Derived.Deep.RegionHeld3
import Derived.Lib.SliceRun
namespace Go.Proofs.YtdjmnpmdmjclhabGreat
section
open Go.RowKit
def Cs.iJ (n:Nat) (es:List (Int×Int)) (x:Int):Int:=(Cs.gM n es x).getD 0 (-1)
set_option maxRecDepth 100000 in
set_option maxHeartbeats 4000000 in
theorem Lj (v:Value) (n:Nat) (es:List (Int×Int)) (x:Int) (w:World) (h:cE w v n es):Calls Tryz.prog 103 #[v,.int .i64 x] w fun e w'=>e= .returned (.int .i64 (Cs.iJ n es x))∧∃k,w'=w.drewN k:=by
 have HL:=Nu.hid (uW v n es x w w h (aae _ _))
 clear h
 unfold Cs.iJ
 cases hL:Cs.gM n es x with
 |nil=>
  have jU:Hid (Calls Tryz.prog 115 #[v,.int .i64 x] w fun e w'=>∃ao cap,e= .returned (.slice ao 0 cap)∧∃k,w'=w.drewN k):=HL.out.mono (by
   rintro e w' ⟨ao,cap,h1,_,h3⟩
   rw[hL] at h1
   exact⟨ao,cap,h1,h3⟩)
  clear HL hL
  go_enter Tryz.func103,Tryz.ntmps103
  go_wp2_with (go_at_call 115;refine jU.out.mono ?_;rintro e w1 ⟨ao,cap,rfl,k,rfl⟩)
  go_ret
  exact⟨rfl,k,rfl⟩
 |cons z L=>
  have jU:Hid (Calls Tryz.prog 115 #[v,.int .i64 x] w fun e w'=>∃b o cap k,e= .returned (.slice (some ⟨b,o,none⟩) (L.length+1) cap)∧w.cell? ⟨b,o,none⟩=some (.int .i64 z)∧w'=w.drewN k):=HL.out.mono (by
   rintro e w' ⟨ao,cap,h1,h2,k,h3⟩
   rw[hL] at h1 h2
   obtain⟨b,o,rfl,h4⟩:=h2 0 z rfl
   exact⟨b,o,cap,k,h1,h4,h3⟩)
  have hne:((L.length:Int)+1==0)=false:=by simp;omega
  clear HL hL
  go_enter Tryz.func103,Tryz.ntmps103
  go_wp2_with (go_at_call 115;refine jU.out.mono ?_;rintro e w1 ⟨b,o,cap,k,rfl,hc,rfl⟩)
  go_ret
  exact⟨rfl,k,rfl⟩
def Cs.qg (n:Nat) (es:List (Int×Int)) (x:Int):Int:=
 if 0≤x∧x<2*(es.length:Int) then (Cs.gM n es (Cs.fr es x.toNat)).getD ((Cs.out es (Cs.fr es x.toNat) x.toNat).length+1) (-1) else -1
theorem Cs.LH {n:Nat} {es:List (Int×Int)} {x:Int} (h:¬(0≤x∧x<2*(es.length:Int))):Cs.qg n es x= -1:=by unfold Cs.qg;rw[if_neg h]
set_option maxRecDepth 100000 in
set_option maxHeartbeats 4000000 in
theorem LG (v:Value) (n:Nat) (es:List (Int×Int)) (x:Int) (w:World) (h:cE w v n es):Calls Tryz.prog 77 #[v,.int .i64 x] w fun e w'=>e= .returned (.int .i64 (Cs.qg n es x))∧∃k,w'=w.drewN k:=by
 have HV:=Nu.hid (pX v n es x w h)
 have HF:=Nu.hid (kF v n es x w h)
 by_cases hx:0≤x∧x<2*(es.length:Int)
 ·rw[decide_eq_true hx] at HV
  rcases h with ⟨rfl,rfl,rfl⟩|⟨B,p,rfl,hv,gd,gs,gh,gp,gt,h⟩
  ·simp at hx;omega
  ·obtain⟨i,rfl⟩:∃u:Nat,x=(u:Int):=⟨x.toNat,by omega⟩
   have hi:i<2*es.length:=by omega
   have hlt:∀i,i<2*es.length→Cs.fr es i<n:=fun i hi=>(Cs.bH hv hi).1
   have nT:=hlt i hi
   rw[Cs.jP hi] at HF
   have ea:Cs.qg n es i=(Cs.gM n es (Cs.fr es i)).getD ((Cs.out es (Cs.fr es i) i).length+1) (-1):=by
    unfold Cs.qg
    rw[if_pos hx,aaF]
   rw[ea]
   have hle:=Cs.Ae hlt nT
   have pT:=Cs.rX (es:=es) (k:=2*es.length) hi rfl
   have cj:=hv.few
   have c0:=h.blk.c0
   have c1:=h.blk.c1
   have c2:=h.blk.c2
   have c3:=h.blk.c3
   have d0:=h.deg _ nT
   have d1:=h.start _ nT
   have d3:=h.place i hi
   have pU:=h.half
   have hpos:Cs.pos es (2*es.length) i=Cs.st es (2*es.length) (Cs.fr es i)+(Cs.out es (Cs.fr es i) i).length:=rfl
   rw[hpos] at d3
   obtain⟨j,hj⟩:∃j,(Cs.out es (Cs.fr es i) i).length=j:=⟨_,rfl⟩
   rw[hj] at d3 pT ⊢
   have fM:∀(q:Nat),(Cs.out es (Cs.fr es i) (2*es.length))[j+1]? =some q→w.cell? ⟨gh,Cs.st es (2*es.length) (Cs.fr es i)+(j+1),none⟩=some (.int .i64 (q:Int)):=fun q hq=>by
    obtain⟨h1,h2,h3⟩:=Cs.nD hq
    have:=pU q h1
    unfold Cs.pos at this
    rw[h2,h3] at this
    exact this
   unfold Cs.gM
   rw[aai,aay,Cs.oA nT]
   obtain⟨f,hf⟩:∃f,Cs.fr es i=f:=⟨_,rfl⟩
   rw[hf] at HF hle pT d0 d1 d3 fM nT ⊢
   obtain⟨O,hO⟩:∃O,Cs.out es f (2*es.length)=O:=⟨_,rfl⟩
   rw[hO] at hle pT d0 fM ⊢
   obtain⟨s,hs⟩:∃s,Cs.st es (2*es.length) f=s:=⟨_,rfl⟩
   rw[hs] at hle d1 d3 fM
   have z0:(0:Int)≤(i:Int):=by omega
   have z1:(i:Int)<2*(es.length:Int):=by omega
   have z2:(0:Int)≤(f:Int):=by omega
   have z3:(f:Int)<(n:Int):=by omega
   clear h hv hlt pU hf hO hs hj ea hpos hx
   by_cases dz:j+1=O.length
   ·have hge:O[j+1]? =none:=aat (by omega)
    rw[hge]
    have he:((s:Int)+(j:Int)+1==(s:Int)+(O.length:Int))=true:=by simp;omega
    clear fM hge
    go_enter Tryz.func77,Tryz.ntmps77
    go_wp2_with (first|(go_at_call 105;refine HV.out.mono ?_;rintro e w1 ⟨rfl,rfl⟩)|(go_at_call 102;refine HF.out.mono ?_;rintro e w1 ⟨rfl,rfl⟩))
    go_quiet (fail)
    go_wp2
    go_ret
    exact⟨rfl,_,rfl⟩
   ·obtain⟨q,hq⟩:∃q,O[j+1]? =some q:=⟨_,aac (by omega)⟩
    have hc:=fM q hq
    rw[hq]
    have he:((s:Int)+(j:Int)+1==(s:Int)+(O.length:Int))=false:=by simp;omega
    have z4:(0:Int)≤(s:Int)+(j:Int)+1:=by omega
    have z5:(s:Int)+(j:Int)+1<2*(es.length:Int):=by omega
    have z6:((s:Int)+(j:Int)+1).toNat=s+(j+1):=by omega
    clear fM hq
    go_enter Tryz.func77,Tryz.ntmps77
    go_wp2_with (first|(go_at_call 105;refine HV.out.mono ?_;rintro e w1 ⟨rfl,rfl⟩)|(go_at_call 102;refine HF.out.mono ?_;rintro e w1 ⟨rfl,rfl⟩))
    go_quiet (fail)
    go_wp2
    go_ret
    exact⟨rfl,_,rfl⟩
 ·rw[decide_eq_false hx] at HV
  rw[Cs.LH hx]
  clear h hx HF
  go_enter Tryz.func77,Tryz.ntmps77
  go_wp2_with (go_at_call 105;refine HV.out.mono ?_;rintro e w1 ⟨rfl,rfl⟩)
  go_ret
  exact⟨rfl,0,rfl⟩
end
section
open Go.RowKit
abbrev zL (av:Value) (gp gh gr n m:Nat) (ov sv:Value):Array Value:= #[av,.slice (some ⟨gp,0,none⟩) n n,.slice (some ⟨gh,0,none⟩) n n,ov,.slice (some ⟨gr,0,none⟩) m m,sv]
structure aL (w0 w:World) (p gp gh gr:Nat) (av ov sv:Value) (n m:Nat) (s:Df.St) (K:List Int):Prop where
 aI:Below w0.heap.size w0 w
 blk:w.heap[p]? =some (.cells (zL av gp gh gr n m ov sv) 105 (0,0))
 ip:aq w gp s.par
 ih:aq w gh s.az
 ir:aq w gr s.aJ
 ow:aP w w0.heap.size ov s.ord
 sw:aP w w0.heap.size sv K
 lo:w0.heap.size≤p∧w0.heap.size≤gp∧w0.heap.size≤gh∧w0.heap.size≤gr
 ne:p≠gp∧p≠gh∧p≠gr∧gp≠gh∧gp≠gr∧gh≠gr
 fD:ov.ownBlock≠some p∧ov.ownBlock≠some gp∧ov.ownBlock≠some gh∧ov.ownBlock≠some gr
 sf:sv.ownBlock≠some p∧sv.ownBlock≠some gp∧sv.ownBlock≠some gh∧sv.ownBlock≠some gr
 os:∀b,ov.ownBlock=some b→sv.ownBlock≠some b
section
variable {w0 w w':World} {p gp gh gr:Nat} {av ov sv:Value} {n m:Nat} {s:Df.St} {K:List Int}
theorem aL.c0 (h:aL w0 w p gp gh gr av ov sv n m s K):w.cell? ⟨p,0,none⟩=some av:=by simp[World.cell?,h.blk]
theorem aL.c1 (h:aL w0 w p gp gh gr av ov sv n m s K):w.cell? ⟨p,1,none⟩=some (.slice (some ⟨gp,0,none⟩) n n):=by simp[World.cell?,h.blk]
theorem aL.c2 (h:aL w0 w p gp gh gr av ov sv n m s K):w.cell? ⟨p,2,none⟩=some (.slice (some ⟨gh,0,none⟩) n n):=by simp[World.cell?,h.blk]
theorem aL.c3 (h:aL w0 w p gp gh gr av ov sv n m s K):w.cell? ⟨p,3,none⟩=some ov:=by simp[World.cell?,h.blk]
theorem aL.c4 (h:aL w0 w p gp gh gr av ov sv n m s K):w.cell? ⟨p,4,none⟩=some (.slice (some ⟨gr,0,none⟩) m m):=by simp[World.cell?,h.blk]
theorem aL.lt (h:aL w0 w p gp gh gr av ov sv n m s K):p<w.heap.size:=lt_of_block h.blk
theorem aL.later (h:aL w0 w p gp gh gr av ov sv n m s K) (hb:Below w.heap.size w w'):aL w0 w' p gp gh gr av ov sv n m s K:=
 ⟨h.aI.trans (hb.mono h.aI.size),(hb.block p h.lt).trans h.blk,h.ip.later hb,h.ih.later hb,h.ir.later hb,h.ow.later hb,h.sw.later hb,h.lo,h.ne,h.fD,h.sf,h.os⟩
theorem aL.stk (h:aL w0 w p gp gh gr av ov sv n m s K):iw w p 5 (zL av gp gh gr n m ov sv) 105 w0.heap.size sv K:=⟨h.blk,rfl,h.sw,h.sf.1⟩
theorem aL.uN (h:aL w0 w p gp gh gr av ov sv n m s K) (v:Nat) (x:Int):aL w0 (w.setCell ⟨gp,v,none⟩ (.int .i64 x)) p gp gh gr av ov sv n m { s with par:=s.par.set v x } K:=
 ⟨h.aI.setCell (p:=⟨gp,v,none⟩) h.lo.2.1 _,(cN h.ne.1 _).trans h.blk,h.ip.set v x,h.ih.aK (aaR h.ne.2.2.2.1) _,h.ir.aK (aaR h.ne.2.2.2.2.1) _,h.ow.aK h.fD.2.1 _,h.sw.aK h.sf.2.1 _,h.lo,h.ne,h.fD,h.sf,h.os⟩
theorem aL.EW (h:aL w0 w p gp gh gr av ov sv n m s K) (v:Nat) (x:Int):aL w0 (w.setCell ⟨gh,v,none⟩ (.int .i64 x)) p gp gh gr av ov sv n m { s with az:=s.az.set v x } K:=
 ⟨h.aI.setCell (p:=⟨gh,v,none⟩) h.lo.2.2.1 _,(cN h.ne.2.1 _).trans h.blk,h.ip.aK h.ne.2.2.2.1 _,h.ih.set v x,h.ir.aK (aaR h.ne.2.2.2.2.2) _,h.ow.aK h.fD.2.2.1 _,h.sw.aK h.sf.2.2.1 _,h.lo,h.ne,h.fD,h.sf,h.os⟩
theorem aL.rV (h:aL w0 w p gp gh gr av ov sv n m s K) (v:Nat) (x:Int):aL w0 (w.setCell ⟨gr,v,none⟩ (.int .i64 x)) p gp gh gr av ov sv n m { s with aJ:=s.aJ.set v x } K:=
 ⟨h.aI.setCell (p:=⟨gr,v,none⟩) h.lo.2.2.2 _,(cN h.ne.2.2.1 _).trans h.blk,h.ip.aK h.ne.2.2.2.2.1 _,h.ih.aK h.ne.2.2.2.2.2 _,h.ir.set v x,h.ow.aK h.fD.2.2.2 _,h.sw.aK h.sf.2.2.2 _,h.lo,h.ne,h.fD,h.sf,h.os⟩
theorem aL.E0 {w1:World} {dR:Value} {x:Int} {tmp:Obj} (h:aL w0 w p gp gh gr av ov sv n m s K) (hown:aP w1 w0.heap.size dR (s.ord++[x])) (hg:(w.alloc tmp).grownBy w1 ov.ownBlock) (hat:dR.ownBlock=ov.ownBlock∨dR.ownBlock=some (w.heap.size+1)):
 aL w0 (w1.setCell ⟨p,3,none⟩ dR) p gp gh gr av dR sv n m { s with ord:=s.ord++[x] } K∧w1.cell? ⟨p,3,none⟩=some ov∧w1.frozen? ⟨p,3,none⟩=false∧w1.heap[p]? =w.heap[p]? :=by
 have keep:∀b,b<w.heap.size→ov.ownBlock≠some b→w1.heap[b]? =w.heap[b]? :=fun b hb hne=>by
  rw[hg.block b (by rw[aaM];omega) (fun e=>hne e.symm)]
  exact aap w tmp b hb
 have hp:=keep p h.lt h.fD.1
 have gQ:=hp.trans h.blk
 have hsz:w.heap.size≤w1.heap.size:=by
  have:=hg.size
  rw[aaM] at this
  omega
 have hB:=h.aI.size
 have hnew:∀b,b<w.heap.size→ov.ownBlock≠some b→dR.ownBlock≠some b:=fun b hb hne e=>by
  rcases hat with e1|e1
  ·exact hne (e1.symm.trans e)
  ·rw[e1] at e
   have:=aak e
   omega
 have RJ:=hnew p h.lt h.fD.1
 refine⟨⟨?_,?_,?_,?_,?_,?_,?_,h.lo,h.ne,⟨RJ,hnew gp h.ip.lt h.fD.2.1,hnew gh h.ih.lt h.fD.2.2.1,hnew gr h.ir.lt h.fD.2.2.2⟩,h.sf,fun b hb hs=> ?_⟩,by simp[World.cell?,gQ],by simp[World.frozen?,gQ],hp⟩
 ·have hb1:Below w0.heap.size w w1:=⟨hg.os,hg.tape,hg.output,hsz,fun k hk=>keep k (by omega) (fun e=>by have:=(h.ow.lt e).1;omega)⟩
  exact(h.aI.trans hb1).setCell (p:=⟨p,3,none⟩) h.lo.1 _
 ·rw[heap_setCell_same w1 p 3 _ _ _ gQ]
  rfl
 ·exact aq.aK ((keep gp h.ip.lt h.fD.2.1).trans h.ip) (aaR h.ne.1) _
 ·exact aq.aK ((keep gh h.ih.lt h.fD.2.2.1).trans h.ih) (aaR h.ne.2.1) _
 ·exact aq.aK ((keep gr h.ir.lt h.fD.2.2.2).trans h.ir) (aaR h.ne.2.2.1) _
 ·exact hown.aK RJ _
 ·exact aP.aK (h.sw.same fun b hb hl=>keep b hl fun e=>h.os b e hb) h.sf.1 _
 ·exact hnew b (h.sw.lt hs).2 (fun e=>h.os b e hs) hb
theorem aL.pushed {e:Ending} {K':List Int} (h:aL w0 w p gp gh gr av ov sv n m s K) (hp:sI p 5 (zL av gp gh gr n m ov sv) 105 w0.heap.size sv K' w e w'):∃e8,aL w0 w' p gp gh gr av ov e8 n m s K':=by
 obtain⟨_,v',hst,hat,hw⟩:=hp
 have keep:∀b,b<w.heap.size→b≠p→sv.ownBlock≠some b→w'.heap[b]? =w.heap[b]? :=fun b hb h1 h2=>hw.block b hb (fun e=>e.elim h1 h2)
 have hnew:∀b,b<w.heap.size→sv.ownBlock≠some b→v'.ownBlock≠some b:=fun b hb hne e=>by
  rcases hat with e1|⟨g,e1,hg⟩
  ·exact hne (e1.symm.trans e)
  ·rw[e1] at e
   have:=aak e
   omega
 have hB:=h.aI.size
 refine⟨v',⟨h.aI.trans (hw.below hB fun k hk=> ?_),hst.blk,(keep gp h.ip.lt (aaR h.ne.1) h.sf.2.1).trans h.ip,(keep gh h.ih.lt (aaR h.ne.2.1) h.sf.2.2.1).trans h.ih,(keep gr h.ir.lt (aaR h.ne.2.2.1) h.sf.2.2.2).trans h.ir,
  h.ow.same fun b hb hl=>keep b hl (fun e=>h.fD.1 (by rw[hb,e])) (h.os b hb),hst.own,h.lo,h.ne,h.fD,⟨hst.far,hnew gp h.ip.lt h.sf.2.1,hnew gh h.ih.lt h.sf.2.2.1,hnew gr h.ir.lt h.sf.2.2.2⟩,fun b hb=>hnew b (h.ow.lt hb).2 (h.os b hb)⟩⟩
 rcases hk with rfl|hk
 ·exact h.lo.1
 ·exact(h.sw.lt hk).1
theorem aL.popped {x:Int} {e:Ending} {K':List Int} (h:aL w0 w p gp gh gr av ov sv n m s K) (hp:vN p 5 (zL av gp gh gr n m ov sv) 105 w0.heap.size sv K' x w e w'):∃e8,aL w0 w' p gp gh gr av ov e8 n m s K':=by
 obtain⟨_,v',hst,hat,hw⟩:=hp
 have keep:∀b,b<w.heap.size→b≠p→w'.heap[b]? =w.heap[b]? :=fun b hb h1=>hw.block b hb h1
 have hB:=h.aI.size
 refine⟨v',⟨h.aI.trans (hw.below hB fun k hk=>by subst hk;exact h.lo.1),hst.blk,(keep gp h.ip.lt (aaR h.ne.1)).trans h.ip,(keep gh h.ih.lt (aaR h.ne.2.1)).trans h.ih,(keep gr h.ir.lt (aaR h.ne.2.2.1)).trans h.ir,
  h.ow.same fun b hb hl=>keep b hl (fun e=>h.fD.1 (by rw[hb,e])),hst.own,h.lo,h.ne,h.fD,by rw[hat];exact h.sf,by rw[hat];exact h.os⟩⟩
end
end
section
open Go.RowKit
section
variable {w0 w:World} {p gp gh gr:Nat} {av ov sv:Value} {n:Nat} {es:List (Int×Int)} {s:Df.St} {K:List Int}
def xI (w0:World) (p gp gh gr:Nat) (av:Value) (n:Nat) (es:List (Int×Int)) (s:Df.St) (K:List Int) (e:Ending) (w':World):Prop:=
 e= .returned (.tuple #[])∧∃ov sv,aL w0 w' p gp gh gr av ov sv n es.length s K
set_option maxRecDepth 100000 in
set_option maxHeartbeats 4000000 in
theorem pF (v:Nat) (h:aL w0 w p gp gh gr av ov sv n es.length s K) (hl:s.az.length=n) (hv:v<n):
 Calls Tryz.prog 47 #[.pointer (some ⟨p,0,none⟩),.int .i64 (v:Int)] w fun e w'=>e= .returned (.bool (s.height v != -1))∧w'=w:=by
 have c2:=h.c2
 have d0:=h.ih.cell (cQ (-1) (by omega:v<s.az.length))
 have e0:(0:Int)≤(v:Int):=by omega
 have e1:(v:Int)<(n:Int):=by omega
 clear h
 obtain⟨x,hx⟩:∃x,s.az.getD v (-1)=x:=⟨_,rfl⟩
 rw[hx] at d0
 have hx':s.height v=x:=hx
 rw[hx']
 clear hx hx'
 go_enter Tryz.func47,Tryz.ntmps47
 go_wp2
 go_ret
 exact⟨rfl,rfl⟩
set_option maxRecDepth 100000 in
set_option maxHeartbeats 4000000 in
theorem Gl (h:Nat) (hW:aL w0 w p gp gh gr av ov sv n es.length s K) (hl:s.aJ.length=es.length) (hh:h<2*es.length) (hm:es.length≤4194304):
 Calls Tryz.prog 78 #[.pointer (some ⟨p,0,none⟩),.int .i64 (h:Int)] w fun e w'=>e= .returned (.bool (s.dir (h/2) != -1))∧w'=w:=by
 have c4:=hW.c4
 obtain⟨jh,mP⟩:∃jh,h/2=jh:=⟨_,rfl⟩
 have d0:=hW.ir.cell (cQ (-1) (by omega:jh<s.aJ.length))
 rw[mP]
 have xd:(h:Int).tdiv 2=(jh:Int):=by rw[aaZ (by omega)];omega
 have A7:(h:Int)/2=(jh:Int):=by omega
 have e0:(0:Int)≤(jh:Int):=by omega
 have e1:(jh:Int)<(es.length:Int):=by omega
 have e2:(0:Int)≤(h:Int):=by omega
 obtain⟨x,hx⟩:∃x,s.aJ.getD jh (-1)=x:=⟨_,rfl⟩
 rw[hx] at d0
 have hx':s.dir jh=x:=hx
 rw[hx']
 clear hW hx hx'
 go_enter Tryz.func78,Tryz.ntmps78
 go_wp2
 go_ret
 exact⟨rfl,rfl⟩
set_option maxRecDepth 100000 in
set_option maxHeartbeats 8000000 in
theorem Ar (v:Nat) (x y:Int) (aW:cE w0 av n es) (h:aL w0 w p gp gh gr av ov sv n es.length s K) (hp:s.par.length=n) (hl:s.az.length=n) (hv:v<n) (ho:s.ord.length≤17592186044000) (hK:K.length≤17592186044000):
 Calls Tryz.prog 73 #[.pointer (some ⟨p,0,none⟩),.int .i64 (v:Int),.int .i64 x,.int .i64 y] w (xI w0 p gp gh gr av n es (s.reach v x y) (K++[Cs.iJ n es v])):=by
 obtain⟨i0,hi,hz0,hz1,hz2⟩:=info_parts Tryz.bO
 have h1:=h.uN v x
 have h2:=h1.EW v y
 have c1:=h.c1
 have d1:=h.ip.cell (cQ (-1) (by omega:v<s.par.length))
 have f1:=h.ip.free v
 have c2:=h1.c2
 have d2:=h1.ih.cell (cQ (-1) (by dsimp only;omega:v<{ s with par:=s.par.set v x }.az.length))
 have f2:=h1.ih.free v
 have c3:=h2.c3
 have e0:(0:Int)≤(v:Int):=by omega
 have e1:(v:Int)<(n:Int):=by omega
 obtain⟨w2,hw2⟩:∃w2,w2=(w.setCell ⟨gp,v,none⟩ (.int .i64 x)).setCell ⟨gh,v,none⟩ (.int .i64 y):=⟨_,rfl⟩
 rw[←hw2] at h2
 have jD:=Nu.hid hw2
 have kC:∃q,av= .pointer q:=by
  rcases aW with ⟨h,_⟩|⟨_,p,h,_⟩
  ·exact⟨_,h⟩
  ·exact⟨_,h⟩
 obtain⟨q,rfl⟩:=kC
 have hrow:w2.ownsRow w0.heap.size 3 1 ov s.ord.length (s.ord.map (Value.int .i64)):=h2.ow
 have j8:=Nu.hid hrow
 have H2:=Nu.hid h2
 have hB:=h2.aI.size
 have hlt2:=h2.lt
 have cT:=Nu.hid aW
 clear h h1 h2 hw2 hrow aW
 go_enter Tryz.func73,Tryz.ntmps73
 go_wp2_with (at_builtin;rw[←jD.out];refine aaB ?_)
 refine Nu.hid ?_
 have QE:w2.heap.size=w.heap.size:=by rw[jD.out];simp
 refine wpList_append_own_at _ rfl _ _ 27 rfl w0.heap.size 3 i0 (.int .i64 0) 1 8 Tryz.underlying27 hi hz0 hz1 hz2 rfl (by decide) ov _ _ rfl (abo j8.out _) ⟨w.heap.size,0,none⟩ 1 1 [.int .i64 (v:Int)] rfl rfl (by rw[←QE];exact cell_one_new _ _ _) (by simp[Value.oneCell']) (by unfold maxLen;omega) (by omega) (by simp;omega) ?_
 intro dR w3 hown hg _ hat
 have hz:aP w3 w0.heap.size dR (s.ord++[(v:Int)]):=by
  unfold aP
  rw[aaA,abl]
  exact hown
 obtain⟨h3,c5,f5,_⟩:=H2.out.E0 hz hg (by simpa using hat)
 obtain⟨g3,jZ,hv3⟩:=iB hown
 subst hv3
 obtain⟨w4,hw4⟩:∃w4,w4=w3.setCell ⟨p,3,none⟩ (.slice (some ⟨g3,0,none⟩) (s.ord.length+1) jZ):=⟨_,rfl⟩
 rw[←hw4] at h3
 have om:=Nu.hid hw4
 have H3:=Nu.hid h3
 clear hown hg hat hz hw4 h3 c1 c2 c3 d1 d2 f1 f2 j8 H2
 go_wp2_with fail
 rw[←om.out]
 have c6:=H3.out.c0
 have HF:Hid (∀V,Below w4.heap.size w4 V→Calls Tryz.prog 103 #[.pointer q,.int .i64 (v:Int)] V fun e V'=>e= .returned (.int .i64 (Cs.iJ n es v))∧Below V.heap.size V V'):=fun V hV=>(Lj _ n es v V (cT.out.later (H3.out.aI.trans (hV.mono H3.out.aI.size)))).mono (by
  rintro e V' ⟨rfl,k,rfl⟩
  exact⟨rfl,below_drewN (aae _ _) k⟩)
 have HP:Hid (∀V,Below w4.heap.size w4 V→Calls Tryz.prog 76 #[.pointer (some ⟨p,5,none⟩),.int .i64 (Cs.iJ n es v)] V fun e V'=>e= .returned (.tuple #[])∧∃ov sv,aL w0 V' p gp gh gr (.pointer q) ov sv n es.length (s.reach v x y) (K++[Cs.iJ n es v])):=fun V hV=>by
  have hW:=H3.out.later hV
  refine(wQ p 5 _ _ _ _ K (Cs.iJ n es v) V hW.stk hW.aI.size hK).mono ?_
  intro e V' hp
  obtain⟨e8,h⟩:=hW.pushed hp
  exact⟨hp.1,_,e8,h⟩
 have hbd:Below w4.heap.size w4 w4.drew:=(aae _ _).drew
 have hS:∀V,Below w4.heap.size w4 V→(V.cell? ⟨p,0,none⟩=some (.pointer q)):=fun V hV=>(H3.out.later hV).c0
 have HS:=Nu.hid hS
 clear c6 hS c5 f5
 go_region_held3 (fun V=>V.cell? ⟨p,0,none⟩=some (.pointer q))
  (first|exact HS.out _ (by first|assumption|exact hbd)|(obtain⟨_,_,hw⟩:= ‹∃ov sv,aL _ _ _ _ _ _ _ ov sv _ _ _ _›;exact hw.c0))
  ((first
    |(go_at_call 103;refine(HF.out _ (by first|assumption|exact hbd)).mono ?_;rintro e V1 ⟨rfl,wX⟩;have hb1:Below w4.heap.size w4 V1:=acr (by first|assumption|exact hbd) (wX.mono (acp (by first|assumption|exact hbd))))
    |(go_at_call 76;refine(HP.out _ (by first|assumption|exact hbd)).mono ?_;rintro e V2 ⟨rfl,hv2⟩)))
 all_goals
  go_wp2
  go_end0
  exact⟨rfl,hv2⟩
end
end
section
open Go.RowKit
section
variable {w0 w:World} {p gp gh gr:Nat} {av ov sv:Value} {n r:Nat} {es:List (Int×Int)} {s:Df.St} {K:List Int}
set_option maxRecDepth 100000 in
set_option maxHeartbeats 8000000 in
theorem JH (h:Nat) (aW:cE w0 av n es) (hW:aL w0 w p gp gh gr av ov sv n es.length s K) (b:Df.Bd n es r s) (hh:h<2*es.length) (hv:s.height (Cs.to es h)≠-1):
 Calls Tryz.prog 79 #[.pointer (some ⟨p,0,none⟩),.int .i64 (h:Int)] w (xI w0 p gp gh gr av n es (s.mark h) K):=by
 have hval:=aW.val hh
 obtain⟨C8,mh⟩:=aW.bounds
 have ht:=(Cs.bH hval hh).2
 obtain⟨jh,mP⟩:∃jh,h/2=jh:=⟨_,rfl⟩
 have c4:=hW.c4
 have d4:=hW.ir.cell (cQ (-1) (by rw[b.lo];omega:jh<s.aJ.length))
 have f4:=hW.ir.free jh
 have h1:=hW.rV jh (h:Int)
 have hm:s.mark h={ s with aJ:=s.aJ.set jh (h:Int) }:=by unfold Df.St.mark;rw[mP]
 rw[←hm] at h1
 have xd:(h:Int).tdiv 2=(jh:Int):=by rw[aaZ (by omega)];omega
 have A7:(h:Int)/2=(jh:Int):=by omega
 have e0:(0:Int)≤(jh:Int):=by omega
 have e1:(jh:Int)<(es.length:Int):=by omega
 have e2:(0:Int)≤(h:Int):=by omega
 obtain⟨w1,hw1⟩:∃w1,w1=w.setCell ⟨gr,jh,none⟩ (.int .i64 (h:Int)):=⟨_,rfl⟩
 rw[←hw1] at h1
 have HT:=l7 av n es h w1 (aW.later h1.aI)
 rw[Cs.kL hh] at HT
 have HR:=pF (Cs.to es h) h1 b.lh ht
 have hr:((s.mark h).height (Cs.to es h) != -1)=true:=by
  show(s.height (Cs.to es h) != -1)=true
  simpa using hv
 rw[hr] at HR
 have hc0:=h1.c0
 have jE:=Nu.hid hw1
 have H1:=Nu.hid h1
 have Ww:=Nu.hid HT
 have WD:=Nu.hid HR
 clear hval hv hm h1 hw1 HT HR hr hW aW b
 rw[jE.out] at hc0
 go_enter Tryz.func79,Tryz.ntmps79
 go_wp2_with (first|(go_at_call 92;rw[←jE.out];refine Ww.out.mono ?_;rintro e V ⟨rfl,rfl⟩)|(go_at_call 47;refine WD.out.mono ?_;rintro e V ⟨rfl,rfl⟩))
 go_end0
 exact⟨rfl,_,_,H1.out⟩
set_option maxRecDepth 100000 in
set_option maxHeartbeats 8000000 in
theorem JF (h:Nat) (aW:cE w0 av n es) (hW:aL w0 w p gp gh gr av ov sv n es.length s K) (b:Df.Bd n es r s) (hh:h<2*es.length) (hv:s.height (Cs.to es h)= -1) (ho:s.ord.length≤17592186044000) (hK:K.length≤17592186044000):
 Calls Tryz.prog 79 #[.pointer (some ⟨p,0,none⟩),.int .i64 (h:Int)] w (xI w0 p gp gh gr av n es (s.go es h) (K++[Cs.iJ n es (Cs.to es h)])):=by
 have hval:=aW.val hh
 obtain⟨C8,mh⟩:=aW.bounds
 obtain⟨hf,ht⟩:=Cs.bH hval hh
 have hne:=Cs.OH hval hh
 obtain⟨jh,mP⟩:∃jh,h/2=jh:=⟨_,rfl⟩
 have c4:=hW.c4
 have d4:=hW.ir.cell (cQ (-1) (by rw[b.lo];omega:jh<s.aJ.length))
 have f4:=hW.ir.free jh
 have h1:=hW.rV jh (h:Int)
 have hm:s.mark h={ s with aJ:=s.aJ.set jh (h:Int) }:=by unfold Df.St.mark;rw[mP]
 rw[←hm] at h1
 have xd:(h:Int).tdiv 2=(jh:Int):=by rw[aaZ (by omega)];omega
 have A7:(h:Int)/2=(jh:Int):=by omega
 have e0:(0:Int)≤(jh:Int):=by omega
 have e1:(jh:Int)<(es.length:Int):=by omega
 have e2:(0:Int)≤(h:Int):=by omega
 obtain⟨w1,hw1⟩:∃w1,w1=w.setCell ⟨gr,jh,none⟩ (.int .i64 (h:Int)):=⟨_,rfl⟩
 rw[←hw1] at h1
 have HT:=l7 av n es h w1 (aW.later h1.aI)
 rw[Cs.kL hh] at HT
 have HR:=pF (Cs.to es h) h1 b.lh ht
 have hr:((s.mark h).height (Cs.to es h) != -1)=false:=by
  show(s.height (Cs.to es h) != -1)=false
  simpa using hv
 rw[hr] at HR
 have hc0:=h1.c0
 have hhb:=b.hh _ hf
 have hbh:b.lh=b.lh:=rfl
 have jE:=Nu.hid hw1
 have H1:=Nu.hid h1
 have Ww:=Nu.hid HT
 have WD:=Nu.hid HR
 have kC:∃q,av= .pointer q:=by
  rcases aW with ⟨h,_⟩|⟨_,p,h,_⟩
  ·exact⟨_,h⟩
  ·exact⟨_,h⟩
 obtain⟨q,rfl⟩:=kC
 obtain⟨x,hx⟩:∃x,s.height (Cs.fr es h)=x:=⟨_,rfl⟩
 have hgo:s.go es h=(s.mark h).reach (Cs.to es h) h (x+1):=by unfold Df.St.go;rw[hx]
 rw[hgo]
 rw[hx] at hhb
 have HF:Hid (∀V,Below w1.heap.size w1 V→Calls Tryz.prog 102 #[.pointer q,.int .i64 (h:Int)] V fun e V'=>e= .returned (.int .i64 (Cs.fr es h:Int))∧V'=V):=fun V hV=>by
  have:=kF _ n es h V (aW.later (H1.out.aI.trans (hV.mono H1.out.aI.size)))
  rw[Cs.jP hh] at this
  exact this
 have hS:∀V (s':Df.St) ov sv K',aL w0 V p gp gh gr (.pointer q) ov sv n es.length s' K'→s'.az.length=n→s'.height (Cs.fr es h)=x→(V.cell? ⟨p,2,none⟩=some (.slice (some ⟨gh,0,none⟩) n n)∧V.cell? ⟨p,0,none⟩=some (.pointer q)∧V.cell? ⟨gh,Cs.fr es h,none⟩=some (.int .i64 x)):=fun V s' ov sv K' hw hl hx=>by
  refine⟨hw.c2,hw.c0,?_⟩
  have:=hw.ih.cell (cQ (-1) (by omega:Cs.fr es h<s'.az.length))
  rw[this]
  exact congrArg (fun z=>some (Value.int .i64 z)) hx
 have HP:Hid (∀V,Below w1.heap.size w1 V→Calls Tryz.prog 73 #[.pointer (some ⟨p,0,none⟩),.int .i64 (Cs.to es h:Int),.int .i64 (h:Int),.int .i64 (x+1)] V fun e V'=>e= .returned (.tuple #[])∧(∃ov sv,aL w0 V' p gp gh gr (.pointer q) ov sv n es.length ((s.mark h).reach (Cs.to es h) h (x+1)) (K++[Cs.iJ n es (Cs.to es h)]))∧(V'.cell? ⟨p,2,none⟩=some (.slice (some ⟨gh,0,none⟩) n n)∧V'.cell? ⟨p,0,none⟩=some (.pointer q)∧V'.cell? ⟨gh,Cs.fr es h,none⟩=some (.int .i64 x))):=fun V hV=>by
  refine(Ar (Cs.to es h) h (x+1) aW (H1.out.later hV) b.lp b.lh ht ho hK).mono ?_
  rintro e V' ⟨he,dR,e8,hw⟩
  refine⟨he,⟨dR,e8,hw⟩,hS V' _ dR e8 _ hw ?_ ?_⟩
  ·show(s.az.set _ _).length=n
   rw[aaT]
   exact b.lh
  ·show(s.az.set _ _).getD _ _=x
   rw[aai,aaq,if_neg (fun e=>hne e.symm),←aai]
   exact hx
 have HS:Hid (∀V,Below w1.heap.size w1 V→(V.cell? ⟨p,2,none⟩=some (.slice (some ⟨gh,0,none⟩) n n)∧V.cell? ⟨p,0,none⟩=some (.pointer q)∧V.cell? ⟨gh,Cs.fr es h,none⟩=some (.int .i64 x))):=fun V hV=>hS V _ _ _ _ (H1.out.later hV) b.lh hx
 obtain⟨f,hff⟩:∃f,Cs.fr es h=f:=⟨_,rfl⟩
 obtain⟨t,CY⟩:∃t,Cs.to es h=t:=⟨_,rfl⟩
 rw[hff] at HF HS HP hf
 rw[CY] at Ww WD HP ⊢
 have i0:(0:Int)≤(f:Int):=by omega
 have i1:(f:Int)<(n:Int):=by omega
 have hbd:Below w1.heap.size w1 w1.drew:=(aae _ _).drew
 have hxw:IntKind.i64.wrap (x+1)=x+1:=by rw[aa1];omega
 clear hval hv hm h1 hw1 HT HR hr hW aW b hgo hS hx hne hff CY hbh
 rw[jE.out] at hc0
 go_enter Tryz.func79,Tryz.ntmps79
 go_wp2_with (first|(go_at_call 92;rw[←jE.out];refine Ww.out.mono ?_;rintro e V ⟨rfl,rfl⟩)|(go_at_call 47;refine WD.out.mono ?_;rintro e V ⟨rfl,rfl⟩))
 go_region_held3 (fun V=>V.cell? ⟨p,2,none⟩=some (.slice (some ⟨gh,0,none⟩) n n)∧V.cell? ⟨p,0,none⟩=some (.pointer q)∧V.cell? ⟨gh,f,none⟩=some (.int .i64 x))
  (first|exact HS.out _ (by first|assumption|exact hbd)|assumption)
  ((first
    |(go_at_call 102;refine(HF.out _ (by first|assumption|exact hbd)).mono ?_;rintro e V1 ⟨rfl,rfl⟩)
    |(go_at_call 73;refine(HP.out _ (by first|assumption|exact hbd)).mono ?_;rintro e V2 ⟨rfl,hv2,hs2⟩)))
 all_goals
  go_wp2
  go_end0
  exact⟨rfl,hv2⟩
end
end
section
open Go.RowKit
namespace Df
def hd:List Nat→Int
 |[]=> -1
 |h::_=>(h:Int)
def FW (n:Nat) (es:List (Int×Int)) (L:List Nat):Prop:=∃v i,v<n∧L=(Cs.out es v (2*es.length)).drop i
theorem IJ (L:List Nat) (i:Nat):(L.map fun i:Nat=>(i:Int)).getD i (-1)=hd (L.drop i):=by
 rw[aai,aay]
 cases h:L[i]? with
 |none=>
  rw[acN (adC.1 h)]
  rfl
 |some x=>
  obtain⟨hi,hx⟩:=aas.1 h
  rw[abJ hi,hx]
  rfl
theorem El {n:Nat} {es:List (Int×Int)} {v:Nat} (hv:v<n):Cs.iJ n es v=hd (Cs.out es v (2*es.length)):=by
 unfold Cs.iJ Cs.gM
 rw[Cs.oA hv,IJ]
 rfl
theorem FW.all {n:Nat} {es:List (Int×Int)} {v:Nat} (hv:v<n):FW n es (Cs.out es v (2*es.length)):=⟨v,0,hv,rfl⟩
theorem FW.step {n:Nat} {es:List (Int×Int)} {h:Nat} {L:List Nat} (hs:FW n es (h::L)):h<2*es.length∧FW n es L∧Cs.qg n es h=hd L:=by
 obtain⟨v,i,hv,e⟩:=hs
 have hi:(Cs.out es v (2*es.length))[i]? =some h:=by
  have:=congrArg (fun l:List Nat=>l[0]?) e
  simpa using this.symm
 have hL:L=(Cs.out es v (2*es.length)).drop (i+1):=by
  have:=congrArg List.tail e
  simpa using this
 obtain⟨h1,h2,h3⟩:=Cs.nD hi
 refine⟨h1,⟨v,i+1,hv,hL⟩,?_⟩
 unfold Cs.qg Cs.gM
 rw[if_pos (by omega),aaF,h2,h3,Cs.oA hv,IJ,←hL]
inductive RS (es:List (Int×Int)):Nat→St→List (List Nat)→St→Prop
 |nil (s:St):RS es 0 s [] s
 |cons {j k:Nat} {s s1 s':St} {L:List Nat} {T:List (List Nat)} (h1:R es j s L s1) (h2:RS es k s1 T s'):RS es (j+k+1) s (L::T) s'
def stk (T:List (List Nat)):List Int:=(T.map hd).reverse
theorem wH (L:List Nat) (T:List (List Nat)):stk (L::T)=stk T++[hd L]:=by simp[stk]
theorem Gy (T:List (List Nat)):(stk T).length=T.length:=by simp[stk]
end Df
def rH (w0:World) (p gp gh gr:Nat) (av:Value) (n r:Nat) (es:List (Int×Int)) (s':Df.St) (w:World) (k:Nat):Prop:=
 ∃s T ov sv,Df.RS es k s T s'∧Df.Bd n es r s∧(∀L∈T,Df.FW n es L)∧T.length+s.left≤es.length+1∧aL w0 w p gp gh gr av ov sv n es.length s (Df.stk T)
section
variable {w0 w:World} {p gp gh gr:Nat} {av ov sv:Value} {n r:Nat} {es:List (Int×Int)} {s s':Df.St}
set_option maxRecDepth 100000 in
set_option maxHeartbeats 16000000 in
theorem CJ (v k:Nat) (aW:cE w0 av n es) (hW:aL w0 w p gp gh gr av ov sv n es.length s []) (b:Df.Bd n es r s) (hv:v<n) (hr:r≤1048576) (hR:Df.R es k (s.reach v (-1) 0) (Cs.out es v (2*es.length)) s'):
 Calls Tryz.prog 48 #[.pointer (some ⟨p,0,none⟩),.int .i64 (v:Int)] w (xI w0 p gp gh gr av n es s' []):=by
 obtain⟨C8,mh⟩:=aW.bounds
 have nE:=b.hr
 have hRE:=Ar v (-1) 0 aW hW b.lp b.lh hv (by omega) (by simp)
 rw[Df.El hv,aaE] at hRE
 have hinv:∀V dR e8,aL w0 V p gp gh gr av dR e8 n es.length (s.reach v (-1) 0) [Df.hd (Cs.out es v (2*es.length))]→rH w0 p gp gh gr av n (r+1) es s' V (k+0+1):=fun V dR e8 h=>
  ⟨s.reach v (-1) 0,[Cs.out es v (2*es.length)],dR,e8,.cons hR (.nil s'),b.root hv,fun L hL=>by rw[aao] at hL;subst hL;exact Df.FW.all hv,by have:=b.few;show 1+s.left≤_;omega,h⟩
 have uA:=Nu.hid hRE
 have Ze:=Nu.hid hinv
 have cT:=Nu.hid aW
 have kC:∃q,av= .pointer q:=by
  rcases aW with ⟨h,_⟩|⟨_,p,h,_⟩
  ·exact⟨_,h⟩
  ·exact⟨_,h⟩
 obtain⟨q,rfl⟩:=kC
 clear hRE hinv hR hW nE aW b
 go_enter Tryz.func48,Tryz.ntmps48
 go_wp2_with (go_at_call 73;refine uA.out.mono ?_;rintro e w1 ⟨rfl,Qd,sv1,h1⟩;have eN:=Nu.hid (Ze.out w1 Qd sv1 h1);clear h1)
 clear uA Ze
 go_loopw [4] (fun _ wr=>∃k,rH w0 p gp gh gr (.pointer q) n (r+1) es s' wr k) (fun _ wr=>leastOf (rH w0 p gp gh gr (.pointer q) n (r+1) es s' wr))
 case atStart=>exact⟨_,eN.out⟩
 case round=>
  obtain⟨k0,hk0⟩:=hrel
  obtain⟨hI,-⟩:=leastOf_spec hk0
  obtain⟨k,hk⟩:∃k,leastOf (rH w0 p gp gh gr (.pointer q) n (r+1) es s' wr)=k:=⟨_,rfl⟩
  rw[hk] at hI
  have HK:=Nu.hid hk
  have xO:Hid (∀V k',rH w0 p gp gh gr (.pointer q) n (r+1) es s' V k'→k'<k→leastOf (rH w0 p gp gh gr (.pointer q) n (r+1) es s' V)<leastOf (rH w0 p gp gh gr (.pointer q) n (r+1) es s' wr)):=fun V k' h1 h2=>by
   rw[hk]
   have:=(leastOf_spec h1).2
   omega
  clear hk hk0 HK
  obtain⟨s,T,ov,sv,hRS,b,yA,hlen,hw⟩:=hI
  cases T with
  |nil=>
   cases hRS
   have he:=mX p 5 _ _ _ _ _ wr hw.stk
   have xu:decide ((Df.stk []).length=0)=true:=rfl
   rw[xu] at he
   have HE:=Nu.hid he
   have HW:=Nu.hid hw
   clear he hw xu yA hlen b
   go_wp2_with (go_at_call 74;refine HE.out.mono ?_;rintro e w2 ⟨rfl,rfl⟩)
   go_end0
   exact⟨rfl,ov,sv,HW.out⟩
  |cons L T=>
   cases hRS with
   |cons h1 h2=>
   rename_i j k1 s1
   rw[Df.wH] at hw
   have IW:(Df.stk T).length≤17592186044000:=by rw[Df.Gy];simp at hlen;omega
   have he:=mX p 5 _ _ _ _ _ wr hw.stk
   have xu:decide ((Df.stk T++[Df.hd L]).length=0)=false:=by simp
   rw[xu] at he
   have HE:=Nu.hid he
   have XR:=(GX p 5 _ _ _ _ (Df.stk T) (Df.hd L) wr hw.stk IW).mono (R':=fun e w'=>e= .returned (.int .i64 (Df.hd L))∧∃e8,aL w0 w' p gp gh gr (.pointer q) ov e8 n es.length s (Df.stk T)) (fun e w' hp=>⟨hp.1,hw.popped hp⟩)
   have jT:=Nu.hid XR
   clear he XR hw xu
   cases L with
   |nil=>
    cases h1
    have hTI:∀V e8,aL w0 V p gp gh gr (.pointer q) ov e8 n es.length s (Df.stk T)→rH w0 p gp gh gr (.pointer q) n (r+1) es s' V k1:=fun V e8 h=>⟨s,T,ov,e8,h2,b,fun L hL=>yA L (aah _ hL),by simp at hlen;omega,h⟩
    have Ds:=Nu.hid hTI
    have vW:Hid (k1<0+k1+1):=show k1<0+k1+1 by omega
    unfold Df.hd at jT
    clear hTI h2 b yA hlen IW
    go_wp2_with (first|(go_at_call 74;refine HE.out.mono ?_;rintro e w2 ⟨rfl,rfl⟩)|(go_at_call 75;refine jT.out.mono ?_;rintro e w3 ⟨rfl,JW,h3⟩;have Cl:=Nu.hid (Ds.out w3 JW h3);clear h3))
    go_roundw
    case rel=>exact⟨_,Cl.out⟩
    case measure=>exact xO.out _ _ Cl.out vW.out
   |cons h L=>
    obtain⟨hh,Ve,bU⟩:=(yA _ aag).step
    have hval:=cT.out.val hh
    have Oj:∀X∈L::T,Df.FW n es X:=fun X hX=>by
     rcases aaj.1 hX with rfl|hX
     ·exact Ve
     ·exact yA X (aah _ hX)
    have hlen':T.length+1+s.left≤es.length+1:=by simpa using hlen
    unfold Df.hd at jT
    have hne:(((h:Nat):Int)== -1)=false:=by simp only[beq_eq_false_iff_ne,ne_eq];omega
    have Dt:Hid (∀V e8,aL w0 V p gp gh gr (.pointer q) ov e8 n es.length s (Df.stk T)→(∀U,Below V.heap.size V U→Calls Tryz.prog 77 #[.pointer q,.int .i64 (h:Int)] U fun e U'=>e= .returned (.int .i64 (Df.hd L))∧Below U.heap.size U U')∧(∀U,Below V.heap.size V U→Calls Tryz.prog 76 #[.pointer (some ⟨p,5,none⟩),.int .i64 (Df.hd L)] U fun e U'=>e= .returned (.tuple #[])∧(∃sv,aL w0 U' p gp gh gr (.pointer q) ov sv n es.length s (Df.stk (L::T)))∧U'.cell? ⟨p,0,none⟩=some (.pointer q))∧∀U,Below V.heap.size V U→U.cell? ⟨p,0,none⟩=some (.pointer q)):=fun V e8 hV=>by
     refine⟨fun U hU=> ?_,fun U hU=> ?_,fun U hU=>(hV.later hU).c0⟩
     ·have:=LG _ n es h U (cT.out.later (hV.aI.trans (hU.mono hV.aI.size)))
      rw[bU] at this
      exact this.mono (by rintro e U' ⟨rfl,k,rfl⟩;exact⟨rfl,below_drewN (aae _ _) k⟩)
     ·have Sw:=hV.later hU
      refine(wQ p 5 _ _ _ _ (Df.stk T) (Df.hd L) U Sw.stk Sw.aI.size IW).mono ?_
      intro e U' hp
      obtain⟨sv2,h2⟩:=Sw.pushed hp
      rw[←Df.wH] at h2
      exact⟨hp.1,⟨sv2,h2⟩,h2.c0⟩
    have nE:=b.hr
    have hL2:(Df.stk (L::T)).length≤17592186044000:=by rw[Df.Gy];simp;omega
    have fN:Hid (∀V e8,aL w0 V p gp gh gr (.pointer q) ov e8 n es.length s (Df.stk (L::T))→Calls Tryz.prog 78 #[.pointer (some ⟨p,0,none⟩),.int .i64 (h:Int)] V fun e w'=>e= .returned (.bool (s.dir (h/2) != -1))∧w'=V):=fun V e8 hV=>Gl h hV b.lo hh mh
    have Dw:Hid (∀a:Nat,a<j→a+k1+1<j+k1+1):=fun a ha=>by omega
    cases h1 with
    |old hw hr'=>
     rename_i kk
     have hb:(s.dir (h/2) != -1)=true:=by simpa using hw
     rw[hb] at fN
     have Ds:Hid (∀V e8,aL w0 V p gp gh gr (.pointer q) ov e8 n es.length s (Df.stk (L::T))→rH w0 p gp gh gr (.pointer q) n (r+1) es s' V (kk+k1+1)):=fun V e8 hV=>⟨s,L::T,ov,e8,.cons hr' h2,b,Oj,hlen',hV⟩
     clear hw hr' h2 b yA Ve Oj hlen hlen' bU hval nE IW hL2 hb
     go_wp2_with (first|(go_at_call 74;refine HE.out.mono ?_;rintro e w2 ⟨rfl,rfl⟩)|(go_at_call 75;refine jT.out.mono ?_;rintro e w3 ⟨rfl,JW,h3⟩;obtain⟨HA,HP,HC⟩:=Dt.out w3 JW h3;have UF:=Nu.hid HA;have TW:=Nu.hid HP;have Ux:=Nu.hid HC;have hbd:Below w3.heap.size w3 w3.drew:=(aae _ _).drew;clear HA HP HC h3))
     go_region_held3 (fun V=>V.cell? ⟨p,0,none⟩=some (.pointer q))
      (first|exact Ux.out _ (by first|assumption|exact hbd)|assumption)
      ((first
        |(go_at_call 77;refine(UF.out _ (by first|assumption|exact hbd)).mono ?_;rintro e V1 ⟨rfl,wX⟩;have hb1:Below w3.heap.size w3 V1:=acr (by first|assumption|exact hbd) (wX.mono (acp (by first|assumption|exact hbd))))
        |(go_at_call 76;refine(TW.out _ (by first|assumption|exact hbd)).mono ?_;rintro e V2 ⟨rfl,hv2,hs2⟩)))
     obtain⟨Gx,h4⟩:=hv2
     have om:=Nu.hid (fN.out V2 Gx h4)
     have HT4:=Nu.hid (Ds.out V2 Gx h4)
     clear h4 hs2
     go_wp2_with (go_at_call 78;refine om.out.mono ?_;rintro e w5 ⟨rfl,rfl⟩)
     go_roundw
     case rel=>exact⟨_,HT4.out⟩
     case measure=>exact xO.out _ _ HT4.out (Dw.out _ (by omega))
    |back hw hv' hr'=>
     rename_i kk
     have hb:(s.dir (h/2) != -1)=false:=by simpa using hw
     rw[hb] at fN
     have hm:=Df.ko b hh hw
     have Ds:Hid (∀V dR e8,aL w0 V p gp gh gr (.pointer q) dR e8 n es.length (s.mark h) (Df.stk (L::T))→rH w0 p gp gh gr (.pointer q) n (r+1) es s' V (kk+k1+1)):=fun V dR e8 hV=>⟨s.mark h,L::T,dR,e8,.cons hr' h2,b.mark hh hw,Oj,by simp;omega,hV⟩
     have Jn:Hid (∀V e8,aL w0 V p gp gh gr (.pointer q) ov e8 n es.length s (Df.stk (L::T))→Calls Tryz.prog 79 #[.pointer (some ⟨p,0,none⟩),.int .i64 (h:Int)] V (xI w0 p gp gh gr (.pointer q) n es (s.mark h) (Df.stk (L::T)))):=fun V e8 hV=>JH h cT.out hV b hh hv'
     clear hw hv' hr' h2 b yA Ve Oj hlen hlen' bU hval nE IW hL2 hb hm
     go_wp2_with (first|(go_at_call 74;refine HE.out.mono ?_;rintro e w2 ⟨rfl,rfl⟩)|(go_at_call 75;refine jT.out.mono ?_;rintro e w3 ⟨rfl,JW,h3⟩;obtain⟨HA,HP,HC⟩:=Dt.out w3 JW h3;have UF:=Nu.hid HA;have TW:=Nu.hid HP;have Ux:=Nu.hid HC;have hbd:Below w3.heap.size w3 w3.drew:=(aae _ _).drew;clear HA HP HC h3))
     go_region_held3 (fun V=>V.cell? ⟨p,0,none⟩=some (.pointer q))
      (first|exact Ux.out _ (by first|assumption|exact hbd)|assumption)
      ((first
        |(go_at_call 77;refine(UF.out _ (by first|assumption|exact hbd)).mono ?_;rintro e V1 ⟨rfl,wX⟩;have hb1:Below w3.heap.size w3 V1:=acr (by first|assumption|exact hbd) (wX.mono (acp (by first|assumption|exact hbd))))
        |(go_at_call 76;refine(TW.out _ (by first|assumption|exact hbd)).mono ?_;rintro e V2 ⟨rfl,hv2,hs2⟩)))
     obtain⟨Gx,h4⟩:=hv2
     have om:=Nu.hid (fN.out V2 Gx h4)
     have vQ:=Nu.hid (Jn.out V2 Gx h4)
     clear h4 hs2
     go_wp2_with (first|(go_at_call 78;refine om.out.mono ?_;rintro e w5 ⟨rfl,rfl⟩)|(go_at_call 79;refine vQ.out.mono ?_;rintro e w6 ⟨rfl,ZP,ZF,h6⟩;have LZ:=Nu.hid (Ds.out w6 ZP ZF h6);clear h6))
     go_roundw
     case rel=>exact⟨_,LZ.out⟩
     case measure=>exact xO.out _ _ LZ.out (Dw.out _ (by omega))
    |tree hw hv' hr1 hr2=>
     rename_i kj kk s2
     have hb:(s.dir (h/2) != -1)=false:=by simpa using hw
     rw[hb] at fN
     have hm:=Df.ko b hh hw
     have ht:=(Cs.bH hval hh).2
     have hlg:(s.go es h).left=(s.mark h).left:=rfl
     have Ds:Hid (∀V dR e8,aL w0 V p gp gh gr (.pointer q) dR e8 n es.length (s.go es h) (Df.stk (L::T)++[Cs.iJ n es (Cs.to es h)])→rH w0 p gp gh gr (.pointer q) n (r+1) es s' V (kj+(kk+k1+1)+1)):=fun V dR e8 hV=>by
      rw[Df.El ht,←Df.wH] at hV
      refine⟨s.go es h,Cs.out es (Cs.to es h) (2*es.length)::L::T,dR,e8,.cons hr1 (.cons hr2 h2),b.go hval hh hw,fun X hX=> ?_,by simp;omega,hV⟩
      rcases aaj.1 hX with rfl|hX
      ·exact Df.FW.all ht
      ·exact Oj X hX
     have Jn:Hid (∀V e8,aL w0 V p gp gh gr (.pointer q) ov e8 n es.length s (Df.stk (L::T))→Calls Tryz.prog 79 #[.pointer (some ⟨p,0,none⟩),.int .i64 (h:Int)] V (xI w0 p gp gh gr (.pointer q) n es (s.go es h) (Df.stk (L::T)++[Cs.iJ n es (Cs.to es h)]))):=fun V e8 hV=>JF h cT.out hV b hh hv' (by omega) hL2
     clear hw hv' hr1 hr2 h2 b yA Ve Oj hlen hlen' bU hval nE IW hL2 hb hm ht hlg
     go_wp2_with (first|(go_at_call 74;refine HE.out.mono ?_;rintro e w2 ⟨rfl,rfl⟩)|(go_at_call 75;refine jT.out.mono ?_;rintro e w3 ⟨rfl,JW,h3⟩;obtain⟨HA,HP,HC⟩:=Dt.out w3 JW h3;have UF:=Nu.hid HA;have TW:=Nu.hid HP;have Ux:=Nu.hid HC;have hbd:Below w3.heap.size w3 w3.drew:=(aae _ _).drew;clear HA HP HC h3))
     go_region_held3 (fun V=>V.cell? ⟨p,0,none⟩=some (.pointer q))
      (first|exact Ux.out _ (by first|assumption|exact hbd)|assumption)
      ((first
        |(go_at_call 77;refine(UF.out _ (by first|assumption|exact hbd)).mono ?_;rintro e V1 ⟨rfl,wX⟩;have hb1:Below w3.heap.size w3 V1:=acr (by first|assumption|exact hbd) (wX.mono (acp (by first|assumption|exact hbd))))
        |(go_at_call 76;refine(TW.out _ (by first|assumption|exact hbd)).mono ?_;rintro e V2 ⟨rfl,hv2,hs2⟩)))
     obtain⟨Gx,h4⟩:=hv2
     have om:=Nu.hid (fN.out V2 Gx h4)
     have vQ:=Nu.hid (Jn.out V2 Gx h4)
     clear h4 hs2
     go_wp2_with (first|(go_at_call 78;refine om.out.mono ?_;rintro e w5 ⟨rfl,rfl⟩)|(go_at_call 79;refine vQ.out.mono ?_;rintro e w6 ⟨rfl,ZP,ZF,h6⟩;have LZ:=Nu.hid (Ds.out w6 ZP ZF h6);clear h6))
     go_roundw
     case rel=>exact⟨_,LZ.out⟩
     case measure=>exact xO.out _ _ LZ.out (show kj+(kk+k1+1)+1<kj+kk+2+k1+1 by omega)
end
end
section
open Go.RowKit
def xJ (av:Value) (n m:Nat) (w:World) (e:Ending) (w':World):Prop:=
 ∃p gp gh go gr,e= .returned (.pointer (some ⟨p,0,none⟩))∧w'.heap[p]? =some (.cells #[av,.slice (some ⟨gp,0,none⟩) n n,.slice (some ⟨gh,0,none⟩) n n,.slice (some ⟨go,0,none⟩) 0 n,.slice (some ⟨gr,0,none⟩) m m,.slice none 0 0] 105 (0,0))∧
  aq w' gp (List.replicate n (-1))∧aq w' gh (List.replicate n (-1))∧aq w' gr (List.replicate m (-1))∧aq w' go (List.replicate n 0)∧
  (w.heap.size≤p∧w.heap.size≤gp∧w.heap.size≤gh∧w.heap.size≤go∧w.heap.size≤gr)∧(p≠gp∧p≠gh∧p≠go∧p≠gr∧gp≠gh∧gp≠go∧gp≠gr∧gh≠go∧gh≠gr∧go≠gr)∧Below w.heap.size w w'
set_option maxRecDepth 100000 in
set_option maxHeartbeats 8000000 in
theorem AD (av:Value) (n:Nat) (es:List (Int×Int)) (w:World) (h:cE w av n es):
 Calls Tryz.prog 45 #[av] w (xJ av n es.length w):=by
 obtain⟨i0,hi,hz0,hz1,hz2⟩:=info_parts Tryz.bO
 obtain⟨hb1,hb2⟩:=h.bounds
 have kC:∃q,av= .pointer q:=by
  rcases h with ⟨h,_⟩|⟨_,p,h,_⟩
  ·exact⟨_,h⟩
  ·exact⟨_,h⟩
 obtain⟨q,rfl⟩:=kC
 have hN:∀V,Below w.heap.size w V→Calls Tryz.prog 46 #[.pointer q] V fun e V'=>e= .returned (.int .i64 (n:Int))∧V'=V:=fun V hV=>mm _ n es V (h.later hV)
 have hM:∀V,Below w.heap.size w V→Calls Tryz.prog 60 #[.pointer q] V fun e V'=>e= .returned (.int .i64 (es.length:Int))∧V'=V:=fun V hV=>zS _ n es V (h.later hV)
 have hU:∀V (k:Nat),k≤8388608→Calls Tryz.prog 72 #[.int .i64 (k:Int)] V fun e V'=>∃g,e= .returned (.slice (some ⟨g,0,none⟩) k k)∧V.heap.size≤g∧aq V' g (List.replicate k (-1))∧Below V.heap.size V V':=fun V k hk=>zZ k V hk
 have hmk:∀W,(Instr.makeSlice 27 (.int .i64 0) (.int .i64 (n:Int))).run Tryz.prog W= .ok (.slice (some ⟨W.heap.size,0,none⟩) 0 n) (W.alloc (.cells (madeCells #[.int .i64 0] n) 3)):=fun W=>by
  have:=run_make (P:=Tryz.prog) W 27 3 i0 (.int .i64 0) Tryz.underlying27 hi hz0 .i64 .i64 0 (n:Int) (by omega) (by omega) (by rw[hz2];omega) (by omega)
  rw[this,hz1]
  simp[Value.cells]
 obtain⟨m,hm⟩:∃m,es.length=m:=⟨_,rfl⟩
 rw[hm] at hM hb2 ⊢
 have HN:=Nu.hid hN
 have HM:=Nu.hid hM
 have HU:=Nu.hid hU
 have hbd:Below w.heap.size w w.drew:=(aae _ _).drew
 clear hN hM hU h hm
 go_enter Tryz.func45,Tryz.ntmps45
 go_wp2_with fail
 go_region_held3 (fun V=>Below w.heap.size w V) (first|assumption|exact hbd|exact Below.alloc (by first|assumption|exact hbd) (acp (by first|assumption|exact hbd)) _)
  ((first
    |(go_at_call 46;refine(HN.out _ (by first|assumption|exact hbd)).mono ?_;rintro e V1 ⟨rfl,rfl⟩)
    |(go_at_call 60;refine(HM.out _ (by first|assumption|exact hbd)).mono ?_;rintro e V1 ⟨rfl,rfl⟩)
    |(go_at_call 72;refine(HU.out _ _ (by omega)).mono ?_;rintro e V2 ⟨g,rfl,hg1,hg2,hv2⟩;have hb2:Below w.heap.size w V2:=acr (by first|assumption|exact hbd) (hv2.mono (acp (by first|assumption|exact hbd))))))
 all_goals
  clear HN HM HU hmk
  go_wp2
  go_ret
 all_goals
  rename_i bA gA h1A VA h2A h3A h4A gB h1B h2B h3B h4B hZ
  have s1:=h3A.size
  have s2:=h3B.size
  have s3:=hv2.size
  have l1:=h2A.lt
  have l2:=h2B.lt
  have l3:=hg2.lt
  have u1:=h1A
  have u3:=hg1
  have hwd:w.drew.heap.size=w.heap.size:=rfl
  simp only[aaM,hwd] at s1 s2 s3 u1 u3
  refine⟨_,gA,gB,_,g,rfl,alloc_at (by simp),?_,?_,?_,?_,?_,?_,hZ⟩
  ·repeat (first|exact h2A|refine aq.later ?_ hv2|refine aq.later ?_ h3B|refine aq.alloc ?_ _)
  ·repeat (first|exact h2B|refine aq.later ?_ hv2|refine aq.alloc ?_ _)
  ·repeat (first|exact hg2|refine aq.alloc ?_ _)
  ·repeat (first|(refine sj ?_;simp;done)|refine aq.later ?_ hv2|refine aq.alloc ?_ _)
  ·try simp only[aaM]
   refine⟨?_,?_,?_,?_,?_⟩<;>omega
  ·try simp only[aaM]
   refine⟨?_,?_,?_,?_,?_,?_,?_,?_,?_,?_⟩<;>omega
end
end Go.Proofs.YtdjmnpmdmjclhabGreat
