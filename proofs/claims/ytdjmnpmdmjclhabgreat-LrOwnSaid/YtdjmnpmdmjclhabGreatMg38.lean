import Derived.Test.YtdjmnpmdmjclhabGreatMg37
import Derived.Test.YtdjmnpmdmjclhabGreatMg04
import Derived.Test.YtdjmnpmdmjclhabGreatMg00
import Derived.Test.YtdjmnpmdmjclhabGreatMg01
import Derived.Maps.AppendAt
import Derived.Test.YtdjmnpmdmjclhabGreatMg07
namespace Go.Proofs.YtdjmnpmdmjclhabGreat
section
open Go.RowKit
def O2 (n:Int) (es:List (Int×Int)) (w:World) (e:Ending) (w':World):Prop:=
 ∃v1 v2 v3 v4 s z,e= .returned (.tuple #[.agg #[v1,v2,v3,v4],.int .i64 z])∧lX w' w.heap.size v1 v2 v3 v4 s∧
  ((∃m:Nat,n=(m:Int)∧Si.Val n es∧Df.Wk m es m s∧z=0)∨(Si.valid n es=false∧s=⟨[],[],[],[]⟩∧z=1))∧Below w.heap.size w w'
theorem xJ.at {av:Value} {n m:Nat} {w w':World} {e:Ending} (hn:n≤8388608) (h:xJ av n m w e w'):∃p gp gh gr ov,e= .returned (.pointer (some ⟨p,0,none⟩))∧aL w w' p gp gh gr av ov (.slice none 0 0) n m (Df.St.start n m) []:=by
 obtain⟨p,gp,gh,go,gr,he,hb,h1,h2,h3,h4,⟨b1,b2,b3,b4,b5⟩,⟨d1,d2,d3,d4,d5,d6,d7,d8,d9,d10⟩,dg⟩:=h
 refine⟨p,gp,gh,gr,.slice (some ⟨go,0,none⟩) 0 n,he,dg,hb,h1,h2,h3,h4.adb b4 (by simp) hn,.nil _ _,⟨b1,b2,b3,b5⟩,⟨d1,d2,d4,d5,d7,d9⟩,⟨?_,?_,?_,?_⟩,⟨by simp[Value.ownBlock],by simp[Value.ownBlock],by simp[Value.ownBlock],by simp[Value.ownBlock]⟩,fun b _=>by simp[Value.ownBlock]⟩
 ·exact fun e=>d3 (aak e).symm
 ·exact fun e=>d6 (aak e).symm
 ·exact fun e=>d8 (aak e).symm
 ·exact fun e=>d10 (aak e)
theorem aL.own {w0 w:World} {p gp gh gr:Nat} {av ov sv:Value} {n m:Nat} {s:Df.St} {K:List Int} (h:aL w0 w p gp gh gr av ov sv n m s K) (h1:s.par.length=n) (h2:s.az.length=n) (h4:s.aJ.length=m) (hn:n≤8388608) (hm:m≤8388608):
 lX w w0.heap.size (.slice (some ⟨gp,0,none⟩) n n) (.slice (some ⟨gh,0,none⟩) n n) ov (.slice (some ⟨gr,0,none⟩) m m) s:=by
 refine⟨h.ip.own h.lo.2.1 h1 hn,h.ih.own h.lo.2.2.1 h2 hn,h.ow,h.ir.own h.lo.2.2.2 h4 hm,fun b hb e=> ?_,fun b hb e=> ?_,fun b hb e=> ?_,fun b hb e=> ?_,fun b hb e=> ?_,fun b hb e=> ?_⟩
 ·exact h.ne.2.2.2.1 ((aak hb).trans (aak e).symm)
 ·exact h.fD.2.1 (e.trans hb.symm)
 ·exact h.ne.2.2.2.2.1 ((aak hb).trans (aak e).symm)
 ·exact h.fD.2.2.1 (e.trans hb.symm)
 ·exact h.ne.2.2.2.2.2 ((aak hb).trans (aak e).symm)
 ·exact h.fD.2.2.2 (hb.trans e.symm)
set_option maxRecDepth 100000 in
set_option maxHeartbeats 16000000 in
theorem Lm (n:Int) (ao:Option Addr) (cap:Nat) (es:List (Int×Int)) (w:World) (he:aQ w ao es) (hl:es.length≤4611686018427387904):
 Calls Tryz.prog 26 #[bX n ao es.length cap] w (O2 n es w):=by
 obtain⟨W,hW⟩:∃W,W=(w.alloc (.cells #[.int .i64 n,.slice ao es.length cap] 24)).alloc (.cells #[.slice none 0 0,.slice none 0 0,.slice none 0 0,.slice none 0 0] 36):=⟨_,rfl⟩
 have hB0:Below w.heap.size w W:=by rw[hW];exact((aae _ _).alloc (aad _) _).alloc (by simp) _
 have hsz:W.heap.size=w.heap.size+2:=by rw[hW];simp
 have g1:W.heap[w.heap.size]? =some (.cells #[.int .i64 n,.slice ao es.length cap] 24 (0,0)):=by
  rw[hW,aap _ _ _ (by simp)]
  exact heap_alloc_new w _
 have g2:W.heap[w.heap.size+1]? =some (.cells #[.slice none 0 0,.slice none 0 0,.slice none 0 0,.slice none 0 0] 36 (0,0)):=by
  rw[hW]
  exact alloc_at (by simp)
 have hnew:=xF n ao cap es W (he.later hB0) hl
 unfold bX at hnew ⊢
 have cZ:=Nu.hid hB0
 have iN:=Nu.hid g2
 obtain⟨x0,x1,-⟩:=ay g1
 have lg:=Nu.hid hW
 rw[hW] at x0 x1
 cases hv:Si.valid n es with
 |false=>
  have nM:Hid (Calls Tryz.prog 32 #[.agg #[.int .i64 n,.slice ao es.length cap]] W fun e w'=>e= .returned (.tuple #[.pointer none,.int .i64 1])∧Below W.heap.size W w'):=hnew.mono (by
   rintro e w' ⟨⟨m,q,rfl,hval,_⟩|⟨_,h⟩,hb⟩
   ·rw[Si.bL.2 hval] at hv;cases hv
   ·exact⟨h,hb⟩)
  have HV:=Nu.hid hv
  clear hnew hB0 g1 g2 he hW hv
  go_enter Tryz.func26,Tryz.ntmps26
  go_wp2_with (go_at_call 32;rw[←lg.out];refine nM.out.mono ?_;rintro e w1 ⟨rfl,hb1⟩;refine aaB ?_)
  refine Nu.hid ?_
  have hk2:=(hb1.block _ (by omega)).trans iN.out
  have aY:=Nu.hid (cZ.out.trans (hb1.mono cZ.out.size))
  obtain⟨r0,r1,r2,r3,-⟩:=au (gW hk2 (.slice none 0 0) (.slice none 0 0) (.slice none 0 0) (.slice none 0 0))
  have R0:=Nu.hid r0
  have R1:=Nu.hid r1
  have R2:=Nu.hid r2
  have R3:=Nu.hid r3
  unfold dY at R0 R1 R2 R3
  obtain⟨k0,k1,k2,k3,kf⟩:=au hk2
  have oY:=Nu.hid (eA aY.out (R:=w.heap.size+1) (by omega) (.slice none 0 0) (.slice none 0 0) (.slice none 0 0) (.slice none 0 0))
  unfold dY at oY
  clear hb1 hk2 r0 r1 r2 r3
  go_wp2
  refine bodyPost_ret (v:= .tuple #[.agg #[.slice none 0 0,.slice none 0 0,.slice none 0 0,.slice none 0 0],.int .i64 1]) (by simp[results,Tryz.results26,go_sem,R0.out,R1.out,R2.out,R3.out]) rfl ?_
  exact⟨_,_,_,_,_,_,rfl,lX.empty _ _,.inr ⟨HV.out,rfl,rfl⟩,oY.out⟩
 |true=>
  obtain⟨m,rfl⟩:∃m:Nat,n=(m:Int):=⟨n.toNat,by have:=(Si.bL.1 hv).lo;omega⟩
  have hval:=Si.bL.1 hv
  have nM:Hid (Calls Tryz.prog 32 #[.agg #[.int .i64 (m:Int),.slice ao es.length cap]] W fun e w'=>∃q,e= .returned (.tuple #[.pointer (some ⟨q,0,none⟩),.int .i64 0])∧lQ w' W.heap.size q m es∧Below W.heap.size W w'):=hnew.mono (by
   rintro e w' ⟨⟨m',q,hm,_,h,ha⟩|⟨h,_⟩,hb⟩
   ·obtain rfl:m=m':=by omega
    exact⟨q,h,ha,hb⟩
   ·rw[hv] at h;cases h)
  have m9:=Nu.hid hval
  clear hnew hB0 g1 g2 he hW hv hval
  go_enter Tryz.func26,Tryz.ntmps26
  go_wp2_with (go_at_call 32;rw[←lg.out];refine nM.out.mono ?_;rintro e w1 ⟨q,rfl,aW,hb1⟩;refine aaB ?_)
  refine Nu.hid ?_
  have hk2:=(hb1.block _ (by omega)).trans iN.out
  have aY:=Nu.hid (cZ.out.trans (hb1.mono cZ.out.size))
  have hs1:=hb1.size
  have kC:cE w1 (.pointer (some ⟨q,0,none⟩)) m es:= .inr ⟨_,q,rfl,m9.out,aW⟩
  have cT:=Nu.hid kC
  obtain⟨C8,mh⟩:=kC.bounds
  have HNW:=Nu.hid (AD _ m es w1 kC)
  have xP:=Nu.hid hk2
  clear hb1 x0 x1 aW kC hk2
  go_wp2_with (go_at_call 45;refine HNW.out.mono ?_;intro e w2 hnw;obtain⟨p,gp,gh,gr,ov,rfl,h2⟩:=hnw.at (by omega);have H2:=Nu.hid h2;clear h2 hnw;refine aaB ?_)
  refine Nu.hid ?_
  have T8:=Nu.hid (mm _ m es w2 (cT.out.later H2.out.aI))
  go_wp2_with (go_at_call 46;refine T8.out.mono ?_;rintro e w3 ⟨rfl,rfl⟩)
  go_loopw [21] (fun c wr=>∃(i:Nat) (s:Df.St) (ov sv:Value),i≤m∧c= .int .i64 i∧Df.Wk m es i s∧aL w1 wr p gp gh gr (.pointer (some ⟨q,0,none⟩)) ov sv m es.length s []) (fun c _=>m-(intOf c).toNat)
  case atStart=>exact⟨0,_,_,_,aax _,rfl,.zero,H2.out⟩
  case round=>
   obtain⟨i,s,dR,e8,Vs,rfl,hwk,hw⟩:=hrel
   have hbd:=hwk.bd m9.out Vs
   by_cases hlt:i<m
   ·have lV:(i:Int)<(m:Int):=by omega
    have Bb:=pF i hw hbd.lh hlt
    by_cases hh:s.height i= -1
    ·have hb:(s.height i != -1)=false:=by simpa using hh
     rw[hb] at Bb
     obtain⟨k,s2,hR,_⟩:=Df.total m9.out (s.reach i (-1) 0).left (Cs.out es i (2*es.length)) (s.reach i (-1) 0) (aad _) (hbd.root hlt) Df.eZ
     have HWT:=Nu.hid (CJ i k cT.out hw hbd hlt (by omega) hR)
     have uA:=Nu.hid Bb
     have fN:Hid (Df.Wk m es (i+1) s2):= .walk hwk hh hR
     clear Bb hb hR hwk hw hbd hh
     go_wp2_with (first|(go_at_call 47;refine uA.out.mono ?_;rintro e w4 ⟨rfl,rfl⟩)|(go_at_call 48;refine HWT.out.mono ?_;rintro e w5 ⟨rfl,ZQ,sv5,h5⟩;have H5:=Nu.hid h5;clear h5))
     go_roundw
     case rel=>exact⟨i+1,s2,ZQ,sv5,by omega,by go_num,fN.out,H5.out⟩
     case measure=>simp[intOf];omega
    ·have hb:(s.height i != -1)=true:=by simpa using hh
     rw[hb] at Bb
     have uA:=Nu.hid Bb
     have fN:Hid (Df.Wk m es (i+1) s):= .pass hwk hh
     have H5:=Nu.hid hw
     clear Bb hb hwk hw hbd hh
     go_wp2_with (first|(go_at_call 47;refine uA.out.mono ?_;rintro e w4 ⟨rfl,rfl⟩))
     go_roundw
     case rel=>exact⟨i+1,s,dR,e8,by omega,by go_num,fN.out,H5.out⟩
     case measure=>simp[intOf];omega
   ·obtain rfl:i=m:=by omega
    have hd:¬((i:Int)<(i:Int)):=by omega
    have hown:=hw.own hbd.lp hbd.lh hbd.lo (by omega) (by omega)
    have c1:=hw.c1
    have c2:=hw.c2
    have c3:=hw.c3
    have c4:=hw.c4
    have hk3:=(hw.aI.block (w.heap.size+1) (by omega)).trans xP.out
    obtain⟨k0,k1,k2,k3,kf⟩:=au hk3
    obtain⟨r0,r1,r2,r3,-⟩:=au (gW hk3 (.slice (some ⟨gp,0,none⟩) i i) (.slice (some ⟨gh,0,none⟩) i i) dR (.slice (some ⟨gr,0,none⟩) es.length es.length))
    have R0:=Nu.hid r0
    have R1:=Nu.hid r1
    have R2:=Nu.hid r2
    have R3:=Nu.hid r3
    unfold dY at R0 R1 R2 R3
    have Ra:lX (dY wr (w.heap.size+1) (.slice (some ⟨gp,0,none⟩) i i) (.slice (some ⟨gh,0,none⟩) i i) dR (.slice (some ⟨gr,0,none⟩) es.length es.length)) w1.heap.size (.slice (some ⟨gp,0,none⟩) i i) (.slice (some ⟨gh,0,none⟩) i i) dR (.slice (some ⟨gr,0,none⟩) es.length es.length) s:=hown.same fun g hg _=>kR (by omega) _ _ _ _
    have RY:=eA (aY.out.trans (hw.aI.mono aY.out.size)) (R:=w.heap.size+1) (by omega) (.slice (some ⟨gp,0,none⟩) i i) (.slice (some ⟨gh,0,none⟩) i i) dR (.slice (some ⟨gr,0,none⟩) es.length es.length)
    have Pn:=Nu.hid (Ra.lower aY.out.size)
    have oY:=Nu.hid RY
    unfold dY at Pn oY
    obtain⟨zB,jZ,Bh,_,_⟩:=hw.ow.form
    subst Bh
    have fN:=Nu.hid hwk
    clear hwk hw hbd hown hk3 r0 r1 r2 r3 Ra RY
    go_wp2
    refine bodyPost_ret (v:= .tuple #[.agg #[.slice (some ⟨gp,0,none⟩) i i,.slice (some ⟨gh,0,none⟩) i i,.slice zB s.ord.length jZ,.slice (some ⟨gr,0,none⟩) es.length es.length],.int .i64 0]) (by simp[results,Tryz.results26,go_sem,R0.out,R1.out,R2.out,R3.out]) rfl ?_
    exact⟨_,_,_,_,_,_,rfl,Pn.out,.inl ⟨i,rfl,m9.out,fN.out,rfl⟩,oY.out⟩
end
section
open Go.RowKit Go.Sort
def Cs.jI (es:List (Int×Int)) (a j:Nat):List Int:=(Cs.out es a j).map fun i:Nat=>(i:Int)
structure iR (w:World) (G:Nat) (vs:List Value) (es:List (Int×Int)) (j:Nat):Prop where
 blk:w.heap[G]? =some (.cells vs.toArray 27 (0,0))
 row:∀(u:Nat) (v:Value),vs[u]? =some v→w.ownsRow (G+1) 3 1 v (Cs.jI es u j).length ((Cs.jI es u j).map (Value.int .i64))
 apart:∀(u u':Nat) (v v':Value) (b:Nat),u≠u'→vs[u]? =some v→vs[u']? =some v'→v.ownBlock=some b→v'.ownBlock≠some b
theorem iR.lt {w:World} {G:Nat} {vs:List Value} {es:List (Int×Int)} {j:Nat} (h:iR w G vs es j):G<w.heap.size:=lt_of_block h.blk
theorem iR.cell {w:World} {G:Nat} {vs:List Value} {es:List (Int×Int)} {j u:Nat} {v:Value} (h:iR w G vs es j) (hv:vs[u]? =some v):w.cell? ⟨G,u,none⟩=some v:=by
 simp[World.cell?,h.blk,hv]
theorem tI {w w':World} {B p:Nat} {e:TypeId} {u:Value} {xs:List Value} (h:w.ownsRow B e 1 u p xs) (hb:∀g,u.ownBlock=some g→g<w.heap.size→w'.heap[g]? =w.heap[g]?):w'.ownsRow B e 1 u p xs:=by
 refine⟨h.1,?_⟩
 rcases h.2 with h|⟨g,cap,cur,e1,hgB,hh,hr⟩
 ·exact .inl h
 ·exact .inr ⟨g,cap,cur,e1,hgB,(hb g (by rw[e1];rfl) (lt_of_block hh)).trans hh,hr⟩
theorem iR.later {w w':World} {G:Nat} {vs:List Value} {es:List (Int×Int)} {j:Nat} (h:iR w G vs es j) (hb:Below w.heap.size w w'):iR w' G vs es j:=
 ⟨(hb.block G h.lt).trans h.blk,fun u v hv=>tI (h.row u v hv) (fun g _ hg=>hb.block g hg),h.apart⟩
theorem iR.put {W w1:World} {G:Nat} {vs:List Value} {es:List (Int×Int)} {j:Nat} {v v':Value} {tmp:Obj} (h:iR W G vs es j) (hv:vs[Cs.fr es j]? =some v)
 (hown:w1.ownsRow (G+1) 3 1 v' ((Cs.jI es (Cs.fr es j) j).length+1) ((Cs.jI es (Cs.fr es j) j).map (Value.int .i64)++[.int .i64 (j:Int)])) (hgrow:(W.alloc tmp).grownBy w1 v.ownBlock) (hat:v'.ownBlock=v.ownBlock∨v'.ownBlock=some (W.heap.size+1)):
 w1.cell? ⟨G,Cs.fr es j,none⟩=some v∧w1.frozen? ⟨G,Cs.fr es j,none⟩=false∧iR (w1.setCell ⟨G,Cs.fr es j,none⟩ v') G (vs.set (Cs.fr es j) v') es (j+1)∧Below G W (w1.setCell ⟨G,Cs.fr es j,none⟩ v'):=by
 obtain⟨u,hu⟩:∃u,u=Cs.fr es j:=⟨_,rfl⟩
 rw[←hu] at hv hown ⊢
 have hlt:=h.lt
 have nT:=(aas.1 hv).1
 have q8:∀g,v.ownBlock=some g→G+1≤g:=fun g hg=>by
  rcases(h.row u v hv).2 with ⟨rfl,_⟩|⟨g',cap,cur,rfl,hb,_,_⟩
  ·simp[Value.ownBlock] at hg
  ·obtain rfl:g'=g:=by simpa[Value.ownBlock] using hg
   exact hb
 have hG1:w1.heap[G]? =some (.cells vs.toArray 27 (0,0)):=by
  rw[hgrow.block G (by rw[aaM];omega) (fun e=>by have:=q8 G e.symm;omega)]
  exact(aap W tmp G hlt).trans h.blk
 have hsz:W.heap.size≤w1.heap.size:=by
  have:=hgrow.size
  rw[aaM] at this
  omega
 refine⟨by simp[World.cell?,hG1,hv],by simp[World.frozen?,hG1],⟨?_,fun a x ha=> ?_,fun a a' x x' b hne ha ha' hb=> ?_⟩,?_⟩
 ·rw[heap_setCell_same w1 G u _ _ _ hG1]
  simp
 ·rw[aaq] at ha
  by_cases e:u=a
  ·subst e
   rw[if_pos rfl,if_pos nT] at ha
   cases ha
   have e1:Cs.jI es u (j+1)=Cs.jI es u j++[(j:Int)]:=by
    unfold Cs.jI
    conv=>lhs;arg 2;unfold Cs.out
    rw[if_pos hu.symm]
    simp
   rw[e1,abl,aaA]
   refine tI hown (fun g hg _=>heap_setCell_other w1 ⟨G,u,none⟩ g _ ?_)
   show g≠G
   rcases hat with e2|e2
   ·rw[e2] at hg
    have:=q8 g hg
    omega
   ·rw[e2] at hg
    have:=aak hg
    omega
  ·rw[if_neg e] at ha
   have e1:Cs.jI es a (j+1)=Cs.jI es a j:=by
    unfold Cs.jI
    conv=>lhs;arg 2;unfold Cs.out
    rw[if_neg (fun h=>e (hu.trans h))]
   rw[e1]
   have hr:=h.row a x ha
   refine tI hr (fun g hg mS=> ?_)
   have hgB:G+1≤g:=by
    rcases hr.2 with ⟨rfl,_⟩|⟨g',cap,cur,rfl,hb,_,_⟩
    ·simp[Value.ownBlock] at hg
    ·obtain rfl:g'=g:=by simpa[Value.ownBlock] using hg
     exact hb
   rw[heap_setCell_other w1 ⟨G,u,none⟩ g _ (by show g≠G;omega),hgrow.block g (by rw[aaM];omega) (fun e2=>h.apart u a v x g e hv ha e2.symm hg)]
   exact aap W tmp g mS
 ·rw[aaq] at ha ha'
  by_cases e:u=a
  ·subst e
   rw[if_pos rfl,if_pos nT] at ha
   cases ha
   rw[if_neg hne] at ha'
   rcases hat with e2|e2
   ·rw[e2] at hb
    exact h.apart u a' v x' b hne hv ha' hb
   ·rw[e2] at hb
    have Vy:=aak hb
    intro hc
    rcases(h.row a' x' ha').2 with ⟨rfl,_⟩|⟨g',cap,cur,rfl,_,hh,_⟩
    ·simp[Value.ownBlock] at hc
    ·have:g'=b:=by simpa[Value.ownBlock] using hc
     have:=lt_of_block hh
     omega
  ·rw[if_neg e] at ha
   by_cases e':u=a'
   ·subst e'
    rw[if_pos rfl,if_pos nT] at ha'
    cases ha'
    intro hc
    rcases hat with e2|e2
    ·rw[e2] at hc
     exact h.apart u a v x b (aaR hne) hv ha hc hb
    ·rw[e2] at hc
     have Vy:=aak hc
     rcases(h.row a x ha).2 with ⟨rfl,_⟩|⟨g',cap,cur,rfl,_,hh,_⟩
     ·simp[Value.ownBlock] at hb
     ·have:g'=b:=by simpa[Value.ownBlock] using hb
      have:=lt_of_block hh
      omega
   ·rw[if_neg e'] at ha'
    exact h.apart a a' x x' b hne ha ha' hb
 ·refine⟨hgrow.os,hgrow.tape,hgrow.output,by simpa using hsz,fun k hk=> ?_⟩
  rw[heap_setCell_other w1 ⟨G,u,none⟩ k _ (by show k≠G;omega),hgrow.block k (by rw[aaM];omega) (fun e=>by have:=q8 k e.symm;omega)]
  exact aap W tmp k (by omega)
theorem Kn (n:Nat):(madeCells #[.slice none 0 0] n)=(List.replicate n (Value.slice none 0 0)).toArray:=by
 apply Array.ext'
 rw[toList_madeCells_one]
def O6 (n:Nat) (es:List (Int×Int)) (w:World) (e:Ending) (w':World):Prop:=
 ∃(G:Nat) (vs:List Value),e= .returned (.slice (some ⟨G,0,none⟩) n n)∧vs.length=n∧iR w' G vs es (2*es.length)∧w.heap.size≤G∧Below w.heap.size w w'
set_option maxRecDepth 100000 in
set_option maxHeartbeats 8000000 in
theorem NL (n:Nat) (ao:Option Addr) (ca:Nat) (es:List (Int×Int)) (w:World) (he:aQ w ao es) (hv:Si.Val n es):
 Calls Tryz.prog 30 #[.agg #[.int .i64 (n:Int),.slice ao es.length ca]] w (O6 n es w):=by
 obtain⟨i0,hi,hz0,hz1,hz2⟩:=info_parts Tryz.bO
 obtain⟨i1,hi1,hy0,hy1,hy2⟩:=info_parts Tryz.AZ
 have cj:=hv.few
 have hhi:=hv.hi
 have HE:=Nu.hid he
 have HV:=Nu.hid hv
 have hmk:∀W,(Instr.makeSlice 72 (.int .i64 (n:Int)) (.int .i64 (n:Int))).run Tryz.prog W= .ok (.slice (some ⟨W.heap.size,0,none⟩) n n) (W.alloc (.cells (List.replicate n (Value.slice none 0 0)).toArray 27)):=fun W=>by
  have:=run_make (P:=Tryz.prog) W 72 27 i1 (.slice none 0 0) Tryz.underlying72 hi1 hy0 .i64 .i64 (n:Int) (n:Int) (by omega) (abE _) (by rw[hy2];omega) (by omega)
  rw[this,hy1]
  simp[Value.cells,Kn]
 clear he hv
 go_enter Tryz.func30,Tryz.ntmps30
 go_wp2
 clear hmk
 go_loopw [4] (fun cv wr=>∃(k:Nat) (vs:List Value),k≤es.length∧cv= .int .i64 k∧vs.length=n∧iR wr (w.heap.size+1) vs es (2*k)∧wr.heap[w.heap.size]? =some (.cells #[.int .i64 (n:Int),.slice ao es.length ca] 24 (0,0))∧Below w.heap.size w wr) (fun cv _=>es.length-(intOf cv).toNat)
 case atStart=>
  refine⟨0,List.replicate n (.slice none 0 0),aax _,rfl,by simp,⟨?_,fun u v hu=> ?_,fun u u' v v' b _ hu hu' hb=> ?_⟩,?_,((aae _ _).alloc (aad _) _).alloc (by simp) _⟩
  ·have:=heap_alloc_new (w.alloc (.cells #[.int .i64 (n:Int),.slice ao es.length ca] 24)) (.cells (List.replicate n (Value.slice none 0 0)).toArray 27)
   simpa using this
  ·rw[aaI] at hu
   split at hu
   ·cases hu
    exact acO _ _ _ _
   ·cases hu
  ·rw[aaI] at hu
   split at hu
   ·cases hu
    simp[Value.ownBlock] at hb
   ·cases hu
  ·rw[aap _ _ _ (by simp)]
   exact heap_alloc_new w _
 case round=>
  obtain⟨k,vs,hk,rfl,hvl,hrows,hg,hb⟩:=hrel
  obtain⟨x0,x1,-⟩:=ay hg
  have hsg:=lt_of_block hg
  have uy:=Nu.hid hrows
  have HG:=Nu.hid hg
  have HB:=Nu.hid hb
  have hsr:=hrows.lt
  by_cases hlt:k<es.length
  ·have lV:(k:Int)<(es.length:Int):=by omega
   have hk0:(0:Int)≤(k:Int):=by omega
   obtain⟨e,hee⟩:∃e,es[k]? =some e:=⟨_,aac hlt⟩
   obtain⟨b,o,rfl,c0,c1⟩:=(HE.out.later hb) k e hee
   have hok:=HV.out.each k e hee
   unfold Si.ok at hok
   obtain⟨eu,ev⟩:=e
   dsimp only at c0 c1 hok
   obtain⟨u,rfl⟩:∃u:Nat,eu=(u:Int):=⟨eu.toNat,by omega⟩
   obtain⟨v,rfl⟩:∃v:Nat,ev=(v:Int):=⟨ev.toNat,by omega⟩
   obtain⟨f1,-⟩:=Cs.iY hee
   obtain⟨f2,-⟩:=Cs.nH hee
   dsimp only[Int.toNat_natCast] at f1 f2
   have F1:=Nu.hid f1
   have F2:=Nu.hid f2
   have u0:(0:Int)≤(u:Int):=by omega
   have v0:(0:Int)≤(v:Int):=by omega
   have un:(u:Int)<(n:Int):=by omega
   have vn:(v:Int)<(n:Int):=by omega
   clear hrows hg hb hee hok f1 f2
   go_wp2_with fail
   go_quiet (fail)
   obtain⟨W,hW⟩:∃W,W=wr.drewN nq:=⟨_,rfl⟩
   rw[←hW]
   have hR:iR W (w.heap.size+1) vs es (2*k):=by rw[hW];exact uy.out.later (below_drewN (aae _ _) nq)
   have HGW:Hid (W.heap[w.heap.size]? =some (.cells #[.int .i64 (n:Int),.slice (some ⟨b,o,none⟩) es.length ca] 24 (0,0))):=by rw[hW];exact HG.out
   have jY:Hid (Below w.heap.size w W):=by rw[hW];exact below_drewN HB.out nq
   clear hW x0 x1 c0 c1 uy HG HB
   have Vd:=hR.lt
   obtain⟨q1,xg⟩:∃q,vs[u]? =some q:=⟨_,aac (by omega)⟩
   have cu:=hR.cell xg
   have qY:=Cs.kU (es:=es) (v:=u) (2*k)
   have KN:=hR.row u q1 xg
   obtain⟨p1,gQ⟩:∃p1,(Cs.jI es u (2*k)).length=p1:=⟨_,rfl⟩
   have ale:p1≤8388608:=by rw[←gQ];unfold Cs.jI;rw[aa3];omega
   rw[gQ] at KN
   have abV:=Nu.hid KN
   have HR:=Nu.hid hR
   have Pj:=Nu.hid xg
   have Du:=Nu.hid gQ
   clear KN hR xg gQ qY
   go_wp2_with (at_builtin;refine wpList_append_own_at _ rfl _ _ 27 rfl (w.heap.size+1+1) 3 i0 (.int .i64 0) 1 8 Tryz.underlying27 hi hz0 hz1 hz2 rfl (by decide) _ _ _ rfl (abo abV.out _) ⟨W.heap.size,0,none⟩ 1 1 [.int .i64 (2*(k:Int))] rfl rfl (cell_one_new _ _ _) (by simp[Value.oneCell']) (by unfold maxLen;omega) (by omega) (by simp;omega) ?_;refine aaB ?_)
   refine Nu.hid ?_
   intro v1 w1 hown1 ML _ YD
   obtain⟨g1,YO,wX⟩:=iB hown1
   have Q0:=HR.out.put (v':=v1) (by rw[F1.out];exact Pj.out) (by rw[F1.out,Du.out,show((2*k:Nat):Int)=2*(k:Int) by omega];exact hown1) ML YD
   rw[F1.out] at Q0
   obtain⟨cs1,fs1,hR1,hb1⟩:=Q0
   subst wX
   have aY:=Nu.hid (jY.out.trans (hb1.mono (by omega)))
   have nh:=Nu.hid ((hb1.block w.heap.size (by omega)).trans HGW.out)
   obtain⟨X1,iE⟩:∃X1,X1=w1.setCell ⟨w.heap.size+1,u,none⟩ (.slice (some ⟨g1,0,none⟩) (p1+1) YO):=⟨_,rfl⟩
   rw[←iE] at hR1 aY nh
   have QK:=hR1.lt
   obtain⟨q2,Fm⟩:∃q,(vs.set u (.slice (some ⟨g1,0,none⟩) (p1+1) YO))[v]? =some q:=⟨_,aac (by simp;omega)⟩
   have cv:=hR1.cell Fm
   have hl2:=Cs.kU (es:=es) (v:=v) (2*k+1)
   have hrow2:=hR1.row v q2 Fm
   obtain⟨p2,iQ⟩:∃p2,(Cs.jI es v (2*k+1)).length=p2:=⟨_,rfl⟩
   have ald:p2≤8388609:=by rw[←iQ];unfold Cs.jI;rw[aa3];omega
   rw[iQ] at hrow2
   have L0:=Nu.hid hrow2
   have uC:=Nu.hid hR1
   have HQ2:=Nu.hid Fm
   have kJ:=Nu.hid iQ
   have Tm:=Nu.hid iE
   rw[iE] at cv
   clear hown1 ML YD hb1 hR1 Fm hrow2 iQ hl2 iE cu
   have QF:X1.heap.size=w1.heap.size:=by rw[Tm.out];simp
   have hnew:∀j' x',[Value.int .i64 (2*(k:Int)+1)][j']? =some x'→(X1.alloc (.cells #[.int .i64 (2*(k:Int)+1)] 3)).cell? ((⟨w1.heap.size,0,none⟩:Addr).add j')=some x':=by
    rw[←QF]
    exact cell_one_new X1 _ _
   have nM:=Nu.hid hnew
   have alA:=Nu.hid QF
   clear hnew QF
   go_wp2_with (at_builtin;rw[←Tm.out];refine wpList_append_own_at _ rfl _ _ 27 rfl (w.heap.size+1+1) 3 i0 (.int .i64 0) 1 8 Tryz.underlying27 hi hz0 hz1 hz2 rfl (by decide) _ _ _ rfl (abo L0.out _) ⟨w1.heap.size,0,none⟩ 1 1 [.int .i64 (2*(k:Int)+1)] rfl rfl nM.out (by simp[Value.oneCell']) (by unfold maxLen;omega) (by omega) (by simp;omega) ?_;refine aaB ?_)
   refine Nu.hid ?_
   intro v2 w3 hown2 hgrow2 _ vr
   obtain⟨g3,jZ,hv2⟩:=iB hown2
   have QZ:=uC.out.put (v':=v2) (by rw[F2.out];exact HQ2.out) (by rw[F2.out,kJ.out,show((2*k+1:Nat):Int)=2*(k:Int)+1 by omega];exact hown2) hgrow2 (by simpa using vr)
   rw[F2.out] at QZ
   obtain⟨cs2,fs2,hR2,hb2⟩:=QZ
   subst hv2
   have ct:=Nu.hid (aY.out.trans (hb2.mono (by omega)))
   have iN:=Nu.hid ((hb2.block w.heap.size (by omega)).trans nh.out)
   have qy:=Nu.hid hR2
   clear hown2 hgrow2 vr hb2 hR2 cs1 fs1 cv Tm
   go_wp2
   go_roundw
   case rel=>exact⟨k+1,_,by omega,by go_num,by simp[hvl],qy.out,iN.out,ct.out⟩
   case measure=>simp[intOf];omega
  ·have hd:¬((k:Int)<(es.length:Int)):=by omega
   obtain rfl:k=es.length:=by omega
   clear hrows hg hb
   go_wp2
   go_ret
   exact⟨w.heap.size+1,vs,rfl,hvl,uy.out,by omega,HB.out⟩
end
section
open Go.RowKit Go.Sort
def bY (w:World) (g:Nat) (l:List Bool):Prop:=w.heap[g]? =some (.cells (l.map Value.bool).toArray 4 (0,0))
section
variable {w w':World} {g:Nat} {l:List Bool}
theorem bY.lt (h:bY w g l):g<w.heap.size:=lt_of_block h
theorem bY.cell (h:bY w g l) {i:Nat} {x:Bool} (hx:l[i]? =some x):w.cell? ⟨g,i,none⟩=some (.bool x):=by
 unfold bY at h
 simp[World.cell?,h,hx]
theorem bY.free (h:bY w g l) (i:Nat):w.frozen? ⟨g,i,none⟩=false:=by
 unfold bY at h
 simp[World.frozen?,h]
theorem bY.set (h:bY w g l) (i:Nat) (x:Bool):bY (w.setCell ⟨g,i,none⟩ (.bool x)) g (l.set i x):=by
 unfold bY at h ⊢
 rw[heap_setCell_same w g i _ _ _ h]
 simp
theorem bY.later (h:bY w g l) (hb:Below w.heap.size w w'):bY w' g l:=(hb.block g h.lt).trans h
theorem bY.aK {b i:Nat} (h:bY w g l) (hf:g≠b) (x:Value):bY (w.setCell ⟨b,i,none⟩ x) g l:=(cN hf x).trans h
end
end
section
open Go.RowKit Go.Sort
namespace Df
def iV (s:St):List Int:=s.az.map fun x=>if x= -1 then 0 else x
def gV (s:St):List Bool:=s.az.map fun x=>x != -1
end Df
structure RW (w0 w:World) (F gp gh gr gs:Nat) (ov:Value) (n m:Nat) (P H O R:List Int) (S:List Bool):Prop where
 aI:Below w0.heap.size w0 w
 blk:w.heap[F]? =some (.cells #[.slice (some ⟨gp,0,none⟩) n n,.slice (some ⟨gh,0,none⟩) n n,ov,.slice (some ⟨gr,0,none⟩) m m] 36 (0,0))
 ip:aq w gp P
 ih:aq w gh H
 ir:aq w gr R
 is:bY w gs S
 ow:aP w w0.heap.size ov O
 lo:w0.heap.size≤F∧w0.heap.size≤gp∧w0.heap.size≤gh∧w0.heap.size≤gr∧w0.heap.size≤gs
 ne:F≠gp∧F≠gh∧F≠gr∧F≠gs∧gp≠gh∧gp≠gr∧gp≠gs∧gh≠gr∧gh≠gs∧gr≠gs
 fD:ov.ownBlock≠some F∧ov.ownBlock≠some gp∧ov.ownBlock≠some gh∧ov.ownBlock≠some gr∧ov.ownBlock≠some gs
def B8 (F gp gh gr gs:Nat) (ov:Value) (b:Nat):Prop:=b=F∨b=gp∨b=gh∨b=gr∨b=gs∨ov.ownBlock=some b
section
variable {w0 w w':World} {F gp gh gr gs:Nat} {ov:Value} {n m:Nat} {P H O R:List Int} {S:List Bool}
theorem RW.cells (h:RW w0 w F gp gh gr gs ov n m P H O R S):w.cell? ⟨F,0,none⟩=some (.slice (some ⟨gp,0,none⟩) n n)∧w.cell? ⟨F,1,none⟩=some (.slice (some ⟨gh,0,none⟩) n n)∧w.cell? ⟨F,2,none⟩=some ov∧w.cell? ⟨F,3,none⟩=some (.slice (some ⟨gr,0,none⟩) m m)∧∀i,w.frozen? ⟨F,i,none⟩=false:=au h.blk
theorem RW.lt (h:RW w0 w F gp gh gr gs ov n m P H O R S):F<w.heap.size:=lt_of_block h.blk
theorem RW.later (h:RW w0 w F gp gh gr gs ov n m P H O R S) (hb:Below w.heap.size w w'):RW w0 w' F gp gh gr gs ov n m P H O R S:=
 ⟨h.aI.trans (hb.mono h.aI.size),(hb.block F h.lt).trans h.blk,h.ip.later hb,h.ih.later hb,h.ir.later hb,h.is.later hb,h.ow.later hb,h.lo,h.ne,h.fD⟩
theorem RW.uN (h:RW w0 w F gp gh gr gs ov n m P H O R S) (v:Nat) (x:Int):RW w0 (w.setCell ⟨gp,v,none⟩ (.int .i64 x)) F gp gh gr gs ov n m (P.set v x) H O R S:=by
 obtain⟨n1,n2,n3,n4,n5,n6,n7,n8,n9,n10⟩:=h.ne
 exact⟨h.aI.setCell (p:=⟨gp,v,none⟩) h.lo.2.1 _,(cN n1 _).trans h.blk,h.ip.set v x,h.ih.aK (aaR n5) _,h.ir.aK (aaR n6) _,h.is.aK (aaR n7) _,h.ow.aK h.fD.2.1 _,h.lo,h.ne,h.fD⟩
theorem RW.EW (h:RW w0 w F gp gh gr gs ov n m P H O R S) (v:Nat) (x:Int):RW w0 (w.setCell ⟨gh,v,none⟩ (.int .i64 x)) F gp gh gr gs ov n m P (H.set v x) O R S:=by
 obtain⟨n1,n2,n3,n4,n5,n6,n7,n8,n9,n10⟩:=h.ne
 exact⟨h.aI.setCell (p:=⟨gh,v,none⟩) h.lo.2.2.1 _,(cN n2 _).trans h.blk,h.ip.aK n5 _,h.ih.set v x,h.ir.aK (aaR n8) _,h.is.aK (aaR n9) _,h.ow.aK h.fD.2.2.1 _,h.lo,h.ne,h.fD⟩
theorem RW.rV (h:RW w0 w F gp gh gr gs ov n m P H O R S) (v:Nat) (x:Int):RW w0 (w.setCell ⟨gr,v,none⟩ (.int .i64 x)) F gp gh gr gs ov n m P H O (R.set v x) S:=by
 obtain⟨n1,n2,n3,n4,n5,n6,n7,n8,n9,n10⟩:=h.ne
 exact⟨h.aI.setCell (p:=⟨gr,v,none⟩) h.lo.2.2.2.1 _,(cN n3 _).trans h.blk,h.ip.aK n6 _,h.ih.aK n8 _,h.ir.set v x,h.is.aK (aaR n10) _,h.ow.aK h.fD.2.2.2.1 _,h.lo,h.ne,h.fD⟩
theorem RW.PW (h:RW w0 w F gp gh gr gs ov n m P H O R S) (v:Nat) (x:Bool):RW w0 (w.setCell ⟨gs,v,none⟩ (.bool x)) F gp gh gr gs ov n m P H O R (S.set v x):=by
 obtain⟨n1,n2,n3,n4,n5,n6,n7,n8,n9,n10⟩:=h.ne
 exact⟨h.aI.setCell (p:=⟨gs,v,none⟩) h.lo.2.2.2.2 _,(cN n4 _).trans h.blk,h.ip.aK n7 _,h.ih.aK n9 _,h.ir.aK n10 _,h.is.set v x,h.ow.aK h.fD.2.2.2.2 _,h.lo,h.ne,h.fD⟩
theorem RW.E0 {w1:World} {dR:Value} {x:Int} {tmp:Obj} (h:RW w0 w F gp gh gr gs ov n m P H O R S) (hown:aP w1 w0.heap.size dR (O++[x])) (hg:(w.alloc tmp).grownBy w1 ov.ownBlock) (hat:dR.ownBlock=ov.ownBlock∨dR.ownBlock=some (w.heap.size+1)):
 RW w0 (w1.setCell ⟨F,2,none⟩ dR) F gp gh gr gs dR n m P H (O++[x]) R S∧w1.cell? ⟨F,2,none⟩=some ov∧w1.frozen? ⟨F,2,none⟩=false∧aC (B8 F gp gh gr gs ov) w (w1.setCell ⟨F,2,none⟩ dR):=by
 have keep:∀b,b<w.heap.size→ov.ownBlock≠some b→w1.heap[b]? =w.heap[b]? :=fun b hb hne=>by
  rw[hg.block b (by rw[aaM];omega) (fun e=>hne e.symm)]
  exact aap w tmp b hb
 have gQ:=(keep F h.lt h.fD.1).trans h.blk
 have hsz:w.heap.size≤w1.heap.size:=by
  have:=hg.size
  rw[aaM] at this
  omega
 have hB:=h.aI.size
 have hnew:∀b,b<w.heap.size→ov.ownBlock≠some b→dR.ownBlock≠some b:=fun b hb hne e=>by
  rcases hat with e1|e1
  ·exact hne (e1.symm.trans e)
  ·rw[e1] at e
   have:=aak e
   omega
 have RJ:=hnew F h.lt h.fD.1
 obtain⟨n1,n2,n3,n4,n5,n6,n7,n8,n9,n10⟩:=h.ne
 obtain⟨k0,k1,k2,k3,kf⟩:=au gQ
 refine⟨⟨?_,?_,?_,?_,?_,?_,?_,h.lo,h.ne,⟨RJ,hnew gp h.ip.lt h.fD.2.1,hnew gh h.ih.lt h.fD.2.2.1,hnew gr h.ir.lt h.fD.2.2.2.1,hnew gs h.is.lt h.fD.2.2.2.2⟩⟩,k2,kf 2,?_⟩
 ·have hb1:Below w0.heap.size w w1:=⟨hg.os,hg.tape,hg.output,hsz,fun k hk=>keep k (by omega) (fun e=>by have:=(h.ow.lt e).1;omega)⟩
  exact(h.aI.trans hb1).setCell (p:=⟨F,2,none⟩) h.lo.1 _
 ·rw[heap_setCell_same w1 F 2 _ _ _ gQ]
  rfl
 ·exact aq.aK ((keep gp h.ip.lt h.fD.2.1).trans h.ip) (aaR n1) _
 ·exact aq.aK ((keep gh h.ih.lt h.fD.2.2.1).trans h.ih) (aaR n2) _
 ·exact aq.aK ((keep gr h.ir.lt h.fD.2.2.2.1).trans h.ir) (aaR n3) _
 ·exact bY.aK ((keep gs h.is.lt h.fD.2.2.2.2).trans h.is) (aaR n4) _
 ·exact hown.aK RJ _
 ·refine⟨hg.os,hg.tape,hg.output,by simpa using hsz,fun k hk hn=> ?_⟩
  rw[cN (fun e=>hn (.inl e)),keep k hk (fun e=>hn (.inr (.inr (.inr (.inr (.inr e))))))]
end
theorem iR.look {w:World} {G n:Nat} {vs:List Value} {es:List (Int×Int)} {j v:Nat} (h:iR w G vs es j) (hl:vs.length=n) (hv:v<n):∃ao cap,w.cell? ⟨G,v,none⟩=some (.slice ao (Cs.jI es v j).length cap)∧cK w ao (Cs.jI es v j):=by
 obtain⟨x,hx⟩:∃x,vs[v]? =some x:=⟨_,aac (by omega)⟩
 have hr:aP w (G+1) x (Cs.jI es v j):=h.row v x hx
 obtain⟨ao,cap,rfl,hi,_⟩:=hr.form
 exact⟨ao,cap,h.cell hx,hi⟩
end
end Go.Proofs.YtdjmnpmdmjclhabGreat
