import Derived.Test.YtnhcggfbkoppnaaGreatMg03
import Derived.Test.YtnhcggfbkoppnaaGreatMg00
import Derived.Test.YtnhcggfbkoppnaaGreatMg04
import Derived.Maps.AppendAt
import Derived.Deep.RegionHeld3
import Derived.Lib.SliceRun
namespace Go.Proofs.YtnhcggfbkoppnaaGreat
section
open Go.RowKit Go.Sort
def Cs.jB (es:List (Int×Int)) (a j:Nat):List Int:=(Cs.out es a j).map fun i:Nat=>(i:Int)
structure iN (w:World) (G:Nat) (vs:List Value) (es:List (Int×Int)) (j:Nat):Prop where
 blk:w.heap[G]? =some (.cells vs.toArray 27 (0,0))
 row:∀(u:Nat) (v:Value),vs[u]? =some v→w.ownsRow (G+1) 3 1 v (Cs.jB es u j).length ((Cs.jB es u j).map (Value.int .i64))
 apart:∀(u u':Nat) (v v':Value) (b:Nat),u≠u'→vs[u]? =some v→vs[u']? =some v'→v.ownBlock=some b→v'.ownBlock≠some b
theorem iN.lt {w:World} {G:Nat} {vs:List Value} {es:List (Int×Int)} {j:Nat} (h:iN w G vs es j):G<w.heap.size:=lt_of_block h.blk
theorem iN.cell {w:World} {G:Nat} {vs:List Value} {es:List (Int×Int)} {j u:Nat} {v:Value} (h:iN w G vs es j) (hv:vs[u]? =some v):w.cell? ⟨G,u,none⟩=some v:=by
 simp[World.cell?,h.blk,hv]
theorem s7 {w w':World} {B p:Nat} {e:TypeId} {u:Value} {xs:List Value} (h:w.ownsRow B e 1 u p xs) (hb:∀g,u.ownBlock=some g→g<w.heap.size→w'.heap[g]? =w.heap[g]?):w'.ownsRow B e 1 u p xs:=by
 refine⟨h.1,?_⟩
 rcases h.2 with h|⟨g,cap,cur,e1,hgB,hh,hr⟩
 ·exact .inl h
 ·exact .inr ⟨g,cap,cur,e1,hgB,(hb g (by rw[e1];rfl) (lt_of_block hh)).trans hh,hr⟩
theorem iN.later {w w':World} {G:Nat} {vs:List Value} {es:List (Int×Int)} {j:Nat} (h:iN w G vs es j) (hb:Below w.heap.size w w'):iN w' G vs es j:=
 ⟨(hb.block G h.lt).trans h.blk,fun u v hv=>s7 (h.row u v hv) (fun g _ hg=>hb.block g hg),h.apart⟩
theorem iN.put {W w1:World} {G:Nat} {vs:List Value} {es:List (Int×Int)} {j:Nat} {v v':Value} {tmp:Obj} (h:iN W G vs es j) (hv:vs[Cs.fr es j]? =some v)
 (hown:w1.ownsRow (G+1) 3 1 v' ((Cs.jB es (Cs.fr es j) j).length+1) ((Cs.jB es (Cs.fr es j) j).map (Value.int .i64)++[.int .i64 (j:Int)])) (hgrow:(W.alloc tmp).grownBy w1 v.ownBlock) (hat:v'.ownBlock=v.ownBlock∨v'.ownBlock=some (W.heap.size+1)):
 w1.cell? ⟨G,Cs.fr es j,none⟩=some v∧w1.frozen? ⟨G,Cs.fr es j,none⟩=false∧iN (w1.setCell ⟨G,Cs.fr es j,none⟩ v') G (vs.set (Cs.fr es j) v') es (j+1)∧Below G W (w1.setCell ⟨G,Cs.fr es j,none⟩ v'):=by
 obtain⟨u,hu⟩:∃u,u=Cs.fr es j:=⟨_,rfl⟩
 rw[←hu] at hv hown ⊢
 have hlt:=h.lt
 have nJ:=(List.getElem?_eq_some_iff.1 hv).1
 have qQ:∀g,v.ownBlock=some g→G+1≤g:=fun g hg=>by
  rcases(h.row u v hv).2 with ⟨rfl,_⟩|⟨g',cap,cur,rfl,hb,_,_⟩
  ·simp[Value.ownBlock] at hg
  ·obtain rfl:g'=g:=by simpa[Value.ownBlock] using hg
   exact hb
 have Z8:w1.heap[G]? =some (.cells vs.toArray 27 (0,0)):=by
  rw[hgrow.block G (by rw[World.size_alloc];omega) (fun e=>by have:=qQ G e.symm;omega)]
  exact(Below.heap_alloc W tmp G hlt).trans h.blk
 have hsz:W.heap.size≤w1.heap.size:=by
  have:=hgrow.size
  rw[World.size_alloc] at this
  omega
 refine⟨by simp[World.cell?,Z8,hv],by simp[World.frozen?,Z8],⟨?_,fun a x ha=> ?_,fun a a' x x' b hne ha ha' hb=> ?_⟩,?_⟩
 ·rw[heap_setCell_same w1 G u _ _ _ Z8]
  simp
 ·rw[List.getElem?_set] at ha
  by_cases e:u=a
  ·subst e
   rw[if_pos rfl,if_pos nJ] at ha
   cases ha
   have e1:Cs.jB es u (j+1)=Cs.jB es u j++[(j:Int)]:=by
    unfold Cs.jB
    conv=>lhs;arg 2;unfold Cs.out
    rw[if_pos hu.symm]
    simp
   rw[e1,List.map_append,List.length_append]
   refine s7 hown (fun g hg _=>heap_setCell_other w1 ⟨G,u,none⟩ g _ ?_)
   show g≠G
   rcases hat with e2|e2
   ·rw[e2] at hg
    have:=qQ g hg
    omega
   ·rw[e2] at hg
    have:=Option.some.inj hg
    omega
  ·rw[if_neg e] at ha
   have e1:Cs.jB es a (j+1)=Cs.jB es a j:=by
    unfold Cs.jB
    conv=>lhs;arg 2;unfold Cs.out
    rw[if_neg (fun h=>e (hu.trans h))]
   rw[e1]
   have hr:=h.row a x ha
   refine s7 hr (fun g hg mJ=> ?_)
   have hgB:G+1≤g:=by
    rcases hr.2 with ⟨rfl,_⟩|⟨g',cap,cur,rfl,hb,_,_⟩
    ·simp[Value.ownBlock] at hg
    ·obtain rfl:g'=g:=by simpa[Value.ownBlock] using hg
     exact hb
   rw[heap_setCell_other w1 ⟨G,u,none⟩ g _ (by show g≠G;omega),hgrow.block g (by rw[World.size_alloc];omega) (fun e2=>h.apart u a v x g e hv ha e2.symm hg)]
   exact Below.heap_alloc W tmp g mJ
 ·rw[List.getElem?_set] at ha ha'
  by_cases e:u=a
  ·subst e
   rw[if_pos rfl,if_pos nJ] at ha
   cases ha
   rw[if_neg hne] at ha'
   rcases hat with e2|e2
   ·rw[e2] at hb
    exact h.apart u a' v x' b hne hv ha' hb
   ·rw[e2] at hb
    have UG:=Option.some.inj hb
    intro hc
    rcases(h.row a' x' ha').2 with ⟨rfl,_⟩|⟨g',cap,cur,rfl,_,hh,_⟩
    ·simp[Value.ownBlock] at hc
    ·have:g'=b:=by simpa[Value.ownBlock] using hc
     have:=lt_of_block hh
     omega
  ·rw[if_neg e] at ha
   by_cases e':u=a'
   ·subst e'
    rw[if_pos rfl,if_pos nJ] at ha'
    cases ha'
    intro hc
    rcases hat with e2|e2
    ·rw[e2] at hc
     exact h.apart u a v x b (Ne.symm hne) hv ha hc hb
    ·rw[e2] at hc
     have UG:=Option.some.inj hc
     rcases(h.row a x ha).2 with ⟨rfl,_⟩|⟨g',cap,cur,rfl,_,hh,_⟩
     ·simp[Value.ownBlock] at hb
     ·have:g'=b:=by simpa[Value.ownBlock] using hb
      have:=lt_of_block hh
      omega
   ·rw[if_neg e'] at ha'
    exact h.apart a a' x x' b hne ha ha' hb
 ·refine⟨hgrow.os,hgrow.tape,hgrow.output,by simpa using hsz,fun k hk=> ?_⟩
  rw[heap_setCell_other w1 ⟨G,u,none⟩ k _ (by show k≠G;omega),hgrow.block k (by rw[World.size_alloc];omega) (fun e=>by have:=qQ k e.symm;omega)]
  exact Below.heap_alloc W tmp k (by omega)
theorem JQ (n:Nat):(madeCells #[.slice none 0 0] n)=(List.replicate n (Value.slice none 0 0)).toArray:=by
 apply Array.ext'
 rw[toList_madeCells_one]
def Ol (n:Nat) (es:List (Int×Int)) (w:World) (e:Ending) (w':World):Prop:=
 ∃(G:Nat) (vs:List Value),e= .returned (.slice (some ⟨G,0,none⟩) n n)∧vs.length=n∧iN w' G vs es (2*es.length)∧w.heap.size≤G∧Below w.heap.size w w'
set_option maxRecDepth 100000 in
set_option maxHeartbeats 8000000 in
theorem M6 (n:Nat) (ao:Option Addr) (ca:Nat) (es:List (Int×Int)) (w:World) (he:aL w ao es) (hv:Si.Val n es):
 Calls Tryz.prog 32 #[.agg #[.int .i64 (n:Int),.slice ao es.length ca]] w (Ol n es w):=by
 obtain⟨i0,hi,hz0,hz1,hz2⟩:=info_parts Tryz.bS
 obtain⟨i1,hi1,hy0,hy1,hy2⟩:=info_parts Tryz.Av
 have cq:=hv.few
 have hhi:=hv.hi
 have HE:=Nu.hid he
 have HV:=Nu.hid hv
 have hmk:∀W,(Instr.makeSlice 62 (.int .i64 (n:Int)) (.int .i64 (n:Int))).run Tryz.prog W= .ok (.slice (some ⟨W.heap.size,0,none⟩) n n) (W.alloc (.cells (List.replicate n (Value.slice none 0 0)).toArray 27)):=fun W=>by
  have:=run_make (P:=Tryz.prog) W 62 27 i1 (.slice none 0 0) Tryz.underlying62 hi1 hy0 .i64 .i64 (n:Int) (n:Int) (by omega) (Int.le_refl _) (by rw[hy2];omega) (by omega)
  rw[this,hy1]
  simp[Value.cells,JQ]
 clear he hv
 go_enter Tryz.func32,Tryz.ntmps32
 go_wp2
 clear hmk
 go_loopw [4] (fun cv wr=>∃(k:Nat) (vs:List Value),k≤es.length∧cv= .int .i64 k∧vs.length=n∧iN wr (w.heap.size+1) vs es (2*k)∧wr.heap[w.heap.size]? =some (.cells #[.int .i64 (n:Int),.slice ao es.length ca] 24 (0,0))∧Below w.heap.size w wr) (fun cv _=>es.length-(intOf cv).toNat)
 case atStart=>
  refine⟨0,List.replicate n (.slice none 0 0),Nat.zero_le _,rfl,by simp,⟨?_,fun u v hu=> ?_,fun u u' v v' b _ hu hu' hb=> ?_⟩,?_,((Below.refl _ _).alloc (Nat.le_refl _) _).alloc (by simp) _⟩
  ·have:=heap_alloc_new (w.alloc (.cells #[.int .i64 (n:Int),.slice ao es.length ca] 24)) (.cells (List.replicate n (Value.slice none 0 0)).toArray 27)
   simpa using this
  ·rw[List.getElem?_replicate] at hu
   split at hu
   ·cases hu
    exact World.ownsRow_nil _ _ _ _
   ·cases hu
  ·rw[List.getElem?_replicate] at hu
   split at hu
   ·cases hu
    simp[Value.ownBlock] at hb
   ·cases hu
  ·rw[Below.heap_alloc _ _ _ (by simp)]
   exact heap_alloc_new w _
 case round=>
  obtain⟨k,vs,hk,rfl,hvl,hrows,hg,hb⟩:=hrel
  obtain⟨x0,x1,-⟩:=az hg
  have hsg:=lt_of_block hg
  have ud:=Nu.hid hrows
  have HG:=Nu.hid hg
  have HB:=Nu.hid hb
  have hsr:=hrows.lt
  by_cases hlt:k<es.length
  ·have oA:(k:Int)<(es.length:Int):=by omega
   have hk0:(0:Int)≤(k:Int):=by omega
   obtain⟨e,hee⟩:∃e,es[k]? =some e:=⟨_,List.getElem?_eq_getElem hlt⟩
   obtain⟨b,o,rfl,c0,c1⟩:=(HE.out.later hb) k e hee
   have hok:=HV.out.each k e hee
   unfold Si.ok at hok
   obtain⟨eu,ev⟩:=e
   dsimp only at c0 c1 hok
   obtain⟨u,rfl⟩:∃u:Nat,eu=(u:Int):=⟨eu.toNat,by omega⟩
   obtain⟨v,rfl⟩:∃v:Nat,ev=(v:Int):=⟨ev.toNat,by omega⟩
   obtain⟨f1,-⟩:=Cs.iR hee
   obtain⟨f2,-⟩:=Cs.nw hee
   dsimp only[Int.toNat_natCast] at f1 f2
   have F1:=Nu.hid f1
   have F2:=Nu.hid f2
   have u0:(0:Int)≤(u:Int):=by omega
   have v0:(0:Int)≤(v:Int):=by omega
   have un:(u:Int)<(n:Int):=by omega
   have vn:(v:Int)<(n:Int):=by omega
   clear hrows hg hb hee hok f1 f2
   go_wp2_with fail
   go_quiet (fail)
   obtain⟨W,hW⟩:∃W,W=wr.drewN nq:=⟨_,rfl⟩
   rw[←hW]
   have hR:iN W (w.heap.size+1) vs es (2*k):=by rw[hW];exact ud.out.later (below_drewN (Below.refl _ _) nq)
   have HGW:Hid (W.heap[w.heap.size]? =some (.cells #[.int .i64 (n:Int),.slice (some ⟨b,o,none⟩) es.length ca] 24 (0,0))):=by rw[hW];exact HG.out
   have l8:Hid (Below w.heap.size w W):=by rw[hW];exact below_drewN HB.out nq
   clear hW x0 x1 c0 c1 ud HG HB
   have Uk:=hR.lt
   obtain⟨q1,wJ⟩:∃q,vs[u]? =some q:=⟨_,List.getElem?_eq_getElem (by omega)⟩
   have cu:=hR.cell wJ
   have mF:=Cs.kJ (es:=es) (v:=u) (2*k)
   have Kc:=hR.row u q1 wJ
   obtain⟨p1,gP⟩:∃p1,(Cs.jB es u (2*k)).length=p1:=⟨_,rfl⟩
   have ajT:p1≤8388608:=by rw[←gP];unfold Cs.jB;rw[List.length_map];omega
   rw[gP] at Kc
   have aaL:=Nu.hid Kc
   have HR:=Nu.hid hR
   have OA:=Nu.hid wJ
   have C3:=Nu.hid gP
   clear Kc hR wJ gP mF
   go_wp2_with (at_builtin;refine wpList_append_own_at _ rfl _ _ 27 rfl (w.heap.size+1+1) 3 i0 (.int .i64 0) 1 8 Tryz.underlying27 hi hz0 hz1 hz2 rfl (by decide) _ _ _ rfl (World.ownsRow.alloc aaL.out _) ⟨W.heap.size,0,none⟩ 1 1 [.int .i64 (2*(k:Int))] rfl rfl (cell_one_new _ _ _) (by simp[Value.oneCell']) (by unfold maxLen;omega) (by omega) (by simp;omega) ?_;refine Hid.out ?_)
   refine Nu.hid ?_
   intro v1 w1 hown1 Mi _ Xx
   obtain⟨g1,XH,nI⟩:=iy hown1
   have Qi:=HR.out.put (v':=v1) (by rw[F1.out];exact OA.out) (by rw[F1.out,C3.out,show((2*k:Nat):Int)=2*(k:Int) by omega];exact hown1) Mi Xx
   rw[F1.out] at Qi
   obtain⟨cs1,fs1,hR1,hb1⟩:=Qi
   subst nI
   have aV:=Nu.hid (l8.out.trans (hb1.mono (by omega)))
   have nW:=Nu.hid ((hb1.block w.heap.size (by omega)).trans HGW.out)
   obtain⟨X1,iC⟩:∃X1,X1=w1.setCell ⟨w.heap.size+1,u,none⟩ (.slice (some ⟨g1,0,none⟩) (p1+1) XH):=⟨_,rfl⟩
   rw[←iC] at hR1 aV nW
   have Uj:=hR1.lt
   obtain⟨q2,yB⟩:∃q,(vs.set u (.slice (some ⟨g1,0,none⟩) (p1+1) XH))[v]? =some q:=⟨_,List.getElem?_eq_getElem (by simp;omega)⟩
   have cv:=hR1.cell yB
   have hl2:=Cs.kJ (es:=es) (v:=v) (2*k+1)
   have hrow2:=hR1.row v q2 yB
   obtain⟨p2,iM⟩:∃p2,(Cs.jB es v (2*k+1)).length=p2:=⟨_,rfl⟩
   have ajS:p2≤8388609:=by rw[←iM];unfold Cs.jB;rw[List.length_map];omega
   rw[iM] at hrow2
   have aaK:=Nu.hid hrow2
   have uh:=Nu.hid hR1
   have S0:=Nu.hid yB
   have ko:=Nu.hid iM
   have Su:=Nu.hid iC
   rw[iC] at cv
   clear hown1 Mi Xx hb1 hR1 yB hrow2 iM hl2 iC cu
   have PY:X1.heap.size=w1.heap.size:=by rw[Su.out];simp
   have hnew:∀j' x',[Value.int .i64 (2*(k:Int)+1)][j']? =some x'→(X1.alloc (.cells #[.int .i64 (2*(k:Int)+1)] 3)).cell? ((⟨w1.heap.size,0,none⟩:Addr).add j')=some x':=by
    rw[←PY]
    exact cell_one_new X1 _ _
   have nC:=Nu.hid hnew
   have akf:=Nu.hid PY
   clear hnew PY
   go_wp2_with (at_builtin;rw[←Su.out];refine wpList_append_own_at _ rfl _ _ 27 rfl (w.heap.size+1+1) 3 i0 (.int .i64 0) 1 8 Tryz.underlying27 hi hz0 hz1 hz2 rfl (by decide) _ _ _ rfl (World.ownsRow.alloc aaK.out _) ⟨w1.heap.size,0,none⟩ 1 1 [.int .i64 (2*(k:Int)+1)] rfl rfl nC.out (by simp[Value.oneCell']) (by unfold maxLen;omega) (by omega) (by simp;omega) ?_;refine Hid.out ?_)
   refine Nu.hid ?_
   intro v2 w3 hown2 hgrow2 _ DN
   obtain⟨g3,jT,hv2⟩:=iy hown2
   have Qh:=uh.out.put (v':=v2) (by rw[F2.out];exact S0.out) (by rw[F2.out,ko.out,show((2*k+1:Nat):Int)=2*(k:Int)+1 by omega];exact hown2) hgrow2 (by simpa using DN)
   rw[F2.out] at Qh
   obtain⟨cs2,fs2,hR2,hb2⟩:=Qh
   subst hv2
   have cz:=Nu.hid (aV.out.trans (hb2.mono (by omega)))
   have kT:=Nu.hid ((hb2.block w.heap.size (by omega)).trans nW.out)
   have su:=Nu.hid hR2
   clear hown2 hgrow2 DN hb2 hR2 cs1 fs1 cv Su
   go_wp2
   go_roundw
   case rel=>exact⟨k+1,_,by omega,by go_num,by simp[hvl],su.out,kT.out,cz.out⟩
   case measure=>simp[intOf];omega
  ·have hd:¬((k:Int)<(es.length:Int)):=by omega
   obtain rfl:k=es.length:=by omega
   clear hrows hg hb
   go_wp2
   go_ret
   exact⟨w.heap.size+1,vs,rfl,hvl,ud.out,by omega,HB.out⟩
end
section
open Go.RowKit
def Cs.iG (n:Nat) (es:List (Int×Int)) (x:Int):Int:=(Cs.gM n es x).getD 0 (-1)
set_option maxRecDepth 100000 in
set_option maxHeartbeats 4000000 in
theorem KL (v:Value) (n:Nat) (es:List (Int×Int)) (x:Int) (w:World) (h:cE w v n es):Calls Tryz.prog 110 #[v,.int .i64 x] w fun e w'=>e= .returned (.int .i64 (Cs.iG n es x))∧∃k,w'=w.drewN k:=by
 have HL:=Nu.hid (uN v n es x w w h (Below.refl _ _))
 clear h
 unfold Cs.iG
 cases hL:Cs.gM n es x with
 |nil=>
  have jN:Hid (Calls Tryz.prog 128 #[v,.int .i64 x] w fun e w'=>∃ao cap,e= .returned (.slice ao 0 cap)∧∃k,w'=w.drewN k):=HL.out.mono (by
   rintro e w' ⟨ao,cap,h1,_,h3⟩
   rw[hL] at h1
   exact⟨ao,cap,h1,h3⟩)
  clear HL hL
  go_enter Tryz.func110,Tryz.ntmps110
  go_wp2_with (go_at_call 128;refine jN.out.mono ?_;rintro e w1 ⟨ao,cap,rfl,k,rfl⟩)
  go_ret
  exact⟨rfl,k,rfl⟩
 |cons z L=>
  have jN:Hid (Calls Tryz.prog 128 #[v,.int .i64 x] w fun e w'=>∃b o cap k,e= .returned (.slice (some ⟨b,o,none⟩) (L.length+1) cap)∧w.cell? ⟨b,o,none⟩=some (.int .i64 z)∧w'=w.drewN k):=HL.out.mono (by
   rintro e w' ⟨ao,cap,h1,h2,k,h3⟩
   rw[hL] at h1 h2
   obtain⟨b,o,rfl,h4⟩:=h2 0 z rfl
   exact⟨b,o,cap,k,h1,h4,h3⟩)
  have hne:((L.length:Int)+1==0)=false:=by simp;omega
  clear HL hL
  go_enter Tryz.func110,Tryz.ntmps110
  go_wp2_with (go_at_call 128;refine jN.out.mono ?_;rintro e w1 ⟨b,o,cap,k,rfl,hc,rfl⟩)
  go_ret
  exact⟨rfl,k,rfl⟩
def Cs.p5 (n:Nat) (es:List (Int×Int)) (x:Int):Int:=
 if 0≤x∧x<2*(es.length:Int) then (Cs.gM n es (Cs.fr es x.toNat)).getD ((Cs.out es (Cs.fr es x.toNat) x.toNat).length+1) (-1) else -1
theorem Cs.KZ {n:Nat} {es:List (Int×Int)} {x:Int} (h:¬(0≤x∧x<2*(es.length:Int))):Cs.p5 n es x= -1:=by unfold Cs.p5;rw[if_neg h]
set_option maxRecDepth 100000 in
set_option maxHeartbeats 4000000 in
theorem KY (v:Value) (n:Nat) (es:List (Int×Int)) (x:Int) (w:World) (h:cE w v n es):Calls Tryz.prog 83 #[v,.int .i64 x] w fun e w'=>e= .returned (.int .i64 (Cs.p5 n es x))∧∃k,w'=w.drewN k:=by
 have HV:=Nu.hid (pS v n es x w h)
 have HF:=Nu.hid (j8 v n es x w h)
 by_cases hx:0≤x∧x<2*(es.length:Int)
 ·rw[decide_eq_true hx] at HV
  rcases h with ⟨rfl,rfl,rfl⟩|⟨B,p,rfl,hv,gd,gs,gh,gp,gt,h⟩
  ·simp at hx;omega
  ·obtain⟨i,rfl⟩:∃u:Nat,x=(u:Int):=⟨x.toNat,by omega⟩
   have hi:i<2*es.length:=by omega
   have hlt:∀i,i<2*es.length→Cs.fr es i<n:=fun i hi=>(Cs.bH hv hi).1
   have nJ:=hlt i hi
   rw[Cs.jI hi] at HF
   have ea:Cs.p5 n es i=(Cs.gM n es (Cs.fr es i)).getD ((Cs.out es (Cs.fr es i) i).length+1) (-1):=by
    unfold Cs.p5
    rw[if_pos hx,Int.toNat_natCast]
   rw[ea]
   have hle:=Cs.zK hlt nJ
   have pO:=Cs.rN (es:=es) (k:=2*es.length) hi rfl
   have cq:=hv.few
   have c0:=h.blk.c0
   have c1:=h.blk.c1
   have c2:=h.blk.c2
   have c3:=h.blk.c3
   have d0:=h.deg _ nJ
   have d1:=h.start _ nJ
   have d3:=h.place i hi
   have pP:=h.half
   have hpos:Cs.pos es (2*es.length) i=Cs.st es (2*es.length) (Cs.fr es i)+(Cs.out es (Cs.fr es i) i).length:=rfl
   rw[hpos] at d3
   obtain⟨j,hj⟩:∃j,(Cs.out es (Cs.fr es i) i).length=j:=⟨_,rfl⟩
   rw[hj] at d3 pO ⊢
   have fN:∀(q:Nat),(Cs.out es (Cs.fr es i) (2*es.length))[j+1]? =some q→w.cell? ⟨gh,Cs.st es (2*es.length) (Cs.fr es i)+(j+1),none⟩=some (.int .i64 (q:Int)):=fun q hq=>by
    obtain⟨h1,h2,h3⟩:=Cs.nr hq
    have:=pP q h1
    unfold Cs.pos at this
    rw[h2,h3] at this
    exact this
   unfold Cs.gM
   rw[List.getD_eq_getElem?_getD,List.getElem?_map,Cs.ox nJ]
   obtain⟨f,hf⟩:∃f,Cs.fr es i=f:=⟨_,rfl⟩
   rw[hf] at HF hle pO d0 d1 d3 fN nJ ⊢
   obtain⟨O,hO⟩:∃O,Cs.out es f (2*es.length)=O:=⟨_,rfl⟩
   rw[hO] at hle pO d0 fN ⊢
   obtain⟨s,hs⟩:∃s,Cs.st es (2*es.length) f=s:=⟨_,rfl⟩
   rw[hs] at hle d1 d3 fN
   have z0:(0:Int)≤(i:Int):=by omega
   have z1:(i:Int)<2*(es.length:Int):=by omega
   have z2:(0:Int)≤(f:Int):=by omega
   have z3:(f:Int)<(n:Int):=by omega
   clear h hv hlt pP hf hO hs hj ea hpos hx
   by_cases dz:j+1=O.length
   ·have hge:O[j+1]? =none:=List.getElem?_eq_none (by omega)
    rw[hge]
    have he:((s:Int)+(j:Int)+1==(s:Int)+(O.length:Int))=true:=by simp;omega
    clear fN hge
    go_enter Tryz.func83,Tryz.ntmps83
    go_wp2_with (first|(go_at_call 112;refine HV.out.mono ?_;rintro e w1 ⟨rfl,rfl⟩)|(go_at_call 113;refine HF.out.mono ?_;rintro e w1 ⟨rfl,rfl⟩))
    go_quiet (fail)
    go_wp2
    go_ret
    exact⟨rfl,_,rfl⟩
   ·obtain⟨q,hq⟩:∃q,O[j+1]? =some q:=⟨_,List.getElem?_eq_getElem (by omega)⟩
    have hc:=fN q hq
    rw[hq]
    have he:((s:Int)+(j:Int)+1==(s:Int)+(O.length:Int))=false:=by simp;omega
    have z4:(0:Int)≤(s:Int)+(j:Int)+1:=by omega
    have z5:(s:Int)+(j:Int)+1<2*(es.length:Int):=by omega
    have z6:((s:Int)+(j:Int)+1).toNat=s+(j+1):=by omega
    clear fN hq
    go_enter Tryz.func83,Tryz.ntmps83
    go_wp2_with (first|(go_at_call 112;refine HV.out.mono ?_;rintro e w1 ⟨rfl,rfl⟩)|(go_at_call 113;refine HF.out.mono ?_;rintro e w1 ⟨rfl,rfl⟩))
    go_quiet (fail)
    go_wp2
    go_ret
    exact⟨rfl,_,rfl⟩
 ·rw[decide_eq_false hx] at HV
  rw[Cs.KZ hx]
  clear h hx HF
  go_enter Tryz.func83,Tryz.ntmps83
  go_wp2_with (go_at_call 112;refine HV.out.mono ?_;rintro e w1 ⟨rfl,rfl⟩)
  go_ret
  exact⟨rfl,0,rfl⟩
end
section
open Go.RowKit
def xe (av:Value) (n m:Nat) (w:World) (e:Ending) (w':World):Prop:=
 ∃p gp gh go gr,e= .returned (.pointer (some ⟨p,0,none⟩))∧w'.heap[p]? =some (.cells #[av,.slice (some ⟨gp,0,none⟩) n n,.slice (some ⟨gh,0,none⟩) n n,.slice (some ⟨go,0,none⟩) 0 n,.slice (some ⟨gr,0,none⟩) m m,.slice none 0 0] 92 (0,0))∧
  aq w' gp (List.replicate n (-1))∧aq w' gh (List.replicate n (-1))∧aq w' gr (List.replicate m (-1))∧aq w' go (List.replicate n 0)∧
  (w.heap.size≤p∧w.heap.size≤gp∧w.heap.size≤gh∧w.heap.size≤go∧w.heap.size≤gr)∧(p≠gp∧p≠gh∧p≠go∧p≠gr∧gp≠gh∧gp≠go∧gp≠gr∧gh≠go∧gh≠gr∧go≠gr)∧Below w.heap.size w w'
set_option maxRecDepth 100000 in
set_option maxHeartbeats 8000000 in
theorem Ad (av:Value) (n:Nat) (es:List (Int×Int)) (w:World) (h:cE w av n es):
 Calls Tryz.prog 43 #[av] w (xe av n es.length w):=by
 obtain⟨i0,hi,hz0,hz1,hz2⟩:=info_parts Tryz.bS
 obtain⟨hb1,hb2⟩:=h.bounds
 have j5:∃q,av= .pointer q:=by
  rcases h with ⟨h,_⟩|⟨_,p,h,_⟩
  ·exact⟨_,h⟩
  ·exact⟨_,h⟩
 obtain⟨q,rfl⟩:=j5
 have hN:∀V,Below w.heap.size w V→Calls Tryz.prog 44 #[.pointer q] V fun e V'=>e= .returned (.int .i64 (n:Int))∧V'=V:=fun V hV=>lY _ n es V (h.later hV)
 have hM:∀V,Below w.heap.size w V→Calls Tryz.prog 78 #[.pointer q] V fun e V'=>e= .returned (.int .i64 (es.length:Int))∧V'=V:=fun V hV=>zv _ n es V (h.later hV)
 have hU:∀V (k:Nat),k≤8388608→Calls Tryz.prog 77 #[.int .i64 (k:Int)] V fun e V'=>∃g,e= .returned (.slice (some ⟨g,0,none⟩) k k)∧V.heap.size≤g∧aq V' g (List.replicate k (-1))∧Below V.heap.size V V':=fun V k hk=>zC k V hk
 have hmk:∀W,(Instr.makeSlice 27 (.int .i64 0) (.int .i64 (n:Int))).run Tryz.prog W= .ok (.slice (some ⟨W.heap.size,0,none⟩) 0 n) (W.alloc (.cells (madeCells #[.int .i64 0] n) 3)):=fun W=>by
  have:=run_make (P:=Tryz.prog) W 27 3 i0 (.int .i64 0) Tryz.underlying27 hi hz0 .i64 .i64 0 (n:Int) (by omega) (by omega) (by rw[hz2];omega) (by omega)
  rw[this,hz1]
  simp[Value.cells]
 obtain⟨m,hm⟩:∃m,es.length=m:=⟨_,rfl⟩
 rw[hm] at hM hb2 ⊢
 have HN:=Nu.hid hN
 have HM:=Nu.hid hM
 have HU:=Nu.hid hU
 have hbd:Below w.heap.size w w.drew:=(Below.refl _ _).drew
 clear hN hM hU h hm
 go_enter Tryz.func43,Tryz.ntmps43
 go_wp2_with fail
 go_region_held3 (fun V=>Below w.heap.size w V) (first|assumption|exact hbd|exact Below.alloc (by first|assumption|exact hbd) (Below.size (by first|assumption|exact hbd)) _)
  ((first
    |(go_at_call 44;refine(HN.out _ (by first|assumption|exact hbd)).mono ?_;rintro e V1 ⟨rfl,rfl⟩)
    |(go_at_call 78;refine(HM.out _ (by first|assumption|exact hbd)).mono ?_;rintro e V1 ⟨rfl,rfl⟩)
    |(go_at_call 77;refine(HU.out _ _ (by omega)).mono ?_;rintro e V2 ⟨g,rfl,hg1,hg2,hv2⟩;have hb2:Below w.heap.size w V2:=Below.trans (by first|assumption|exact hbd) (hv2.mono (Below.size (by first|assumption|exact hbd))))))
 all_goals
  clear HN HM HU hmk
  go_wp2
  go_ret
 all_goals
  rename_i bA gA h1A VA h2A h3A h4A gB h1B h2B h3B h4B hZ
  have s1:=h3A.size
  have s2:=h3B.size
  have s3:=hv2.size
  have l1:=h2A.lt
  have l2:=h2B.lt
  have l3:=hg2.lt
  have u1:=h1A
  have u3:=hg1
  have hwd:w.drew.heap.size=w.heap.size:=rfl
  simp only[World.size_alloc,hwd] at s1 s2 s3 u1 u3
  refine⟨_,gA,gB,_,g,rfl,alloc_at (by simp),?_,?_,?_,?_,?_,?_,hZ⟩
  ·repeat (first|exact h2A|refine aq.later ?_ hv2|refine aq.later ?_ h3B|refine aq.alloc ?_ _)
  ·repeat (first|exact h2B|refine aq.later ?_ hv2|refine aq.alloc ?_ _)
  ·repeat (first|exact hg2|refine aq.alloc ?_ _)
  ·repeat (first|(refine rS ?_;simp;done)|refine aq.later ?_ hv2|refine aq.alloc ?_ _)
  ·try simp only[World.size_alloc]
   refine⟨?_,?_,?_,?_,?_⟩<;>omega
  ·try simp only[World.size_alloc]
   refine⟨?_,?_,?_,?_,?_,?_,?_,?_,?_,?_⟩<;>omega
end
section
open Go.RowKit
abbrev yX (av:Value) (gp gh gr n m:Nat) (ov sv:Value):Array Value:= #[av,.slice (some ⟨gp,0,none⟩) n n,.slice (some ⟨gh,0,none⟩) n n,ov,.slice (some ⟨gr,0,none⟩) m m,sv]
structure aM (w0 w:World) (p gp gh gr:Nat) (av ov sv:Value) (n m:Nat) (s:Df.St) (K:List Int):Prop where
 aI:Below w0.heap.size w0 w
 blk:w.heap[p]? =some (.cells (yX av gp gh gr n m ov sv) 92 (0,0))
 ip:aq w gp s.par
 ih:aq w gh s.ay
 ir:aq w gr s.aJ
 ow:aS w w0.heap.size ov s.ord
 sw:aS w w0.heap.size sv K
 lo:w0.heap.size≤p∧w0.heap.size≤gp∧w0.heap.size≤gh∧w0.heap.size≤gr
 ne:p≠gp∧p≠gh∧p≠gr∧gp≠gh∧gp≠gr∧gh≠gr
 fD:ov.ownBlock≠some p∧ov.ownBlock≠some gp∧ov.ownBlock≠some gh∧ov.ownBlock≠some gr
 sf:sv.ownBlock≠some p∧sv.ownBlock≠some gp∧sv.ownBlock≠some gh∧sv.ownBlock≠some gr
 os:∀b,ov.ownBlock=some b→sv.ownBlock≠some b
section
variable {w0 w w':World} {p gp gh gr:Nat} {av ov sv:Value} {n m:Nat} {s:Df.St} {K:List Int}
theorem aM.c0 (h:aM w0 w p gp gh gr av ov sv n m s K):w.cell? ⟨p,0,none⟩=some av:=by simp[World.cell?,h.blk]
theorem aM.c1 (h:aM w0 w p gp gh gr av ov sv n m s K):w.cell? ⟨p,1,none⟩=some (.slice (some ⟨gp,0,none⟩) n n):=by simp[World.cell?,h.blk]
theorem aM.c2 (h:aM w0 w p gp gh gr av ov sv n m s K):w.cell? ⟨p,2,none⟩=some (.slice (some ⟨gh,0,none⟩) n n):=by simp[World.cell?,h.blk]
theorem aM.c3 (h:aM w0 w p gp gh gr av ov sv n m s K):w.cell? ⟨p,3,none⟩=some ov:=by simp[World.cell?,h.blk]
theorem aM.c4 (h:aM w0 w p gp gh gr av ov sv n m s K):w.cell? ⟨p,4,none⟩=some (.slice (some ⟨gr,0,none⟩) m m):=by simp[World.cell?,h.blk]
theorem aM.lt (h:aM w0 w p gp gh gr av ov sv n m s K):p<w.heap.size:=lt_of_block h.blk
theorem aM.later (h:aM w0 w p gp gh gr av ov sv n m s K) (hb:Below w.heap.size w w'):aM w0 w' p gp gh gr av ov sv n m s K:=
 ⟨h.aI.trans (hb.mono h.aI.size),(hb.block p h.lt).trans h.blk,h.ip.later hb,h.ih.later hb,h.ir.later hb,h.ow.later hb,h.sw.later hb,h.lo,h.ne,h.fD,h.sf,h.os⟩
theorem aM.stk (h:aM w0 w p gp gh gr av ov sv n m s K):ij w p 5 (yX av gp gh gr n m ov sv) 92 w0.heap.size sv K:=⟨h.blk,rfl,h.sw,h.sf.1⟩
theorem aM.uC (h:aM w0 w p gp gh gr av ov sv n m s K) (v:Nat) (x:Int):aM w0 (w.setCell ⟨gp,v,none⟩ (.int .i64 x)) p gp gh gr av ov sv n m { s with par:=s.par.set v x } K:=
 ⟨h.aI.setCell (p:=⟨gp,v,none⟩) h.lo.2.1 _,(cM h.ne.1 _).trans h.blk,h.ip.set v x,h.ih.aK (Ne.symm h.ne.2.2.2.1) _,h.ir.aK (Ne.symm h.ne.2.2.2.2.1) _,h.ow.aK h.fD.2.1 _,h.sw.aK h.sf.2.1 _,h.lo,h.ne,h.fD,h.sf,h.os⟩
theorem aM.Ez (h:aM w0 w p gp gh gr av ov sv n m s K) (v:Nat) (x:Int):aM w0 (w.setCell ⟨gh,v,none⟩ (.int .i64 x)) p gp gh gr av ov sv n m { s with ay:=s.ay.set v x } K:=
 ⟨h.aI.setCell (p:=⟨gh,v,none⟩) h.lo.2.2.1 _,(cM h.ne.2.1 _).trans h.blk,h.ip.aK h.ne.2.2.2.1 _,h.ih.set v x,h.ir.aK (Ne.symm h.ne.2.2.2.2.2) _,h.ow.aK h.fD.2.2.1 _,h.sw.aK h.sf.2.2.1 _,h.lo,h.ne,h.fD,h.sf,h.os⟩
theorem aM.rL (h:aM w0 w p gp gh gr av ov sv n m s K) (v:Nat) (x:Int):aM w0 (w.setCell ⟨gr,v,none⟩ (.int .i64 x)) p gp gh gr av ov sv n m { s with aJ:=s.aJ.set v x } K:=
 ⟨h.aI.setCell (p:=⟨gr,v,none⟩) h.lo.2.2.2 _,(cM h.ne.2.2.1 _).trans h.blk,h.ip.aK h.ne.2.2.2.2.1 _,h.ih.aK h.ne.2.2.2.2.2 _,h.ir.set v x,h.ow.aK h.fD.2.2.2 _,h.sw.aK h.sf.2.2.2 _,h.lo,h.ne,h.fD,h.sf,h.os⟩
theorem aM.ED {w1:World} {dS:Value} {x:Int} {tmp:Obj} (h:aM w0 w p gp gh gr av ov sv n m s K) (hown:aS w1 w0.heap.size dS (s.ord++[x])) (hg:(w.alloc tmp).grownBy w1 ov.ownBlock) (hat:dS.ownBlock=ov.ownBlock∨dS.ownBlock=some (w.heap.size+1)):
 aM w0 (w1.setCell ⟨p,3,none⟩ dS) p gp gh gr av dS sv n m { s with ord:=s.ord++[x] } K∧w1.cell? ⟨p,3,none⟩=some ov∧w1.frozen? ⟨p,3,none⟩=false∧w1.heap[p]? =w.heap[p]? :=by
 have keep:∀b,b<w.heap.size→ov.ownBlock≠some b→w1.heap[b]? =w.heap[b]? :=fun b hb hne=>by
  rw[hg.block b (by rw[World.size_alloc];omega) (fun e=>hne e.symm)]
  exact Below.heap_alloc w tmp b hb
 have hp:=keep p h.lt h.fD.1
 have gP:=hp.trans h.blk
 have hsz:w.heap.size≤w1.heap.size:=by
  have:=hg.size
  rw[World.size_alloc] at this
  omega
 have hB:=h.aI.size
 have hnew:∀b,b<w.heap.size→ov.ownBlock≠some b→dS.ownBlock≠some b:=fun b hb hne e=>by
  rcases hat with e1|e1
  ·exact hne (e1.symm.trans e)
  ·rw[e1] at e
   have:=Option.some.inj e
   omega
 have QW:=hnew p h.lt h.fD.1
 refine⟨⟨?_,?_,?_,?_,?_,?_,?_,h.lo,h.ne,⟨QW,hnew gp h.ip.lt h.fD.2.1,hnew gh h.ih.lt h.fD.2.2.1,hnew gr h.ir.lt h.fD.2.2.2⟩,h.sf,fun b hb hs=> ?_⟩,by simp[World.cell?,gP],by simp[World.frozen?,gP],hp⟩
 ·have hb1:Below w0.heap.size w w1:=⟨hg.os,hg.tape,hg.output,hsz,fun k hk=>keep k (by omega) (fun e=>by have:=(h.ow.lt e).1;omega)⟩
  exact(h.aI.trans hb1).setCell (p:=⟨p,3,none⟩) h.lo.1 _
 ·rw[heap_setCell_same w1 p 3 _ _ _ gP]
  rfl
 ·exact aq.aK ((keep gp h.ip.lt h.fD.2.1).trans h.ip) (Ne.symm h.ne.1) _
 ·exact aq.aK ((keep gh h.ih.lt h.fD.2.2.1).trans h.ih) (Ne.symm h.ne.2.1) _
 ·exact aq.aK ((keep gr h.ir.lt h.fD.2.2.2).trans h.ir) (Ne.symm h.ne.2.2.1) _
 ·exact hown.aK QW _
 ·exact aS.aK (h.sw.same fun b hb hl=>keep b hl fun e=>h.os b e hb) h.sf.1 _
 ·exact hnew b (h.sw.lt hs).2 (fun e=>h.os b e hs) hb
theorem aM.pushed {e:Ending} {K':List Int} (h:aM w0 w p gp gh gr av ov sv n m s K) (hp:r8 p 5 (yX av gp gh gr n m ov sv) 92 w0.heap.size sv K' w e w'):∃fc,aM w0 w' p gp gh gr av ov fc n m s K':=by
 obtain⟨_,v',hst,hat,hw⟩:=hp
 have keep:∀b,b<w.heap.size→b≠p→sv.ownBlock≠some b→w'.heap[b]? =w.heap[b]? :=fun b hb h1 h2=>hw.block b hb (fun e=>e.elim h1 h2)
 have hnew:∀b,b<w.heap.size→sv.ownBlock≠some b→v'.ownBlock≠some b:=fun b hb hne e=>by
  rcases hat with e1|⟨g,e1,hg⟩
  ·exact hne (e1.symm.trans e)
  ·rw[e1] at e
   have:=Option.some.inj e
   omega
 have hB:=h.aI.size
 refine⟨v',⟨h.aI.trans (hw.below hB fun k hk=> ?_),hst.blk,(keep gp h.ip.lt (Ne.symm h.ne.1) h.sf.2.1).trans h.ip,(keep gh h.ih.lt (Ne.symm h.ne.2.1) h.sf.2.2.1).trans h.ih,(keep gr h.ir.lt (Ne.symm h.ne.2.2.1) h.sf.2.2.2).trans h.ir,
  h.ow.same fun b hb hl=>keep b hl (fun e=>h.fD.1 (by rw[hb,e])) (h.os b hb),hst.own,h.lo,h.ne,h.fD,⟨hst.far,hnew gp h.ip.lt h.sf.2.1,hnew gh h.ih.lt h.sf.2.2.1,hnew gr h.ir.lt h.sf.2.2.2⟩,fun b hb=>hnew b (h.ow.lt hb).2 (h.os b hb)⟩⟩
 rcases hk with rfl|hk
 ·exact h.lo.1
 ·exact(h.sw.lt hk).1
theorem aM.popped {x:Int} {e:Ending} {K':List Int} (h:aM w0 w p gp gh gr av ov sv n m s K) (hp:vD p 5 (yX av gp gh gr n m ov sv) 92 w0.heap.size sv K' x w e w'):∃fc,aM w0 w' p gp gh gr av ov fc n m s K':=by
 obtain⟨_,v',hst,hat,hw⟩:=hp
 have keep:∀b,b<w.heap.size→b≠p→w'.heap[b]? =w.heap[b]? :=fun b hb h1=>hw.block b hb h1
 have hB:=h.aI.size
 refine⟨v',⟨h.aI.trans (hw.below hB fun k hk=>by subst hk;exact h.lo.1),hst.blk,(keep gp h.ip.lt (Ne.symm h.ne.1)).trans h.ip,(keep gh h.ih.lt (Ne.symm h.ne.2.1)).trans h.ih,(keep gr h.ir.lt (Ne.symm h.ne.2.2.1)).trans h.ir,
  h.ow.same fun b hb hl=>keep b hl (fun e=>h.fD.1 (by rw[hb,e])),hst.own,h.lo,h.ne,h.fD,by rw[hat];exact h.sf,by rw[hat];exact h.os⟩⟩
end
end
section
open Go.RowKit
section
variable {w0 w:World} {p gp gh gr:Nat} {av ov sv:Value} {n:Nat} {es:List (Int×Int)} {s:Df.St} {K:List Int}
def xd (w0:World) (p gp gh gr:Nat) (av:Value) (n:Nat) (es:List (Int×Int)) (s:Df.St) (K:List Int) (e:Ending) (w':World):Prop:=
 e= .returned (.tuple #[])∧∃ov sv,aM w0 w' p gp gh gr av ov sv n es.length s K
set_option maxRecDepth 100000 in
set_option maxHeartbeats 4000000 in
theorem pq (v:Nat) (h:aM w0 w p gp gh gr av ov sv n es.length s K) (hl:s.ay.length=n) (hv:v<n):
 Calls Tryz.prog 45 #[.pointer (some ⟨p,0,none⟩),.int .i64 (v:Int)] w fun e w'=>e= .returned (.bool (s.height v != -1))∧w'=w:=by
 have c2:=h.c2
 have d0:=h.ih.cell (cP (-1) (by omega:v<s.ay.length))
 have e0:(0:Int)≤(v:Int):=by omega
 have e1:(v:Int)<(n:Int):=by omega
 clear h
 obtain⟨x,hx⟩:∃x,s.ay.getD v (-1)=x:=⟨_,rfl⟩
 rw[hx] at d0
 have hx':s.height v=x:=hx
 rw[hx']
 clear hx hx'
 go_enter Tryz.func45,Tryz.ntmps45
 go_wp2
 go_ret
 exact⟨rfl,rfl⟩
set_option maxRecDepth 100000 in
set_option maxHeartbeats 4000000 in
theorem FL (h:Nat) (hW:aM w0 w p gp gh gr av ov sv n es.length s K) (hl:s.aJ.length=es.length) (hh:h<2*es.length) (hm:es.length≤4194304):
 Calls Tryz.prog 84 #[.pointer (some ⟨p,0,none⟩),.int .i64 (h:Int)] w fun e w'=>e= .returned (.bool (s.dir (h/2) != -1))∧w'=w:=by
 have c4:=hW.c4
 obtain⟨jh,mH⟩:∃jh,h/2=jh:=⟨_,rfl⟩
 have d0:=hW.ir.cell (cP (-1) (by omega:jh<s.aJ.length))
 rw[mH]
 have wH:(h:Int).tdiv 2=(jh:Int):=by rw[Int.tdiv_eq_ediv_of_nonneg (by omega)];omega
 have AD:(h:Int)/2=(jh:Int):=by omega
 have e0:(0:Int)≤(jh:Int):=by omega
 have e1:(jh:Int)<(es.length:Int):=by omega
 have e2:(0:Int)≤(h:Int):=by omega
 obtain⟨x,hx⟩:∃x,s.aJ.getD jh (-1)=x:=⟨_,rfl⟩
 rw[hx] at d0
 have hx':s.dir jh=x:=hx
 rw[hx']
 clear hW hx hx'
 go_enter Tryz.func84,Tryz.ntmps84
 go_wp2
 go_ret
 exact⟨rfl,rfl⟩
set_option maxRecDepth 100000 in
set_option maxHeartbeats 8000000 in
theorem zX (v:Nat) (x y:Int) (aX:cE w0 av n es) (h:aM w0 w p gp gh gr av ov sv n es.length s K) (hp:s.par.length=n) (hl:s.ay.length=n) (hv:v<n) (ho:s.ord.length≤17592186044000) (hK:K.length≤17592186044000):
 Calls Tryz.prog 79 #[.pointer (some ⟨p,0,none⟩),.int .i64 (v:Int),.int .i64 x,.int .i64 y] w (xd w0 p gp gh gr av n es (s.reach v x y) (K++[Cs.iG n es v])):=by
 obtain⟨i0,hi,hz0,hz1,hz2⟩:=info_parts Tryz.bS
 have h1:=h.uC v x
 have h2:=h1.Ez v y
 have c1:=h.c1
 have d1:=h.ip.cell (cP (-1) (by omega:v<s.par.length))
 have f1:=h.ip.free v
 have c2:=h1.c2
 have d2:=h1.ih.cell (cP (-1) (by dsimp only;omega:v<{ s with par:=s.par.set v x }.ay.length))
 have f2:=h1.ih.free v
 have c3:=h2.c3
 have e0:(0:Int)≤(v:Int):=by omega
 have e1:(v:Int)<(n:Int):=by omega
 obtain⟨w2,hw2⟩:∃w2,w2=(w.setCell ⟨gp,v,none⟩ (.int .i64 x)).setCell ⟨gh,v,none⟩ (.int .i64 y):=⟨_,rfl⟩
 rw[←hw2] at h2
 have kR:=Nu.hid hw2
 have j5:∃q,av= .pointer q:=by
  rcases aX with ⟨h,_⟩|⟨_,p,h,_⟩
  ·exact⟨_,h⟩
  ·exact⟨_,h⟩
 obtain⟨q,rfl⟩:=j5
 have hrow:w2.ownsRow w0.heap.size 3 1 ov s.ord.length (s.ord.map (Value.int .i64)):=h2.ow
 have lN:=Nu.hid hrow
 have H2:=Nu.hid h2
 have hB:=h2.aI.size
 have hlt2:=h2.lt
 have cQ:=Nu.hid aX
 clear h h1 h2 hw2 hrow aX
 go_enter Tryz.func79,Tryz.ntmps79
 go_wp2_with (at_builtin;rw[←kR.out];refine Hid.out ?_)
 refine Nu.hid ?_
 have PX:w2.heap.size=w.heap.size:=by rw[kR.out];simp
 refine wpList_append_own_at _ rfl _ _ 27 rfl w0.heap.size 3 i0 (.int .i64 0) 1 8 Tryz.underlying27 hi hz0 hz1 hz2 rfl (by decide) ov _ _ rfl (World.ownsRow.alloc lN.out _) ⟨w.heap.size,0,none⟩ 1 1 [.int .i64 (v:Int)] rfl rfl (by rw[←PX];exact cell_one_new _ _ _) (by simp[Value.oneCell']) (by unfold maxLen;omega) (by omega) (by simp;omega) ?_
 intro dS w3 hown hg _ hat
 have hz:aS w3 w0.heap.size dS (s.ord++[(v:Int)]):=by
  unfold aS
  rw[List.length_append,List.map_append]
  exact hown
 obtain⟨h3,c5,f5,_⟩:=H2.out.ED hz hg (by simpa using hat)
 obtain⟨g3,jT,hv3⟩:=iy hown
 subst hv3
 obtain⟨w4,hw4⟩:∃w4,w4=w3.setCell ⟨p,3,none⟩ (.slice (some ⟨g3,0,none⟩) (s.ord.length+1) jT):=⟨_,rfl⟩
 rw[←hw4] at h3
 have nU:=Nu.hid hw4
 have H3:=Nu.hid h3
 clear hown hg hat hz hw4 h3 c1 c2 c3 d1 d2 f1 f2 lN H2
 go_wp2_with fail
 rw[←nU.out]
 have c6:=H3.out.c0
 have HF:Hid (∀V,Below w4.heap.size w4 V→Calls Tryz.prog 110 #[.pointer q,.int .i64 (v:Int)] V fun e V'=>e= .returned (.int .i64 (Cs.iG n es v))∧Below V.heap.size V V'):=fun V hV=>(KL _ n es v V (cQ.out.later (H3.out.aI.trans (hV.mono H3.out.aI.size)))).mono (by
  rintro e V' ⟨rfl,k,rfl⟩
  exact⟨rfl,below_drewN (Below.refl _ _) k⟩)
 have HP:Hid (∀V,Below w4.heap.size w4 V→Calls Tryz.prog 82 #[.pointer (some ⟨p,5,none⟩),.int .i64 (Cs.iG n es v)] V fun e V'=>e= .returned (.tuple #[])∧∃ov sv,aM w0 V' p gp gh gr (.pointer q) ov sv n es.length (s.reach v x y) (K++[Cs.iG n es v])):=fun V hV=>by
  have hW:=H3.out.later hV
  refine(wB p 5 _ _ _ _ K (Cs.iG n es v) V hW.stk hW.aI.size hK).mono ?_
  intro e V' hp
  obtain⟨fc,h⟩:=hW.pushed hp
  exact⟨hp.1,_,fc,h⟩
 have hbd:Below w4.heap.size w4 w4.drew:=(Below.refl _ _).drew
 have hS:∀V,Below w4.heap.size w4 V→(V.cell? ⟨p,0,none⟩=some (.pointer q)):=fun V hV=>(H3.out.later hV).c0
 have HS:=Nu.hid hS
 clear c6 hS c5 f5
 go_region_held3 (fun V=>V.cell? ⟨p,0,none⟩=some (.pointer q))
  (first|exact HS.out _ (by first|assumption|exact hbd)|(obtain⟨_,_,hw⟩:= ‹∃ov sv,aM _ _ _ _ _ _ _ ov sv _ _ _ _›;exact hw.c0))
  ((first
    |(go_at_call 110;refine(HF.out _ (by first|assumption|exact hbd)).mono ?_;rintro e V1 ⟨rfl,nI⟩;have hb1:Below w4.heap.size w4 V1:=Below.trans (by first|assumption|exact hbd) (nI.mono (Below.size (by first|assumption|exact hbd))))
    |(go_at_call 82;refine(HP.out _ (by first|assumption|exact hbd)).mono ?_;rintro e V2 ⟨rfl,hv2⟩)))
 all_goals
  go_wp2
  go_end0
  exact⟨rfl,hv2⟩
end
end
section
open Go.RowKit
section
variable {w0 w:World} {p gp gh gr:Nat} {av ov sv:Value} {n r:Nat} {es:List (Int×Int)} {s:Df.St} {K:List Int}
set_option maxRecDepth 100000 in
set_option maxHeartbeats 8000000 in
theorem I8 (h:Nat) (aX:cE w0 av n es) (hW:aM w0 w p gp gh gr av ov sv n es.length s K) (b:Df.Bd n es r s) (hh:h<2*es.length) (hv:s.height (Cs.to es h)≠-1):
 Calls Tryz.prog 85 #[.pointer (some ⟨p,0,none⟩),.int .i64 (h:Int)] w (xd w0 p gp gh gr av n es (s.mark h) K):=by
 have hval:=aX.val hh
 obtain⟨CG,lX⟩:=aX.bounds
 have ht:=(Cs.bH hval hh).2
 obtain⟨jh,mH⟩:∃jh,h/2=jh:=⟨_,rfl⟩
 have c4:=hW.c4
 have d4:=hW.ir.cell (cP (-1) (by rw[b.lo];omega:jh<s.aJ.length))
 have f4:=hW.ir.free jh
 have h1:=hW.rL jh (h:Int)
 have hm:s.mark h={ s with aJ:=s.aJ.set jh (h:Int) }:=by unfold Df.St.mark;rw[mH]
 rw[←hm] at h1
 have wH:(h:Int).tdiv 2=(jh:Int):=by rw[Int.tdiv_eq_ediv_of_nonneg (by omega)];omega
 have AD:(h:Int)/2=(jh:Int):=by omega
 have e0:(0:Int)≤(jh:Int):=by omega
 have e1:(jh:Int)<(es.length:Int):=by omega
 have e2:(0:Int)≤(h:Int):=by omega
 obtain⟨w1,hw1⟩:∃w1,w1=w.setCell ⟨gr,jh,none⟩ (.int .i64 (h:Int)):=⟨_,rfl⟩
 rw[←hw1] at h1
 have HT:=lQ av n es h w1 (aX.later h1.aI)
 rw[Cs.kB hh] at HT
 have HR:=pq (Cs.to es h) h1 b.lh ht
 have hr:((s.mark h).height (Cs.to es h) != -1)=true:=by
  show(s.height (Cs.to es h) != -1)=true
  simpa using hv
 rw[hr] at HR
 have hc0:=h1.c0
 have jR:=Nu.hid hw1
 have H1:=Nu.hid h1
 have Vr:=Nu.hid HT
 have Vv:=Nu.hid HR
 clear hval hv hm h1 hw1 HT HR hr hW aX b
 rw[jR.out] at hc0
 go_enter Tryz.func85,Tryz.ntmps85
 go_wp2_with (first|(go_at_call 114;rw[←jR.out];refine Vr.out.mono ?_;rintro e V ⟨rfl,rfl⟩)|(go_at_call 45;refine Vv.out.mono ?_;rintro e V ⟨rfl,rfl⟩))
 go_end0
 exact⟨rfl,_,_,H1.out⟩
set_option maxRecDepth 100000 in
set_option maxHeartbeats 8000000 in
theorem I6 (h:Nat) (aX:cE w0 av n es) (hW:aM w0 w p gp gh gr av ov sv n es.length s K) (b:Df.Bd n es r s) (hh:h<2*es.length) (hv:s.height (Cs.to es h)= -1) (ho:s.ord.length≤17592186044000) (hK:K.length≤17592186044000):
 Calls Tryz.prog 85 #[.pointer (some ⟨p,0,none⟩),.int .i64 (h:Int)] w (xd w0 p gp gh gr av n es (s.go es h) (K++[Cs.iG n es (Cs.to es h)])):=by
 have hval:=aX.val hh
 obtain⟨CG,lX⟩:=aX.bounds
 obtain⟨hf,ht⟩:=Cs.bH hval hh
 have hne:=Cs.NY hval hh
 obtain⟨jh,mH⟩:∃jh,h/2=jh:=⟨_,rfl⟩
 have c4:=hW.c4
 have d4:=hW.ir.cell (cP (-1) (by rw[b.lo];omega:jh<s.aJ.length))
 have f4:=hW.ir.free jh
 have h1:=hW.rL jh (h:Int)
 have hm:s.mark h={ s with aJ:=s.aJ.set jh (h:Int) }:=by unfold Df.St.mark;rw[mH]
 rw[←hm] at h1
 have wH:(h:Int).tdiv 2=(jh:Int):=by rw[Int.tdiv_eq_ediv_of_nonneg (by omega)];omega
 have AD:(h:Int)/2=(jh:Int):=by omega
 have e0:(0:Int)≤(jh:Int):=by omega
 have e1:(jh:Int)<(es.length:Int):=by omega
 have e2:(0:Int)≤(h:Int):=by omega
 obtain⟨w1,hw1⟩:∃w1,w1=w.setCell ⟨gr,jh,none⟩ (.int .i64 (h:Int)):=⟨_,rfl⟩
 rw[←hw1] at h1
 have HT:=lQ av n es h w1 (aX.later h1.aI)
 rw[Cs.kB hh] at HT
 have HR:=pq (Cs.to es h) h1 b.lh ht
 have hr:((s.mark h).height (Cs.to es h) != -1)=false:=by
  show(s.height (Cs.to es h) != -1)=false
  simpa using hv
 rw[hr] at HR
 have hc0:=h1.c0
 have hhb:=b.hh _ hf
 have hbh:b.lh=b.lh:=rfl
 have jR:=Nu.hid hw1
 have H1:=Nu.hid h1
 have Vr:=Nu.hid HT
 have Vv:=Nu.hid HR
 have j5:∃q,av= .pointer q:=by
  rcases aX with ⟨h,_⟩|⟨_,p,h,_⟩
  ·exact⟨_,h⟩
  ·exact⟨_,h⟩
 obtain⟨q,rfl⟩:=j5
 obtain⟨x,hx⟩:∃x,s.height (Cs.fr es h)=x:=⟨_,rfl⟩
 have hgo:s.go es h=(s.mark h).reach (Cs.to es h) h (x+1):=by unfold Df.St.go;rw[hx]
 rw[hgo]
 rw[hx] at hhb
 have HF:Hid (∀V,Below w1.heap.size w1 V→Calls Tryz.prog 113 #[.pointer q,.int .i64 (h:Int)] V fun e V'=>e= .returned (.int .i64 (Cs.fr es h:Int))∧V'=V):=fun V hV=>by
  have:=j8 _ n es h V (aX.later (H1.out.aI.trans (hV.mono H1.out.aI.size)))
  rw[Cs.jI hh] at this
  exact this
 have hS:∀V (s':Df.St) ov sv K',aM w0 V p gp gh gr (.pointer q) ov sv n es.length s' K'→s'.ay.length=n→s'.height (Cs.fr es h)=x→(V.cell? ⟨p,2,none⟩=some (.slice (some ⟨gh,0,none⟩) n n)∧V.cell? ⟨p,0,none⟩=some (.pointer q)∧V.cell? ⟨gh,Cs.fr es h,none⟩=some (.int .i64 x)):=fun V s' ov sv K' hw hl hx=>by
  refine⟨hw.c2,hw.c0,?_⟩
  have:=hw.ih.cell (cP (-1) (by omega:Cs.fr es h<s'.ay.length))
  rw[this]
  exact congrArg (fun z=>some (Value.int .i64 z)) hx
 have HP:Hid (∀V,Below w1.heap.size w1 V→Calls Tryz.prog 79 #[.pointer (some ⟨p,0,none⟩),.int .i64 (Cs.to es h:Int),.int .i64 (h:Int),.int .i64 (x+1)] V fun e V'=>e= .returned (.tuple #[])∧(∃ov sv,aM w0 V' p gp gh gr (.pointer q) ov sv n es.length ((s.mark h).reach (Cs.to es h) h (x+1)) (K++[Cs.iG n es (Cs.to es h)]))∧(V'.cell? ⟨p,2,none⟩=some (.slice (some ⟨gh,0,none⟩) n n)∧V'.cell? ⟨p,0,none⟩=some (.pointer q)∧V'.cell? ⟨gh,Cs.fr es h,none⟩=some (.int .i64 x))):=fun V hV=>by
  refine(zX (Cs.to es h) h (x+1) aX (H1.out.later hV) b.lp b.lh ht ho hK).mono ?_
  rintro e V' ⟨he,dS,fc,hw⟩
  refine⟨he,⟨dS,fc,hw⟩,hS V' _ dS fc _ hw ?_ ?_⟩
  ·show(s.ay.set _ _).length=n
   rw[List.length_set]
   exact b.lh
  ·show(s.ay.set _ _).getD _ _=x
   rw[List.getD_eq_getElem?_getD,List.getElem?_set,if_neg (fun e=>hne e.symm),←List.getD_eq_getElem?_getD]
   exact hx
 have HS:Hid (∀V,Below w1.heap.size w1 V→(V.cell? ⟨p,2,none⟩=some (.slice (some ⟨gh,0,none⟩) n n)∧V.cell? ⟨p,0,none⟩=some (.pointer q)∧V.cell? ⟨gh,Cs.fr es h,none⟩=some (.int .i64 x))):=fun V hV=>hS V _ _ _ _ (H1.out.later hV) b.lh hx
 obtain⟨f,hff⟩:∃f,Cs.fr es h=f:=⟨_,rfl⟩
 obtain⟨t,Cy⟩:∃t,Cs.to es h=t:=⟨_,rfl⟩
 rw[hff] at HF HS HP hf
 rw[Cy] at Vr Vv HP ⊢
 have i0:(0:Int)≤(f:Int):=by omega
 have i1:(f:Int)<(n:Int):=by omega
 have hbd:Below w1.heap.size w1 w1.drew:=(Below.refl _ _).drew
 have hxw:IntKind.i64.wrap (x+1)=x+1:=by rw[IntKind.wrap_i64];omega
 clear hval hv hm h1 hw1 HT HR hr hW aX b hgo hS hx hne hff Cy hbh
 rw[jR.out] at hc0
 go_enter Tryz.func85,Tryz.ntmps85
 go_wp2_with (first|(go_at_call 114;rw[←jR.out];refine Vr.out.mono ?_;rintro e V ⟨rfl,rfl⟩)|(go_at_call 45;refine Vv.out.mono ?_;rintro e V ⟨rfl,rfl⟩))
 go_region_held3 (fun V=>V.cell? ⟨p,2,none⟩=some (.slice (some ⟨gh,0,none⟩) n n)∧V.cell? ⟨p,0,none⟩=some (.pointer q)∧V.cell? ⟨gh,f,none⟩=some (.int .i64 x))
  (first|exact HS.out _ (by first|assumption|exact hbd)|assumption)
  ((first
    |(go_at_call 113;refine(HF.out _ (by first|assumption|exact hbd)).mono ?_;rintro e V1 ⟨rfl,rfl⟩)
    |(go_at_call 79;refine(HP.out _ (by first|assumption|exact hbd)).mono ?_;rintro e V2 ⟨rfl,hv2,hs2⟩)))
 all_goals
  go_wp2
  go_end0
  exact⟨rfl,hv2⟩
end
end
end Go.Proofs.YtnhcggfbkoppnaaGreat
