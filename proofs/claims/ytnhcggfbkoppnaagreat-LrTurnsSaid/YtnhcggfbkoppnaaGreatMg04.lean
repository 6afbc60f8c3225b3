import Derived.Test.YtnhcggfbkoppnaaGreatMg03
import Derived.Maps.AppendAt
import Derived.ArgAppend
import Derived.Deep.DeepAppendRoom
import Derived.Deep.QuietTactic
import Derived.BigQuiet
import Derived.BigRegion
import Derived.Test.YtnhcggfbkoppnaaGreatMg00
import Derived.Deep.RegionHeld3
import Derived.Lib.SliceRun
import Derived.Test.YtnhcggfbkoppnaaGreatMg01
import Derived.Shelf.Abstract
namespace Go.Proofs.YtnhcggfbkoppnaaGreat
section
open Go.RowKit
theorem Tryz.Av:(Tryz.prog.info? 27).map (fun i=>(i.zero,i.size,i.bytes))=some (some (.slice none 0 0),1,24):=by kernel_rfl
theorem iy {W:World} {base:Nat} {e:TypeId} {size:Nat} {v:Value} {k:Nat} {xs:List Value} (h:W.ownsRow base e size v (k+1) xs):∃g cap,v= .slice (some ⟨g,0,none⟩) (k+1) cap:=by
 rcases h.2 with ⟨_,h0⟩|⟨g,cap,_,rfl,_⟩
 ·omega
 ·exact⟨g,cap,rfl⟩
structure bW (w:World) (B:Nat) (v:Value) (vs:List Value) (ls:List (List Int)):Prop where
 len:vs.length=ls.length
 outer:w.ownsRow B 27 1 v ls.length vs
 row:∀(u:Nat) (x:Value) (l:List Int),vs[u]? =some x→ls[u]? =some l→aS w B x l
 apart:∀(u u':Nat) (x x':Value) (b:Nat),u≠u'→vs[u]? =some x→vs[u']? =some x'→x.ownBlock=some b→x'.ownBlock≠some b
 far:∀(u:Nat) (x:Value) (b:Nat),vs[u]? =some x→x.ownBlock=some b→v.ownBlock≠some b
section
variable {w w':World} {B:Nat} {v:Value} {vs:List Value} {ls:List (List Int)}
theorem bW.at (h:bW w B v vs ls) {u:Nat} {x:Value} (hx:vs[u]? =some x):∃l,ls[u]? =some l:=⟨_,List.getElem?_eq_getElem (by rw[←h.len];exact(List.getElem?_eq_some_iff.1 hx).1)⟩
theorem bW.RY (h:bW w B v vs ls) {u:Nat} {l:List Int} (hl:ls[u]? =some l):∃x,vs[u]? =some x:=⟨_,List.getElem?_eq_getElem (by rw[h.len];exact(List.getElem?_eq_some_iff.1 hl).1)⟩
theorem og {e:TypeId} {s n:Nat} {xs:List Value} (h:w.ownsRow B e s v n xs) (hb:∀g,v.ownBlock=some g→B≤g→g<w.heap.size→w'.heap[g]? =w.heap[g]?):w'.ownsRow B e s v n xs:=by
 refine⟨h.1,?_⟩
 rcases h.2 with h|⟨g,cap,cur,e1,hgB,hh,hr⟩
 ·exact .inl h
 ·exact .inr ⟨g,cap,cur,e1,hgB,(hb g (by rw[e1];rfl) hgB (lt_of_block hh)).trans hh,hr⟩
theorem bW.same (h:bW w B v vs ls) (hb:∀g,B≤g→g<w.heap.size→w'.heap[g]? =w.heap[g]?):bW w' B v vs ls:=
 ⟨h.len,og h.outer fun g _ h1 h2=>hb g h1 h2,fun u x l hx hl=>og (h.row u x l hx hl) fun g _ h1 h2=>hb g h1 h2,h.apart,h.far⟩
theorem bW.later (h:bW w B v vs ls) (hb:Below w.heap.size w w'):bW w' B v vs ls:=h.same fun g _ hg=>hb.block g hg
theorem bW.nil (w:World) (B:Nat):bW w B (.slice none 0 0) [] []:=⟨rfl,World.ownsRow_nil _ _ _ _,fun u x l hx=>by simp at hx,fun u u' x x' b _ hx=>by simp at hx,fun u x b hx=>by simp at hx⟩
theorem bW.lower {B':Nat} (h:bW w B v vs ls) (hB:B'≤B):bW w B' v vs ls:=by
 refine⟨h.len,⟨h.outer.1,?_⟩,fun u x l hx hl=>(h.row u x l hx hl).lower hB,h.apart,h.far⟩
 rcases h.outer.2 with h|⟨g,cap,cur,e1,hgB,hr⟩
 ·exact .inl h
 ·exact .inr ⟨g,cap,cur,e1,Nat.le_trans hB hgB,hr⟩
theorem bW.put {W w1:World} {u g c:Nat} {x x':Value} {l l':List Int} (h:bW W B (.slice (some ⟨g,0,none⟩) ls.length c) vs ls) (hx:vs[u]? =some x) (hl:ls[u]? =some l)
 {tmp:Obj} (hown:aS w1 B x' l') (hgrow:(W.alloc tmp).grownBy w1 x.ownBlock) (hat:x'.ownBlock=x.ownBlock∨x'.ownBlock=some (W.heap.size+1)):
 w1.cell? ⟨g,u,none⟩=some x∧w1.frozen? ⟨g,u,none⟩=false∧bW (w1.setCell ⟨g,u,none⟩ x') B (.slice (some ⟨g,0,none⟩) ls.length c) (vs.set u x') (ls.set u l')∧Below B W (w1.setCell ⟨g,u,none⟩ x'):=by
 have nJ:=(List.getElem?_eq_some_iff.1 hx).1
 have CD:x.ownBlock≠some g:=fun e=>h.far u x g hx e rfl
 obtain⟨hgB,mJ⟩:=World.ownsRow.lt h.outer g rfl
 have hsz:W.heap.size≤w1.heap.size:=by
  have:=hgrow.size
  rw[World.size_alloc] at this
  omega
 have hsame:∀b,x.ownBlock≠some b→b<W.heap.size→w1.heap[b]? =W.heap[b]? :=fun b hne hb=>by
  rw[hgrow.block b (by rw[World.size_alloc];omega) (fun e=>hne e.symm)]
  exact Below.heap_alloc W tmp b hb
 have ho1:w1.ownsRow B 27 1 (.slice (some ⟨g,0,none⟩) ls.length c) ls.length vs:=og h.outer fun b hb _ hl=>by
  obtain rfl:g=b:=by simpa[Value.ownBlock] using hb
  exact hsame g CD hl
 have hst:=ho1.stored u x'
 have hc:=World.ownsRow.cells ho1 (g:=g) rfl u x hx
 have ea:((⟨g,0,none⟩:Addr).add u)=⟨g,u,none⟩:=by
  by_cases h0:u=0<;>simp[Addr.add,h0]
 rw[ea] at hc
 have hng:x'.ownBlock≠some g:=by
  rcases hat with e|e
  ·rw[e];exact CD
  ·rw[e]
   intro e2
   have:=Option.some.inj e2
   omega
 have Dy:∀b,b≠g→(w1.setCell ⟨g,u,none⟩ x').heap[b]? =w1.heap[b]? :=fun b hb=>heap_setCell_other w1 ⟨g,u,none⟩ b x' hb
 have hxB:∀b,x.ownBlock=some b→B≤b:=fun b hb=>(World.ownsRow.lt (h.row u x l hx hl) b hb).1
 refine⟨hc,ho1.frozenAt u,⟨by simp[h.len],by rw[List.length_set];exact hst.1,fun a y k ha hk=> ?_,fun a a' y y' b hne ha ha' hb=> ?_,fun a y b ha hb=> ?_⟩,?_⟩
 ·rw[List.getElem?_set] at ha hk
  by_cases e:u=a
  ·subst e
   rw[if_pos rfl,if_pos nJ] at ha
   rw[if_pos rfl,if_pos (by rw[←h.len];exact nJ)] at hk
   cases ha
   cases hk
   exact hown.same fun b hb _=>Dy b (fun e=>hng (by rw[hb,e]))
  ·rw[if_neg e] at ha hk
   refine(h.row a y k ha hk).same fun b hb hl=> ?_
   rw[Dy b (fun e=>h.far a y b ha hb (by rw[e];rfl)),hsame b (fun e2=>h.apart u a x y b e hx ha e2 hb) hl]
 ·rw[List.getElem?_set] at ha ha'
  have hnew:∀(z:Nat) (q:Value) (b:Nat),u≠z→vs[z]? =some q→x'.ownBlock=some b→q.ownBlock≠some b:=fun z q b hz hq hb=>by
   rcases hat with e2|e2
   ·rw[e2] at hb
    exact h.apart u z x q b hz hx hq hb
   ·rw[e2] at hb
    have UG:=Option.some.inj hb
    intro hc
    obtain⟨k,hk⟩:=h.at hq
    have:=(World.ownsRow.lt (h.row z q k hq hk) b hc).2
    omega
  by_cases e:u=a
  ·subst e
   rw[if_pos rfl,if_pos nJ] at ha
   cases ha
   rw[if_neg hne] at ha'
   exact hnew a' y' b hne ha' hb
  ·rw[if_neg e] at ha
   by_cases e':u=a'
   ·subst e'
    rw[if_pos rfl,if_pos nJ] at ha'
    cases ha'
    intro hc
    exact hnew a y b (Ne.symm hne) ha hc hb
   ·rw[if_neg e'] at ha'
    exact h.apart a a' y y' b hne ha ha' hb
 ·rw[List.getElem?_set] at ha
  by_cases e:u=a
  ·subst e
   rw[if_pos rfl,if_pos nJ] at ha
   cases ha
   intro hc
   obtain rfl:g=b:=by simpa[Value.ownBlock] using hc
   exact hng hb
  ·rw[if_neg e] at ha
   exact h.far a y b ha hb
 ·refine⟨hgrow.os,hgrow.tape,hgrow.output,by simpa using hsz,fun k hk=> ?_⟩
  rw[Dy k (by omega),hsame k (fun e=>by have:=hxB k e;omega) (by omega)]
end
end
section
open Go.RowKit
theorem JK {w:World} {B g p c:Nat} {xs:List Value} {z:Value} (h:w.ownsRow B 3 1 (.slice (some ⟨g,0,none⟩) (p+1) c) (p+1) (xs++[z])) (hx:xs.length=p):w.ownsRow B 3 1 (.slice (some ⟨g,0,none⟩) p c) p xs:=by
 rcases h.2 with ⟨h',_⟩|⟨g',cap,cur,e,hB,hh,hc,hm,hs,ht⟩
 ·cases h'
 ·cases e
  refine⟨by omega,.inr ⟨g,c,cur,rfl,hB,hh,by omega,hm,hs,?_⟩⟩
  have e1:cur.toList.take (p*1)=(cur.toList.take ((p+1)*1)).take (p*1):=by rw[List.take_take];congr 1;omega
  rw[e1,ht,List.take_append_of_le_length (by omega),List.take_of_length_le (by omega)]
section
end
end
section
open Go.RowKit
structure ij (w:World) (b o:Nat) (cs:Array Value) (T:TypeId) (B:Nat) (v:Value) (K:List Int):Prop where
 blk:w.heap[b]? =some (.cells cs T (0,0))
 at_:cs[o]? =some v
 own:aS w B v K
 far:v.ownBlock≠some b
section
variable {w w':World} {b o B:Nat} {cs:Array Value} {T:TypeId} {v:Value} {K:List Int}
theorem ij.cell (h:ij w b o cs T B v K):w.cell? ⟨b,o,none⟩=some v:=by
 simp[World.cell?,h.blk,h.at_]
theorem ij.free (h:ij w b o cs T B v K):w.frozen? ⟨b,o,none⟩=false:=by
 simp[World.frozen?,h.blk]
theorem ij.lt (h:ij w b o cs T B v K):b<w.heap.size:=lt_of_block h.blk
theorem aS.Dk {x:Int} (h:aS w B v (K++[x])):∃g c,v= .slice (some ⟨g,0,none⟩) (K.length+1) c∧w.cell? ⟨g,K.length,none⟩=some (.int .i64 x)∧K.length+1≤c∧B≤g∧g<w.heap.size:=by
 unfold aS at h
 rw[List.length_append,List.length_singleton,List.map_append] at h
 obtain⟨g,c,rfl⟩:=iy h
 have hc:=World.ownsRow.cells h (g:=g) rfl K.length (.int .i64 x) (by simp)
 have ea:((⟨g,0,none⟩:Addr).add K.length)=⟨g,K.length,none⟩:=by
  by_cases h0:K.length=0<;>simp[Addr.add,h0]
 rw[ea] at hc
 refine⟨g,c,rfl,hc,?_,World.ownsRow.lt h g rfl⟩
 rcases h.2 with ⟨h',_⟩|⟨g',cap,cur,e,_,_,hcc,_⟩
 ·cases h'
 ·cases e;exact hcc
theorem aS.front {x:Int} {g c:Nat} (h:aS w B (.slice (some ⟨g,0,none⟩) (K.length+1) c) (K++[x])):aS w B (.slice (some ⟨g,0,none⟩) K.length c) K:=by
 unfold aS at h ⊢
 rw[List.length_append,List.length_singleton,List.map_append] at h
 exact JK h (by simp)
end
def r8 (b o:Nat) (cs:Array Value) (T:TypeId) (B:Nat) (v:Value) (K:List Int) (w:World) (e:Ending) (w':World):Prop:=
 e= .returned (.tuple #[])∧∃v',ij w' b o (cs.setIfInBounds o v') T B v' K∧(v'.ownBlock=v.ownBlock∨∃g,v'.ownBlock=some g∧w.heap.size≤g)∧aF (fun k=>k=b∨v.ownBlock=some k) w w'
theorem LG {cs:Array Value} {o:Nat} {v v':Value} (h:cs[o]? =some v):(cs.setIfInBounds o v')[o]? =some v':=by
 have:=(Array.getElem?_eq_some_iff.1 h).1
 simp[this]
set_option maxRecDepth 100000 in
set_option maxHeartbeats 4000000 in
theorem wB (b o:Nat) (cs:Array Value) (T:TypeId) (B:Nat) (v:Value) (K:List Int) (x:Int) (w:World) (h:ij w b o cs T B v K) (hB:B≤w.heap.size) (hl:K.length≤17592186044000):
 Calls Tryz.prog 82 #[.pointer (some ⟨b,o,none⟩),.int .i64 x] w (r8 b o cs T B v (K++[x]) w):=by
 obtain⟨i0,hi,hz0,hz1,hz2⟩:=info_parts Tryz.bS
 have c0:=h.cell
 have HH:=Nu.hid h
 have hlt:=h.lt
 have hrow:w.ownsRow B 3 1 v K.length (K.map (Value.int .i64)):=h.own
 have lN:=Nu.hid hrow
 clear h hrow
 go_enter Tryz.func82,Tryz.ntmps82
 go_wp2_with (at_builtin;refine wpList_append_own_at _ rfl _ _ 27 rfl B 3 i0 (.int .i64 0) 1 8 Tryz.underlying27 hi hz0 hz1 hz2 rfl (by decide) _ _ _ rfl (World.ownsRow.alloc lN.out _) ⟨w.heap.size,0,none⟩ 1 1 [.int .i64 x] rfl rfl (cell_one_new _ _ _) (by simp[Value.oneCell']) (by unfold maxLen;omega) (by omega) (by simp;omega) ?_;refine Hid.out ?_)
 refine Nu.hid ?_
 intro v' w1 hown hg _ hat
 have hb1:w1.heap[b]? =some (.cells cs T (0,0)):=by
  rw[hg.block b (by rw[World.size_alloc];omega) (fun e=>HH.out.far e.symm)]
  exact(Below.heap_alloc w _ b hlt).trans HH.out.blk
 have c1:w1.cell? ⟨b,o,none⟩=some v:=by simp[World.cell?,hb1,HH.out.at_]
 have f1:w1.frozen? ⟨b,o,none⟩=false:=by simp[World.frozen?,hb1]
 have DN:v'.ownBlock=v.ownBlock∨v'.ownBlock=some (w.heap.size+1):=by simpa using hat
 have qQ:v'.ownBlock≠some b:=by
  rcases DN with e|e
  ·rw[e];exact HH.out.far
  ·rw[e];intro e2;have:=Option.some.inj e2;omega
 have hz:aS w1 B v' (K++[x]):=by
  unfold aS
  rw[List.length_append,List.map_append]
  exact hown
 have bI:Hid (r8 b o cs T B v (K++[x]) w (.returned (.tuple #[])) (w1.setCell ⟨b,o,none⟩ v')):=by
  refine⟨rfl,v',⟨heap_setCell_same w1 b o _ _ _ hb1,LG HH.out.at_,hz.same fun g ZC _=>heap_setCell_other w1 ⟨b,o,none⟩ g _ (fun e=>qQ (by rw[ZC];exact congrArg some e)),qQ⟩,?_,?_⟩
  ·rcases DN with e|e
   ·exact .inl e
   ·exact .inr ⟨_,e,by omega⟩
  ·refine⟨hg.os,hg.tape,hg.output,?_,fun k hk hn=> ?_⟩
   ·have:=hg.size
    rw[World.size_alloc] at this
    simp
    omega
   ·rw[heap_setCell_other w1 ⟨b,o,none⟩ k _ (fun e=>hn (.inl e)),hg.block k (by rw[World.size_alloc];omega) (fun e=>hn (.inr e.symm))]
    exact Below.heap_alloc w _ k hk
 obtain⟨g,cap,hv⟩:=iy hown
 subst hv
 clear hown hg hat DN qQ hz hb1 HH lN
 go_wp2
 go_end0
 exact bI.out
set_option maxRecDepth 100000 in
set_option maxHeartbeats 4000000 in
theorem mO (b o:Nat) (cs:Array Value) (T:TypeId) (B:Nat) (v:Value) (K:List Int) (w:World) (h:ij w b o cs T B v K):
 Calls Tryz.prog 80 #[.pointer (some ⟨b,o,none⟩)] w fun e w'=>e= .returned (.bool (decide (K.length=0)))∧w'=w:=by
 have c0:=h.cell
 obtain⟨ao,cap,rfl,_,_⟩:=h.own.form
 clear h
 by_cases hk:K.length=0
 ·rw[hk] at c0
  have hd:decide (K.length=0)=true:=by simp[hk]
  rw[hd]
  clear hd hk
  go_enter Tryz.func80,Tryz.ntmps80
  go_wp2
  go_ret
  exact⟨rfl,rfl⟩
 ·have hd:decide (K.length=0)=false:=by simp[hk]
  have he:((K.length:Int)==0)=false:=by simp only[beq_eq_false_iff_ne,ne_eq];omega
  rw[hd]
  clear hd hk
  go_enter Tryz.func80,Tryz.ntmps80
  go_wp2
  go_ret
  exact⟨rfl,rfl⟩
set_option maxRecDepth 100000 in
set_option maxHeartbeats 4000000 in
theorem FR (b o:Nat) (cs:Array Value) (T:TypeId) (B:Nat) (v:Value) (K:List Int) (x:Int) (w:World) (h:ij w b o cs T B v (K++[x])) (hl:K.length≤17592186044000):
 Calls Tryz.prog 111 #[.pointer (some ⟨b,o,none⟩)] w fun e w'=>e= .returned (.int .i64 x)∧∃k,w'=w.drewN k:=by
 have c0:=h.cell
 obtain⟨g,c,rfl,c1,h2,_⟩:=h.own.Dk
 obtain⟨p,hp⟩:∃p,K.length=p:=⟨_,rfl⟩
 rw[hp] at c0 c1 h2 hl
 clear h hp
 have e1:((p:Int)+1)-1=(p:Int):=by omega
 have e2:(0:Int)≤(p:Int):=by omega
 have e3:(p:Int)<(p:Int)+1:=by omega
 go_enter Tryz.func111,Tryz.ntmps111
 go_wp2_with fail
 go_quiet (fail)
 go_wp2
 go_ret
 exact⟨rfl,nq,rfl⟩
def vD (b o:Nat) (cs:Array Value) (T:TypeId) (B:Nat) (v:Value) (K:List Int) (x:Int) (w:World) (e:Ending) (w':World):Prop:=
 e= .returned (.int .i64 x)∧∃v',ij w' b o (cs.setIfInBounds o v') T B v' K∧v'.ownBlock=v.ownBlock∧aF (fun k=>k=b) w w'
set_option maxRecDepth 100000 in
set_option maxHeartbeats 4000000 in
theorem Gj (b o:Nat) (cs:Array Value) (T:TypeId) (B:Nat) (v:Value) (K:List Int) (x:Int) (w:World) (h:ij w b o cs T B v (K++[x])) (hl:K.length≤17592186044000):
 Calls Tryz.prog 81 #[.pointer (some ⟨b,o,none⟩)] w (vD b o cs T B v K x w):=by
 have HT:=Nu.hid (FR b o cs T B v K x w h hl)
 have hH:=h
 have c0:=h.cell
 obtain⟨g,c,rfl,c1,h2,_⟩:=h.own.Dk
 have f0:=h.free
 have hown:=hH.own.front
 have qQ:=hH.far
 have bI:Hid (∀k,vD b o cs T B (.slice (some ⟨g,0,none⟩) (K.length+1) c) K x w (.returned (.int .i64 x)) ((w.drewN k).setCell ⟨b,o,none⟩ (.slice (some ⟨g,0,none⟩) K.length c))):=by
  intro k
  have hgb:g≠b:=fun e=>qQ (congrArg some e)
  refine⟨rfl,_,⟨heap_setCell_same (w.drewN k) b o _ _ _ hH.blk,LG hH.at_,?_,qQ⟩,rfl,?_⟩
  ·refine hown.same fun g' hg' _=> ?_
   obtain rfl:g=g':=Option.some.inj hg'
   exact heap_setCell_other (w.drewN k) ⟨b,o,none⟩ g _ hgb
  ·exact((aF.refl (fun k=>k=b) w).drewN k).setCell rfl _
 obtain⟨p,hp⟩:∃p,K.length=p:=⟨_,rfl⟩
 rw[hp] at c0 c1 h2 bI hl
 clear h hp hH hown qQ c1
 have e1:((p:Int)+1)-1=(p:Int):=by omega
 have e2:(0:Int)≤(p:Int):=by omega
 have e3:(p:Int)≤(c:Int):=by omega
 go_enter Tryz.func81,Tryz.ntmps81
 go_wp2_with (go_at_call 111;refine HT.out.mono ?_;rintro e w1 ⟨rfl,k1,rfl⟩)
 go_big_region
 go_wp2
 go_ret
 exact bI.out _
end
section
open Go.RowKit
theorem cP {l:List Int} {i:Nat} (d:Int) (h:i<l.length):l[i]? =some (l.getD i d):=by
 rw[List.getD_eq_getElem?_getD,List.getElem?_eq_getElem h]
 rfl
theorem aS.lt {w:World} {B:Nat} {v:Value} {l:List Int} (h:aS w B v l) {b:Nat} (hb:v.ownBlock=some b):B≤b∧b<w.heap.size:=World.ownsRow.lt h b hb
section
variable {w:World}
theorem cM {g b i:Nat} (hne:g≠b) (x:Value):(w.setCell ⟨b,i,none⟩ x).heap[g]? =w.heap[g]? :=heap_setCell_other w ⟨b,i,none⟩ g x hne
theorem aS.aK {B b i:Nat} {v:Value} {l:List Int} (h:aS w B v l) (hf:v.ownBlock≠some b) (x:Value):aS (w.setCell ⟨b,i,none⟩ x) B v l:=
 h.same fun _ hg _=>cM (fun e=>hf (by rw[hg,e])) x
theorem aq.aK {g b i:Nat} {l:List Int} (h:aq w g l) (hf:g≠b) (x:Value):aq (w.setCell ⟨b,i,none⟩ x) g l:=(cM hf x).trans h
end
noncomputable def leastOf (P:Nat→Prop):Nat:=open Classical in if h:∃k,P k∧∀j,P j→k≤j then Classical.choose h else 0
theorem N0 {P:Nat→Prop} {k:Nat} (h:P k):∃k,P k∧∀j,P j→k≤j:=by
 induction k using Nat.strongRecOn with
 |_ k ih=>
  by_cases hk:∃j,j<k∧P j
  ·obtain⟨j,hj,hp⟩:=hk
   exact ih j hj hp
  ·refine⟨k,h,fun j hj=> ?_⟩
   rcases Nat.lt_or_ge j k with h1|h1
   ·exact absurd ⟨j,h1,hj⟩ hk
   ·exact h1
theorem leastOf_spec {P:Nat→Prop} {k:Nat} (h:P k):P (leastOf P)∧leastOf P≤k:=by
 have hx:=N0 h
 unfold leastOf
 rw[dif_pos hx]
 have:=Classical.choose_spec hx
 exact⟨this.1,this.2 k h⟩
theorem aq.abR {w:World} {B g n:Nat} {l:List Int} (h:aq w g l) (hB:B≤g) (hl:l.length=n) (hm:n≤8388608):aS w B (.slice (some ⟨g,0,none⟩) 0 n) []:=by
 subst hl
 exact⟨by simp,.inr ⟨g,_,_,rfl,hB,h,by simp,by unfold maxLen;omega,by simp,by simp⟩⟩
theorem au {w:World} {R:Nat} {t:TypeId} {a b c d:Value} (h:w.heap[R]? =some (.cells #[a,b,c,d] t (0,0))):w.cell? ⟨R,0,none⟩=some a∧w.cell? ⟨R,1,none⟩=some b∧w.cell? ⟨R,2,none⟩=some c∧w.cell? ⟨R,3,none⟩=some d∧∀i,w.frozen? ⟨R,i,none⟩=false:=by
 refine⟨?_,?_,?_,?_,fun i=> ?_⟩
 ·simp[World.cell?,h]
 ·simp[World.cell?,h]
 ·simp[World.cell?,h]
 ·simp[World.cell?,h]
 ·simp[World.frozen?,h]
theorem Cs.NY {n:Nat} {es:List (Int×Int)} (hv:Si.Val n es) {h:Nat} (hh:h<2*es.length):Cs.fr es h≠Cs.to es h:=by
 obtain⟨p,hp⟩:∃p,es[h/2]? =some p:=⟨_,List.getElem?_eq_getElem (by omega)⟩
 have ho:=hv.each _ p hp
 unfold Si.ok at ho
 unfold Cs.fr Cs.to
 rw[List.getD_eq_getElem?_getD,hp]
 dsimp only[Option.getD_some]
 split<;>omega
theorem rS {W:World} {k M:Nat} (h:W.heap.size=k):aq (W.alloc (.cells (madeCells #[.int .i64 0] M) 3)) k (List.replicate M 0):=by
 subst h
 unfold aq
 rw[heap_alloc_new,←cD]
theorem alloc_at {W:World} {k:Nat} {o:Obj} (h:W.heap.size=k):(W.alloc o).heap[k]? =some o:=by
 subst h
 exact heap_alloc_new W o
end
section
open Go.RowKit
set_option maxRecDepth 100000 in
set_option maxHeartbeats 4000000 in
theorem zC (n:Nat) (w:World) (hn:n≤8388608):
 Calls Tryz.prog 77 #[.int .i64 (n:Int)] w fun e w'=>∃g,e= .returned (.slice (some ⟨g,0,none⟩) n n)∧w.heap.size≤g∧aq w' g (List.replicate n (-1))∧Below w.heap.size w w':=by
 obtain⟨i0,hi,hz0,hz1,hz2⟩:=info_parts Tryz.bS
 go_enter Tryz.func77,Tryz.ntmps77
 go_wp2_with (at_make;refine wpList_make_full _ rfl _ _ 27 rfl w.heap.size 3 i0 (.int .i64 0) 1 Tryz.underlying27 hi hz0 hz1 _ _ _ _ n rfl rfl rfl rfl (by rw[hz2];omega) (by unfold maxLen;omega) (Nat.le_refl _) ?_;refine Hid.out ?_)
 refine Nu.hid ?_
 intro w2 hrow hg2
 rw[cD] at hrow
 have hik:=dy hrow
 have hb2:Below w.heap.size w w2:=(Below.refl _ _).grown hg2 (Nat.le_refl _) (fun j hj=>by cases hj)
 have fY:=Nu.hid hik
 have cz:=Nu.hid hb2
 clear hrow hg2 hik hb2
 go_wp2
 go_loopw [9] (fun c wr=>∃(k:Nat) (S:List Int),k≤n∧c= .int .i64 k∧S.length=n∧(∀v,v<k→S[v]? =some (-1))∧aq wr w.heap.size S∧Below w.heap.size w wr) (fun c _=>n-(intOf c).toNat)
 case atStart=>exact⟨0,_,Nat.zero_le _,rfl,by simp,fun v hv=>by omega,fY.out,cz.out⟩
 case round=>
  obtain⟨k,S,hk,rfl,KB,hS,iB,hb⟩:=hrel
  have hsz:=iB.lt
  have HS:=Nu.hid hS
  have HIS:=Nu.hid iB
  have HB:=Nu.hid hb
  by_cases hkn:k<n
  ·have hk0:(0:Int)≤(k:Int):=by omega
   have hk1:(k:Int)<(n:Int):=by omega
   obtain⟨x,hx⟩:∃x,S[k]? =some x:=⟨_,List.getElem?_eq_getElem (by omega)⟩
   have c0:=iB.cell hx
   have c1:=iB.free k
   have OD:=Nu.hid (iB.set k (-1))
   have I0:=Nu.hid (hb.setCell (p:=⟨w.heap.size,k,none⟩) (Nat.le_refl _) (.int .i64 (-1)))
   clear hS iB hb hx
   go_wp2
   go_roundw
   case rel=>
    refine⟨k+1,S.set k (-1),by omega,by go_num,by simp[KB],fun v hv=> ?_,OD.out,I0.out⟩
    rw[List.getElem?_set]
    by_cases e:k=v
    ·subst e
     rw[if_pos rfl,if_pos (by omega)]
    ·rw[if_neg e]
     exact HS.out v (by omega)
   case measure=>simp[intOf];omega
  ·have hd:¬((k:Int)<(n:Int)):=by omega
   have e:S=List.replicate n (-1):=by
    refine List.ext_getElem? fun v=> ?_
    by_cases hv:v<n
    ·rw[hS v (by omega),List.getElem?_replicate,if_pos hv]
    ·rw[List.getElem?_eq_none (by omega),List.getElem?_eq_none (by simp;omega)]
   subst e
   clear hS iB hb
   go_wp2
   go_ret
   exact⟨w.heap.size,rfl,Nat.le_refl _,HIS.out,HB.out⟩
end
section
open Go.RowKit
structure lK (w:World) (B:Nat) (v1 v2 v3 v4:Value) (s:Df.St):Prop where
 o1:aS w B v1 s.par
 o2:aS w B v2 s.ay
 o3:aS w B v3 s.ord
 o4:aS w B v4 s.aJ
 n12:∀b,v1.ownBlock=some b→v2.ownBlock≠some b
 n13:∀b,v1.ownBlock=some b→v3.ownBlock≠some b
 n14:∀b,v1.ownBlock=some b→v4.ownBlock≠some b
 n23:∀b,v2.ownBlock=some b→v3.ownBlock≠some b
 n24:∀b,v2.ownBlock=some b→v4.ownBlock≠some b
 n34:∀b,v3.ownBlock=some b→v4.ownBlock≠some b
section
variable {w w':World} {B:Nat} {v1 v2 v3 v4:Value} {s:Df.St}
theorem lK.same (h:lK w B v1 v2 v3 v4 s) (hb:∀g,B≤g→g<w.heap.size→w'.heap[g]? =w.heap[g]?):lK w' B v1 v2 v3 v4 s:=
 ⟨h.o1.same fun g hg hl=>hb g (h.o1.lt hg).1 hl,h.o2.same fun g hg hl=>hb g (h.o2.lt hg).1 hl,h.o3.same fun g hg hl=>hb g (h.o3.lt hg).1 hl,h.o4.same fun g hg hl=>hb g (h.o4.lt hg).1 hl,h.n12,h.n13,h.n14,h.n23,h.n24,h.n34⟩
theorem lK.lower {B':Nat} (h:lK w B v1 v2 v3 v4 s) (hB:B'≤B):lK w B' v1 v2 v3 v4 s:=⟨h.o1.lower hB,h.o2.lower hB,h.o3.lower hB,h.o4.lower hB,h.n12,h.n13,h.n14,h.n23,h.n24,h.n34⟩
theorem lK.empty (w:World) (B:Nat):lK w B (.slice none 0 0) (.slice none 0 0) (.slice none 0 0) (.slice none 0 0) ⟨[],[],[],[]⟩:=
 ⟨.nil _ _,.nil _ _,.nil _ _,.nil _ _,(fun _ h=>by cases h),(fun _ h=>by cases h),(fun _ h=>by cases h),(fun _ h=>by cases h),(fun _ h=>by cases h),(fun _ h=>by cases h)⟩
end
theorem cE.val {w:World} {v:Value} {n:Nat} {es:List (Int×Int)} (h:cE w v n es) {i:Nat} (hi:i<2*es.length):Si.Val n es:=by
 rcases h with ⟨_,_,rfl⟩|⟨_,_,_,h,_⟩
 ·simp at hi
 ·exact h
end
section
open Go.RowKit
theorem BA:Tryz.prog.cellsOf 55=2:=by kernel_rfl
theorem Bz:Tryz.prog.cellsOf 3=1:=by kernel_rfl
def Sn (e:Int×Int):Prop:=(-9223372036854775808≤e.1∧e.1≤9223372036854775807)∧-9223372036854775808≤e.2∧e.2≤9223372036854775807
end
section
open Go.RowKit
namespace aj
def dst (ops:Array Oper) (i:Nat):Option Tmp:=(ops[i]?).bind (·.dst)
structure ny where
 deps:List Nat
 post:Value→List Value→Nat→Nat→World→Prop
def upd (ρ:Nat→Value) (i:Nat) (v:Value):Nat→Value:=fun j=>if j=i then v else ρ j
def sF (f:Nat→Nat) (i x:Nat):Nat→Nat:=fun j=>if j=i then x else f j
def part (ops:Array Oper) (a0:Act) (ρ:Nat→Value) (L:Nat→Bool):Nat→Act
 |0=>a0
 |i+1=>if L i then (part ops a0 ρ L i).put (dst ops i) (ρ i) else part ops a0 ρ L i
def canon (ops:Array Oper) (a0:Act) (ρ:Nat→Value):Nat→Act
 |0=>a0
 |i+1=>(canon ops a0 ρ i).put (dst ops i) (ρ i)
section
variable {ops:Array Oper} {a0:Act} {ρ:Nat→Value} {L:Nat→Bool}
theorem cZ (k:Nat):canon ops a0 ρ k=part ops a0 ρ (fun _=>true) k:=by
 induction k with
 |zero=>rfl
 |succ k ih=>simp[canon,part,ih]
theorem kC (k:Nat):(canon ops a0 ρ k).defers=a0.defers:=by
 induction k with
 |zero=>rfl
 |succ k ih=>
  unfold canon
  cases dst ops k with
  |none=>exact ih
  |some d=>exact ih
theorem Nc (a:Act) (d:Option Tmp) (v:Value):(a.put d v).tmps.size=a.tmps.size:=by
 cases d<;>simp[Act.put]
theorem JI (k:Nat):(part ops a0 ρ L k).tmps.size=a0.tmps.size:=by
 induction k with
 |zero=>rfl
 |succ k ih=>
  unfold part
  split
  ·rw[Nc,ih]
  ·exact ih
theorem Bh (a:Act) (t:Tmp) (v:Value):(a.put (some t) v).eval (.tmp t)=if t<a.tmps.size then v else undef:=by
 unfold Act.put Act.eval
 dsimp only
 by_cases h:t<a.tmps.size
 ·rw[if_pos h]
  simp[h]
 ·rw[if_neg h]
  simp
  exact fun h'=>absurd h' h
theorem qZ (a:Act) (t:Tmp) (d:Option Tmp) (v:Value) (h:d≠some t):(a.put d v).eval (.tmp t)=a.eval (.tmp t):=
 Act.eval_put fun d' hd hx=>by cases hx;exact h hd
theorem fP {t:Tmp} (k:Nat) (h:∀j,j<k→L j=true→dst ops j≠some t):(part ops a0 ρ L k).eval (.tmp t)=a0.eval (.tmp t):=by
 induction k with
 |zero=>rfl
 |succ k ih=>
  have ih':=ih fun j hj=>h j (by omega)
  unfold part
  split
  ·rename_i hL
   rw[qZ _ _ _ _ (h k (by omega) hL),ih']
  ·exact ih'
theorem kI {t:Tmp} {j:Nat} (hd:dst ops j=some t) (hone:∀i,i≠j→dst ops i≠some t) (hL:L j=true) (k:Nat) (hj:j<k):(part ops a0 ρ L k).eval (.tmp t)=if t<a0.tmps.size then ρ j else undef:=by
 induction k with
 |zero=>omega
 |succ k ih=>
  unfold part
  by_cases e:j=k
  ·subst e
   rw[if_pos hL,hd,Bh,JI]
  ·have ih':=ih (by omega)
   split
   ·rw[qZ _ _ _ _ (hone k (fun h=>e h.symm)),ih']
   ·exact ih'
theorem nk {i n:Nat} {t:Tmp} (hone:∀i j,i≠j→dst ops j=some t→dst ops i≠some t) (hin:i≤n) (h:∀j,j<n→dst ops j=some t→j<i∧L j=true):(part ops a0 ρ L n).eval (.tmp t)=(canon ops a0 ρ i).eval (.tmp t):=by
 rw[cZ]
 by_cases hex:∃j,j<n∧dst ops j=some t
 ·obtain⟨j,hj,hd⟩:=hex
  obtain⟨h1,h2⟩:=h j hj hd
  rw[kI hd (fun i hi=>hone i j hi hd) h2 n hj,kI hd (fun i hi=>hone i j hi hd) rfl i h1]
 ·rw[fP n fun j hj _ hd=>hex ⟨j,hj,hd⟩,fP i fun j hj _ hd=>hex ⟨j,by omega,hd⟩]
theorem rM {i n:Nat} {v:Value} (hone:∀i j t,i≠j→dst ops j=some t→dst ops i≠some t) (hi:L i=false) (hin:i<n):
 (part ops a0 ρ L n).put (dst ops i) v=part ops a0 (upd ρ i v) (fun j=>if j=i then true else L j) n:=by
 have low:∀k,k≤i→part ops a0 (upd ρ i v) (fun j=>if j=i then true else L j) k=part ops a0 ρ L k:=by
  intro k
  induction k with
  |zero=>exact fun _=>rfl
  |succ k ih=>
   intro hk
   have e:k≠i:=by omega
   unfold part
   rw[ih (by omega),if_neg e]
   unfold upd
   rw[if_neg e]
 induction n with
 |zero=>omega
 |succ n ih=>
  by_cases e:n=i
  ·subst e
   unfold part
   rw[if_pos rfl,hi,low n (Nat.le_refl _),if_neg (by decide)]
   simp[upd]
  ·have ih':=ih (by omega)
   unfold part
   rw[if_neg e,←ih']
   unfold upd
   rw[if_neg e]
   split
   ·exact Act.put_comm _ _ _ fun d h1 h2=>hone i n d (fun e2=>e e2.symm) h1 h2
   ·rfl
theorem nj {ρ':Nat→Value} {L':Nat→Bool} (hL:∀j,L j=L' j) (h:∀j,L j=true→ρ j=ρ' j) (k:Nat):part ops a0 ρ L k=part ops a0 ρ' L' k:=by
 induction k with
 |zero=>rfl
 |succ k ih=>
  unfold part
  rw[←hL k]
  split
  ·rename_i hk
   rw[ih,h k hk]
  ·exact ih
end
def shape (ops:Array Oper) (n:Nat) (deps:Nat→List Nat):Bool:=
 (List.range ops.size).all fun i=>match ops[i]? with
   |none=>false
   |some o=>(match o.dst with|none=>true|some d=>(List.range ops.size).all fun j=>j==i||dst ops j != some d)&&
    if i<n then
     o.guard.isNone&&(match o.op with| .select _ _=>false|_=>true)&&
     (o.op.operands.toList.all fun x=>match x with
       | .tmp t=>(List.range ops.size).all fun j=>dst ops j != some t||(decide (j<i)&&o.after.toList.any fun e=>Region.binds .any e&&e.on==j)
       |_=>true)&&
     ((deps i).all fun j=>decide (j<i)&&o.after.toList.any fun e=>Region.binds .any e&&e.on==j)&&
     (o.after.all fun e=> !Region.binds .any e||decide (e.on<i))
    else (List.range n).all fun j=>o.after.toList.any fun e=>Region.binds .any e&&e.on==j
def heads (size n:Nat):Array Bool:=(List.replicate n true++List.replicate (size-n) false).toArray
def cF (P:Program) (o:Oper) (ev:Operand→Value) (w:World) (R:Value→World→Prop):Prop:=
 match (execOp ev o).run P w with
 | .ok (.value v) w'=>R v w'
 | .ok .skip w'=>R undef w'
 | .ok (.enter f args) w'=>Calls P f args w' (fun e w''=>∃v,e= .returned v∧R v w'')
 |_=>False
theorem cF.wp {P:Program} {o:Oper} {a:Act} {w:World} {R:Value→World→Prop} {K:Act→World→Prop} {Q:Exit→Act→World→Prop} (h:cF P o a.eval w R) (hK:∀v w',R v w'→K (a.put o.dst v) w'):o.wp P a w K Q:=by
 unfold cF at h
 unfold Oper.wp
 generalize (execOp a.eval o).run P w=r at h ⊢
 cases r with
 |ok n w'=>
  cases n<;>simp only[Oper.upon] at h ⊢
  case value v=>exact hK v w' h
  case skip=>exact hK _ w' h
  case enter f args=>
   refine Calls.mono h fun e w'' he=> ?_
   obtain⟨v,rfl,hv⟩:=he
   exact hK v w'' hv
 |halt x w'=>cases h
theorem ah {P:Program} {o:Oper} {ev:Operand→Value} {w:World} {R:Value→World→Prop} {v:Value} {w':World} (h:(execOp ev o).run P w= .ok (.value v) w') (hR:R v w'):cF P o ev w R:=by
 unfold cF
 rw[h]
 exact hR
theorem bF {P:Program} {o:Oper} {ev:Operand→Value} {w:World} {R:Value→World→Prop} {w':World} (h:(execOp ev o).run P w= .ok .skip w') (hR:R undef w'):cF P o ev w R:=by
 unfold cF
 rw[h]
 exact hR
theorem any {P:Program} {ops:Array Oper} {Q:Exit→Act→World→Prop} {a0:Act} {w0:World} (sp:Nat→ny) (n N:Nat) (hn:n≤ops.size) (hN:a0.tmps.size=N) (hsh:shape ops n (fun i=>(sp i).deps)=true)
 (J9:∀i,i<n→∀v vs lo hi w w',hi≤w.heap.size→Below w.heap.size w w'→(sp i).post v vs lo hi w→(sp i).post v vs lo hi w')
 (hstep:∀i o (ρ:Nat→Value) w (ev:Operand→Value),i<n→ops[i]? =some o→Below w0.heap.size w0 w→(∀j∈(sp i).deps,∃lo hi,w0.heap.size≤lo∧lo≤hi∧hi≤w.heap.size∧(sp j).post (ρ j) ((sp j).deps.map ρ) lo hi w)→
   (∀j t,j<i→dst ops j=some t→t<N→ev (.tmp t)=ρ j)→(∀t,((List.range i).all fun j=>dst ops j != some t)=true→ev (.tmp t)=a0.eval (.tmp t))→(∀v,ev (.const v)=v)→
   cF P o ev w fun v w'=>Below w.heap.size w w'∧(sp i).post v ((sp i).deps.map ρ) w.heap.size w'.heap.size w')
 (hend:∀(ρ:Nat→Value) (lo hi:Nat→Nat) w a,a=canon ops a0 ρ n→a.defers=a0.defers→(∀j t,j<n→dst ops j=some t→t<N→a.eval (.tmp t)=ρ j)→(∀t,((List.range n).all fun j=>dst ops j != some t)=true→a.eval (.tmp t)=a0.eval (.tmp t))→Below w0.heap.size w0 w→(∀i,i<n→w0.heap.size≤lo i∧lo i≤hi i∧hi i≤w.heap.size∧(sp i).post (ρ i) ((sp i).deps.map ρ) (lo i) (hi i) w)→(∀i j,i<n→j<n→i≠j→hi i≤lo j∨hi j≤lo i)→
   wpAny P .any ops Q (ops.size-n) (heads ops.size n) a w):
 wpAny P .any ops Q ops.size (Array.replicate ops.size false) a0 w0:=by
 have hs:=fun i (hi:i<ops.size)=>List.all_eq_true.1 hsh i (List.mem_range.2 hi)
 have hlt:∀{j t},dst ops j=some t→j<ops.size:=fun {j t} h=>by
  rcases Nat.lt_or_ge j ops.size with h1|h1
  ·exact h1
  ·unfold dst at h;rw[Array.getElem?_eq_none h1] at h;cases h
 have hone:∀i j t,i≠j→dst ops j=some t→dst ops i≠some t:=fun i j t hij hj hi=>by
  have h1:=hs j (hlt hj)
  dsimp only at h1
  cases ho:ops[j]? with
  |none=>rw[ho] at h1;cases h1
  |some o=>
   have hd:o.dst=some t:=by unfold dst at hj;rw[ho] at hj;exact hj
   rw[ho] at h1
   simp only[Bool.and_eq_true] at h1
   have h2:=h1.1
   rw[hd] at h2
   have h3:=List.all_eq_true.1 h2 i (List.mem_range.2 (hlt hi))
   simp only[Bool.or_eq_true,beq_iff_eq,bne_iff_ne] at h3
   rcases h3 with h3|h3
   ·exact hij h3
   ·exact h3 hi
 have hop:∀i,i<n→∃o,ops[i]? =some o∧o.guard=none∧(∀cs b,o.op≠.select cs b)∧
  (∀t,Operand.tmp t∈o.op.operands→∀j,j<ops.size→dst ops j=some t→j<i∧∃e∈o.after,Region.binds .any e=true∧e.on=j)∧
  (∀j∈(sp i).deps,j<i∧∃e∈o.after,Region.binds .any e=true∧e.on=j)∧(∀e∈o.after,Region.binds .any e=true→e.on<i):=fun i hi=>by
  have h1:=hs i (by omega)
  dsimp only at h1
  cases ho:ops[i]? with
  |none=>rw[ho] at h1;cases h1
  |some o=>
   rw[ho] at h1
   simp only[Bool.and_eq_true,if_pos hi] at h1
   obtain⟨_,⟨⟨⟨g1,g2⟩,g4⟩,g5⟩,g6⟩:=h1
   refine⟨o,rfl,by simpa using g1,(fun cs b hsel=>by rw[hsel] at g2;cases g2),fun t ht j hj hd=> ?_,fun j hj=> ?_,fun e he hb=> ?_⟩
   ·have h2:=List.all_eq_true.1 g4 (.tmp t) (by simpa using ht)
    dsimp only at h2
    have h3:=List.all_eq_true.1 h2 j (List.mem_range.2 hj)
    simp only[Bool.or_eq_true,bne_iff_ne,Bool.and_eq_true,decide_eq_true_eq,List.any_eq_true,beq_iff_eq] at h3
    rcases h3 with h3|⟨h3,e,he,h4⟩
    ·exact absurd hd h3
    ·exact⟨h3,e,by simpa using he,h4⟩
   ·have h2:=List.all_eq_true.1 g5 j hj
    simp only[Bool.and_eq_true,decide_eq_true_eq,List.any_eq_true,beq_iff_eq] at h2
    obtain⟨h3,e,he,h4⟩:=h2
    exact⟨h3,e,by simpa using he,h4⟩
   ·have h2:=Array.all_eq_true_iff_forall_mem.1 g6 e he
    rw[hb] at h2
    simpa using h2
 have Kl:∀i o,n≤i→ops[i]? =some o→∀j,j<n→∃e∈o.after,Region.binds .any e=true∧e.on=j:=fun i o hi ho j hj=>by
  have h1:=hs i (Array.getElem?_eq_some_iff.1 ho).1
  dsimp only at h1
  rw[ho] at h1
  simp only[Bool.and_eq_true,if_neg (Nat.not_lt.2 hi)] at h1
  have h2:=List.all_eq_true.1 h1.2 j (List.mem_range.2 hj)
  simp only[Bool.and_eq_true,List.any_eq_true,beq_iff_eq] at h2
  obtain⟨e,he,h4⟩:=h2
  exact⟨e,by simpa using he,h4⟩
 have fin:∀(listed:Array Bool),listed.size=ops.size→Region.ready .any ops listed=[]→∀i,i<n→listed.getD i false=true:=by
  intro listed hl hr i
  induction i using Nat.strongRecOn with
  |_ i ih=>
   intro hi
   by_cases hb:listed.getD i false=true
   ·exact hb
   ·exfalso
    have hi':i<listed.size:=by omega
    have h0:listed.getD i true=false:=by
     simp[hi'] at hb ⊢
     exact hb
    obtain⟨o,ho,_,_,_,_,dZ⟩:=hop i hi
    have hm:i∈Region.ready .any ops listed:=by
     rw[mem_ready]
     refine⟨h0,o,ho,fun e he hbd=> ?_⟩
     have:=dZ e he hbd
     exact ih e.on this (by omega)
    rw[hr] at hm
    cases hm
 have key:∀(fuel:Nat) (listed:Array Bool) (ρ:Nat→Value) (lo hi:Nat→Nat) (w:World),listed.size=ops.size→listed.toList.count false=fuel→Below w0.heap.size w0 w→
  (∀i,n≤i→listed.getD i false=false)→
  (∀i,i<n→listed.getD i false=true→w0.heap.size≤lo i∧lo i≤hi i∧hi i≤w.heap.size∧(sp i).post (ρ i) ((sp i).deps.map ρ) (lo i) (hi i) w∧∀j∈(sp i).deps,listed.getD j false=true)→
  (∀i j,i<n→j<n→listed.getD i false=true→listed.getD j false=true→i≠j→hi i≤lo j∨hi j≤lo i)→
  wpAny P .any ops Q fuel listed (part ops a0 ρ (fun j=>listed.getD j false) n) w:=by
  have last:∀(listed:Array Bool) (ρ:Nat→Value) (lo hi:Nat→Nat) (w:World),listed.size=ops.size→Below w0.heap.size w0 w→
   (∀i,n≤i→listed.getD i false=false)→
   (∀i,i<n→listed.getD i false=true→w0.heap.size≤lo i∧lo i≤hi i∧hi i≤w.heap.size∧(sp i).post (ρ i) ((sp i).deps.map ρ) (lo i) (hi i) w∧∀j∈(sp i).deps,listed.getD j false=true)→
   (∀i j,i<n→j<n→listed.getD i false=true→listed.getD j false=true→i≠j→hi i≤lo j∨hi j≤lo i)→
   (∀i,i<n→listed.getD i false=true)→wpAny P .any ops Q (listed.toList.count false) listed (part ops a0 ρ (fun j=>listed.getD j false) n) w:=by
   intro listed ρ lo hi w hl hb hno hg hd hall
   have e:∀k,k≤n→part ops a0 ρ (fun j=>listed.getD j false) k=canon ops a0 ρ k:=by
    intro k
    induction k with
    |zero=>exact fun _=>rfl
    |succ k ih=>
     intro hk
     unfold part canon
     rw[ih (by omega),hall k (by omega),if_pos rfl]
   have e2:listed=heads ops.size n:=by
    apply Array.ext
    ·simp[heads,hl];omega
    ·intro i h1 h2
     by_cases hi:i<n
     ·have:=hall i hi
      simp[h1] at this
      rw[this]
      simp[heads,hi]
     ·have:=hno i (by omega)
      simp[h1] at this
      rw[this]
      simp[heads,List.getElem_append,hi]
   have e3:(heads ops.size n).toList.count false=ops.size-n:=by simp[heads,List.count_append,List.count_replicate]
   rw[e _ (Nat.le_refl _),e2,e3]
   exact hend ρ lo hi w _ rfl (kC n) (fun j t hj hd ht=>by
    rw[cZ,kI hd (fun i hi=>hone i j t hi hd) rfl n hj,if_pos (by rw[hN];exact ht)]) (fun t ht=>by
    rw[cZ,fP n fun j hj _=>by
     have:=List.all_eq_true.1 ht j (List.mem_range.2 hj)
     simpa using this]) hb (fun i hi=>by
    obtain⟨h1,h2,h3,h4,_⟩:=hg i hi (hall i hi)
    exact⟨h1,h2,h3,h4⟩) fun i j hi hj=>hd i j hi hj (hall i hi) (hall j hj)
  intro fuel
  induction fuel with
  |zero=>
   intro listed ρ lo hi w hl hc hb hno hg hd
   have hall:∀i,i<n→listed.getD i false=true:=fun i hi=>by
    have hm:¬false∈listed.toList:=fun h=>by
     have:=List.count_pos_iff.2 h
     omega
    have hi':i<listed.size:=by omega
    by_cases nM:listed[i]=true
    ·simp[hi',nM]
    ·exfalso
     have e:listed[i]=false:=by simpa using nM
     exact hm (by rw[←e];simp)
   have:=last listed ρ lo hi w hl hb hno hg hd hall
   rw[hc] at this
   exact this
  |succ fuel ih=>
   intro listed ρ lo hi w hl hc hb hno hg hd
   by_cases hall:∀i,i<n→listed.getD i false=true
   ·have:=last listed ρ lo hi w hl hb hno hg hd hall
    rw[hc] at this
    exact this
   refine⟨fun hr=>absurd (fin listed hl hr) hall,fun i hi=> ?_⟩
   have NN:=hi
   rw[mem_ready] at hi
   obtain⟨h0,o,ho,bU⟩:=hi
   have QU:=(Array.getElem?_eq_some_iff.1 ho).1
   have hin:i<n:=by
    rcases Nat.lt_or_ge i n with h|h
    ·exact h
    ·exact absurd (fun j hj=>by
      obtain⟨e,he,hbd,rfl⟩:=Kl i o h ho j hj
      exact bU e he hbd) hall
   have hi':i<listed.size:=by omega
   obtain⟨o',ho',hgd,hsel,hread,Hx,_⟩:=hop i hin
   rw[ho] at ho'
   cases ho'
   have bO:listed.getD i false=false:=by
    simp[hi'] at h0 ⊢
    exact h0
   have qT:∀j∈(sp i).deps,listed.getD j false=true:=fun j hj=>by
    obtain⟨_,e,he,hbd,rfl⟩:=Hx j hj
    exact bU e he hbd
   have hev:execOp (part ops a0 ρ (fun j=>listed.getD j false) n).eval o=execOp (canon ops a0 ρ i).eval o:=by
    refine execOp_congr o hsel fun x hx=> ?_
    cases x with
    |tmp t=>
     refine nk (fun i j hij=>hone i j t hij) (by omega) fun j hj hd=> ?_
     obtain⟨h1,e,he,hbd,rfl⟩:=hread t hx j (by omega) hd
     exact⟨h1,bU e he hbd⟩
    |_=>rfl
   have qI:=hstep i o ρ w (canon ops a0 ρ i).eval hin ho hb (fun j hj=>by
    have hjl:=(Hx j hj).1
    obtain⟨h1,h2,h3,h4,_⟩:=hg j (by omega) (qT j hj)
    exact⟨lo j,hi j,h1,h2,h3,h4⟩) (fun j t hj hd ht=>by
    rw[cZ,kI hd (fun i hi=>hone i j t hi hd) rfl i hj,if_pos (by rw[hN];exact ht)]) (fun t ht=>by
    rw[cZ,fP i fun j hj _=>by
     have:=List.all_eq_true.1 ht j (List.mem_range.2 hj)
     simpa using this]) (fun v=>rfl)
   unfold wpOp
   rw[ho]
   dsimp only
   have hw:Region.wanted o (yielded ops (part ops a0 ρ (fun j=>listed.getD j false) n).tmps)=true:=by
    unfold Region.wanted
    rw[hgd]
   rw[if_pos hw]
   refine .inl ?_
   have tE:cF P o (part ops a0 ρ (fun j=>listed.getD j false) n).eval w fun v w'=>Below w.heap.size w w'∧(sp i).post v ((sp i).deps.map ρ) w.heap.size w'.heap.size w':=by
    unfold cF at qI ⊢
    rw[hev]
    exact qI
   refine tE.wp fun v w' hv=> ?_
   obtain⟨kN,hpost⟩:=hv
   have A5:o.dst=dst ops i:=by unfold dst;rw[ho];rfl
   have fu:∀j,(listed.setIfInBounds i true).getD j false=if j=i then true else listed.getD j false:=fun j=>by
    by_cases e:j=i
    ·subst e
     rw[if_pos rfl]
     simp[hi']
    ·rw[if_neg e]
     exact getD_set_ne false (fun h=>e h.symm)
   rw[A5,rM hone bO hin,nj (L':=fun j=>(listed.setIfInBounds i true).getD j false) (ρ':=upd ρ i v) (fun j=>(fu j).symm) (fun _ _=>rfl)]
   have hsz:=kN.size
   have hb0:=hb.size
   have PU:∀j,j≠i→listed.getD j false=true→(∀k∈(sp j).deps,listed.getD k false=true)→(sp j).deps.map (upd ρ i v)=(sp j).deps.map ρ:=fun j hj hjl hk=>by
    refine List.map_congr_left fun k hkm=> ?_
    unfold upd
    rw[if_neg]
    intro e
    subst e
    rw[hk k hkm] at bO
    cases bO
   have ZH:(sp i).deps.map (upd ρ i v)=(sp i).deps.map ρ:=List.map_congr_left fun k hkm=>by
    unfold upd
    rw[if_neg]
    intro e
    subst e
    rw[qT k hkm] at bO
    cases bO
   refine ih (listed.setIfInBounds i true) (upd ρ i v) (sF lo i w.heap.size) (sF hi i w'.heap.size) w' (by simpa using hl) ?_ (hb.trans (kN.mono hb0)) (fun j hj=>by rw[fu,if_neg (by omega)];exact hno j hj) ?_ ?_
   ·rw[Array.toList_setIfInBounds]
    have hi2:i<listed.toList.length:=by simpa using hi'
    have e:listed.toList[i]=false:=by
     simp[hi'] at h0
     simpa using h0
    have hpos:0<listed.toList.count false:=List.count_pos_iff.2 (by rw[←e];exact List.getElem_mem hi2)
    rw[List.count_set hi2,e,if_pos (by decide),if_neg (by decide)]
    omega
   ·intro j hj hjl
    rw[fu] at hjl
    by_cases e:j=i
    ·subst e
     unfold sF
     rw[if_pos rfl,if_pos rfl]
     refine⟨hb0,hsz,Nat.le_refl _,?_,fun k hk=>by rw[fu];split;rfl;exact qT k hk⟩
     rw[ZH]
     unfold upd
     rw[if_pos rfl]
     exact hpost
    ·rw[if_neg e] at hjl
     obtain⟨h1,h2,h3,h4,h5⟩:=hg j hj hjl
     unfold sF
     rw[if_neg e,if_neg e]
     refine⟨h1,h2,by omega,?_,fun k hk=>by rw[fu];split;rfl;exact h5 k hk⟩
     rw[PU j e hjl h5]
     unfold upd
     rw[if_neg e]
     exact J9 j hj _ _ _ _ w w' h3 kN h4
   ·intro j k hj hk hjl cT hjk
    rw[fu] at hjl cT
    unfold sF
    by_cases e:j=i
    ·subst e
     rw[if_neg (fun h=>hjk h.symm)] at cT
     rw[if_pos rfl,if_pos rfl,if_neg (fun h=>hjk h.symm),if_neg (fun h=>hjk h.symm)]
     exact .inr (hg k hk cT).2.2.1
    ·rw[if_neg e] at hjl
     by_cases e2:k=i
     ·subst e2
      rw[if_neg e,if_neg e,if_pos rfl,if_pos rfl]
      exact .inl (hg j hj hjl).2.2.1
     ·rw[if_neg e2] at cT
      rw[if_neg e,if_neg e,if_neg e2,if_neg e2]
      exact hd j k hj hk hjl cT hjk
 have hnone:∀j,(Array.replicate ops.size false).getD j false=false:=fun j=>by by_cases hk:j<ops.size<;>simp[hk]
 have h0:part ops a0 (fun _=>undef) (fun j=>(Array.replicate ops.size false).getD j false) n=a0:=by
  have:∀k,part ops a0 (fun _=>undef) (fun j=>(Array.replicate ops.size false).getD j false) k=a0:=by
   intro k
   induction k with
   |zero=>rfl
   |succ k ih=>
    unfold part
    rw[ih,hnone k,if_neg (by decide)]
  exact this _
 have hk:=key ops.size (Array.replicate ops.size false) (fun _=>undef) (fun _=>0) (fun _=>0) w0 (by simp) (by simp) (Below.refl _ _) (fun i _=>hnone i) (fun i _ h=>by rw[hnone i] at h;cases h) (fun i _ _ _ h=>by rw[hnone i] at h;cases h)
 rw[h0] at hk
 exact hk
end aj
end
section
open Go.ChangeShapes Go.WideShapes Go.ChangeAt Go.RowKit
theorem wf_i64 {n:Int} (h:(Lit.int .i64 n).wf=true): -9223372036854775808≤n∧n≤9223372036854775807:=by simpa using bounds_i64 h
end
end Go.Proofs.YtnhcggfbkoppnaaGreat
