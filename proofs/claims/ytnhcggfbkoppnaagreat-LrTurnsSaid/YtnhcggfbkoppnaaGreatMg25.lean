import Derived.Test.YtnhcggfbkoppnaaGreatMg04
import Derived.Test.YtnhcggfbkoppnaaGreatMg16
namespace Go.Proofs.YtnhcggfbkoppnaaGreat
section
open Go.RowKit
namespace aj
theorem aeJ {P:Program} {ops:Array Oper} {Q:Exit→Act→World→Prop} {a0:Act} {w0:World} (sp:Nat→ny) (n N:Nat) (hn:n≤ops.size) (hN:a0.tmps.size=N) (hsh:shape ops n (fun i=>(sp i).deps)=true)
 (J9:∀i,i<n→∀v vs lo hi w w',hi≤w.heap.size→Below w.heap.size w w'→(sp i).post v vs lo hi w→(sp i).post v vs lo hi w')
 (hstep:∀i o (ρ:Nat→Value) w (ev:Operand→Value),i<n→ops[i]? =some o→Below w0.heap.size w0 w→(∀j∈(sp i).deps,∃lo hi,w0.heap.size≤lo∧lo≤hi∧hi≤w.heap.size∧(sp j).post (ρ j) ((sp j).deps.map ρ) lo hi w)→
   (∀j t,j<i→dst ops j=some t→t<N→ev (.tmp t)=ρ j)→(∀t,((List.range i).all fun j=>dst ops j != some t)=true→ev (.tmp t)=a0.eval (.tmp t))→(∀v,ev (.const v)=v)→(∀f,ev (.func f)= .func (.func f) #[] #[])→
   cF P o ev w fun v w'=>Below w.heap.size w w'∧(sp i).post v ((sp i).deps.map ρ) w.heap.size w'.heap.size w')
 (hend:∀(ρ:Nat→Value) (lo hi:Nat→Nat) w a,a=canon ops a0 ρ n→a.defers=a0.defers→(∀j t,j<n→dst ops j=some t→t<N→a.eval (.tmp t)=ρ j)→(∀t,((List.range n).all fun j=>dst ops j != some t)=true→a.eval (.tmp t)=a0.eval (.tmp t))→Below w0.heap.size w0 w→(∀i,i<n→w0.heap.size≤lo i∧lo i≤hi i∧hi i≤w.heap.size∧(sp i).post (ρ i) ((sp i).deps.map ρ) (lo i) (hi i) w)→(∀i j,i<n→j<n→i≠j→hi i≤lo j∨hi j≤lo i)→
   wpAny P .any ops Q (ops.size-n) (heads ops.size n) a w):
 wpAny P .any ops Q ops.size (Array.replicate ops.size false) a0 w0:=by
 have hs:=fun i (hi:i<ops.size)=>List.all_eq_true.1 hsh i (List.mem_range.2 hi)
 have hlt:∀{j t},dst ops j=some t→j<ops.size:=fun {j t} h=>by
  rcases Nat.lt_or_ge j ops.size with h1|h1
  ·exact h1
  ·unfold dst at h;rw[Array.getElem?_eq_none h1] at h;cases h
 have hone:∀i j t,i≠j→dst ops j=some t→dst ops i≠some t:=fun i j t hij hj hi=>by
  have h1:=hs j (hlt hj)
  dsimp only at h1
  cases ho:ops[j]? with
  |none=>rw[ho] at h1;cases h1
  |some o=>
   have hd:o.dst=some t:=by unfold dst at hj;rw[ho] at hj;exact hj
   rw[ho] at h1
   simp only[Bool.and_eq_true] at h1
   have h2:=h1.1
   rw[hd] at h2
   have h3:=List.all_eq_true.1 h2 i (List.mem_range.2 (hlt hi))
   simp only[Bool.or_eq_true,beq_iff_eq,bne_iff_ne] at h3
   rcases h3 with h3|h3
   ·exact hij h3
   ·exact h3 hi
 have hop:∀i,i<n→∃o,ops[i]? =some o∧o.guard=none∧(∀cs b,o.op≠.select cs b)∧
  (∀t,Operand.tmp t∈o.op.operands→∀j,j<ops.size→dst ops j=some t→j<i∧∃e∈o.after,Region.binds .any e=true∧e.on=j)∧
  (∀j∈(sp i).deps,j<i∧∃e∈o.after,Region.binds .any e=true∧e.on=j)∧(∀e∈o.after,Region.binds .any e=true→e.on<i):=fun i hi=>by
  have h1:=hs i (by omega)
  dsimp only at h1
  cases ho:ops[i]? with
  |none=>rw[ho] at h1;cases h1
  |some o=>
   rw[ho] at h1
   simp only[Bool.and_eq_true,if_pos hi] at h1
   obtain⟨_,⟨⟨⟨g1,g2⟩,g4⟩,g5⟩,g6⟩:=h1
   refine⟨o,rfl,by simpa using g1,(fun cs b hsel=>by rw[hsel] at g2;cases g2),fun t ht j hj hd=> ?_,fun j hj=> ?_,fun e he hb=> ?_⟩
   ·have h2:=List.all_eq_true.1 g4 (.tmp t) (by simpa using ht)
    dsimp only at h2
    have h3:=List.all_eq_true.1 h2 j (List.mem_range.2 hj)
    simp only[Bool.or_eq_true,bne_iff_ne,Bool.and_eq_true,decide_eq_true_eq,List.any_eq_true,beq_iff_eq] at h3
    rcases h3 with h3|⟨h3,e,he,h4⟩
    ·exact absurd hd h3
    ·exact⟨h3,e,by simpa using he,h4⟩
   ·have h2:=List.all_eq_true.1 g5 j hj
    simp only[Bool.and_eq_true,decide_eq_true_eq,List.any_eq_true,beq_iff_eq] at h2
    obtain⟨h3,e,he,h4⟩:=h2
    exact⟨h3,e,by simpa using he,h4⟩
   ·have h2:=Array.all_eq_true_iff_forall_mem.1 g6 e he
    rw[hb] at h2
    simpa using h2
 have Kl:∀i o,n≤i→ops[i]? =some o→∀j,j<n→∃e∈o.after,Region.binds .any e=true∧e.on=j:=fun i o hi ho j hj=>by
  have h1:=hs i (Array.getElem?_eq_some_iff.1 ho).1
  dsimp only at h1
  rw[ho] at h1
  simp only[Bool.and_eq_true,if_neg (Nat.not_lt.2 hi)] at h1
  have h2:=List.all_eq_true.1 h1.2 j (List.mem_range.2 hj)
  simp only[Bool.and_eq_true,List.any_eq_true,beq_iff_eq] at h2
  obtain⟨e,he,h4⟩:=h2
  exact⟨e,by simpa using he,h4⟩
 have fin:∀(listed:Array Bool),listed.size=ops.size→Region.ready .any ops listed=[]→∀i,i<n→listed.getD i false=true:=by
  intro listed hl hr i
  induction i using Nat.strongRecOn with
  |_ i ih=>
   intro hi
   by_cases hb:listed.getD i false=true
   ·exact hb
   ·exfalso
    have hi':i<listed.size:=by omega
    have h0:listed.getD i true=false:=by
     simp[hi'] at hb ⊢
     exact hb
    obtain⟨o,ho,_,_,_,_,dZ⟩:=hop i hi
    have hm:i∈Region.ready .any ops listed:=by
     rw[mem_ready]
     refine⟨h0,o,ho,fun e he hbd=> ?_⟩
     have:=dZ e he hbd
     exact ih e.on this (by omega)
    rw[hr] at hm
    cases hm
 have key:∀(fuel:Nat) (listed:Array Bool) (ρ:Nat→Value) (lo hi:Nat→Nat) (w:World),listed.size=ops.size→listed.toList.count false=fuel→Below w0.heap.size w0 w→
  (∀i,n≤i→listed.getD i false=false)→
  (∀i,i<n→listed.getD i false=true→w0.heap.size≤lo i∧lo i≤hi i∧hi i≤w.heap.size∧(sp i).post (ρ i) ((sp i).deps.map ρ) (lo i) (hi i) w∧∀j∈(sp i).deps,listed.getD j false=true)→
  (∀i j,i<n→j<n→listed.getD i false=true→listed.getD j false=true→i≠j→hi i≤lo j∨hi j≤lo i)→
  wpAny P .any ops Q fuel listed (part ops a0 ρ (fun j=>listed.getD j false) n) w:=by
  have last:∀(listed:Array Bool) (ρ:Nat→Value) (lo hi:Nat→Nat) (w:World),listed.size=ops.size→Below w0.heap.size w0 w→
   (∀i,n≤i→listed.getD i false=false)→
   (∀i,i<n→listed.getD i false=true→w0.heap.size≤lo i∧lo i≤hi i∧hi i≤w.heap.size∧(sp i).post (ρ i) ((sp i).deps.map ρ) (lo i) (hi i) w∧∀j∈(sp i).deps,listed.getD j false=true)→
   (∀i j,i<n→j<n→listed.getD i false=true→listed.getD j false=true→i≠j→hi i≤lo j∨hi j≤lo i)→
   (∀i,i<n→listed.getD i false=true)→wpAny P .any ops Q (listed.toList.count false) listed (part ops a0 ρ (fun j=>listed.getD j false) n) w:=by
   intro listed ρ lo hi w hl hb hno hg hd hall
   have e:∀k,k≤n→part ops a0 ρ (fun j=>listed.getD j false) k=canon ops a0 ρ k:=by
    intro k
    induction k with
    |zero=>exact fun _=>rfl
    |succ k ih=>
     intro hk
     unfold part canon
     rw[ih (by omega),hall k (by omega),if_pos rfl]
   have e2:listed=heads ops.size n:=by
    apply Array.ext
    ·simp[heads,hl];omega
    ·intro i h1 h2
     by_cases hi:i<n
     ·have:=hall i hi
      simp[h1] at this
      rw[this]
      simp[heads,hi]
     ·have:=hno i (by omega)
      simp[h1] at this
      rw[this]
      simp[heads,List.getElem_append,hi]
   have e3:(heads ops.size n).toList.count false=ops.size-n:=by simp[heads,List.count_append,List.count_replicate]
   rw[e _ (Nat.le_refl _),e2,e3]
   exact hend ρ lo hi w _ rfl (kC n) (fun j t hj hd ht=>by
    rw[cZ,kI hd (fun i hi=>hone i j t hi hd) rfl n hj,if_pos (by rw[hN];exact ht)]) (fun t ht=>by
    rw[cZ,fP n fun j hj _=>by
     have:=List.all_eq_true.1 ht j (List.mem_range.2 hj)
     simpa using this]) hb (fun i hi=>by
    obtain⟨h1,h2,h3,h4,_⟩:=hg i hi (hall i hi)
    exact⟨h1,h2,h3,h4⟩) fun i j hi hj=>hd i j hi hj (hall i hi) (hall j hj)
  intro fuel
  induction fuel with
  |zero=>
   intro listed ρ lo hi w hl hc hb hno hg hd
   have hall:∀i,i<n→listed.getD i false=true:=fun i hi=>by
    have hm:¬false∈listed.toList:=fun h=>by
     have:=List.count_pos_iff.2 h
     omega
    have hi':i<listed.size:=by omega
    by_cases nM:listed[i]=true
    ·simp[hi',nM]
    ·exfalso
     have e:listed[i]=false:=by simpa using nM
     exact hm (by rw[←e];simp)
   have:=last listed ρ lo hi w hl hb hno hg hd hall
   rw[hc] at this
   exact this
  |succ fuel ih=>
   intro listed ρ lo hi w hl hc hb hno hg hd
   by_cases hall:∀i,i<n→listed.getD i false=true
   ·have:=last listed ρ lo hi w hl hb hno hg hd hall
    rw[hc] at this
    exact this
   refine⟨fun hr=>absurd (fin listed hl hr) hall,fun i hi=> ?_⟩
   have NN:=hi
   rw[mem_ready] at hi
   obtain⟨h0,o,ho,bU⟩:=hi
   have QU:=(Array.getElem?_eq_some_iff.1 ho).1
   have hin:i<n:=by
    rcases Nat.lt_or_ge i n with h|h
    ·exact h
    ·exact absurd (fun j hj=>by
      obtain⟨e,he,hbd,rfl⟩:=Kl i o h ho j hj
      exact bU e he hbd) hall
   have hi':i<listed.size:=by omega
   obtain⟨o',ho',hgd,hsel,hread,Hx,_⟩:=hop i hin
   rw[ho] at ho'
   cases ho'
   have bO:listed.getD i false=false:=by
    simp[hi'] at h0 ⊢
    exact h0
   have qT:∀j∈(sp i).deps,listed.getD j false=true:=fun j hj=>by
    obtain⟨_,e,he,hbd,rfl⟩:=Hx j hj
    exact bU e he hbd
   have hev:execOp (part ops a0 ρ (fun j=>listed.getD j false) n).eval o=execOp (canon ops a0 ρ i).eval o:=by
    refine execOp_congr o hsel fun x hx=> ?_
    cases x with
    |tmp t=>
     refine nk (fun i j hij=>hone i j t hij) (by omega) fun j hj hd=> ?_
     obtain⟨h1,e,he,hbd,rfl⟩:=hread t hx j (by omega) hd
     exact⟨h1,bU e he hbd⟩
    |_=>rfl
   have qI:=hstep i o ρ w (canon ops a0 ρ i).eval hin ho hb (fun j hj=>by
    have hjl:=(Hx j hj).1
    obtain⟨h1,h2,h3,h4,_⟩:=hg j (by omega) (qT j hj)
    exact⟨lo j,hi j,h1,h2,h3,h4⟩) (fun j t hj hd ht=>by
    rw[cZ,kI hd (fun i hi=>hone i j t hi hd) rfl i hj,if_pos (by rw[hN];exact ht)]) (fun t ht=>by
    rw[cZ,fP i fun j hj _=>by
     have:=List.all_eq_true.1 ht j (List.mem_range.2 hj)
     simpa using this]) (fun v=>rfl) (fun f=>rfl)
   unfold wpOp
   rw[ho]
   dsimp only
   have hw:Region.wanted o (yielded ops (part ops a0 ρ (fun j=>listed.getD j false) n).tmps)=true:=by
    unfold Region.wanted
    rw[hgd]
   rw[if_pos hw]
   refine .inl ?_
   have tE:cF P o (part ops a0 ρ (fun j=>listed.getD j false) n).eval w fun v w'=>Below w.heap.size w w'∧(sp i).post v ((sp i).deps.map ρ) w.heap.size w'.heap.size w':=by
    unfold cF at qI ⊢
    rw[hev]
    exact qI
   refine tE.wp fun v w' hv=> ?_
   obtain⟨kN,hpost⟩:=hv
   have A5:o.dst=dst ops i:=by unfold dst;rw[ho];rfl
   have fu:∀j,(listed.setIfInBounds i true).getD j false=if j=i then true else listed.getD j false:=fun j=>by
    by_cases e:j=i
    ·subst e
     rw[if_pos rfl]
     simp[hi']
    ·rw[if_neg e]
     exact getD_set_ne false (fun h=>e h.symm)
   rw[A5,rM hone bO hin,nj (L':=fun j=>(listed.setIfInBounds i true).getD j false) (ρ':=upd ρ i v) (fun j=>(fu j).symm) (fun _ _=>rfl)]
   have hsz:=kN.size
   have hb0:=hb.size
   have PU:∀j,j≠i→listed.getD j false=true→(∀k∈(sp j).deps,listed.getD k false=true)→(sp j).deps.map (upd ρ i v)=(sp j).deps.map ρ:=fun j hj hjl hk=>by
    refine List.map_congr_left fun k hkm=> ?_
    unfold upd
    rw[if_neg]
    intro e
    subst e
    rw[hk k hkm] at bO
    cases bO
   have ZH:(sp i).deps.map (upd ρ i v)=(sp i).deps.map ρ:=List.map_congr_left fun k hkm=>by
    unfold upd
    rw[if_neg]
    intro e
    subst e
    rw[qT k hkm] at bO
    cases bO
   refine ih (listed.setIfInBounds i true) (upd ρ i v) (sF lo i w.heap.size) (sF hi i w'.heap.size) w' (by simpa using hl) ?_ (hb.trans (kN.mono hb0)) (fun j hj=>by rw[fu,if_neg (by omega)];exact hno j hj) ?_ ?_
   ·rw[Array.toList_setIfInBounds]
    have hi2:i<listed.toList.length:=by simpa using hi'
    have e:listed.toList[i]=false:=by
     simp[hi'] at h0
     simpa using h0
    have hpos:0<listed.toList.count false:=List.count_pos_iff.2 (by rw[←e];exact List.getElem_mem hi2)
    rw[List.count_set hi2,e,if_pos (by decide),if_neg (by decide)]
    omega
   ·intro j hj hjl
    rw[fu] at hjl
    by_cases e:j=i
    ·subst e
     unfold sF
     rw[if_pos rfl,if_pos rfl]
     refine⟨hb0,hsz,Nat.le_refl _,?_,fun k hk=>by rw[fu];split;rfl;exact qT k hk⟩
     rw[ZH]
     unfold upd
     rw[if_pos rfl]
     exact hpost
    ·rw[if_neg e] at hjl
     obtain⟨h1,h2,h3,h4,h5⟩:=hg j hj hjl
     unfold sF
     rw[if_neg e,if_neg e]
     refine⟨h1,h2,by omega,?_,fun k hk=>by rw[fu];split;rfl;exact h5 k hk⟩
     rw[PU j e hjl h5]
     unfold upd
     rw[if_neg e]
     exact J9 j hj _ _ _ _ w w' h3 kN h4
   ·intro j k hj hk hjl cT hjk
    rw[fu] at hjl cT
    unfold sF
    by_cases e:j=i
    ·subst e
     rw[if_neg (fun h=>hjk h.symm)] at cT
     rw[if_pos rfl,if_pos rfl,if_neg (fun h=>hjk h.symm),if_neg (fun h=>hjk h.symm)]
     exact .inr (hg k hk cT).2.2.1
    ·rw[if_neg e] at hjl
     by_cases e2:k=i
     ·subst e2
      rw[if_neg e,if_neg e,if_pos rfl,if_pos rfl]
      exact .inl (hg j hj hjl).2.2.1
     ·rw[if_neg e2] at cT
      rw[if_neg e,if_neg e,if_neg e2,if_neg e2]
      exact hd j k hj hk hjl cT hjk
 have hnone:∀j,(Array.replicate ops.size false).getD j false=false:=fun j=>by by_cases hk:j<ops.size<;>simp[hk]
 have h0:part ops a0 (fun _=>undef) (fun j=>(Array.replicate ops.size false).getD j false) n=a0:=by
  have:∀k,part ops a0 (fun _=>undef) (fun j=>(Array.replicate ops.size false).getD j false) k=a0:=by
   intro k
   induction k with
   |zero=>rfl
   |succ k ih=>
    unfold part
    rw[ih,hnone k,if_neg (by decide)]
  exact this _
 have hk:=key ops.size (Array.replicate ops.size false) (fun _=>undef) (fun _=>0) (fun _=>0) w0 (by simp) (by simp) (Below.refl _ _) (fun i _=>hnone i) (fun i _ h=>by rw[hnone i] at h;cases h) (fun i _ _ _ h=>by rw[hnone i] at h;cases h)
 rw[h0] at hk
 exact hk
end aj
end
section
open Go.RowKit Lt
def dV {α:Type} (T:TypeId) (k:Nat) (fl:α→List Value) (w:World) (B:Nat) (v:Value) (l:List α):Prop:=w.ownsRow B T k v l.length (l.flatMap fl)
section
variable {α:Type} {T:TypeId} {k:Nat} {fl:α→List Value} {w w':World} {B:Nat} {v:Value} {l:List α}
theorem dV.lt (h:dV T k fl w B v l) {b:Nat} (hb:v.ownBlock=some b):B≤b∧b<w.heap.size:=World.ownsRow.lt h b hb
theorem dV.same (h:dV T k fl w B v l) (hb:∀g,v.ownBlock=some g→g<w.heap.size→w'.heap[g]? =w.heap[g]?):dV T k fl w' B v l:=by
 refine⟨h.1,?_⟩
 rcases h.2 with h|⟨g,cap,cur,e1,hgB,hh,hr⟩
 ·exact .inl h
 ·exact .inr ⟨g,cap,cur,e1,hgB,(hb g (by rw[e1];rfl) (lt_of_block hh)).trans hh,hr⟩
theorem dV.nil (w:World) (B:Nat):dV T k fl w B (.slice none 0 0) ([]:List α):=World.ownsRow_nil _ _ _ _
theorem dV.form (h:dV T k fl w B v l):∃ao cap,v= .slice ao l.length cap∧l.length≤cap:=by
 rcases h.2 with ⟨e,h0⟩|⟨g,cap,cur,e,_,_,hc,_⟩
 ·exact⟨none,0,by rw[e,h0],by omega⟩
 ·exact⟨_,cap,e,hc⟩
theorem wT (hk:∀x,(fl x).length=k):∀l:List α,(l.flatMap fl).length=l.length*k
 |[]=>by simp
 |x::l=>by
  rw[List.flatMap_cons,List.length_append,hk,wT hk l,List.length_cons,Nat.add_mul]
  omega
theorem dV.snoc (hk:∀x,(fl x).length=k) {x:α} (h:dV T k fl w B v (l++[x])):∃g c,v= .slice (some ⟨g,0,none⟩) (l.length+1) c∧(∀j u,(fl x)[j]? =some u→w.cell? ⟨g,l.length*k+j,none⟩=some u)∧l.length+1≤c∧(∀i,w.frozen? ⟨g,i,none⟩=false)∧dV T k fl w B (.slice (some ⟨g,0,none⟩) l.length c) l:=by
 unfold dV at h
 rw[List.length_append,List.length_singleton,List.flatMap_append] at h
 obtain⟨g,c,rfl⟩:=iy h
 have hfl:=wT hk l
 refine⟨g,c,rfl,fun j u hu=> ?_,?_,fun i=>World.ownsRow.frozenAt h i,?_⟩
 ·have hc:=World.ownsRow.cells h (g:=g) rfl (l.length*k+j) u (by
   rw[List.getElem?_append_right (by omega),hfl,Nat.add_sub_cancel_left]
   simpa using hu)
  have ea:((⟨g,0,none⟩:Addr).add (l.length*k+j))=⟨g,l.length*k+j,none⟩:=by
   obtain⟨z,hz⟩:∃z,l.length*k+j=z:=⟨_,rfl⟩
   rw[hz]
   by_cases h0:z=0<;>simp[Addr.add,h0]
  rw[ea] at hc
  exact hc
 ·rcases h.2 with ⟨h',_⟩|⟨g',cap,cur,e,_,_,hcc,_⟩
  ·cases h'
  ·cases e;exact hcc
 ·rcases h.2 with ⟨h',_⟩|⟨g',cap,cur,e,hB,hh,hc,hm,hs,ht⟩
  ·cases h'
  ·cases e
   refine⟨hfl,.inr ⟨g,c,cur,rfl,hB,hh,by omega,hm,hs,?_⟩⟩
   have e1:cur.toList.take (l.length*k)=(cur.toList.take ((l.length+1)*k)).take (l.length*k):=by
    rw[List.take_take]
    congr 1
    have:l.length*k≤(l.length+1)*k:=Nat.mul_le_mul_right _ (by omega)
    omega
   rw[e1,ht,List.take_append_of_le_length (by omega),List.take_of_length_le (by omega)]
end
def CQ (p:Pr):List Value:=[.int .i64 p.1.1,.int .i64 p.1.2,.int .i64 p.2.1,.int .i64 p.2.2]
def tM (v:jw):List Value:=[.int .i64 v.1,.int .i64 v.2.1,.int .i64 v.2.2.1.1,.int .i64 v.2.2.1.2,.int .i64 v.2.2.2.1,.int .i64 v.2.2.2.2]
theorem Im (p:Pr):(CQ p).length=4:=rfl
theorem oG (v:jw):(tM v).length=6:=rfl
structure aQ (c:Wp) (p t:Nat) (W0:World) (O:Nat→Prop) (st:TS) (L U Z:Nat) (vp vw:Value) (W:World):Prop where
 wk:bV c p W0
 aI:Below W0.heap.size W0 W
 blk:W.heap[t]? =some (.cells #[.pointer (some ⟨p,0,none⟩),.slice (some ⟨L,0,none⟩) c.es.length c.es.length,.slice (some ⟨U,0,none⟩) c.es.length c.es.length,vp,vw,.slice (some ⟨Z,0,none⟩) c.es.length c.es.length] 144 (0,0))
 like:aq W L st.like
 turn:aq W U st.turn
 lowest:aq W Z st.lowest
 ll:st.like.length=c.es.length
 lu:st.turn.length=c.es.length
 lz:st.lowest.length=c.es.length
 qC:dV 168 4 CQ W W0.heap.size vp st.stk.reverse
 way:dV 170 6 tM W W0.heap.size vw st.way.reverse
 oT:O t
 oL:O L
 oU:O U
 oZ:O Z
 oP:∀b,vp.ownBlock=some b→O b
 oW:∀b,vw.ownBlock=some b→O b
 oB:∀b,O b→W0.heap.size≤b
 oX:∀b,O b→b<W.heap.size
 n1:t≠L∧t≠U∧t≠Z∧L≠U∧L≠Z∧U≠Z
 n2:∀b,vp.ownBlock=some b→b≠t∧b≠L∧b≠U∧b≠Z
 n3:∀b,vw.ownBlock=some b→b≠t∧b≠L∧b≠U∧b≠Z
 n4:∀b,vp.ownBlock=some b→vw.ownBlock≠some b
def Ts (c:Wp) (p t:Nat) (W0:World) (O:Nat→Prop) (st:TS) (W:World):Prop:=∃L U Z vp vw,aQ c p t W0 O st L U Z vp vw W
section
variable {c:Wp} {p t:Nat} {W0 W V:World} {O O':Nat→Prop} {st:TS} {L U Z:Nat} {vp vw:Value}
theorem aQ.lt (h:aQ c p t W0 O st L U Z vp vw W):t<W.heap.size:=lt_of_block h.blk
theorem aQ.now (h:aQ c p t W0 O st L U Z vp vw W):bV c p W:=h.wk.later h.aI
theorem aQ.same (h:aQ c p t W0 O st L U Z vp vw W) (hb:Below W0.heap.size W0 V) (hs:W.heap.size≤V.heap.size) (hO:∀b,O b→b<W.heap.size→V.heap[b]? =W.heap[b]?):aQ c p t W0 O st L U Z vp vw V:=
 ⟨h.wk,hb,(hO t h.oT h.lt).trans h.blk,(hO L h.oL h.like.lt).trans h.like,(hO U h.oU h.turn.lt).trans h.turn,(hO Z h.oZ h.lowest.lt).trans h.lowest,h.ll,h.lu,h.lz,h.qC.same fun g hg hl=>hO g (h.oP g hg) hl,h.way.same fun g hg hl=>hO g (h.oW g hg) hl,h.oT,h.oL,h.oU,h.oZ,h.oP,h.oW,h.oB,fun b hb'=>Nat.lt_of_lt_of_le (h.oX b hb') hs,h.n1,h.n2,h.n3,h.n4⟩
theorem aQ.later (h:aQ c p t W0 O st L U Z vp vw W) (hb:Below W.heap.size W V):aQ c p t W0 O st L U Z vp vw V:=h.same (h.aI.trans (hb.mono h.aI.size)) hb.size fun b _ hl=>hb.block b hl
theorem aQ.more (h:aQ c p t W0 O st L U Z vp vw W) (hO:∀b,O b→O' b) (hB:∀b,O' b→W0.heap.size≤b) (hX:∀b,O' b→b<W.heap.size):aQ c p t W0 O' st L U Z vp vw W:=
 ⟨h.wk,h.aI,h.blk,h.like,h.turn,h.lowest,h.ll,h.lu,h.lz,h.qC,h.way,hO _ h.oT,hO _ h.oL,hO _ h.oU,hO _ h.oZ,fun b hb=>hO b (h.oP b hb),fun b hb=>hO b (h.oW b hb),hB,hX,h.n1,h.n2,h.n3,h.n4⟩
theorem aQ.cells (h:aQ c p t W0 O st L U Z vp vw W):W.cell? ⟨t,0,none⟩=some (.pointer (some ⟨p,0,none⟩))∧W.cell? ⟨t,1,none⟩=some (.slice (some ⟨L,0,none⟩) c.es.length c.es.length)∧W.cell? ⟨t,2,none⟩=some (.slice (some ⟨U,0,none⟩) c.es.length c.es.length)∧W.cell? ⟨t,3,none⟩=some vp∧W.cell? ⟨t,4,none⟩=some vw∧W.cell? ⟨t,5,none⟩=some (.slice (some ⟨Z,0,none⟩) c.es.length c.es.length)∧∀i,W.frozen? ⟨t,i,none⟩=false:=by
 refine⟨by simp[World.cell?,h.blk],by simp[World.cell?,h.blk],by simp[World.cell?,h.blk],by simp[World.cell?,h.blk],by simp[World.cell?,h.blk],by simp[World.cell?,h.blk],fun i=>by simp[World.frozen?,h.blk]⟩
theorem nO {W:World} {b:Nat} {l:List Int} {x:Nat} (h:aq W b l) (hx:x<l.length):W.cell? ⟨b,x,none⟩=some (.int .i64 (l[x]?.getD 0)):=h.cell (by simp[hx])
theorem aQ.zP (h:aQ c p t W0 O st L U Z vp vw W) (x:Nat) (z:Int):aQ c p t W0 O { st with like:=st.like.set x z } L U Z vp vw (W.setCell ⟨L,x,none⟩ (.int .i64 z)):=by
 have hk:∀b,b≠L→(W.setCell ⟨L,x,none⟩ (.int .i64 z)).heap[b]? =W.heap[b]? :=fun b hb=>heap_setCell_other W ⟨L,x,none⟩ b _ hb
 obtain⟨a1,a2,a3,a4,a5,a6⟩:=h.n1
 exact⟨h.wk,h.aI.setCell (p:=⟨L,x,none⟩) (h.oB L h.oL) _,(hk _ a1).trans h.blk,h.like.set x z,(hk _ (Ne.symm a4)).trans h.turn,(hk _ (Ne.symm a5)).trans h.lowest,by simpa using h.ll,h.lu,h.lz,h.qC.same fun g hg _=>hk g (h.n2 g hg).2.1,h.way.same fun g hg _=>hk g (h.n3 g hg).2.1,h.oT,h.oL,h.oU,h.oZ,h.oP,h.oW,h.oB,fun b hb=>by simpa using h.oX b hb,h.n1,h.n2,h.n3,h.n4⟩
theorem aQ.Ga (h:aQ c p t W0 O st L U Z vp vw W) (x:Nat) (z:Int):aQ c p t W0 O { st with turn:=st.turn.set x z } L U Z vp vw (W.setCell ⟨U,x,none⟩ (.int .i64 z)):=by
 have hk:∀b,b≠U→(W.setCell ⟨U,x,none⟩ (.int .i64 z)).heap[b]? =W.heap[b]? :=fun b hb=>heap_setCell_other W ⟨U,x,none⟩ b _ hb
 obtain⟨a1,a2,a3,a4,a5,a6⟩:=h.n1
 exact⟨h.wk,h.aI.setCell (p:=⟨U,x,none⟩) (h.oB U h.oU) _,(hk _ a2).trans h.blk,(hk _ a4).trans h.like,h.turn.set x z,(hk _ (Ne.symm a6)).trans h.lowest,h.ll,by simpa using h.lu,h.lz,h.qC.same fun g hg _=>hk g (h.n2 g hg).2.2.1,h.way.same fun g hg _=>hk g (h.n3 g hg).2.2.1,h.oT,h.oL,h.oU,h.oZ,h.oP,h.oW,h.oB,fun b hb=>by simpa using h.oX b hb,h.n1,h.n2,h.n3,h.n4⟩
theorem aQ.sW (h:aQ c p t W0 O st L U Z vp vw W) (x:Nat) (z:Int):aQ c p t W0 O { st with lowest:=st.lowest.set x z } L U Z vp vw (W.setCell ⟨Z,x,none⟩ (.int .i64 z)):=by
 have hk:∀b,b≠Z→(W.setCell ⟨Z,x,none⟩ (.int .i64 z)).heap[b]? =W.heap[b]? :=fun b hb=>heap_setCell_other W ⟨Z,x,none⟩ b _ hb
 obtain⟨a1,a2,a3,a4,a5,a6⟩:=h.n1
 exact⟨h.wk,h.aI.setCell (p:=⟨Z,x,none⟩) (h.oB Z h.oZ) _,(hk _ a3).trans h.blk,(hk _ a5).trans h.like,(hk _ a6).trans h.turn,h.lowest.set x z,h.ll,h.lu,by simpa using h.lz,h.qC.same fun g hg _=>hk g (h.n2 g hg).2.2.2,h.way.same fun g hg _=>hk g (h.n3 g hg).2.2.2,h.oT,h.oL,h.oU,h.oZ,h.oP,h.oW,h.oB,fun b hb=>by simpa using h.oX b hb,h.n1,h.n2,h.n3,h.n4⟩
theorem aQ.LH (h:aQ c p t W0 O st L U Z vp vw W) {W1:World} {v':Value} {ps:List Pr} (hb:Below W0.heap.size W0 W1) (hk:∀b,b<W.heap.size→vp.ownBlock≠some b→W1.heap[b]? =W.heap[b]?) (hsz:W.heap.size≤W1.heap.size) (hv:dV 168 4 CQ W1 W0.heap.size v' ps.reverse) (hat:v'.ownBlock=vp.ownBlock∨∃b,v'.ownBlock=some b∧W.heap.size≤b):
 W1.cell? ⟨t,3,none⟩=some vp∧W1.frozen? ⟨t,3,none⟩=false∧W1.cell? ⟨t,0,none⟩=some (.pointer (some ⟨p,0,none⟩))∧aQ c p t W0 (fun b=>(O b∨W.heap.size≤b)∧b<(W1.setCell ⟨t,3,none⟩ v').heap.size) { st with stk:=ps } L U Z v' vw (W1.setCell ⟨t,3,none⟩ v'):=by
 have hT:∀b,(b=t∨b=L∨b=U∨b=Z∨vw.ownBlock=some b)→vp.ownBlock≠some b:=fun b hb e=>by
  have:=h.n2 b e
  rcases hb with k|k|k|k|k
  ·exact this.1 k
  ·exact this.2.1 k
  ·exact this.2.2.1 k
  ·exact this.2.2.2 k
  ·exact h.n4 b e k
 have acH:∀b,vw.ownBlock=some b→b<W.heap.size:=fun b hb=>(h.way.lt hb).2
 have qV:W1.heap[t]? =some (.cells #[.pointer (some ⟨p,0,none⟩),.slice (some ⟨L,0,none⟩) c.es.length c.es.length,.slice (some ⟨U,0,none⟩) c.es.length c.es.length,vp,vw,.slice (some ⟨Z,0,none⟩) c.es.length c.es.length] 144 (0,0)):=(hk t h.lt (hT t (.inl rfl))).trans h.blk
 have hv2:∀b,v'.ownBlock=some b→b≠t∧b≠L∧b≠U∧b≠Z:=fun b hb=>by
  rcases hat with e|⟨b',e,hb'⟩
  ·rw[e] at hb;exact h.n2 b hb
  ·rw[e] at hb
   cases hb
   have:=h.lt
   have:=h.like.lt
   have:=h.turn.lt
   have:=h.lowest.lt
   exact⟨by omega,by omega,by omega,by omega⟩
 obtain⟨a1,a2,a3,a4,a5,a6⟩:=h.n1
 have hX:∀{b:Nat},O b→b<(W1.setCell ⟨t,3,none⟩ v').heap.size:=fun {b} hb=>by have:=h.oX b hb;simp;omega
 have hs:∀b,b≠t→(W1.setCell ⟨t,3,none⟩ v').heap[b]? =W1.heap[b]? :=fun b hb=>heap_setCell_other W1 ⟨t,3,none⟩ b _ hb
 refine⟨by simp[World.cell?,qV],by simp[World.frozen?,qV],by simp[World.cell?,qV],h.wk,hb.setCell (p:=⟨t,3,none⟩) (h.oB t h.oT) _,?_,?_,?_,?_,h.ll,h.lu,h.lz,?_,?_,⟨.inl h.oT,hX h.oT⟩,⟨.inl h.oL,hX h.oL⟩,⟨.inl h.oU,hX h.oU⟩,⟨.inl h.oZ,hX h.oZ⟩,fun b hb=>⟨?_,by simpa using(hv.lt hb).2⟩,fun b hb=>⟨.inl (h.oW b hb),hX (h.oW b hb)⟩,fun b hb=> ?_,fun b hb=>hb.2,h.n1,hv2,h.n3,fun b hb hw=> ?_⟩
 ·have:=heap_setCell_same W1 t 3 _ _ v' qV
  simpa using this
 ·exact(hs L (Ne.symm a1)).trans ((hk L h.like.lt (hT L (by simp))).trans h.like)
 ·exact(hs U (Ne.symm a2)).trans ((hk U h.turn.lt (hT U (by simp))).trans h.turn)
 ·exact(hs Z (Ne.symm a3)).trans ((hk Z h.lowest.lt (hT Z (by simp))).trans h.lowest)
 ·exact hv.same fun g hg _=>hs g (hv2 g hg).1
 ·exact h.way.same fun g hg hl=>(hs g (h.n3 g hg).1).trans (hk g hl (hT g (by simp[hg])))
 ·rcases hat with e|⟨b',e,hb'⟩
  ·rw[e] at hb;exact .inl (h.oP b hb)
  ·rw[e] at hb;cases hb;exact .inr hb'
 ·rcases hb.1 with hb|hb
  ·exact h.oB b hb
  ·have:=h.aI.size;omega
 ·rcases hat with e|⟨b',e,hb'⟩
  ·rw[e] at hb;exact h.n4 b hb hw
  ·rw[e] at hb
   cases hb
   have:=acH b hw
   omega
theorem aQ.VU (h:aQ c p t W0 O st L U Z vp vw W) {W1:World} {v':Value} {vs:List jw} (hb:Below W0.heap.size W0 W1) (hk:∀b,b<W.heap.size→vw.ownBlock≠some b→W1.heap[b]? =W.heap[b]?) (hsz:W.heap.size≤W1.heap.size) (hv:dV 170 6 tM W1 W0.heap.size v' vs.reverse) (hat:v'.ownBlock=vw.ownBlock∨∃b,v'.ownBlock=some b∧W.heap.size≤b):
 W1.cell? ⟨t,4,none⟩=some vw∧W1.frozen? ⟨t,4,none⟩=false∧aQ c p t W0 (fun b=>(O b∨W.heap.size≤b)∧b<(W1.setCell ⟨t,4,none⟩ v').heap.size) { st with way:=vs } L U Z vp v' (W1.setCell ⟨t,4,none⟩ v'):=by
 have hT:∀b,(b=t∨b=L∨b=U∨b=Z∨vp.ownBlock=some b)→vw.ownBlock≠some b:=fun b hb e=>by
  have:=h.n3 b e
  rcases hb with k|k|k|k|k
  ·exact this.1 k
  ·exact this.2.1 k
  ·exact this.2.2.1 k
  ·exact this.2.2.2 k
  ·exact h.n4 b k e
 have ac2:∀b,vp.ownBlock=some b→b<W.heap.size:=fun b hb=>(h.qC.lt hb).2
 have qV:W1.heap[t]? =some (.cells #[.pointer (some ⟨p,0,none⟩),.slice (some ⟨L,0,none⟩) c.es.length c.es.length,.slice (some ⟨U,0,none⟩) c.es.length c.es.length,vp,vw,.slice (some ⟨Z,0,none⟩) c.es.length c.es.length] 144 (0,0)):=(hk t h.lt (hT t (.inl rfl))).trans h.blk
 have hv2:∀b,v'.ownBlock=some b→b≠t∧b≠L∧b≠U∧b≠Z:=fun b hb=>by
  rcases hat with e|⟨b',e,hb'⟩
  ·rw[e] at hb;exact h.n3 b hb
  ·rw[e] at hb
   cases hb
   have:=h.lt
   have:=h.like.lt
   have:=h.turn.lt
   have:=h.lowest.lt
   exact⟨by omega,by omega,by omega,by omega⟩
 obtain⟨a1,a2,a3,a4,a5,a6⟩:=h.n1
 have hX:∀{b:Nat},O b→b<(W1.setCell ⟨t,4,none⟩ v').heap.size:=fun {b} hb=>by have:=h.oX b hb;simp;omega
 have hs:∀b,b≠t→(W1.setCell ⟨t,4,none⟩ v').heap[b]? =W1.heap[b]? :=fun b hb=>heap_setCell_other W1 ⟨t,4,none⟩ b _ hb
 refine⟨by simp[World.cell?,qV],by simp[World.frozen?,qV],h.wk,hb.setCell (p:=⟨t,4,none⟩) (h.oB t h.oT) _,?_,?_,?_,?_,h.ll,h.lu,h.lz,?_,?_,⟨.inl h.oT,hX h.oT⟩,⟨.inl h.oL,hX h.oL⟩,⟨.inl h.oU,hX h.oU⟩,⟨.inl h.oZ,hX h.oZ⟩,fun b hb=>⟨.inl (h.oP b hb),hX (h.oP b hb)⟩,fun b hb=>⟨?_,by simpa using(hv.lt hb).2⟩,fun b hb=> ?_,fun b hb=>hb.2,h.n1,h.n2,hv2,fun b hb hw=> ?_⟩
 ·have:=heap_setCell_same W1 t 4 _ _ v' qV
  simpa using this
 ·exact(hs L (Ne.symm a1)).trans ((hk L h.like.lt (hT L (by simp))).trans h.like)
 ·exact(hs U (Ne.symm a2)).trans ((hk U h.turn.lt (hT U (by simp))).trans h.turn)
 ·exact(hs Z (Ne.symm a3)).trans ((hk Z h.lowest.lt (hT Z (by simp))).trans h.lowest)
 ·exact h.qC.same fun g hg hl=>(hs g (h.n2 g hg).1).trans (hk g hl (hT g (by simp[hg])))
 ·exact hv.same fun g hg _=>hs g (hv2 g hg).1
 ·rcases hat with e|⟨b',e,hb'⟩
  ·rw[e] at hb;exact .inl (h.oW b hb)
  ·rw[e] at hb;cases hb;exact .inr hb'
 ·rcases hb.1 with hb|hb
  ·exact h.oB b hb
  ·have:=h.aI.size;omega
 ·rcases hat with e|⟨b',e,hb'⟩
  ·rw[e] at hw;exact h.n4 b hb hw
  ·rw[e] at hw
   cases hw
   have:=ac2 b hb
   omega
end
end
section
open Go.RowKit Lt
section
variable {c:Wp} {p t:Nat} {W0 W:World} {O:Nat→Prop} {st:TS} {L U Z:Nat} {vp vw:Value}
theorem RR {w:World} {g o:Nat} {q:Pr} (h:∀j u,(CQ q)[j]? =some u→w.cell? ⟨g,o+j,none⟩=some u):w.cell? ⟨g,o,none⟩=some (.int .i64 q.1.1)∧w.cell? ⟨g,o+1,none⟩=some (.int .i64 q.1.2)∧w.cell? ⟨g,o+2,none⟩=some (.int .i64 q.2.1)∧w.cell? ⟨g,o+3,none⟩=some (.int .i64 q.2.2):=
 ⟨h 0 _ rfl,h 1 _ rfl,h 2 _ rfl,h 3 _ rfl⟩
set_option maxRecDepth 100000 in
set_option maxHeartbeats 8000000 in
theorem iw (h:aQ c p t W0 O st L U Z vp vw W) (hlen:st.stk.length≤8388608):Calls Tryz.prog 118 #[.pointer (some ⟨t,0,none⟩)] W fun e w'=>e= .returned (fL (top st.stk))∧Below W.heap.size W w':=by
 obtain⟨W1,hW1⟩:∃W1,W1=W.alloc (.cells #[.int .i64 0,.int .i64 0,.int .i64 0,.int .i64 0] 168):=⟨_,rfl⟩
 have hbl:W1.heap[W.heap.size]? =some (.cells #[.int .i64 0,.int .i64 0,.int .i64 0,.int .i64 0] 168 (0,0)):=by rw[hW1];exact heap_alloc_new W _
 have hb:Below W.heap.size W W1:=by rw[hW1];exact(Below.refl _ _).alloc (Nat.le_refl _) _
 have h1:=h.later hb
 obtain⟨-,-,-,x3,-,-,-⟩:=h1.cells
 obtain⟨q0,q1,q2,q3,qf⟩:=au hbl
 have hlt:=lt_of_block hbl
 have l9:=Nu.hid hbl
 have HB:=Nu.hid hb
 have HW:=Nu.hid hW1
 have sJ:=h1.qC
 cases hs:st.stk with
 |nil=>
  rw[hs] at sJ
  obtain⟨ao,cap,rfl,-⟩:=sJ.form
  rw[List.reverse_nil,List.length_nil] at x3
  have hacc:=Below.refl W1.heap.size W1
  rw[hW1] at x3 hacc
  rw[HW.out] at l9 HB hlt
  clear h h1 sJ hbl hb hW1 hs hlen q0 q1 q2 q3 qf HW
  go_enter Tryz.func118,Tryz.ntmps118
  go_wp2_with (go_at_call 131;refine(oy _).mono ?_;rintro e w1 ⟨rfl,hb1⟩;have hacc:=hacc.trans (hb1.mono hacc.size);obtain⟨q0,q1,q2,q3,qf⟩:=au ((hacc.block _ hlt).trans l9.out);clear hb1)
  obtain⟨r0,r1,r2,r3,-⟩:=au (iE ((hacc.block _ hlt).trans l9.out) (.int .i64 (-1)) (.int .i64 (-1)) (.int .i64 (-1)) (.int .i64 (-1)))
  refine bodyPost_ret (v:=fL dI) (by simp[results,Tryz.results118,go_sem,r0,r1,r2,r3]) rfl ?_
  exact⟨rfl,eA (HB.out.trans (hacc.mono HB.out.size)) (Nat.le_refl _) _ _ _ _⟩
 |cons q ps=>
  rw[hs,List.reverse_cons] at sJ
  obtain⟨g,cap,rfl,hc,-,-,-⟩:=sJ.snoc Im
  rw[List.length_reverse] at hc x3
  obtain⟨d0,d1,d2,d3⟩:=RR hc
  obtain⟨k,hk⟩:∃k,ps.length=k:=⟨_,rfl⟩
  rw[hk] at d0 d1 d2 d3 x3
  rw[hs,List.length_cons,hk] at hlen
  have e1:((k:Int)+1)-1=(k:Int):=by omega
  have e2:(0:Int)≤(k:Int):=by omega
  have e3:(k:Int)<(k:Int)+1:=by omega
  have e4:((k:Int)+1==0)=false:=by simp only[beq_eq_false_iff_ne,ne_eq];omega
  obtain⟨⟨a,b⟩,a',b'⟩:=q
  dsimp only at d0 d1 d2 d3
  have ajX:g≠W.heap.size:=fun e=>by
   have:=(h.qC.lt (b:=g) rfl).2
   omega
  rw[hW1] at x3 d0 d1 d2 d3 q0 q1 q2 q3 qf
  rw[HW.out] at l9 HB hlt
  clear h h1 sJ hbl hb hW1 hs hc hk HW
  go_enter Tryz.func118,Tryz.ntmps118
  go_wp2_with fail
  go_big_region
  go_wp2
  obtain⟨r0,r1,r2,r3,-⟩:=au (w:=(W.alloc (.cells #[.int .i64 a,.int .i64 b,.int .i64 a',.int .i64 b'] 168)).drew) (heap_alloc_new W _)
  refine bodyPost_ret (v:=fL ((a,b),a',b')) (by simp[results,Tryz.results118,go_sem,r0,r1,r2,r3]) rfl ?_
  exact⟨rfl,((Below.refl _ _).alloc (Nat.le_refl _) _).drew⟩
def aT (c:Wp) (p t:Nat) (W0:World) (O:Nat→Prop) (W:World) (st':TS) (w':World):Prop:=
 aF O W w'∧Ts c p t W0 (fun b=>(O b∨W.heap.size≤b)∧b<w'.heap.size) st' w'
theorem aT.next {W1 w':World} {fC st':TS} (h:aT c p t W0 O W fC W1) (h':aT c p t W0 (fun b=>(O b∨W.heap.size≤b)∧b<W1.heap.size) W1 st' w'):aT c p t W0 O W st' w':=by
 refine⟨⟨h'.1.os.trans h.1.os,h'.1.tape.trans h.1.tape,h'.1.output.trans h.1.output,Nat.le_trans h.1.size h'.1.size,fun k hk hn=> ?_⟩,?_⟩
 ·have:=h.1.size
  exact(h'.1.block k (by omega) (fun q=>q.1.elim hn fun q=>by omega)).trans (h.1.block k hk hn)
 ·obtain⟨L,U,Z,vp,vw,h2⟩:=h'.2
  have hs:=h.1.size
  refine⟨L,U,Z,vp,vw,h2.more (fun b hb=>⟨?_,hb.2⟩) (fun b hb=> ?_) (fun b hb=>hb.2)⟩
  ·rcases hb.1 with q|q
   ·exact q.1
   ·exact .inr (by omega)
  ·obtain⟨L',U',Z',oY,qo,h3⟩:=h.2
   by_cases hlt:b<W1.heap.size
   ·exact h3.oB b ⟨hb.1,hlt⟩
   ·have:=h3.aI.size
    omega
theorem aT.pre {W1 w':World} {st':TS} (hB:W0.heap.size≤W.heap.size) (hb:Below W.heap.size W W1) (h':aT c p t W0 O W1 st' w'):aT c p t W0 O W st' w':=by
 refine⟨⟨h'.1.os.trans hb.os,h'.1.tape.trans hb.tape,h'.1.output.trans hb.output,Nat.le_trans hb.size h'.1.size,fun k hk hn=> ?_⟩,?_⟩
 ·have:=hb.size
  exact(h'.1.block k (by omega) hn).trans (hb.block k hk)
 ·obtain⟨L,U,Z,vp,vw,h2⟩:=h'.2
  refine⟨L,U,Z,vp,vw,h2.more (fun b hb'=>⟨?_,hb'.2⟩) (fun b hb'=> ?_) (fun b hb'=>hb'.2)⟩
  ·have:=hb.size
   rcases hb'.1 with q|q
   ·exact .inl q
   ·exact .inr (by omega)
  ·rcases hb'.1 with q|q
   ·exact h2.oB b ⟨.inl q,hb'.2⟩
   ·omega
theorem aQ.post {V:World} (hB:W0.heap.size≤W.heap.size) (hw:aF O W V) (h':aQ c p t W0 O st L U Z vp vw V):aT c p t W0 O W st V:=
 ⟨hw,L,U,Z,vp,vw,h'.more (fun b hb=>⟨.inl hb,h'.oX b hb⟩) (fun b hb=>hb.1.elim (h'.oB b) fun q=>by omega) (fun b hb=>hb.2)⟩
set_option maxRecDepth 100000 in
set_option maxHeartbeats 8000000 in
theorem nZ (h:aQ c p t W0 O st L U Z vp vw W) {q:Pr} {ps:List Pr} (hs:st.stk=q::ps) (hlen:st.stk.length≤8388608):Calls Tryz.prog 148 #[.pointer (some ⟨t,0,none⟩)] W fun e w'=>e= .returned (.tuple #[])∧aT c p t W0 O W { st with stk:=ps } w':=by
 obtain⟨-,-,-,x3,-,-,xf⟩:=h.cells
 have sJ:=h.qC
 rw[hs,List.reverse_cons] at sJ
 obtain⟨g,cap,rfl,-,hcap,-,hown⟩:=sJ.snoc Im
 rw[List.length_reverse] at x3 hcap hown
 have bI:Hid (∀k,aT c p t W0 O W { st with stk:=ps } ((W.drewN k).setCell ⟨t,3,none⟩ (.slice (some ⟨g,0,none⟩) ps.length cap))):=by
  intro k
  refine⟨((aF.refl O W).drewN k).setCell h.oT _,L,U,Z,_,vw,(h.LH (W1:=W.drewN k) (below_drewN h.aI k) (fun b _ _=>rfl) (Nat.le_refl _) hown (.inl rfl)).2.2.2⟩
 obtain⟨k,hk⟩:∃k,ps.length=k:=⟨_,rfl⟩
 rw[hk] at x3 hcap bI
 rw[hs,List.length_cons,hk] at hlen
 have e1:((k:Int)+1)-1=(k:Int):=by omega
 have e2:(0:Int)≤(k:Int):=by omega
 have e3:(k:Int)≤(cap:Int):=by omega
 clear h sJ hs hk hown
 go_enter Tryz.func148,Tryz.ntmps148
 go_wp2_with fail
 go_big_region
 go_wp2
 go_end0
 exact⟨rfl,bI.out _⟩
end
end
end Go.Proofs.YtnhcggfbkoppnaaGreat
