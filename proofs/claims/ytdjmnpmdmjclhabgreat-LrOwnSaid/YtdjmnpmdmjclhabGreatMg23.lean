import Derived.Test.YtdjmnpmdmjclhabGreatMg04
namespace Go.Proofs.YtdjmnpmdmjclhabGreat
section
open Go.RowKit
namespace aj
theorem afT {P:Program} {ops:Array Oper} {Q:Exit→Act→World→Prop} {a0:Act} {w0:World} (sp:Nat→nJ) (n N:Nat) (hn:n≤ops.size) (hN:a0.tmps.size=N) (hsh:shape ops n (fun i=>(sp i).deps)=true)
 (KI:∀i,i<n→∀v vs lo hi w w',hi≤w.heap.size→Below w.heap.size w w'→(sp i).post v vs lo hi w→(sp i).post v vs lo hi w')
 (hstep:∀i o (ρ:Nat→Value) w (ev:Operand→Value),i<n→ops[i]? =some o→Below w0.heap.size w0 w→(∀j∈(sp i).deps,∃lo hi,w0.heap.size≤lo∧lo≤hi∧hi≤w.heap.size∧(sp j).post (ρ j) ((sp j).deps.map ρ) lo hi w)→
   (∀j t,j<i→dst ops j=some t→t<N→ev (.tmp t)=ρ j)→(∀t,((List.range i).all fun j=>dst ops j != some t)=true→ev (.tmp t)=a0.eval (.tmp t))→(∀v,ev (.const v)=v)→(∀f,ev (.func f)= .func (.func f) #[] #[])→
   cF P o ev w fun v w'=>Below w.heap.size w w'∧(sp i).post v ((sp i).deps.map ρ) w.heap.size w'.heap.size w')
 (hend:∀(ρ:Nat→Value) (lo hi:Nat→Nat) w a,a=canon ops a0 ρ n→a.defers=a0.defers→(∀j t,j<n→dst ops j=some t→t<N→a.eval (.tmp t)=ρ j)→(∀t,((List.range n).all fun j=>dst ops j != some t)=true→a.eval (.tmp t)=a0.eval (.tmp t))→Below w0.heap.size w0 w→(∀i,i<n→w0.heap.size≤lo i∧lo i≤hi i∧hi i≤w.heap.size∧(sp i).post (ρ i) ((sp i).deps.map ρ) (lo i) (hi i) w)→(∀i j,i<n→j<n→i≠j→hi i≤lo j∨hi j≤lo i)→
   wpAny P .any ops Q (ops.size-n) (heads ops.size n) a w):
 wpAny P .any ops Q ops.size (Array.replicate ops.size false) a0 w0:=by
 have hs:=fun i (hi:i<ops.size)=>aaJ.1 hsh i (aaO.2 hi)
 have hlt:∀{j t},dst ops j=some t→j<ops.size:=fun {j t} h=>by
  rcases ab1 j ops.size with h1|h1
  ·exact h1
  ·unfold dst at h;rw[acM h1] at h;cases h
 have hone:∀i j t,i≠j→dst ops j=some t→dst ops i≠some t:=fun i j t hij hj hi=>by
  have h1:=hs j (hlt hj)
  dsimp only at h1
  cases ho:ops[j]? with
  |none=>rw[ho] at h1;cases h1
  |some o=>
   have hd:o.dst=some t:=by unfold dst at hj;rw[ho] at hj;exact hj
   rw[ho] at h1
   simp only[aaP] at h1
   have h2:=h1.1
   rw[hd] at h2
   have h3:=aaJ.1 h2 i (aaO.2 (hlt hi))
   simp only[ab7,beq_iff_eq,bne_iff_ne] at h3
   rcases h3 with h3|h3
   ·exact hij h3
   ·exact h3 hi
 have hop:∀i,i<n→∃o,ops[i]? =some o∧o.guard=none∧(∀cs b,o.op≠.select cs b)∧
  (∀t,Operand.tmp t∈o.op.operands→∀j,j<ops.size→dst ops j=some t→j<i∧∃e∈o.after,Region.binds .any e=true∧e.on=j)∧
  (∀j∈(sp i).deps,j<i∧∃e∈o.after,Region.binds .any e=true∧e.on=j)∧(∀e∈o.after,Region.binds .any e=true→e.on<i):=fun i hi=>by
  have h1:=hs i (by omega)
  dsimp only at h1
  cases ho:ops[i]? with
  |none=>rw[ho] at h1;cases h1
  |some o=>
   rw[ho] at h1
   simp only[aaP,if_pos hi] at h1
   obtain⟨_,⟨⟨⟨g1,g2⟩,g4⟩,g5⟩,g6⟩:=h1
   refine⟨o,rfl,by simpa using g1,(fun cs b hsel=>by rw[hsel] at g2;cases g2),fun t ht j hj hd=> ?_,fun j hj=> ?_,fun e he hb=> ?_⟩
   ·have h2:=aaJ.1 g4 (.tmp t) (by simpa using ht)
    dsimp only at h2
    have h3:=aaJ.1 h2 j (aaO.2 hj)
    simp only[ab7,bne_iff_ne,aaP,decide_eq_true_eq,abU,beq_iff_eq] at h3
    rcases h3 with h3|⟨h3,e,he,h4⟩
    ·exact absurd hd h3
    ·exact⟨h3,e,by simpa using he,h4⟩
   ·have h2:=aaJ.1 g5 j hj
    simp only[aaP,decide_eq_true_eq,abU,beq_iff_eq] at h2
    obtain⟨h3,e,he,h4⟩:=h2
    exact⟨h3,e,by simpa using he,h4⟩
   ·have h2:=abO.1 g6 e he
    rw[hb] at h2
    simpa using h2
 have KV:∀i o,n≤i→ops[i]? =some o→∀j,j<n→∃e∈o.after,Region.binds .any e=true∧e.on=j:=fun i o hi ho j hj=>by
  have h1:=hs i (aam.1 ho).1
  dsimp only at h1
  rw[ho] at h1
  simp only[aaP,if_neg (Nat.not_lt.2 hi)] at h1
  have h2:=aaJ.1 h1.2 j (aaO.2 hj)
  simp only[aaP,abU,beq_iff_eq] at h2
  obtain⟨e,he,h4⟩:=h2
  exact⟨e,by simpa using he,h4⟩
 have fin:∀(listed:Array Bool),listed.size=ops.size→Region.ready .any ops listed=[]→∀i,i<n→listed.getD i false=true:=by
  intro listed hl hr i
  induction i using Nat.strongRecOn with
  |_ i ih=>
   intro hi
   by_cases hb:listed.getD i false=true
   ·exact hb
   ·exfalso
    have hi':i<listed.size:=by omega
    have h0:listed.getD i true=false:=by
     simp[hi'] at hb ⊢
     exact hb
    obtain⟨o,ho,_,_,_,_,dH⟩:=hop i hi
    have hm:i∈Region.ready .any ops listed:=by
     rw[mem_ready]
     refine⟨h0,o,ho,fun e he hbd=> ?_⟩
     have:=dH e he hbd
     exact ih e.on this (by omega)
    rw[hr] at hm
    cases hm
 have key:∀(fuel:Nat) (listed:Array Bool) (ρ:Nat→Value) (lo hi:Nat→Nat) (w:World),listed.size=ops.size→listed.toList.count false=fuel→Below w0.heap.size w0 w→
  (∀i,n≤i→listed.getD i false=false)→
  (∀i,i<n→listed.getD i false=true→w0.heap.size≤lo i∧lo i≤hi i∧hi i≤w.heap.size∧(sp i).post (ρ i) ((sp i).deps.map ρ) (lo i) (hi i) w∧∀j∈(sp i).deps,listed.getD j false=true)→
  (∀i j,i<n→j<n→listed.getD i false=true→listed.getD j false=true→i≠j→hi i≤lo j∨hi j≤lo i)→
  wpAny P .any ops Q fuel listed (part ops a0 ρ (fun j=>listed.getD j false) n) w:=by
  have last:∀(listed:Array Bool) (ρ:Nat→Value) (lo hi:Nat→Nat) (w:World),listed.size=ops.size→Below w0.heap.size w0 w→
   (∀i,n≤i→listed.getD i false=false)→
   (∀i,i<n→listed.getD i false=true→w0.heap.size≤lo i∧lo i≤hi i∧hi i≤w.heap.size∧(sp i).post (ρ i) ((sp i).deps.map ρ) (lo i) (hi i) w∧∀j∈(sp i).deps,listed.getD j false=true)→
   (∀i j,i<n→j<n→listed.getD i false=true→listed.getD j false=true→i≠j→hi i≤lo j∨hi j≤lo i)→
   (∀i,i<n→listed.getD i false=true)→wpAny P .any ops Q (listed.toList.count false) listed (part ops a0 ρ (fun j=>listed.getD j false) n) w:=by
   intro listed ρ lo hi w hl hb hno hg hd hall
   have e:∀k,k≤n→part ops a0 ρ (fun j=>listed.getD j false) k=canon ops a0 ρ k:=by
    intro k
    induction k with
    |zero=>exact fun _=>rfl
    |succ k ih=>
     intro hk
     unfold part canon
     rw[ih (by omega),hall k (by omega),if_pos rfl]
   have e2:listed=heads ops.size n:=by
    apply Array.ext
    ·simp[heads,hl];omega
    ·intro i h1 h2
     by_cases hi:i<n
     ·have:=hall i hi
      simp[h1] at this
      rw[this]
      simp[heads,hi]
     ·have:=hno i (by omega)
      simp[h1] at this
      rw[this]
      simp[heads,List.getElem_append,hi]
   have e3:(heads ops.size n).toList.count false=ops.size-n:=by simp[heads,List.count_replicate]
   rw[e _ (aad _),e2,e3]
   exact hend ρ lo hi w _ rfl (kN n) (fun j t hj hd ht=>by
    rw[dc,kT hd (fun i hi=>hone i j t hi hd) rfl n hj,if_pos (by rw[hN];exact ht)]) (fun t ht=>by
    rw[dc,fO n fun j hj _=>by
     have:=aaJ.1 ht j (aaO.2 hj)
     simpa using this]) hb (fun i hi=>by
    obtain⟨h1,h2,h3,h4,_⟩:=hg i hi (hall i hi)
    exact⟨h1,h2,h3,h4⟩) fun i j hi hj=>hd i j hi hj (hall i hi) (hall j hj)
  intro fuel
  induction fuel with
  |zero=>
   intro listed ρ lo hi w hl hc hb hno hg hd
   have hall:∀i,i<n→listed.getD i false=true:=fun i hi=>by
    have hm:¬false∈listed.toList:=fun h=>by
     have:=abM.2 h
     omega
    have hi':i<listed.size:=by omega
    by_cases nV:listed[i]=true
    ·simp[hi',nV]
    ·exfalso
     have e:listed[i]=false:=by simpa using nV
     exact hm (by rw[←e];simp)
   have:=last listed ρ lo hi w hl hb hno hg hd hall
   rw[hc] at this
   exact this
  |succ fuel ih=>
   intro listed ρ lo hi w hl hc hb hno hg hd
   by_cases hall:∀i,i<n→listed.getD i false=true
   ·have:=last listed ρ lo hi w hl hb hno hg hd hall
    rw[hc] at this
    exact this
   refine⟨fun hr=>absurd (fin listed hl hr) hall,fun i hi=> ?_⟩
   have Ou:=hi
   rw[mem_ready] at hi
   obtain⟨h0,o,ho,bU⟩:=hi
   have RD:=(aam.1 ho).1
   have hin:i<n:=by
    rcases ab1 i n with h|h
    ·exact h
    ·exact absurd (fun j hj=>by
      obtain⟨e,he,hbd,rfl⟩:=KV i o h ho j hj
      exact bU e he hbd) hall
   have hi':i<listed.size:=by omega
   obtain⟨o',ho',hgd,hsel,hread,II,_⟩:=hop i hin
   rw[ho] at ho'
   cases ho'
   have bP:listed.getD i false=false:=by
    simp[hi'] at h0 ⊢
    exact h0
   have q9:∀j∈(sp i).deps,listed.getD j false=true:=fun j hj=>by
    obtain⟨_,e,he,hbd,rfl⟩:=II j hj
    exact bU e he hbd
   have hev:execOp (part ops a0 ρ (fun j=>listed.getD j false) n).eval o=execOp (canon ops a0 ρ i).eval o:=by
    refine execOp_congr o hsel fun x hx=> ?_
    cases x with
    |tmp t=>
     refine nC (fun i j hij=>hone i j t hij) (by omega) fun j hj hd=> ?_
     obtain⟨h1,e,he,hbd,rfl⟩:=hread t hx j (by omega) hd
     exact⟨h1,bU e he hbd⟩
    |_=>rfl
   have qQ:=hstep i o ρ w (canon ops a0 ρ i).eval hin ho hb (fun j hj=>by
    have hjl:=(II j hj).1
    obtain⟨h1,h2,h3,h4,_⟩:=hg j (by omega) (q9 j hj)
    exact⟨lo j,hi j,h1,h2,h3,h4⟩) (fun j t hj hd ht=>by
    rw[dc,kT hd (fun i hi=>hone i j t hi hd) rfl i hj,if_pos (by rw[hN];exact ht)]) (fun t ht=>by
    rw[dc,fO i fun j hj _=>by
     have:=aaJ.1 ht j (aaO.2 hj)
     simpa using this]) (fun v=>rfl) (fun f=>rfl)
   unfold wpOp
   rw[ho]
   dsimp only
   have hw:Region.wanted o (yielded ops (part ops a0 ρ (fun j=>listed.getD j false) n).tmps)=true:=by
    unfold Region.wanted
    rw[hgd]
   rw[if_pos hw]
   refine .inl ?_
   have tP:cF P o (part ops a0 ρ (fun j=>listed.getD j false) n).eval w fun v w'=>Below w.heap.size w w'∧(sp i).post v ((sp i).deps.map ρ) w.heap.size w'.heap.size w':=by
    unfold cF at qQ ⊢
    rw[hev]
    exact qQ
   refine tP.wp fun v w' hv=> ?_
   obtain⟨ij,hpost⟩:=hv
   have BA:o.dst=dst ops i:=by unfold dst;rw[ho];rfl
   have fu:∀j,(listed.setIfInBounds i true).getD j false=if j=i then true else listed.getD j false:=fun j=>by
    by_cases e:j=i
    ·subst e
     rw[if_pos rfl]
     simp[hi']
    ·rw[if_neg e]
     exact getD_set_ne false (fun h=>e h.symm)
   rw[BA,rW hone bP hin,ny (L':=fun j=>(listed.setIfInBounds i true).getD j false) (ρ':=upd ρ i v) (fun j=>(fu j).symm) (fun _ _=>rfl)]
   have hsz:=ij.size
   have hb0:=hb.size
   have QC:∀j,j≠i→listed.getD j false=true→(∀k∈(sp j).deps,listed.getD k false=true)→(sp j).deps.map (upd ρ i v)=(sp j).deps.map ρ:=fun j hj hjl hk=>by
    refine abT fun k hkm=> ?_
    unfold upd
    rw[if_neg]
    intro e
    subst e
    rw[hk k hkm] at bP
    cases bP
   have hdi:(sp i).deps.map (upd ρ i v)=(sp i).deps.map ρ:=abT fun k hkm=>by
    unfold upd
    rw[if_neg]
    intro e
    subst e
    rw[q9 k hkm] at bP
    cases bP
   refine ih (listed.setIfInBounds i true) (upd ρ i v) (sQ lo i w.heap.size) (sQ hi i w'.heap.size) w' (by simpa using hl) ?_ (hb.trans (ij.mono hb0)) (fun j hj=>by rw[fu,if_neg (by omega)];exact hno j hj) ?_ ?_
   ·rw[aco]
    have hi2:i<listed.toList.length:=by simpa using hi'
    have e:listed.toList[i]=false:=by
     simp[hi'] at h0
     simpa using h0
    have hpos:0<listed.toList.count false:=abM.2 (by rw[←e];exact aaX hi2)
    rw[ac2 hi2,e,if_pos (by decide),if_neg (by decide)]
    omega
   ·intro j hj hjl
    rw[fu] at hjl
    by_cases e:j=i
    ·subst e
     unfold sQ
     rw[if_pos rfl,if_pos rfl]
     refine⟨hb0,hsz,aad _,?_,fun k hk=>by rw[fu];split;rfl;exact q9 k hk⟩
     rw[hdi]
     unfold upd
     rw[if_pos rfl]
     exact hpost
    ·rw[if_neg e] at hjl
     obtain⟨h1,h2,h3,h4,h5⟩:=hg j hj hjl
     unfold sQ
     rw[if_neg e,if_neg e]
     refine⟨h1,h2,by omega,?_,fun k hk=>by rw[fu];split;rfl;exact h5 k hk⟩
     rw[QC j e hjl h5]
     unfold upd
     rw[if_neg e]
     exact KI j hj _ _ _ _ w w' h3 ij h4
   ·intro j k hj hk hjl cU hjk
    rw[fu] at hjl cU
    unfold sQ
    by_cases e:j=i
    ·subst e
     rw[if_neg (fun h=>hjk h.symm)] at cU
     rw[if_pos rfl,if_pos rfl,if_neg (fun h=>hjk h.symm),if_neg (fun h=>hjk h.symm)]
     exact .inr (hg k hk cU).2.2.1
    ·rw[if_neg e] at hjl
     by_cases e2:k=i
     ·subst e2
      rw[if_neg e,if_neg e,if_pos rfl,if_pos rfl]
      exact .inl (hg j hj hjl).2.2.1
     ·rw[if_neg e2] at cU
      rw[if_neg e,if_neg e,if_neg e2,if_neg e2]
      exact hd j k hj hk hjl cU hjk
 have hnone:∀j,(Array.replicate ops.size false).getD j false=false:=fun j=>by by_cases hk:j<ops.size<;>simp[hk]
 have h0:part ops a0 (fun _=>undef) (fun j=>(Array.replicate ops.size false).getD j false) n=a0:=by
  have:∀k,part ops a0 (fun _=>undef) (fun j=>(Array.replicate ops.size false).getD j false) k=a0:=by
   intro k
   induction k with
   |zero=>rfl
   |succ k ih=>
    unfold part
    rw[ih,hnone k,if_neg (by decide)]
  exact this _
 have hk:=key ops.size (Array.replicate ops.size false) (fun _=>undef) (fun _=>0) (fun _=>0) w0 (by simp) (by simp) (aae _ _) (fun i _=>hnone i) (fun i _ h=>by rw[hnone i] at h;cases h) (fun i _ _ _ h=>by rw[hnone i] at h;cases h)
 rw[h0] at hk
 exact hk
end aj
end
end Go.Proofs.YtdjmnpmdmjclhabGreat
