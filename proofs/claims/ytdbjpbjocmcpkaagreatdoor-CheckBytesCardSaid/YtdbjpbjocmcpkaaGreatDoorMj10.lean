import Derived.Test.YtdbjpbjocmcpkaaGreatDoorMj09
import Derived.Laws.CopyOwn
import Derived.Deep.RegionLaw
set_option maxHeartbeats 8000000
set_option maxRecDepth 100000
namespace Go.Proofs.YtdbjpbjocmcpkaaGreatDoor
section
open Go.RowKit
namespace gJ
theorem afZ {P:Program} {ops:Array Oper} {Q:Exit->Act->World->Prop} {a0:Act} {w0:World} (sp:Nat->JD) (n N:Nat) (hn:n<=ops.size) (hN:a0.tmps.size=N) (hsh:shape ops n (fun i=>(sp i).deps)=true)
 (OC:∀i,i<n->∀v vs lo hi w w',hi<=w.heap.size->Below w.heap.size w w'->(sp i).post v vs lo hi w->(sp i).post v vs lo hi w')
 (hstep:∀i o (ρ:Nat->Value) w (ev:Operand->Value),i<n->ops[i]? =some o->Below w0.heap.size w0 w->(∀j∈(sp i).deps,∃lo hi,w0.heap.size<=lo/\lo<=hi/\hi<=w.heap.size/\(sp j).post (ρ j) ((sp j).deps.map ρ) lo hi w)->
   (∀j t,j<i->dst ops j=some t->t<N->ev (.tmp t)=ρ j)->(∀t,((List.range i).all fun j=>dst ops j != some t)=true->ev (.tmp t)=a0.eval (.tmp t))->(∀v,ev (.const v)=v)->(∀f,ev (.func f)= .func (.func f) #[] #[])->
   jS P o ev w fun v w'=>Below w.heap.size w w'/\(sp i).post v ((sp i).deps.map ρ) w.heap.size w'.heap.size w')
 (hend:∀(ρ:Nat->Value) (lo hi:Nat->Nat) w a,a=canon ops a0 ρ n->a.defers=a0.defers->(∀j t,j<n->dst ops j=some t->t<N->a.eval (.tmp t)=ρ j)->(∀t,((List.range n).all fun j=>dst ops j != some t)=true->a.eval (.tmp t)=a0.eval (.tmp t))->Below w0.heap.size w0 w->(∀i,i<n->w0.heap.size<=lo i/\lo i<=hi i/\hi i<=w.heap.size/\(sp i).post (ρ i) ((sp i).deps.map ρ) (lo i) (hi i) w)->(∀i j,i<n->j<n->i≠j->hi i<=lo j\/hi j<=lo i)->
   wpAny P .any ops Q (ops.size-n) (heads ops.size n) a w):
 wpAny P .any ops Q ops.size (Array.replicate ops.size false) a0 w0:=by
 have hs:=fun i (hi:i<ops.size)=>abH.1 hsh i (abq.2 hi)
 have hlt:∀{j t},dst ops j=some t->j<ops.size:=fun {j t} h=>by
  rcases abW j ops.size with h1|h1
  .exact h1
  .unfold dst at h;rw[Array.getElem?_eq_none h1] at h;cases h
 have hone:∀i j t,i≠j->dst ops j=some t->dst ops i≠some t:=fun i j t hij hj hi=>by
  have h1:=hs j (hlt hj);dsimp only at h1;cases ho:ops[j]? with
  |none=>rw[ho] at h1;cases h1
  |some o=>
   have hd:o.dst=some t:=by unfold dst at hj;rw[ho] at hj;exact hj
   rw[ho] at h1;simp only[abB] at h1;have h2:=h1.1;rw[hd] at h2;have h3:=abH.1 h2 i (abq.2 (hlt hi));simp only[ab6,beq_iff_eq,bne_iff_ne] at h3;rcases h3 with h3|h3
   .exact hij h3
   .exact h3 hi
 have hop:∀i,i<n->∃o,ops[i]? =some o/\o.guard=none/\(∀cs b,o.op≠.select cs b)/\
  (∀t,Operand.tmp t∈o.op.operands->∀j,j<ops.size->dst ops j=some t->j<i/\∃e∈o.after,Region.binds .any e=true/\e.on=j)/\
  (∀j∈(sp i).deps,j<i/\∃e∈o.after,Region.binds .any e=true/\e.on=j)/\(∀e∈o.after,Region.binds .any e=true->e.on<i):=fun i hi=>by
  have h1:=hs i (by omega);dsimp only at h1;cases ho:ops[i]? with
  |none=>rw[ho] at h1;cases h1
  |some o=>
   rw[ho] at h1;simp only[abB,if_pos hi] at h1;obtain⟨_,⟨⟨⟨g1,g2⟩,g4⟩,g5⟩,g6⟩:=h1;refine⟨o,rfl,by simpa using g1,(fun cs b hsel=>by rw[hsel] at g2;cases g2),fun t ht j hj hd=> ?_,fun j hj=> ?_,fun e he hb=> ?_⟩
   .have h2:=abH.1 g4 (.tmp t) (by simpa using ht)
    dsimp only at h2;have h3:=abH.1 h2 j (abq.2 hj);simp only[ab6,bne_iff_ne,abB,decide_eq_true_eq,acp,beq_iff_eq] at h3;rcases h3 with h3|⟨h3,e,he,h4⟩
    .exact absurd hd h3
    .exact⟨h3,e,by simpa using he,h4⟩
   .have h2:=abH.1 g5 j hj
    simp only[abB,decide_eq_true_eq,acp,beq_iff_eq] at h2;obtain⟨h3,e,he,h4⟩:=h2;exact⟨h3,e,by simpa using he,h4⟩
   .have h2:=adx.1 g6 e he
    rw[hb] at h2;simpa using h2
 have OS:∀i o,n<=i->ops[i]? =some o->∀j,j<n->∃e∈o.after,Region.binds .any e=true/\e.on=j:=fun i o hi ho j hj=>by
  have h1:=hs i (abX.1 ho).1;dsimp only at h1;rw[ho] at h1;simp only[abB,if_neg (Nat.not_lt.2 hi)] at h1;have h2:=abH.1 h1.2 j (abq.2 hj);simp only[abB,acp,beq_iff_eq] at h2;obtain⟨e,he,h4⟩:=h2;exact⟨e,by simpa using he,h4⟩
 have fin:∀(listed:Array Bool),listed.size=ops.size->Region.ready .any ops listed=[]->∀i,i<n->listed.getD i false=true:=by
  intro listed hl hr i
  induction i using Nat.strongRecOn with
  |_ i ih=>
   intro hi;by_cases hb:listed.getD i false=true
   .exact hb
   .exfalso
    have hi':i<listed.size:=by omega
    have h0:listed.getD i true=false:=by
     simp[hi'] at hb ⊢;exact hb
    obtain⟨o,ho,_,_,_,_,eT⟩:=hop i hi;have hm:i∈Region.ready .any ops listed:=by
     rw[mem_ready];refine⟨h0,o,ho,fun e he hbd=> ?_⟩;have:=eT e he hbd;exact ih e.on this (by omega)
    rw[hr] at hm;cases hm
 have key:∀(fuel:Nat) (listed:Array Bool) (ρ:Nat->Value) (lo hi:Nat->Nat) (w:World),listed.size=ops.size->listed.toList.count false=fuel->Below w0.heap.size w0 w->
  (∀i,n<=i->listed.getD i false=false)->
  (∀i,i<n->listed.getD i false=true->w0.heap.size<=lo i/\lo i<=hi i/\hi i<=w.heap.size/\(sp i).post (ρ i) ((sp i).deps.map ρ) (lo i) (hi i) w/\∀j∈(sp i).deps,listed.getD j false=true)->
  (∀i j,i<n->j<n->listed.getD i false=true->listed.getD j false=true->i≠j->hi i<=lo j\/hi j<=lo i)->
  wpAny P .any ops Q fuel listed (part ops a0 ρ (fun j=>listed.getD j false) n) w:=by
  have last:∀(listed:Array Bool) (ρ:Nat->Value) (lo hi:Nat->Nat) (w:World),listed.size=ops.size->Below w0.heap.size w0 w->
   (∀i,n<=i->listed.getD i false=false)->
   (∀i,i<n->listed.getD i false=true->w0.heap.size<=lo i/\lo i<=hi i/\hi i<=w.heap.size/\(sp i).post (ρ i) ((sp i).deps.map ρ) (lo i) (hi i) w/\∀j∈(sp i).deps,listed.getD j false=true)->
   (∀i j,i<n->j<n->listed.getD i false=true->listed.getD j false=true->i≠j->hi i<=lo j\/hi j<=lo i)->
   (∀i,i<n->listed.getD i false=true)->wpAny P .any ops Q (listed.toList.count false) listed (part ops a0 ρ (fun j=>listed.getD j false) n) w:=by
   intro listed ρ lo hi w hl hb hno hg hd hall;have e:∀k,k<=n->part ops a0 ρ (fun j=>listed.getD j false) k=canon ops a0 ρ k:=by
    intro k
    induction k with
    |zero=>exact fun _=>rfl
    |succ k ih=>
     intro hk;unfold part canon;rw[ih (by omega),hall k (by omega),if_pos rfl]
   have e2:listed=heads ops.size n:=by
    apply Array.ext
    .simp[heads,hl];omega
    .intro i h1 h2
     by_cases hi:i<n
     .have:=hall i hi
      simp[h1] at this;rw[this];simp[heads,hi]
     .have:=hno i (by omega)
      simp[h1] at this;rw[this];simp[heads,List.getElem_append,hi]
   have e3:(heads ops.size n).toList.count false=ops.size-n:=by simp[heads,List.count_append,List.count_replicate]
   rw[e _ (aaF _),e2,e3];exact hend ρ lo hi w _ rfl (vI n) (fun j t hj hd ht=>by
    rw[eV,pG hd (fun i hi=>hone i j t hi hd) rfl n hj,if_pos (by rw[hN];exact ht)]) (fun t ht=>by
    rw[eV,jy n fun j hj _=>by
     have:=abH.1 ht j (abq.2 hj);simpa using this]) hb (fun i hi=>by
    obtain⟨h1,h2,h3,h4,_⟩:=hg i hi (hall i hi);exact⟨h1,h2,h3,h4⟩) fun i j hi hj=>hd i j hi hj (hall i hi) (hall j hj)
  intro fuel
  induction fuel with
  |zero=>
   intro listed ρ lo hi w hl hc hb hno hg hd;have hall:∀i,i<n->listed.getD i false=true:=fun i hi=>by
    have hm:¬false∈listed.toList:=fun h=>by
     have:=adk.2 h;omega
    have hi':i<listed.size:=by omega
    by_cases lN:listed[i]=true
    .simp[hi',lN]
    .exfalso
     have e:listed[i]=false:=by simpa using lN
     exact hm (by rw[<-e];simp)
   have:=last listed ρ lo hi w hl hb hno hg hd hall;rw[hc] at this;exact this
  |succ fuel ih=>
   intro listed ρ lo hi w hl hc hb hno hg hd;by_cases hall:∀i,i<n->listed.getD i false=true
   .have:=last listed ρ lo hi w hl hb hno hg hd hall
    rw[hc] at this;exact this
   refine⟨fun hr=>absurd (fin listed hl hr) hall,fun i hi=> ?_⟩;have nS:=hi;rw[mem_ready] at hi;obtain⟨h0,o,ho,DZ⟩:=hi;have ae4:=(abX.1 ho).1;have hin:i<n:=by
    rcases abW i n with h|h
    .exact h
    .exact absurd (fun j hj=>by
      obtain⟨e,he,hbd,rfl⟩:=OS i o h ho j hj;exact DZ e he hbd) hall
   have hi':i<listed.size:=by omega
   obtain⟨o',ho',hgd,hsel,hread,LV,_⟩:=hop i hin;rw[ho] at ho';cases ho';have pS:listed.getD i false=false:=by
    simp[hi'] at h0 ⊢;exact h0
   have qI:∀j∈(sp i).deps,listed.getD j false=true:=fun j hj=>by
    obtain⟨_,e,he,hbd,rfl⟩:=LV j hj;exact DZ e he hbd
   have hev:execOp (part ops a0 ρ (fun j=>listed.getD j false) n).eval o=execOp (canon ops a0 ρ i).eval o:=by
    refine execOp_congr o hsel fun x hx=> ?_
    cases x with
    |tmp t=>
     refine AO (fun i j hij=>hone i j t hij) (by omega) fun j hj hd=> ?_
     obtain⟨h1,e,he,hbd,rfl⟩:=hread t hx j (by omega) hd;exact⟨h1,DZ e he hbd⟩
    |_=>rfl
   have LA:=hstep i o ρ w (canon ops a0 ρ i).eval hin ho hb (fun j hj=>by
    have hjl:=(LV j hj).1;obtain⟨h1,h2,h3,h4,_⟩:=hg j (by omega) (qI j hj);exact⟨lo j,hi j,h1,h2,h3,h4⟩) (fun j t hj hd ht=>by
    rw[eV,pG hd (fun i hi=>hone i j t hi hd) rfl i hj,if_pos (by rw[hN];exact ht)]) (fun t ht=>by
    rw[eV,jy i fun j hj _=>by
     have:=abH.1 ht j (abq.2 hj);simpa using this]) (fun v=>rfl) (fun f=>rfl)
   unfold wpOp;rw[ho];dsimp only;have hw:Region.wanted o (yielded ops (part ops a0 ρ (fun j=>listed.getD j false) n).tmps)=true:=by
    unfold Region.wanted;rw[hgd]
   rw[if_pos hw];refine .inl ?_;have OB:jS P o (part ops a0 ρ (fun j=>listed.getD j false) n).eval w fun v w'=>Below w.heap.size w w'/\(sp i).post v ((sp i).deps.map ρ) w.heap.size w'.heap.size w':=by
    unfold jS at LA ⊢;rw[hev];exact LA
   refine OB.wp fun v w' hv=> ?_
   obtain⟨dA,hpost⟩:=hv;have Vr:o.dst=dst ops i:=by unfold dst;rw[ho];rfl
   have kI:∀j,(listed.setIfInBounds i true).getD j false=if j=i then true else listed.getD j false:=fun j=>by
    by_cases e:j=i
    .subst e
     rw[if_pos rfl];simp[hi']
    .rw[if_neg e]
     exact getD_set_ne false (fun h=>e h.symm)
   rw[Vr,GD hone pS hin,AL (L':=fun j=>(listed.setIfInBounds i true).getD j false) (ρ':=upd ρ i v) (fun j=>(kI j).symm) (fun _ _=>rfl)];have hsz:=dA.size;have hb0:=hb.size;have UH:∀j,j≠i->listed.getD j false=true->(∀k∈(sp j).deps,listed.getD k false=true)->(sp j).deps.map (upd ρ i v)=(sp j).deps.map ρ:=fun j hj hjl hk=>by
    refine abS fun k hkm=> ?_
    unfold upd;rw[if_neg];intro e;subst e;rw[hk k hkm] at pS;cases pS
   have Jl:(sp i).deps.map (upd ρ i v)=(sp i).deps.map ρ:=abS fun k hkm=>by
    unfold upd;rw[if_neg];intro e;subst e;rw[qI k hkm] at pS;cases pS
   refine ih (listed.setIfInBounds i true) (upd ρ i v) (uZ lo i w.heap.size) (uZ hi i w'.heap.size) w' (by simpa using hl) ?_ (hb.trans (dA.mono hb0)) (fun j hj=>by rw[kI,if_neg (by omega)];exact hno j hj) ?_ ?_
   .rw[ad5]
    have hi2:i<listed.toList.length:=by simpa using hi'
    have e:listed.toList[i]=false:=by
     simp[hi'] at h0;simpa using h0
    have hpos:0<listed.toList.count false:=adk.2 (by rw[<-e];exact acP hi2);rw[List.count_set hi2,e,if_pos (by decide),if_neg (by decide)];omega
   .intro j hj hjl
    rw[kI] at hjl;by_cases e:j=i
    .subst e
     unfold uZ;rw[if_pos rfl,if_pos rfl];refine⟨hb0,hsz,aaF _,?_,fun k hk=>by rw[kI];split;rfl;exact qI k hk⟩;rw[Jl];unfold upd;rw[if_pos rfl];exact hpost
    .rw[if_neg e] at hjl
     obtain⟨h1,h2,h3,h4,h5⟩:=hg j hj hjl;unfold uZ;rw[if_neg e,if_neg e];refine⟨h1,h2,by omega,?_,fun k hk=>by rw[kI];split;rfl;exact h5 k hk⟩;rw[UH j e hjl h5];unfold upd;rw[if_neg e];exact OC j hj _ _ _ _ w w' h3 dA h4
   .intro j k hj hk hjl hkl hjk
    rw[kI] at hjl hkl;unfold uZ;by_cases e:j=i
    .subst e
     rw[if_neg (fun h=>hjk h.symm)] at hkl;rw[if_pos rfl,if_pos rfl,if_neg (fun h=>hjk h.symm),if_neg (fun h=>hjk h.symm)];exact .inr (hg k hk hkl).2.2.1
    .rw[if_neg e] at hjl
     by_cases e2:k=i
     .subst e2
      rw[if_neg e,if_neg e,if_pos rfl,if_pos rfl];exact .inl (hg j hj hjl).2.2.1
     .rw[if_neg e2] at hkl
      rw[if_neg e,if_neg e,if_neg e2,if_neg e2];exact hd j k hj hk hjl hkl hjk
 have hnone:∀j,(Array.replicate ops.size false).getD j false=false:=fun j=>by by_cases hk:j<ops.size<;>simp[hk]
 have h0:part ops a0 (fun _=>undef) (fun j=>(Array.replicate ops.size false).getD j false) n=a0:=by
  have:∀k,part ops a0 (fun _=>undef) (fun j=>(Array.replicate ops.size false).getD j false) k=a0:=by
   intro k
   induction k with
   |zero=>rfl
   |succ k ih=>
    unfold part;rw[ih,hnone k,if_neg (by decide)]
  exact this _
 have hk:=key ops.size (Array.replicate ops.size false) (fun _=>undef) (fun _=>0) (fun _=>0) w0 (by simp) (by simp) (aaG _ _) (fun i _=>hnone i) (fun i _ h=>by rw[hnone i] at h;cases h) (fun i _ _ _ h=>by rw[hnone i] at h;cases h);rw[h0] at hk;exact hk
end gJ
end
namespace Ro
def lo (es:List (Int×Int)) (v:Nat):Nat->Int
 |0=> -1
 |k+1=>if Cs.fr es k=v then (k:Int) else lo es v k
theorem Dj (es:List (Int×Int)) (v:Nat):∀k,(lo es v k= -1/\∀h,h<k->Cs.fr es h≠v)\/∃h:Nat,lo es v k=(h:Int)/\h<k/\Cs.fr es h=v/\∀j,h<j->j<k->Cs.fr es j≠v
 |0=> .inl ⟨rfl,fun h hh=>by omega⟩
 |k+1=>by
  unfold lo;by_cases hk:Cs.fr es k=v
  .rw[if_pos hk]
   exact .inr ⟨k,rfl,by omega,hk,fun j h1 h2=>by omega⟩
  .rw[if_neg hk]
   rcases Dj es v k with ⟨h1,h2⟩|⟨h,h1,h2,h3,h4⟩
   .refine .inl ⟨h1,fun h hh=> ?_⟩
    by_cases e:h=k
    .subst e;exact hk
    .exact h2 h (by omega)
   .refine .inr ⟨h,h1,by omega,h3,fun j hj1 hj2=> ?_⟩
    by_cases e:j=k
    .subst e;exact hk
    .exact h4 j hj1 (by omega)
structure Fi (n:Nat) (es:List (Int×Int)) (F An:List Int) (k:Nat):Prop where
 lf:F.length=n
 la:An.length=2*es.length
 first:∀v,v<n->F[v]? =some (lo es v k)
 another:∀h,h<k->An[h]? =some (lo es (Cs.fr es h) h)
theorem Fi.start (n:Nat) (es:List (Int×Int)):Fi n es (List.replicate n (-1)) (List.replicate (2*es.length) 0) 0:=
 ⟨by simp,by simp,fun v hv=>by rw[ach,if_pos hv];rfl,fun h hh=>by omega⟩
theorem Fi.step {n:Nat} {es:List (Int×Int)} (hv:Si.Val n es) {F An:List Int} {k:Nat} (h:Fi n es F An k) (hk:k<2*es.length):Fi n es (F.set (Cs.fr es k) (k:Int)) (An.set k (lo es (Cs.fr es k) k)) (k+1):=by
 have hf:=(Cs.eU hv hk).1;refine⟨by rw[acE];exact h.lf,by rw[acE];exact h.la,fun v Dt=> ?_,fun j hj=> ?_⟩
 .rw[aa8]
  unfold lo;by_cases e:Cs.fr es k=v
  .rw[if_pos e,if_pos (by rw[h.lf];exact hf),if_pos e]
  .rw[if_neg e,if_neg e]
   exact h.first v Dt
 .rw[aa8]
  by_cases e:k=j
  .subst e
   rw[if_pos rfl,if_pos (by rw[h.la];exact hk)]
  .rw[if_neg e]
   exact h.another j (by omega)
structure Ld (n:Nat) (es:List (Int×Int)) (v k:Nat) (D:List Int):Prop where
 len:D.length=n
 each:∀x,x<n->D[x]? =some (-1)\/∃h:Nat,D[x]? =some (h:Int)/\h<2*es.length/\Cs.fr es h<=v/\Cs.to es h=x
 told:∀h,k<=h->h<2*es.length->Cs.fr es h=v->D[Cs.to es h]? =some (h:Int)
theorem Ld.start (n:Nat) (es:List (Int×Int)):Ld n es 0 (2*es.length) (List.replicate n (-1)):=
 ⟨by simp,fun x hx=> .inl (by rw[ach,if_pos hx]),fun h h1 h2=>by omega⟩
theorem Ld.next {n:Nat} {es:List (Int×Int)} {v k:Nat} {D:List Int} (h:Ld n es v k D):Ld n es (v+1) (2*es.length) D:=
 ⟨h.len,fun x hx=>by
   rcases h.each x hx with h1|⟨j,h1,h2,h3,h4⟩
   .exact .inl h1
   .exact .inr ⟨j,h1,h2,by omega,h4⟩,fun h h1 h2=>by omega⟩
theorem Ld.put {n:Nat} {es:List (Int×Int)} (hv:Si.Val n es) {v k h:Nat} {D:List Int} (hd:Ld n es v k D) (hk:k<=2*es.length) (hh:h<k) (hf:Cs.fr es h=v) (hno:∀j,h<j->j<k->Cs.fr es j≠v):Ld n es v h (D.set (Cs.to es h) (h:Int)):=by
 have ht:=(Cs.eU hv (show h<2*es.length by omega)).2;refine⟨by rw[acE];exact hd.len,fun x hx=> ?_,fun j h1 h2 h3=> ?_⟩
 .rw[aa8]
  by_cases e:Cs.to es h=x
  .rw[if_pos e,if_pos (by rw[hd.len];exact ht)]
   exact .inr ⟨h,rfl,by omega,by omega,e⟩
  .rw[if_neg e]
   exact hd.each x hx
 .rw[aa8]
  by_cases e:h=j
  .subst e
   rw[if_pos rfl,if_pos (by rw[hd.len];exact ht)]
  .have hjk:k<=j:=by
    rcases abW j k with h4|h4
    .exact absurd h3 (hno j (by omega) h4)
    .exact h4
   have hne:Cs.to es h≠Cs.to es j:=fun e2=>e (G7 hv (by omega) h2 (by omega) e2)
   rw[if_neg hne];exact hd.told j hjk h2 h3
theorem Ld.done {n:Nat} {es:List (Int×Int)} {v k:Nat} {D:List Int} (hd:Ld n es v k D) (hno:∀h,h<k->Cs.fr es h≠v):Ld n es v 0 D:=
 ⟨hd.len,hd.each,fun h h1 h2 h3=>by
   rcases abW h k with h4|h4
   .exact absurd h3 (hno h h4)
   .exact hd.told h h4 h2 h3⟩
def toF (n:Nat) (D:List Int) (x:Int):Int:=if 0<=x/\x<n then D.getD x.toNat 0 else -1
theorem Ld.to {n:Nat} {es:List (Int×Int)} (hv:Si.Val n es) {v:Nat} {D:List Int} (hd:Ld n es v 0 D) (x:Int):
 (lv es (toF n D x) v=true/\toF n D x=hl es v x/\∃h:Nat,half es v x (2*es.length)=some h/\toF n D x=(h:Int))\/(lv es (toF n D x) v=false/\lv es (hl es v x) v=false):=by
 cases e:half es v x (2*es.length) with
 |some h=>
  left;obtain⟨h1,h2,h3⟩:=kM e;have ht:=(Cs.eU hv h1).2;have hD:=hd.told h (aaR _) h1 h2;have hx:toF n D x=(h:Int):=by
   unfold toF;rw[if_pos (by omega),show x.toNat=Cs.to es h by omega,aaL,hD];rfl
  obtain⟨e1,e2,-⟩:=DI e;rw[hx];exact⟨e2,e1.symm,h,rfl,rfl⟩
 |none=>
  right;obtain⟨e1,e2⟩:=Jf e;refine⟨?_,by rw[e1];exact e2⟩;unfold toF;by_cases hx:0<=x/\x<n
  .rw[if_pos hx]
   obtain⟨y,rfl⟩:∃y:Nat,x=(y:Int):=⟨x.toNat,by omega⟩;rw[abu,aaL];rcases hd.each y (by omega) with h1|⟨h,h1,h2,-,h5⟩
   .rw[h1]
    exact e2
   .rw[h1]
    show lv es (h:Int) v=false;cases hlv:lv es (h:Int) v with
    |false=>rfl
    |true=>
     obtain⟨j,hj,hj2,hj3⟩:=uf hlv;have ej:j=h:=by omega
     subst ej;exact absurd ⟨hj3,by rw[h5]⟩ (wq e j hj2)
  .rw[if_neg hx]
   exact e2
end Ro
section
open Go.Proofs.Tryz
open Go.RowKit
theorem V2 (n:Nat) (hn:n<4294967296):bits .and .u64 (n:Int) 4294967295=(n:Int):=by
 have h1:(BitVec.ofInt 64 (n:Int)).toNat=n:=by
  rw[BitVec.ofInt_natCast,BitVec.toNat_ofNat];exact abE (by omega)
 have h2:(BitVec.ofInt 64 (4294967295:Int)).toNat=4294967295:=by decide
 show IntKind.u64.wrap ((BitVec.ofInt 64 (n:Int) &&& BitVec.ofInt 64 (4294967295:Int)).toNat:Int)=_;rw[BitVec.toNat_and,h1,h2];have h3:n &&& 4294967295=n:=by
  have:=Nat.and_two_pow_sub_one_eq_mod n 32;rw[show(2 ^ 32-1:Nat)=4294967295 by decide] at this;rw[this];exact abE (by omega)
 rw[h3,aeA];omega
theorem Og (n:Nat) (w:World) (hn:n<=1048576):
 Calls prog 246 #[.int .u64 1,.int .u64 (n:Int)] w fun e w'=>e= .returned (.tuple #[.int .u64 0,.int .u64 (n:Int)])/\w'=w:=by
 have h1:=V2 n (by omega);have h2:bits .and .u64 (1:Int) 4294967295=1:=by decide
 have h3:bits .and .u64 (0:Int) 4294967295=0:=by decide
 have h4:IntKind.u64.wrap (n:Int)=(n:Int):=by rw[aeA];omega
 go_enter func246,ntmps246;have h5:(n:Int)/4294967296=0:=by omega
 go_wp2;go_ret2;exact⟨rfl,rfl⟩
theorem Um (n:Nat) (w:World) (hn:n<=1048576):
 Calls prog 189 #[.int .u64 1,.int .u64 (n:Int)] w fun e w'=>e= .returned (.tuple #[.int .u64 0,.int .u64 (n:Int)])/\w'=w:=by
 have HM:=ζ (Og n w hn);go_enter func189,ntmps189;go_wp2_with (go_at_call 246;refine HM.out.mono ?_;rintro e w' ⟨rfl,rfl⟩);go_ret2;exact⟨rfl,rfl⟩
namespace Ro
def rep (z:Int) (n k:Nat):List Int:=List.replicate k z++List.replicate (n-k) 0
theorem XG {z:Int} {n k j:Nat} (hj:j<k):(rep z n k)[j]? =some z:=by
 unfold rep;rw[aa5 (by simpa using hj),ach,if_pos hj]
theorem Ks (z:Int) {n k c:Nat} (h:k+c<=n):splice ((rep z n k).map (Value.int .i64)) k (List.replicate c (Value.int .i64 z))=(rep z n (k+c)).map (Value.int .i64):=by
 unfold splice rep;simp only[abt,adY,aco];rw[List.take_append_of_le_length (by simp),abn (by simp),List.drop_append,ab2 (by simp),abl,aco,List.drop_replicate,<-abb,List.replicate_append_replicate]
 congr 2
 omega
end Ro
def EH (z:Int) (n:Nat) (w:World) (e:Ending) (w':World):Prop:=∃g,e= .returned (.slice (some ⟨g,0,none⟩) n n)/\w.heap.size<=g/\aq w' g (List.replicate n z)/\Below w.heap.size w w'
theorem Gp:(prog.info? 3).map (·.size)=some 1:=by kernel_rfl
theorem vk (W:World) (g n k c:Nat) (z:Int) (dp sp:Option Addr) (dLen dCap sLen sCap:Nat) (hI:aq W g (Ro.rep z n k)) (hk:k+c<=n) (hc:c=Nat.min sLen dLen) (hd:0<c->dp=some ⟨g,k,none⟩) (hs:0<c->∃ad,sp=some ad/\∀j,j<c->W.cell? (ad.add j)=some (.int .i64 z)) (ty:TypeId):
 ∃w',(Builtin.copy_ #[55,55] ty #[.slice dp dLen dCap,.slice sp sLen sCap]).run prog W= .ok (goInt c) w'/\aq w' g (Ro.rep z n (k+c))/\∀B,B<=g->Below B W w':=by
 by_cases h0:c=0
 .subst h0
  exact⟨W,run_copy_none (P:=prog) W 55 55 ty 3 dp sp dLen dCap sLen sCap Tryz.underlying55 Gp hc.symm,hI,fun B _=>aaG _ _⟩
 .obtain rfl:=hd (by omega)
  obtain⟨ad,rfl,hcell⟩:=hs (by omega)
  have hrun:=run_copy_row (P:=prog) W 55 55 ty 3 g k dLen dCap ad sLen sCap ((Ro.rep z n k).map (Value.int .i64)).toArray 3 (List.replicate c (Value.int .i64 z)) Tryz.underlying55 Gp hI (by rw[aco];exact hc)
   (fun j v hj=>by
     rw[ach] at hj
     split at hj
     .cases hj
      exact hcell j (by assumption)
     .cases hj) (by simp[Ro.rep];omega) (fun v hv=>by rw[acF hv];rfl)
  rw[aco] at hrun;refine⟨_,hrun,?_,fun B hB=>⟨rfl,rfl,rfl,by simp[World.setRow],fun q hq=>setRow_other W g q _ (by omega)⟩⟩;unfold aq;rw[setRow_heap W g _ _ 3 _ hI,<-Ro.Ks z hk];unfold splice;rw[aco,abb]
theorem Kr (z:Int) (b n:Nat) (w:World) (hc:w.cell? ⟨b,0,none⟩=some (.int .i64 z)) (hn:n<=1048576):
 Calls prog 128 #[.slice (some ⟨b,0,none⟩) 1 1,.int .i64 (n:Int)] w (EH z n w):=by
 obtain⟨i0,hi,hz0,hz1,hz2⟩:=info_parts Tryz.cL;have h4:IntKind.u64.wrap (n:Int)=(n:Int):=by rw[aeA];omega
 have h5:IntKind.i64.wrap (n:Int)=(n:Int):=by rw[aaK];omega
 have h6:¬(9223372036854775807:Int)<(n:Int):=by omega
 have hn0:¬(n:Int)<0:=by omega
 have HM:=ζ (Um n w hn);have HC:=ζ hc;clear hc;go_enter func128,ntmps128
 go_wp2_with (first
  |(go_at_call 189;refine HM.out.mono ?_;rintro e w' ⟨rfl,hw⟩;obtain rfl:=hw.symm)
  |(at_make;refine wpList_make_full _ rfl _ _ 55 rfl w.heap.size 3 i0 (.int .i64 0) 1 Tryz.underlying55 hi hz0 hz1 _ _ _ _ n rfl rfl rfl rfl (by rw[hz2];omega) (by unfold maxLen;omega) (aaF _) ?_;refine aaI ?_))
 refine ζ ?_;intro w2 hrow hg2;rw[dx] at hrow;have hb2:Below w.heap.size w w2:=(aaG _ _).grown hg2 (aaF _) (fun j hj=>by cases hj);have hI:aq w2 w.heap.size (Ro.rep z n 0):=by
  unfold Ro.rep;simpa using eR hrow
 have hc2:=(hb2.cell (p:=⟨b,0,none⟩) (block_lt_of_cell HC.out)).trans HC.out;have hmin:Nat.min 1 n<=n:=Nat.min_le_right _ _;obtain⟨c,hcm⟩:∃c,c=Nat.min 1 n:=⟨_,rfl⟩;rw[<-hcm] at hmin;have hc1:c<=1:=by rw[hcm];exact Nat.min_le_left _ _
 have hc3:n≠0->0<c:=fun h=>by
  rw[hcm];show 0<min 1 n;omega
 obtain⟨w3,hrun,hI3,hb3⟩:=vk w2 w.heap.size n 0 c z (some ⟨w.heap.size,0,none⟩) (some ⟨b,0,none⟩) n n 1 1 hI (by omega) hcm (fun _=>rfl) (fun _=>⟨_,rfl,fun j hj=>by
  obtain rfl:j=0:=by omega
  exact hc2⟩) 3
 rw[abK] at hI3;have jW:=ζ hI3;have aK:=ζ (hb2.trans (hb3 _ (aaF _)));have Gb:=ζ hc3;clear hrow hg2 hb2 hI hc2 hcm hI3 hb3 hc3;go_wp2;go_loopw [8] (fun x wr=>∃k:Nat,k<=n/\(n≠0->0<k)/\x= .int .i64 (k:Int)/\aq wr w.heap.size (Ro.rep z n k)/\Below w.heap.size w wr) (fun x _=>n-(intOf x).toNat)
 case atStart=>exact⟨c,hmin,Gb.out,rfl,jW.out,aK.out⟩
 case round=>
  clear hrun jW aK Gb;obtain⟨k,hk,hk0,rfl,hik,hb⟩:=hrel;have HI:=ζ hik;have HB:=ζ hb;clear hik hb;by_cases hlt:k<n
  .have aP:(k:Int)<(n:Int):=by omega
   have hkp:0<k:=hk0 (by omega);obtain⟨c',hc'⟩:∃c',c'=Nat.min k (n-k):=⟨_,rfl⟩;have akt:c'<=k:=by rw[hc'];exact Nat.min_le_left _ _
   have ZN:k+c'<=n:=by
    have:c'<=n-k:=by rw[hc'];exact Nat.min_le_right _ _
    omega
   have aks:0<c':=by
    rw[hc'];show 0<min k (n-k);omega
   obtain⟨w4,hrun,hI4,hb4⟩:=vk wr.drew w.heap.size n k c' z (some ⟨w.heap.size,k,none⟩) (some ⟨w.heap.size,0,none⟩) (n-k) (n-k) k n HI.out ZN hc' (fun _=>rfl) (fun _=>⟨_,rfl,fun j hj=>by
    have ea:((⟨w.heap.size,0,none⟩:Addr).add j)=⟨w.heap.size,j,none⟩:=by
     by_cases h0:j=0<;>simp[Addr.add,h0]
    rw[ea];exact HI.out.cell (Ro.XG (by omega))⟩) 3
   have PR:=ζ hI4;have cZ:=ζ (HB.out.trans (((aaG _ _).drew).trans (hb4 _ (aaF _))));clear hI4 hb4 hc';go_wp2_with fail
   go_region
   clear hrun;go_wp2;go_roundw
   case rel=>exact⟨k+c',ZN,fun _=>by omega,by simp,PR.out,cZ.out⟩
   case measure=>simp[intOf];omega
  .have aP:¬(k:Int)<(n:Int):=by omega
   obtain rfl:k=n:=by omega
   go_wp2;go_ret;refine⟨_,rfl,aaF _,?_,HB.out⟩;have h1:=HI.out;unfold Ro.rep at h1;simpa using h1
end
section
open Go.Proofs.Tryz
open Go.RowKit Go.Sort
structure gH (w:World) (B p gf ga gl n:Nat) (ao:Option Addr) (ca:Nat) (es:List (Int×Int)) (F An D:List Int):Prop where
 blk:w.heap[p]? =some (.cells #[.int .i64 (n:Int),.slice ao es.length ca,.slice (some ⟨gf,0,none⟩) n n,.slice (some ⟨ga,0,none⟩) (2*es.length) (2*es.length),.slice (some ⟨gl,0,none⟩) n n] 353 (0,0))
 first:aq w gf F
 another:aq w ga An
 leading:aq w gl D
 lo:B<=p/\B<=gf/\B<=ga/\B<=gl
 ne:p≠gf/\p≠ga/\p≠gl/\gf≠ga/\gf≠gl/\ga≠gl
section
variable {w w':World} {B p gf ga gl n:Nat} {ao:Option Addr} {ca:Nat} {es:List (Int×Int)} {F An D:List Int}
theorem gH.later (h:gH w B p gf ga gl n ao ca es F An D) (hb:Below w.heap.size w w'):gH w' B p gf ga gl n ao ca es F An D:=
 ⟨(hb.block p (lt_of_block h.blk)).trans h.blk,h.first.later hb,h.another.later hb,h.leading.later hb,h.lo,h.ne⟩
theorem gH.keep (h:gH w B p gf ga gl n ao ca es F An D) (hb:∀b,b=p\/b=gf\/b=ga\/b=gl->w'.heap[b]? =w.heap[b]?):gH w' B p gf ga gl n ao ca es F An D:=
 ⟨(hb p (.inl rfl)).trans h.blk,(hb gf (.inr (.inl rfl))).trans h.first,(hb ga (.inr (.inr (.inl rfl)))).trans h.another,(hb gl (.inr (.inr (.inr rfl)))).trans h.leading,h.lo,h.ne⟩
theorem gH.adU (h:gH w B p gf ga gl n ao ca es F An D) (j:Nat) (x:Int):gH (w.setCell ⟨gf,j,none⟩ (.int .i64 x)) B p gf ga gl n ao ca es (F.set j x) An D:=
 ⟨(fJ h.ne.1 _).trans h.blk,h.first.set j x,h.another.mX (acn h.ne.2.2.2.1) _,h.leading.mX (acn h.ne.2.2.2.2.1) _,h.lo,h.ne⟩
theorem gH.adV (h:gH w B p gf ga gl n ao ca es F An D) (j:Nat) (x:Int):gH (w.setCell ⟨ga,j,none⟩ (.int .i64 x)) B p gf ga gl n ao ca es F (An.set j x) D:=
 ⟨(fJ h.ne.2.1 _).trans h.blk,h.first.mX h.ne.2.2.2.1 _,h.another.set j x,h.leading.mX (acn h.ne.2.2.2.2.2) _,h.lo,h.ne⟩
theorem gH.adT (h:gH w B p gf ga gl n ao ca es F An D) (j:Nat) (x:Int):gH (w.setCell ⟨gl,j,none⟩ (.int .i64 x)) B p gf ga gl n ao ca es F An (D.set j x):=
 ⟨(fJ h.ne.2.2.1 _).trans h.blk,h.first.mX h.ne.2.2.2.2.1 _,h.another.mX h.ne.2.2.2.2.2 _,h.leading.set j x,h.lo,h.ne⟩
theorem gY {R:Nat} {t:TypeId} {a b c d e:Value} (h:w.heap[R]? =some (.cells #[a,b,c,d,e] t (0,0))):w.cell? ⟨R,0,none⟩=some a/\w.cell? ⟨R,1,none⟩=some b/\w.cell? ⟨R,2,none⟩=some c/\w.cell? ⟨R,3,none⟩=some d/\w.cell? ⟨R,4,none⟩=some e:=by
 refine⟨?_,?_,?_,?_,?_⟩<;>simp[World.cell?,h]
end
theorem VP (B p gf ga gl n:Nat) (ao:Option Addr) (ca:Nat) (es:List (Int×Int)) (F An D:List Int) (x:Int) (w:World) (hf:gH w B p gf ga gl n ao ca es F An D) (hD:D.length=n):
 Calls prog 204 #[.pointer (some ⟨p,0,none⟩),.int .i64 x] w fun e w'=>e= .returned (.int .i64 (Ro.toF n D x))/\w'=w:=by
 obtain⟨c0,c1,c2,c3,c4⟩:=gY hf.blk;have HF:=ζ hf;have HD:=ζ hD;clear hf hD;by_cases h0:0<=x
 .by_cases h1:x<(n:Int)
  .obtain⟨y,rfl⟩:∃y:Nat,x=(y:Int):=⟨x.toNat,by omega⟩
   obtain⟨z,hz⟩:∃z,D[y]? =some z:=⟨_,aaE (by have:=HD.out;omega)⟩;have cz:=HF.out.leading.cell hz;have he:Ro.toF n D (y:Int)=z:=by
    unfold Ro.toF;rw[if_pos ⟨h0,h1⟩,abu,aaL,hz];rfl
   rw[he];have j1:¬(y:Int)<0:=by omega
   have j2:¬(n:Int)<=(y:Int):=by omega
   clear he hz;go_enter func204,ntmps204;go_wp2;go_ret;exact⟨rfl,rfl⟩
  .have he:Ro.toF n D x= -1:=by
    unfold Ro.toF;rw[if_neg (by omega)]
   rw[he];have j1:¬x<0:=by omega
   have j2:(n:Int)<=x:=by omega
   clear he;go_enter func204,ntmps204;go_wp2;go_ret;exact⟨rfl,rfl⟩
 .have he:Ro.toF n D x= -1:=by
   unfold Ro.toF;rw[if_neg (by omega)]
  rw[he];have j1:x<0:=by omega
  clear he;go_enter func204,ntmps204;go_wp2;go_ret;exact⟨rfl,rfl⟩
structure FS (V w0:World) (p gl n:Nat) (ao:Option Addr) (m ca:Nat):Prop where
 n0:V.cell? ⟨p,0,none⟩=some (.int .i64 (n:Int))
 e0:V.cell? ⟨p,1,none⟩=some (.slice ao m ca)
 l0:V.cell? ⟨p,4,none⟩=some (.slice (some ⟨gl,0,none⟩) n n)
 far:p≠gl/\w0.heap.size<=gl
 low:Below w0.heap.size w0 V
theorem FS.later {V V' w0:World} {p gl n m ca:Nat} {ao:Option Addr} (h:FS V w0 p gl n ao m ca) (hb:Below V.heap.size V V'):FS V' w0 p gl n ao m ca:=
 ⟨(hb.cell (p:=⟨p,0,none⟩) (block_lt_of_cell h.n0)).trans h.n0,(hb.cell (p:=⟨p,1,none⟩) (block_lt_of_cell h.e0)).trans h.e0,(hb.cell (p:=⟨p,4,none⟩) (block_lt_of_cell h.l0)).trans h.l0,h.far,h.low.trans (hb.mono h.low.size)⟩
theorem FS.store {V w0:World} {p gl n m ca:Nat} {ao:Option Addr} (h:FS V w0 p gl n ao m ca) (i:Nat) (x:Value):FS (V.setCell ⟨gl,i,none⟩ x) w0 p gl n ao m ca:=by
 have h1:=h.far.1;exact⟨(adh _ _ _ _ (fun e=>by simp only[adw] at e;omega)).trans h.n0,(adh _ _ _ _ (fun e=>by simp only[adw] at e;omega)).trans h.e0,(adh _ _ _ _ (fun e=>by simp only[adw] at e;omega)).trans h.l0,h.far,h.low.trans (ep (g:=gl) _ h.far.2)⟩
theorem Ee {V V':World} {g i:Nat} (hb:Below V.heap.size V V') (hg:g<V.heap.size):V'.frozen? ⟨g,i,none⟩=V.frozen? ⟨g,i,none⟩:=by
 unfold World.frozen?;rw[hb.block g hg]
def Xt (B p gf ga gl n:Nat) (ao:Option Addr) (ca:Nat) (es:List (Int×Int)) (F An:List Int) (v:Nat) (w:World) (e:Ending) (w':World):Prop:=
 e= .returned (.tuple #[])/\av (fun b=>b=gl) w w'/\∃D,gH w' B p gf ga gl n ao ca es F An D/\Ro.Ld n es v 0 D
theorem VU (B p gf ga gl n:Nat) (ao:Option Addr) (ca:Nat) (es:List (Int×Int)) (F An D:List Int) (v:Nat) (w0 w:World) (hf:gH w B p gf ga gl n ao ca es F An D) (oN:Ro.Fi n es F An (2*es.length)) (FD:Ro.Ld n es v (2*es.length) D) (he:ah w0 ao es) (hB:B=w0.heap.size) (hb0:Below B w0 w) (hv:Si.Val n es) (Dt:v<n):
 Calls prog 203 #[.pointer (some ⟨p,0,none⟩),.int .i64 (v:Int)] w (Xt B p gf ga gl n ao ca es F An v w):=by
 obtain⟨c0,c1,c2,c3,c4⟩:=gY hf.blk;have cf:=hf.first.cell (oN.first v Dt)
 have aeg:(v:Int)<(n:Int):=by omega
 have bV:=hv.few;have hBl:=hf.lo.2.2.2;have HF:=ζ hf;have wS:=ζ oN;have F7:=ζ FD;have HE:=ζ he;have aI:=ζ hb0;have b9:=ζ hB;have HV:=ζ hv;obtain⟨L0,hL0⟩:∃L0,L0=Ro.lo es v (2*es.length):=⟨_,rfl⟩;rw[<-hL0] at cf;have tK:=ζ hL0;clear hf oN FD he hb0 hB hv hL0;go_enter func203,ntmps203;go_wp2;clear c0 c1 c2 c3 c4 cf;go_loopw [4] (fun c wr=>∃(k:Nat) (D:List Int),k<=2*es.length/\c= .int .i64 (Ro.lo es v k)/\Ro.Ld n es v k D/\gH wr B p gf ga gl n ao ca es F An D/\av (fun b=>b=gl) w wr) (fun c _=>(intOf c+1).toNat)
 case atStart=>exact⟨2*es.length,D,aaF _,by rw[tK.out],F7.out,HF.out,av.refl _ _⟩
 case round=>
  clear HF F7;obtain⟨k,D,hk,rfl,FD,hf,hb⟩:=hrel;have F7:=ζ FD;have HF:=ζ hf;have HB:=ζ hb;obtain⟨c0,c1,c2,c3,c4⟩:=gY hf.blk;clear FD hf hb;rcases Ro.Dj es v k with ⟨h1,h2⟩|⟨h,h1,h2,h3,h4⟩
  .rw[h1]
   have HD:=ζ (F7.out.done h2);clear h1 h2;go_wp2
   go_end0
   exact⟨rfl,HB.out,D,HF.out,HD.out⟩
  .rw[h1]
   have hh:h<2*es.length:=by omega
   have t1:((h:Int) != -1)=true:=by first|(simp;done)|(simp;omega)
   have nN:=ζ (fun V (hV:Below w0.heap.size w0 V)=>xR n ao ca es h V (HE.out.later hV) HV.out hh);have htn:=(Cs.eU HV.out hh).2;have HP:=ζ (F7.out.put HV.out hk h2 h3 h4);have H3:=ζ h3;obtain⟨y,hy⟩:∃y,D[Cs.to es h]? =some y:=⟨_,aaE (by rw[F7.out.len];exact htn)⟩;have HY:=ζ (HF.out.leading.cell hy);have hBw:=aI.out.trans (HB.out.below (by rw[b9.out];exact aI.out.size) (fun q hq=>by rw[hq];exact hBl));rw[b9.out] at hBw;have cN:=ζ hBw;obtain⟨t,ht⟩:∃t,t=Cs.to es h:=⟨_,rfl⟩;rw[<-ht] at nN htn HP HY;have ajS:(t:Int)<(n:Int):=by omega
   have Jg:(h:Int)<2*(es.length:Int):=by omega
   have HAS:Hid (FS wr.drew w0 p gl n ao es.length ca):=FS.later (V:=wr) ⟨c0,c1,c4,⟨HF.out.ne.2.2.1,by rw[<-b9.out];exact hBl⟩,cN.out⟩ (aaG _ _).drew;have HS:Hid (∀V,FS V w0 p gl n ao es.length ca->V.cell? ⟨p,0,none⟩=some (.int .i64 (n:Int))/\V.cell? ⟨p,1,none⟩=some (.slice ao es.length ca)/\V.cell? ⟨p,4,none⟩=some (.slice (some ⟨gl,0,none⟩) n n)/\FS V w0 p gl n ao es.length ca):=fun V hV=>⟨hV.n0,hV.e0,hV.l0,hV⟩
   have Ai:=ζ (HF.out.leading.free t);clear h1 h3 h4 hy hBw ht c0 c1 c2 c3 c4;go_wp2_with fail
   go_region_held3 (fun V=>V.cell? ⟨p,0,none⟩=some (.int .i64 (n:Int))/\V.cell? ⟨p,1,none⟩=some (.slice ao es.length ca)/\V.cell? ⟨p,4,none⟩=some (.slice (some ⟨gl,0,none⟩) n n)/\FS V w0 p gl n ao es.length ca)
    (first|exact HS.out _ (by first|assumption|exact HAS.out)|exact HS.out _ (FS.store (by first|assumption|exact HAS.out) _ _))
    ((go_at_call 87;refine(nN.out _ HAS.out.low).mono ?_;rintro e V1 ⟨rfl,hb1⟩;have afq:=HAS.out.later hb1;have hy1:=(hb1.cell (p:=⟨gl,t,none⟩) (block_lt_of_cell HY.out)).trans HY.out;have Vp:V1.frozen? ⟨gl,t,none⟩=false:=(Ee hb1 (block_lt_of_cell HY.out)).trans Ai.out))
   have DT:Below wr.heap.size wr V1:=((aaG wr.heap.size wr).drew).trans hb1;have hF2:=(HF.out.later DT).adT t (h:Int);obtain⟨c0,c1,c2,c3,c4⟩:=gY hF2.blk;have can:=hF2.another.cell (wS.out.another h hh);have EZ:=ζ hF2;have aA:=ζ ((HB.out.later DT).setCell (b:=gl) (i:=t) rfl (.int .i64 (h:Int)));rw[H3.out] at can;clear DT hb1 afq hy1 Vp hF2;go_wp2;go_roundw
   case rel=>exact⟨h,D.set t (h:Int),by omega,rfl,HP.out,EZ.out,aA.out⟩
   case measure=>
    simp[intOf];rcases Ro.Dj es v h with ⟨q1,-⟩|⟨q,q1,q2,-⟩<;>rw[q1]<;>omega
end
end Go.Proofs.YtdbjpbjocmcpkaaGreatDoor
