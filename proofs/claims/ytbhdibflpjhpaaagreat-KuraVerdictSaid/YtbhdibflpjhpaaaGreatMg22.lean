import Derived.Test.YtbhdibflpjhpaaaGreatMg21
import Derived.Shelf.Abstract
namespace Go.Proofs.YtbhdibflpjhpaaaGreat
section
open Go.RowKit
structure pQ (w:World) (B:Nat) (v1 v2 v3 v4:Value) (s:Df.St):Prop where
 o1:aH w B v1 s.par
 o2:aH w B v2 s.ay
 o3:aH w B v3 s.ord
 o4:aH w B v4 s.aT
 n12:∀b,v1.ownBlock=some b->v2.ownBlock≠some b
 n13:∀b,v1.ownBlock=some b->v3.ownBlock≠some b
 n14:∀b,v1.ownBlock=some b->v4.ownBlock≠some b
 n23:∀b,v2.ownBlock=some b->v3.ownBlock≠some b
 n24:∀b,v2.ownBlock=some b->v4.ownBlock≠some b
 n34:∀b,v3.ownBlock=some b->v4.ownBlock≠some b
section
variable {w w':World} {B:Nat} {v1 v2 v3 v4:Value} {s:Df.St}
theorem pQ.same (h:pQ w B v1 v2 v3 v4 s) (hb:∀g,B<=g->g<w.heap.size->w'.heap[g]? =w.heap[g]?):pQ w' B v1 v2 v3 v4 s:=
 ⟨h.o1.same fun g hg hl=>hb g (h.o1.lt hg).1 hl,h.o2.same fun g hg hl=>hb g (h.o2.lt hg).1 hl,h.o3.same fun g hg hl=>hb g (h.o3.lt hg).1 hl,h.o4.same fun g hg hl=>hb g (h.o4.lt hg).1 hl,h.n12,h.n13,h.n14,h.n23,h.n24,h.n34⟩
theorem pQ.lower {B':Nat} (h:pQ w B v1 v2 v3 v4 s) (hB:B'<=B):pQ w B' v1 v2 v3 v4 s:=⟨h.o1.lower hB,h.o2.lower hB,h.o3.lower hB,h.o4.lower hB,h.n12,h.n13,h.n14,h.n23,h.n24,h.n34⟩
theorem pQ.empty (w:World) (B:Nat):pQ w B (.slice none 0 0) (.slice none 0 0) (.slice none 0 0) (.slice none 0 0) ⟨[],[],[],[]⟩:=
 ⟨.nil _ _,.nil _ _,.nil _ _,.nil _ _,(fun _ h=>by cases h),(fun _ h=>by cases h),(fun _ h=>by cases h),(fun _ h=>by cases h),(fun _ h=>by cases h),(fun _ h=>by cases h)⟩
end
theorem bK.val {w:World} {v:Value} {n:Nat} {es:List (Int×Int)} (h:bK w v n es) {i:Nat} (hi:i<2*es.length):Si.Val n es:=by
 rcases h with ⟨_,_,rfl⟩|⟨_,_,_,h,_⟩
 .simp at hi
 .exact h
end
section
open Go.RowKit
namespace aq
def dst (ops:Array Oper) (i:Nat):Option Tmp:=(ops[i]?).bind (·.dst)
structure Jn where
 deps:List Nat
 post:Value->List Value->Nat->Nat->World->Prop
def upd (ρ:Nat->Value) (i:Nat) (v:Value):Nat->Value:=fun j=>if j=i then v else ρ j
def wj (f:Nat->Nat) (i x:Nat):Nat->Nat:=fun j=>if j=i then x else f j
def part (ops:Array Oper) (a0:Act) (ρ:Nat->Value) (L:Nat->Bool):Nat->Act
 |0=>a0
 |i+1=>if L i then (part ops a0 ρ L i).put (dst ops i) (ρ i) else part ops a0 ρ L i
def canon (ops:Array Oper) (a0:Act) (ρ:Nat->Value):Nat->Act
 |0=>a0
 |i+1=>(canon ops a0 ρ i).put (dst ops i) (ρ i)
section
variable {ops:Array Oper} {a0:Act} {ρ:Nat->Value} {L:Nat->Bool}
theorem dF (k:Nat):canon ops a0 ρ k=part ops a0 ρ (fun _=>true) k:=by
 induction k with
 |zero=>rfl
 |succ k ih=>simp[canon,part,ih]
theorem mz (k:Nat):(canon ops a0 ρ k).defers=a0.defers:=by
 induction k with
 |zero=>rfl
 |succ k ih=>
  unfold canon;cases dst ops k with
  |none=>exact ih
  |some d=>exact ih
theorem RL (a:Act) (d:Option Tmp) (v:Value):(a.put d v).tmps.size=a.tmps.size:=by
 cases d<;>simp[Act.put]
theorem Nl (k:Nat):(part ops a0 ρ L k).tmps.size=a0.tmps.size:=by
 induction k with
 |zero=>rfl
 |succ k ih=>
  unfold part
  split
  .rw[RL,ih]
  .exact ih
theorem Ep (a:Act) (t:Tmp) (v:Value):(a.put (some t) v).eval (.tmp t)=if t<a.tmps.size then v else undef:=by
 unfold Act.put Act.eval;dsimp only;by_cases h:t<a.tmps.size
 .rw[if_pos h]
  simp[h]
 .rw[if_neg h]
  simp;exact fun h'=>absurd h' h
theorem uk (a:Act) (t:Tmp) (d:Option Tmp) (v:Value) (h:d≠some t):(a.put d v).eval (.tmp t)=a.eval (.tmp t):=
 Act.eval_put fun d' hd hx=>by cases hx;exact h hd
theorem gN {t:Tmp} (k:Nat) (h:∀j,j<k->L j=true->dst ops j≠some t):(part ops a0 ρ L k).eval (.tmp t)=a0.eval (.tmp t):=by
 induction k with
 |zero=>rfl
 |succ k ih=>
  have ih':=ih fun j hj=>h j (by omega)
  unfold part
  split
  .rename_i hL
   rw[uk _ _ _ _ (h k (by omega) hL),ih']
  .exact ih'
theorem mF {t:Tmp} {j:Nat} (hd:dst ops j=some t) (hone:∀i,i≠j->dst ops i≠some t) (hL:L j=true) (k:Nat) (hj:j<k):(part ops a0 ρ L k).eval (.tmp t)=if t<a0.tmps.size then ρ j else undef:=by
 induction k with
 |zero=>omega
 |succ k ih=>
  unfold part;by_cases e:j=k
  .subst e
   rw[if_pos hL,hd,Ep,Nl]
  .have ih':=ih (by omega)
   split
   .rw[uk _ _ _ _ (hone k (fun h=>e h.symm)),ih']
   .exact ih'
theorem pJ {i n:Nat} {t:Tmp} (hone:∀i j,i≠j->dst ops j=some t->dst ops i≠some t) (hin:i<=n) (h:∀j,j<n->dst ops j=some t->j<i/\L j=true):(part ops a0 ρ L n).eval (.tmp t)=(canon ops a0 ρ i).eval (.tmp t):=by
 rw[dF];by_cases hex:∃j,j<n/\dst ops j=some t
 .obtain⟨j,hj,hd⟩:=hex
  obtain⟨h1,h2⟩:=h j hj hd;rw[mF hd (fun i hi=>hone i j hi hd) h2 n hj,mF hd (fun i hi=>hone i j hi hd) rfl i h1]
 .rw[gN n fun j hj _ hd=>hex ⟨j,hj,hd⟩,gN i fun j hj _ hd=>hex ⟨j,by omega,hd⟩]
theorem uX {i n:Nat} {v:Value} (hone:∀i j t,i≠j->dst ops j=some t->dst ops i≠some t) (hi:L i=false) (hin:i<n):
 (part ops a0 ρ L n).put (dst ops i) v=part ops a0 (upd ρ i v) (fun j=>if j=i then true else L j) n:=by
 have low:∀k,k<=i->part ops a0 (upd ρ i v) (fun j=>if j=i then true else L j) k=part ops a0 ρ L k:=by
  intro k
  induction k with
  |zero=>exact fun _=>rfl
  |succ k ih=>
   intro hk;have e:k≠i:=by omega
   unfold part;rw[ih (by omega),if_neg e];unfold upd;rw[if_neg e]
 induction n with
 |zero=>omega
 |succ n ih=>
  by_cases e:n=i
  .subst e
   unfold part;rw[if_pos rfl,hi,low n (aad _),if_neg (by decide)];simp[upd]
  .have ih':=ih (by omega)
   unfold part;rw[if_neg e,<-ih'];unfold upd;rw[if_neg e]
   split
   .exact Act.put_comm _ _ _ fun d h1 h2=>hone i n d (fun e2=>e e2.symm) h1 h2
   .rfl
theorem pI {ρ':Nat->Value} {L':Nat->Bool} (hL:∀j,L j=L' j) (h:∀j,L j=true->ρ j=ρ' j) (k:Nat):part ops a0 ρ L k=part ops a0 ρ' L' k:=by
 induction k with
 |zero=>rfl
 |succ k ih=>
  unfold part;rw[<-hL k]
  split
  .rename_i hk
   rw[ih,h k hk]
  .exact ih
end
def shape (ops:Array Oper) (n:Nat) (deps:Nat->List Nat):Bool:=
 (List.range ops.size).all fun i=>match ops[i]? with
   |none=>false
   |some o=>(match o.dst with|none=>true|some d=>(List.range ops.size).all fun j=>j==i||dst ops j != some d)&&
    if i<n then
     o.guard.isNone&&(match o.op with| .select _ _=>false|_=>true)&&
     (o.op.operands.toList.all fun x=>match x with
       | .tmp t=>(List.range ops.size).all fun j=>dst ops j != some t||(decide (j<i)&&o.after.toList.any fun e=>Region.binds .any e&&e.on==j)
       |_=>true)&&
     ((deps i).all fun j=>decide (j<i)&&o.after.toList.any fun e=>Region.binds .any e&&e.on==j)&&
     (o.after.all fun e=> !Region.binds .any e||decide (e.on<i))
    else (List.range n).all fun j=>o.after.toList.any fun e=>Region.binds .any e&&e.on==j
def heads (size n:Nat):Array Bool:=(List.replicate n true++List.replicate (size-n) false).toArray
def cJ (P:Program) (o:Oper) (ev:Operand->Value) (w:World) (R:Value->World->Prop):Prop:=
 match (execOp ev o).run P w with
 | .ok (.value v) w'=>R v w'
 | .ok .skip w'=>R undef w'
 | .ok (.enter f args) w'=>Calls P f args w' (fun e w''=>∃v,e= .returned v/\R v w'')
 |_=>False
theorem cJ.wp {P:Program} {o:Oper} {a:Act} {w:World} {R:Value->World->Prop} {K:Act->World->Prop} {Q:Exit->Act->World->Prop} (h:cJ P o a.eval w R) (hK:∀v w',R v w'->K (a.put o.dst v) w'):o.wp P a w K Q:=by
 unfold cJ at h;unfold Oper.wp;generalize (execOp a.eval o).run P w=r at h ⊢;cases r with
 |ok n w'=>
  cases n<;>simp only[Oper.upon] at h ⊢
  case value v=>exact hK v w' h
  case skip=>exact hK _ w' h
  case enter f args=>
   refine Calls.mono h fun e w'' he=> ?_
   obtain⟨v,rfl,hv⟩:=he;exact hK v w'' hv
 |halt x w'=>cases h
theorem cI {P:Program} {o:Oper} {ev:Operand->Value} {w:World} {R:Value->World->Prop} {v:Value} {w':World} (h:(execOp ev o).run P w= .ok (.value v) w') (hR:R v w'):cJ P o ev w R:=by
 unfold cJ;rw[h];exact hR
theorem gr {P:Program} {o:Oper} {ev:Operand->Value} {V:World} {R:World->Prop} {v:Value} (hR:R V) (h:(execOp ev o).run P V= .ok (.value v) V):cJ P o ev V fun u w'=>u=v/\R w':=cI h ⟨rfl,hR⟩
theorem gP {P:Program} {o:Oper} {ev:Operand->Value} {w:World} {R:Value->World->Prop} {w':World} (h:(execOp ev o).run P w= .ok .skip w') (hR:R undef w'):cJ P o ev w R:=by
 unfold cJ;rw[h];exact hR
theorem any {P:Program} {ops:Array Oper} {Q:Exit->Act->World->Prop} {a0:Act} {w0:World} (sp:Nat->Jn) (n N:Nat) (hn:n<=ops.size) (hN:a0.tmps.size=N) (hsh:shape ops n (fun i=>(sp i).deps)=true)
 (N3:∀i,i<n->∀v vs lo hi w w',hi<=w.heap.size->Below w.heap.size w w'->(sp i).post v vs lo hi w->(sp i).post v vs lo hi w')
 (hstep:∀i o (ρ:Nat->Value) w (ev:Operand->Value),i<n->ops[i]? =some o->Below w0.heap.size w0 w->(∀j∈(sp i).deps,∃lo hi,w0.heap.size<=lo/\lo<=hi/\hi<=w.heap.size/\(sp j).post (ρ j) ((sp j).deps.map ρ) lo hi w)->
   (∀j t,j<i->dst ops j=some t->t<N->ev (.tmp t)=ρ j)->(∀t,((List.range i).all fun j=>dst ops j != some t)=true->ev (.tmp t)=a0.eval (.tmp t))->(∀v,ev (.const v)=v)->
   cJ P o ev w fun v w'=>Below w.heap.size w w'/\(sp i).post v ((sp i).deps.map ρ) w.heap.size w'.heap.size w')
 (hend:∀(ρ:Nat->Value) (lo hi:Nat->Nat) w a,a=canon ops a0 ρ n->a.defers=a0.defers->(∀j t,j<n->dst ops j=some t->t<N->a.eval (.tmp t)=ρ j)->(∀t,((List.range n).all fun j=>dst ops j != some t)=true->a.eval (.tmp t)=a0.eval (.tmp t))->Below w0.heap.size w0 w->(∀i,i<n->w0.heap.size<=lo i/\lo i<=hi i/\hi i<=w.heap.size/\(sp i).post (ρ i) ((sp i).deps.map ρ) (lo i) (hi i) w)->(∀i j,i<n->j<n->i≠j->hi i<=lo j\/hi j<=lo i)->
   wpAny P .any ops Q (ops.size-n) (heads ops.size n) a w):
 wpAny P .any ops Q ops.size (Array.replicate ops.size false) a0 w0:=by
 have hs:=fun i (hi:i<ops.size)=>acp.1 hsh i (ab1.2 hi)
 have hlt:∀{j t},dst ops j=some t->j<ops.size:=fun {j t} h=>by
  rcases adn j ops.size with h1|h1
  .exact h1
  .unfold dst at h;rw[aeA h1] at h;cases h
 have hone:∀i j t,i≠j->dst ops j=some t->dst ops i≠some t:=fun i j t hij hj hi=>by
  have h1:=hs j (hlt hj);dsimp only at h1;cases ho:ops[j]? with
  |none=>rw[ho] at h1;cases h1
  |some o=>
   have hd:o.dst=some t:=by unfold dst at hj;rw[ho] at hj;exact hj
   rw[ho] at h1;simp only[acv] at h1;have h2:=h1.1;rw[hd] at h2;have h3:=acp.1 h2 i (ab1.2 (hlt hi));simp only[ady,beq_iff_eq,bne_iff_ne] at h3;rcases h3 with h3|h3
   .exact hij h3
   .exact h3 hi
 have hop:∀i,i<n->∃o,ops[i]? =some o/\o.guard=none/\(∀cs b,o.op≠.select cs b)/\
  (∀t,Operand.tmp t∈o.op.operands->∀j,j<ops.size->dst ops j=some t->j<i/\∃e∈o.after,Region.binds .any e=true/\e.on=j)/\
  (∀j∈(sp i).deps,j<i/\∃e∈o.after,Region.binds .any e=true/\e.on=j)/\(∀e∈o.after,Region.binds .any e=true->e.on<i):=fun i hi=>by
  have h1:=hs i (by omega);dsimp only at h1;cases ho:ops[i]? with
  |none=>rw[ho] at h1;cases h1
  |some o=>
   rw[ho] at h1;simp only[acv,if_pos hi] at h1;obtain⟨_,⟨⟨⟨g1,g2⟩,g4⟩,g5⟩,g6⟩:=h1;refine⟨o,rfl,by simpa using g1,(fun cs b hsel=>by rw[hsel] at g2;cases g2),fun t ht j hj hd=> ?_,fun j hj=> ?_,fun e he hb=> ?_⟩
   .have h2:=acp.1 g4 (.tmp t) (by simpa using ht)
    dsimp only at h2;have h3:=acp.1 h2 j (ab1.2 hj);simp only[ady,bne_iff_ne,acv,decide_eq_true_eq,acR,beq_iff_eq] at h3;rcases h3 with h3|⟨h3,e,he,h4⟩
    .exact absurd hd h3
    .exact⟨h3,e,by simpa using he,h4⟩
   .have h2:=acp.1 g5 j hj
    simp only[acv,decide_eq_true_eq,acR,beq_iff_eq] at h2;obtain⟨h3,e,he,h4⟩:=h2;exact⟨h3,e,by simpa using he,h4⟩
   .have h2:=adv.1 g6 e he
    rw[hb] at h2;simpa using h2
 have Og:∀i o,n<=i->ops[i]? =some o->∀j,j<n->∃e∈o.after,Region.binds .any e=true/\e.on=j:=fun i o hi ho j hj=>by
  have h1:=hs i (abR.1 ho).1;dsimp only at h1;rw[ho] at h1;simp only[acv,if_neg (Nat.not_lt.2 hi)] at h1;have h2:=acp.1 h1.2 j (ab1.2 hj);simp only[acv,acR,beq_iff_eq] at h2;obtain⟨e,he,h4⟩:=h2;exact⟨e,by simpa using he,h4⟩
 have fin:∀(listed:Array Bool),listed.size=ops.size->Region.ready .any ops listed=[]->∀i,i<n->listed.getD i false=true:=by
  intro listed hl hr i
  induction i using Nat.strongRecOn with
  |_ i ih=>
   intro hi;by_cases hb:listed.getD i false=true
   .exact hb
   .exfalso
    have hi':i<listed.size:=by omega
    have h0:listed.getD i true=false:=by
     simp[hi'] at hb ⊢;exact hb
    obtain⟨o,ho,_,_,_,_,jJ⟩:=hop i hi;have hm:i∈Region.ready .any ops listed:=by
     rw[mem_ready];refine⟨h0,o,ho,fun e he hbd=> ?_⟩;have:=jJ e he hbd;exact ih e.on this (by omega)
    rw[hr] at hm;cases hm
 have key:∀(fuel:Nat) (listed:Array Bool) (ρ:Nat->Value) (lo hi:Nat->Nat) (w:World),listed.size=ops.size->listed.toList.count false=fuel->Below w0.heap.size w0 w->
  (∀i,n<=i->listed.getD i false=false)->
  (∀i,i<n->listed.getD i false=true->w0.heap.size<=lo i/\lo i<=hi i/\hi i<=w.heap.size/\(sp i).post (ρ i) ((sp i).deps.map ρ) (lo i) (hi i) w/\∀j∈(sp i).deps,listed.getD j false=true)->
  (∀i j,i<n->j<n->listed.getD i false=true->listed.getD j false=true->i≠j->hi i<=lo j\/hi j<=lo i)->
  wpAny P .any ops Q fuel listed (part ops a0 ρ (fun j=>listed.getD j false) n) w:=by
  have last:∀(listed:Array Bool) (ρ:Nat->Value) (lo hi:Nat->Nat) (w:World),listed.size=ops.size->Below w0.heap.size w0 w->
   (∀i,n<=i->listed.getD i false=false)->
   (∀i,i<n->listed.getD i false=true->w0.heap.size<=lo i/\lo i<=hi i/\hi i<=w.heap.size/\(sp i).post (ρ i) ((sp i).deps.map ρ) (lo i) (hi i) w/\∀j∈(sp i).deps,listed.getD j false=true)->
   (∀i j,i<n->j<n->listed.getD i false=true->listed.getD j false=true->i≠j->hi i<=lo j\/hi j<=lo i)->
   (∀i,i<n->listed.getD i false=true)->wpAny P .any ops Q (listed.toList.count false) listed (part ops a0 ρ (fun j=>listed.getD j false) n) w:=by
   intro listed ρ lo hi w hl hb hno hg hd hall;have e:∀k,k<=n->part ops a0 ρ (fun j=>listed.getD j false) k=canon ops a0 ρ k:=by
    intro k
    induction k with
    |zero=>exact fun _=>rfl
    |succ k ih=>
     intro hk;unfold part canon;rw[ih (by omega),hall k (by omega),if_pos rfl]
   have e2:listed=heads ops.size n:=by
    apply Array.ext
    .simp[heads,hl];omega
    .intro i h1 h2
     by_cases hi:i<n
     .have:=hall i hi
      simp[h1] at this;rw[this];simp[heads,hi]
     .have:=hno i (by omega)
      simp[h1] at this;rw[this];simp[heads,List.getElem_append,hi]
   have e3:(heads ops.size n).toList.count false=ops.size-n:=by simp[heads,List.count_replicate]
   rw[e _ (aad _),e2,e3];exact hend ρ lo hi w _ rfl (mz n) (fun j t hj hd ht=>by
    rw[dF,mF hd (fun i hi=>hone i j t hi hd) rfl n hj,if_pos (by rw[hN];exact ht)]) (fun t ht=>by
    rw[dF,gN n fun j hj _=>by
     have:=acp.1 ht j (ab1.2 hj);simpa using this]) hb (fun i hi=>by
    obtain⟨h1,h2,h3,h4,_⟩:=hg i hi (hall i hi);exact⟨h1,h2,h3,h4⟩) fun i j hi hj=>hd i j hi hj (hall i hi) (hall j hj)
  intro fuel
  induction fuel with
  |zero=>
   intro listed ρ lo hi w hl hc hb hno hg hd;have hall:∀i,i<n->listed.getD i false=true:=fun i hi=>by
    have hm:¬false∈listed.toList:=fun h=>by
     have:=adp.2 h;omega
    have hi':i<listed.size:=by omega
    by_cases mP:listed[i]=true
    .simp[hi',mP]
    .exfalso
     have e:listed[i]=false:=by simpa using mP
     exact hm (by rw[<-e];simp)
   have:=last listed ρ lo hi w hl hb hno hg hd hall;rw[hc] at this;exact this
  |succ fuel ih=>
   intro listed ρ lo hi w hl hc hb hno hg hd;by_cases hall:∀i,i<n->listed.getD i false=true
   .have:=last listed ρ lo hi w hl hb hno hg hd hall
    rw[hc] at this;exact this
   refine⟨fun hr=>absurd (fin listed hl hr) hall,fun i hi=> ?_⟩;have D6:=hi;rw[mem_ready] at hi;obtain⟨h0,o,ho,dY⟩:=hi;have Vw:=(abR.1 ho).1;have hin:i<n:=by
    rcases adn i n with h|h
    .exact h
    .exact absurd (fun j hj=>by
      obtain⟨e,he,hbd,rfl⟩:=Og i o h ho j hj;exact dY e he hbd) hall
   have hi':i<listed.size:=by omega
   obtain⟨o',ho',hgd,hsel,hread,K9,_⟩:=hop i hin;rw[ho] at ho';cases ho';have dQ:listed.getD i false=false:=by
    simp[hi'] at h0 ⊢;exact h0
   have BK:∀j∈(sp i).deps,listed.getD j false=true:=fun j hj=>by
    obtain⟨_,e,he,hbd,rfl⟩:=K9 j hj;exact dY e he hbd
   have hev:execOp (part ops a0 ρ (fun j=>listed.getD j false) n).eval o=execOp (canon ops a0 ρ i).eval o:=by
    refine execOp_congr o hsel fun x hx=> ?_
    cases x with
    |tmp t=>
     refine pJ (fun i j hij=>hone i j t hij) (by omega) fun j hj hd=> ?_
     obtain⟨h1,e,he,hbd,rfl⟩:=hread t hx j (by omega) hd;exact⟨h1,dY e he hbd⟩
    |_=>rfl
   have tP:=hstep i o ρ w (canon ops a0 ρ i).eval hin ho hb (fun j hj=>by
    have hjl:=(K9 j hj).1;obtain⟨h1,h2,h3,h4,_⟩:=hg j (by omega) (BK j hj);exact⟨lo j,hi j,h1,h2,h3,h4⟩) (fun j t hj hd ht=>by
    rw[dF,mF hd (fun i hi=>hone i j t hi hd) rfl i hj,if_pos (by rw[hN];exact ht)]) (fun t ht=>by
    rw[dF,gN i fun j hj _=>by
     have:=acp.1 ht j (ab1.2 hj);simpa using this]) (fun v=>rfl)
   unfold wpOp;rw[ho];dsimp only;have hw:Region.wanted o (yielded ops (part ops a0 ρ (fun j=>listed.getD j false) n).tmps)=true:=by
    unfold Region.wanted;rw[hgd]
   rw[if_pos hw];refine .inl ?_;have wY:cJ P o (part ops a0 ρ (fun j=>listed.getD j false) n).eval w fun v w'=>Below w.heap.size w w'/\(sp i).post v ((sp i).deps.map ρ) w.heap.size w'.heap.size w':=by
    unfold cJ at tP ⊢;rw[hev];exact tP
   refine wY.wp fun v w' hv=> ?_
   obtain⟨iQ,hpost⟩:=hv;have D8:o.dst=dst ops i:=by unfold dst;rw[ho];rfl
   have fS:∀j,(listed.setIfInBounds i true).getD j false=if j=i then true else listed.getD j false:=fun j=>by
    by_cases e:j=i
    .subst e
     rw[if_pos rfl];simp[hi']
    .rw[if_neg e]
     exact getD_set_ne false (fun h=>e h.symm)
   rw[D8,uX hone dQ hin,pI (L':=fun j=>(listed.setIfInBounds i true).getD j false) (ρ':=upd ρ i v) (fun j=>(fS j).symm) (fun _ _=>rfl)];have hsz:=iQ.size;have hb0:=hb.size;have UT:∀j,j≠i->listed.getD j false=true->(∀k∈(sp j).deps,listed.getD k false=true)->(sp j).deps.map (upd ρ i v)=(sp j).deps.map ρ:=fun j hj hjl hk=>by
    refine adE fun k hkm=> ?_
    unfold upd;rw[if_neg];intro e;subst e;rw[hk k hkm] at dQ;cases dQ
   have hdi:(sp i).deps.map (upd ρ i v)=(sp i).deps.map ρ:=adE fun k hkm=>by
    unfold upd;rw[if_neg];intro e;subst e;rw[BK k hkm] at dQ;cases dQ
   refine ih (listed.setIfInBounds i true) (upd ρ i v) (wj lo i w.heap.size) (wj hi i w'.heap.size) w' (by simpa using hl) ?_ (hb.trans (iQ.mono hb0)) (fun j hj=>by rw[fS,if_neg (by omega)];exact hno j hj) ?_ ?_
   .rw[ad5]
    have hi2:i<listed.toList.length:=by simpa using hi'
    have e:listed.toList[i]=false:=by
     simp[hi'] at h0;simpa using h0
    have hpos:0<listed.toList.count false:=adp.2 (by rw[<-e];exact adi hi2);rw[ae0 hi2,e,if_pos (by decide),if_neg (by decide)];omega
   .intro j hj hjl
    rw[fS] at hjl;by_cases e:j=i
    .subst e
     unfold wj;rw[if_pos rfl,if_pos rfl];refine⟨hb0,hsz,aad _,?_,fun k hk=>by rw[fS];split;rfl;exact BK k hk⟩;rw[hdi];unfold upd;rw[if_pos rfl];exact hpost
    .rw[if_neg e] at hjl
     obtain⟨h1,h2,h3,h4,h5⟩:=hg j hj hjl;unfold wj;rw[if_neg e,if_neg e];refine⟨h1,h2,by omega,?_,fun k hk=>by rw[fS];split;rfl;exact h5 k hk⟩;rw[UT j e hjl h5];unfold upd;rw[if_neg e];exact N3 j hj _ _ _ _ w w' h3 iQ h4
   .intro j k hj hk hjl hkl hjk
    rw[fS] at hjl hkl;unfold wj;by_cases e:j=i
    .subst e
     rw[if_neg (fun h=>hjk h.symm)] at hkl;rw[if_pos rfl,if_pos rfl,if_neg (fun h=>hjk h.symm),if_neg (fun h=>hjk h.symm)];exact .inr (hg k hk hkl).2.2.1
    .rw[if_neg e] at hjl
     by_cases e2:k=i
     .subst e2
      rw[if_neg e,if_neg e,if_pos rfl,if_pos rfl];exact .inl (hg j hj hjl).2.2.1
     .rw[if_neg e2] at hkl
      rw[if_neg e,if_neg e,if_neg e2,if_neg e2];exact hd j k hj hk hjl hkl hjk
 have hnone:∀j,(Array.replicate ops.size false).getD j false=false:=fun j=>by by_cases hk:j<ops.size<;>simp[hk]
 have h0:part ops a0 (fun _=>undef) (fun j=>(Array.replicate ops.size false).getD j false) n=a0:=by
  have:∀k,part ops a0 (fun _=>undef) (fun j=>(Array.replicate ops.size false).getD j false) k=a0:=by
   intro k
   induction k with
   |zero=>rfl
   |succ k ih=>
    unfold part;rw[ih,hnone k,if_neg (by decide)]
  exact this _
 have hk:=key ops.size (Array.replicate ops.size false) (fun _=>undef) (fun _=>0) (fun _=>0) w0 (by simp) (by simp) (aae _ _) (fun i _=>hnone i) (fun i _ h=>by rw[hnone i] at h;cases h) (fun i _ _ _ h=>by rw[hnone i] at h;cases h);rw[h0] at hk;exact hk
end aq
end
section
open Go.RowKit
structure For where
 a1:Option Addr
 a2:Option Addr
 a3:Option Addr
 a4:Option Addr
 c1:Nat
 c2:Nat
 c3:Nat
 c4:Nat
abbrev For.val (f:For) (s:Df.St):Value:= .agg #[.slice f.a1 s.par.length f.c1,.slice f.a2 s.ay.length f.c2,.slice f.a3 s.ord.length f.c3,.slice f.a4 s.aT.length f.c4]
structure mV (w:World) (f:For) (s:Df.St):Prop where
 l1:qW w f.a1 s.par.length f.c1 s.par
 l2:qW w f.a2 s.ay.length f.c2 s.ay
 l3:qW w f.a3 s.ord.length f.c3 s.ord
 l4:qW w f.a4 s.aT.length f.c4 s.aT
 n1:s.par.length<=17592186043904
 n2:s.ay.length<=17592186043904
 n3:s.ord.length<=17592186043904
 n4:s.aT.length<=17592186043904
theorem mV.later {w w':World} {f:For} {s:Df.St} (h:mV w f s) (hb:Below w.heap.size w w'):mV w' f s:=⟨h.l1.later hb,h.l2.later hb,h.l3.later hb,h.l4.later hb,h.n1,h.n2,h.n3,h.n4⟩
theorem pQ.bT {w:World} {B:Nat} {v1 v2 v3 v4:Value} {s:Df.St} (h:pQ w B v1 v2 v3 v4 s) (hn:s.par.length<=17592186043904/\s.ay.length<=17592186043904/\s.ord.length<=17592186043904/\s.aT.length<=17592186043904):
 ∃f:For,v1= .slice f.a1 s.par.length f.c1/\v2= .slice f.a2 s.ay.length f.c2/\v3= .slice f.a3 s.ord.length f.c3/\v4= .slice f.a4 s.aT.length f.c4/\mV w f s:=by
 obtain⟨a1,c1,e1,h1,_⟩:=h.o1.bT;obtain⟨a2,c2,e2,h2,_⟩:=h.o2.bT;obtain⟨a3,c3,e3,h3,_⟩:=h.o3.bT;obtain⟨a4,c4,e4,h4,_⟩:=h.o4.bT;exact⟨⟨a1,a2,a3,a4,c1,c2,c3,c4⟩,e1,e2,e3,e4,h1,h2,h3,h4,hn.1,hn.2.1,hn.2.2.1,hn.2.2.2⟩
end
section
open Go.RowKit
theorem xC {w V:World} (h:Below w.heap.size w V) (o:Obj):Below w.heap.size w (V.alloc o):=h.alloc h.size o
theorem xB {w V:World} (h:Below w.heap.size w V):Below w.heap.size w V.drew:=h.drew
theorem dm {w:World} {ao:Option Addr} {k ca:Nat} {l:List Int} (h:qW w ao k ca l) {i:Nat} (hi:i<k):∃b o,ao=some ⟨b,o,none⟩/\w.cell? ⟨b,o+i,none⟩=some (.int .i64 (l.getD i (-1))):=h.ints i _ (gF (-1) (by rw[h.len];exact hi))
def ku (P:Prop) (w:World) (e:Ending) (w':World):Prop:=∃b,e= .returned (.bool b)/\(b=true↔P)/\Below w.heap.size w w'
end
namespace Lo
def fst (p:Int->Bool):List Int->List Int
 |[]=>[]
 |x::L=>if p x=true then [] else x::fst p L
def snd (p:Int->Bool):List Int->List Int
 |[]=>[]
 |x::L=>if p x=true then x::L else snd p L
theorem yI (p:Int->Bool):∀L,fst p L++snd p L=L
 |[]=>rfl
 |x::L=>by
  unfold fst snd;by_cases h:p x=true
  .rw[if_pos h,if_pos h];rfl
  .rw[if_neg h,if_neg h,acZ,yI p L]
theorem QD (p:Int->Bool):∀L,∀x∈fst p L,p x=false
 |[],x,hx=>by simp[fst] at hx
 |y::L,x,hx=>by
  unfold fst at hx;by_cases h:p y=true
  .rw[if_pos h] at hx;simp at hx
  .rw[if_neg h] at hx
   rcases aaj.1 hx with rfl|hx
   .simpa using h
   .exact QD p L x hx
theorem JX (p:Int->Bool):∀L x D,snd p L=x::D->p x=true
 |[],x,D,h=>by simp[snd] at h
 |y::L,x,D,h=>by
  unfold snd at h;by_cases hy:p y=true
  .rw[if_pos hy] at h
   injection h with h1 _
   rw[<-h1];exact hy
  .rw[if_neg hy] at h
   exact JX p L x D h
def put (p:Int->Bool) (h:Int) (L:List Int):List Int:=fst p L++h::snd p L
section
end
noncomputable def bY (n:Nat) (es:List (Int×Int)) (s:Df.St):Nat->List (List Int)
 |0=>List.replicate n []
 |k+1=>(bY n es s k).set (fr es s k) (put (fun x=>decide (nest es s k<nest es s (x.toNat/2))) (Df.at_ s.aT k) ((bY n es s k).getD (fr es s k) []))
theorem fu (n:Nat) (es:List (Int×Int)) (s:Df.St):∀k,(bY n es s k).length=n
 |0=>by simp[bY]
 |k+1=>by unfold bY;rw[acJ];exact fu n es s k
theorem J7 {p:Int->Bool} {h:Int} {L:List Int} {x:Int}:x∈put p h L↔x=h\/x∈L:=by
 have h1:=yI p L;unfold put;rw[aam,aaj];constructor
 .rintro(h2|h2|h2)
  .exact .inr (by rw[<-h1];exact aci _ h2)
  .exact .inl h2
  .exact .inr (by rw[<-h1];exact acd _ h2)
 .rintro(h2|h2)
  .exact .inr (.inl h2)
  .rw[<-h1] at h2
   rcases aam.1 h2 with h3|h3
   .exact .inl h3
   .exact .inr (.inr h3)
theorem Da {p:Int->Bool} {h:Int} {L:List Int}:(put p h L).length=L.length+1:=by
 have h1:=yI p L;have h2:(fst p L).length+(snd p L).length=L.length:=by rw[<-abZ,h1]
 unfold put;rw[abZ,abS];omega
theorem AO {n:Nat} {es:List (Int×Int)} {s:Df.St} (hv:Si.Val n es) (pZ:Df.VF n es s):∀k,k<=es.length->∀L∈bY n es s k,(∀x∈L,∃b:Nat,b<k/\x=Df.at_ s.aT b)/\L.length<=k
 |0,_,L,hL=>by
  unfold bY at hL;rw[List.mem_replicate] at hL;rw[hL.2];exact⟨fun x hx=>by simp at hx,by simp⟩
 |k+1,hk,L,hL=>by
  have ih:=AO hv pZ k (by omega);unfold bY at hL;rcases afK hL with h1|h1
  .obtain⟨h2,h3⟩:=ih L h1
   exact⟨fun x hx=>by obtain⟨b,hb,e⟩:=h2 x hx;exact⟨b,by omega,e⟩,by omega⟩
  .have hlt:fr es s k<(bY n es s k).length:=by rw[fu];exact(ct hv pZ (by omega)).1
   have hmem:(bY n es s k).getD (fr es s k) []∈bY n es s k:=by
    rw[aag,aac hlt];exact adi hlt
   obtain⟨h2,h3⟩:=ih _ hmem;rw[h1];refine⟨fun x hx=> ?_,by rw[Da];omega⟩;rcases J7.1 hx with e|hx
   .exact⟨k,by omega,e⟩
   .obtain⟨b,hb,e⟩:=h2 x hx
    exact⟨b,by omega,e⟩
end Lo
section
open Go.RowKit
def zs (l:List Nat):List Int:=l.map fun b:Nat=>(b:Int)
def upTo (f:Nat->Int) (k:Nat):List Int:=(List.range k).map f
theorem gm (f:Nat->Int) (k:Nat):(upTo f k).length=k:=by simp[upTo]
theorem iR {f:Nat->Int} {k i:Nat} (h:i<k):(upTo f k)[i]? =some (f i):=by
 unfold upTo;rw[abU,adR h];rfl
def Xs (n:Int) (es:List (Int×Int)) (s:Df.St) (A1 A2 A3:List Int) (ls:List (List Int)) (z:Int):Prop:=
 (Si.valid n es=false/\A1=[]/\A2=[]/\A3=[]/\ls=[]/\z=1)\/(Si.valid n es=true/\¬uA n es s/\A1=[]/\A2=[]/\A3=[]/\ls=[]/\z=80)\/
 ∃m:Nat,n=(m:Int)/\Si.Val m es/\Df.VF m es s/\A1=upTo (Lo.low es s) es.length/\A2=upTo (Lo.cK es s) es.length/\A3=upTo (Lo.nest es s) es.length/\ls=Lo.bY m es s es.length/\z=0
def Tc (n:Int) (es:List (Int×Int)) (s:Df.St) (w:World) (r:Ending) (w':World):Prop:=
 ∃v1 v2 v3 vo vs A1 A2 A3 ls z,r= .returned (.tuple #[.agg #[v1,v2,v3,vo],.int .i64 z])/\Xs n es s A1 A2 A3 ls z/\aH w' w.heap.size v1 A1/\aH w' w.heap.size v2 A2/\aH w' w.heap.size v3 A3/\aU w' w.heap.size vo vs ls/\Below w.heap.size w w'
end
end Go.Proofs.YtbhdibflpjhpaaaGreat
