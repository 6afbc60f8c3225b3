import Derived.Shelf.Abstract
import Derived.Test.YtdbjpbjocmcpkaaGreatDoorMg01
namespace Go.Proofs.YtdbjpbjocmcpkaaGreatDoor
section
open Go.RowKit
namespace aP
def dst (ops:Array Oper) (i:Nat):Option Tmp:=(ops[i]?).bind (·.dst)
structure GS where
 deps:List Nat
 post:Value->List Value->Nat->Nat->World->Prop
def upd (ρ:Nat->Value) (i:Nat) (v:Value):Nat->Value:=fun j=>if j=i then v else ρ j
def tj (f:Nat->Nat) (i x:Nat):Nat->Nat:=fun j=>if j=i then x else f j
def part (ops:Array Oper) (a0:Act) (ρ:Nat->Value) (L:Nat->Bool):Nat->Act
 |0=>a0
 |i+1=>if L i then (part ops a0 ρ L i).put (dst ops i) (ρ i) else part ops a0 ρ L i
def canon (ops:Array Oper) (a0:Act) (ρ:Nat->Value):Nat->Act
 |0=>a0
 |i+1=>(canon ops a0 ρ i).put (dst ops i) (ρ i)
section
variable {ops:Array Oper} {a0:Act} {ρ:Nat->Value} {L:Nat->Bool}
theorem b8 (k:Nat):canon ops a0 ρ k=part ops a0 ρ (fun _=>true) k:=by
 induction k with
 |zero=>rfl
 |succ k ih=>simp[canon,part,ih]
theorem tO (k:Nat):(canon ops a0 ρ k).defers=a0.defers:=by
 induction k with
 |zero=>rfl
 |succ k ih=>
  unfold canon;cases dst ops k with
  |none=>exact ih
  |some d=>exact ih
theorem OO (a:Act) (d:Option Tmp) (v:Value):(a.put d v).tmps.size=a.tmps.size:=by
 cases d<;>simp[Act.put]
theorem LB (k:Nat):(part ops a0 ρ L k).tmps.size=a0.tmps.size:=by
 induction k with
 |zero=>rfl
 |succ k ih=>
  unfold part
  split
  .rw[OO,ih]
  .exact ih
theorem Cj (a:Act) (t:Tmp) (v:Value):(a.put (some t) v).eval (.tmp t)=if t<a.tmps.size then v else undef:=by
 unfold Act.put Act.eval;dsimp only;by_cases h:t<a.tmps.size
 .rw[if_pos h]
  simp[h]
 .rw[if_neg h]
  simp;exact fun h'=>absurd h' h
theorem qQ (a:Act) (t:Tmp) (d:Option Tmp) (v:Value) (h:d≠some t):(a.put d v).eval (.tmp t)=a.eval (.tmp t):=
 Act.eval_put fun d' hd hx=>by cases hx;exact h hd
theorem eX {t:Tmp} (k:Nat) (h:∀j,j<k->L j=true->dst ops j≠some t):(part ops a0 ρ L k).eval (.tmp t)=a0.eval (.tmp t):=by
 induction k with
 |zero=>rfl
 |succ k ih=>
  have ih':=ih fun j hj=>h j (by omega)
  unfold part
  split
  .rename_i hL
   rw[qQ _ _ _ _ (h k (by omega) hL),ih']
  .exact ih'
theorem jQ {t:Tmp} {j:Nat} (hd:dst ops j=some t) (hone:∀i,i≠j->dst ops i≠some t) (hL:L j=true) (k:Nat) (hj:j<k):(part ops a0 ρ L k).eval (.tmp t)=if t<a0.tmps.size then ρ j else undef:=by
 induction k with
 |zero=>omega
 |succ k ih=>
  unfold part;by_cases e:j=k
  .subst e
   rw[if_pos hL,hd,Cj,LB]
  .have ih':=ih (by omega)
   split
   .rw[qQ _ _ _ _ (hone k (fun h=>e h.symm)),ih']
   .exact ih'
theorem mC {i n:Nat} {t:Tmp} (hone:∀i j,i≠j->dst ops j=some t->dst ops i≠some t) (hin:i<=n) (h:∀j,j<n->dst ops j=some t->j<i/\L j=true):(part ops a0 ρ L n).eval (.tmp t)=(canon ops a0 ρ i).eval (.tmp t):=by
 rw[b8];by_cases hex:∃j,j<n/\dst ops j=some t
 .obtain⟨j,hj,hd⟩:=hex
  obtain⟨h1,h2⟩:=h j hj hd;rw[jQ hd (fun i hi=>hone i j hi hd) h2 n hj,jQ hd (fun i hi=>hone i j hi hd) rfl i h1]
 .rw[eX n fun j hj _ hd=>hex ⟨j,hj,hd⟩,eX i fun j hj _ hd=>hex ⟨j,by omega,hd⟩]
theorem rK {i n:Nat} {v:Value} (hone:∀i j t,i≠j->dst ops j=some t->dst ops i≠some t) (hi:L i=false) (hin:i<n):
 (part ops a0 ρ L n).put (dst ops i) v=part ops a0 (upd ρ i v) (fun j=>if j=i then true else L j) n:=by
 have low:∀k,k<=i->part ops a0 (upd ρ i v) (fun j=>if j=i then true else L j) k=part ops a0 ρ L k:=by
  intro k
  induction k with
  |zero=>exact fun _=>rfl
  |succ k ih=>
   intro hk;have e:k≠i:=by omega
   unfold part;rw[ih (by omega),if_neg e];unfold upd;rw[if_neg e]
 induction n with
 |zero=>omega
 |succ n ih=>
  by_cases e:n=i
  .subst e
   unfold part;rw[if_pos rfl,hi,low n (aad _),if_neg (by decide)];simp[upd]
  .have ih':=ih (by omega)
   unfold part;rw[if_neg e,<-ih'];unfold upd;rw[if_neg e]
   split
   .exact Act.put_comm _ _ _ fun d h1 h2=>hone i n d (fun e2=>e e2.symm) h1 h2
   .rfl
theorem mA {ρ':Nat->Value} {L':Nat->Bool} (hL:∀j,L j=L' j) (h:∀j,L j=true->ρ j=ρ' j) (k:Nat):part ops a0 ρ L k=part ops a0 ρ' L' k:=by
 induction k with
 |zero=>rfl
 |succ k ih=>
  unfold part;rw[<-hL k]
  split
  .rename_i hk
   rw[ih,h k hk]
  .exact ih
end
def shape (ops:Array Oper) (n:Nat) (deps:Nat->List Nat):Bool:=
 (List.range ops.size).all fun i=>match ops[i]? with
   |none=>false
   |some o=>(match o.dst with|none=>true|some d=>(List.range ops.size).all fun j=>j==i||dst ops j != some d)&&
    if i<n then
     o.guard.isNone&&(match o.op with| .select _ _=>false|_=>true)&&
     (o.op.operands.toList.all fun x=>match x with
       | .tmp t=>(List.range ops.size).all fun j=>dst ops j != some t||(decide (j<i)&&o.after.toList.any fun e=>Region.binds .any e&&e.on==j)
       |_=>true)&&
     ((deps i).all fun j=>decide (j<i)&&o.after.toList.any fun e=>Region.binds .any e&&e.on==j)&&
     (o.after.all fun e=> !Region.binds .any e||decide (e.on<i))
    else (List.range n).all fun j=>o.after.toList.any fun e=>Region.binds .any e&&e.on==j
def heads (size n:Nat):Array Bool:=(List.replicate n true++List.replicate (size-n) false).toArray
def dM (P:Program) (o:Oper) (ev:Operand->Value) (w:World) (R:Value->World->Prop):Prop:=
 match (execOp ev o).run P w with
 | .ok (.value v) w'=>R v w'
 | .ok .skip w'=>R undef w'
 | .ok (.enter f args) w'=>Calls P f args w' (fun e w''=>∃v,e= .returned v/\R v w'')
 |_=>False
theorem dM.wp {P:Program} {o:Oper} {a:Act} {w:World} {R:Value->World->Prop} {K:Act->World->Prop} {Q:Exit->Act->World->Prop} (h:dM P o a.eval w R) (hK:∀v w',R v w'->K (a.put o.dst v) w'):o.wp P a w K Q:=by
 unfold dM at h;unfold Oper.wp;generalize (execOp a.eval o).run P w=r at h ⊢;cases r with
 |ok n w'=>
  cases n<;>simp only[Oper.upon] at h ⊢
  case value v=>exact hK v w' h
  case skip=>exact hK _ w' h
  case enter f args=>
   refine Calls.mono h fun e w'' he=> ?_
   obtain⟨v,rfl,hv⟩:=he;exact hK v w'' hv
 |halt x w'=>cases h
theorem aD {P:Program} {o:Oper} {ev:Operand->Value} {w:World} {R:Value->World->Prop} {v:Value} {w':World} (h:(execOp ev o).run P w= .ok (.value v) w') (hR:R v w'):dM P o ev w R:=by
 unfold dM;rw[h];exact hR
theorem yS {P:Program} {o:Oper} {ev:Operand->Value} {w:World} {R:Value->World->Prop} {w':World} (h:(execOp ev o).run P w= .ok .skip w') (hR:R undef w'):dM P o ev w R:=by
 unfold dM;rw[h];exact hR
theorem any {P:Program} {ops:Array Oper} {Q:Exit->Act->World->Prop} {a0:Act} {w0:World} (sp:Nat->GS) (n N:Nat) (hn:n<=ops.size) (hN:a0.tmps.size=N) (hsh:shape ops n (fun i=>(sp i).deps)=true)
 (LQ:∀i,i<n->∀v vs lo hi w w',hi<=w.heap.size->Below w.heap.size w w'->(sp i).post v vs lo hi w->(sp i).post v vs lo hi w')
 (hstep:∀i o (ρ:Nat->Value) w (ev:Operand->Value),i<n->ops[i]? =some o->Below w0.heap.size w0 w->(∀j∈(sp i).deps,∃lo hi,w0.heap.size<=lo/\lo<=hi/\hi<=w.heap.size/\(sp j).post (ρ j) ((sp j).deps.map ρ) lo hi w)->
   (∀j t,j<i->dst ops j=some t->t<N->ev (.tmp t)=ρ j)->(∀t,((List.range i).all fun j=>dst ops j != some t)=true->ev (.tmp t)=a0.eval (.tmp t))->(∀v,ev (.const v)=v)->
   dM P o ev w fun v w'=>Below w.heap.size w w'/\(sp i).post v ((sp i).deps.map ρ) w.heap.size w'.heap.size w')
 (hend:∀(ρ:Nat->Value) (lo hi:Nat->Nat) w a,a=canon ops a0 ρ n->a.defers=a0.defers->(∀j t,j<n->dst ops j=some t->t<N->a.eval (.tmp t)=ρ j)->(∀t,((List.range n).all fun j=>dst ops j != some t)=true->a.eval (.tmp t)=a0.eval (.tmp t))->Below w0.heap.size w0 w->(∀i,i<n->w0.heap.size<=lo i/\lo i<=hi i/\hi i<=w.heap.size/\(sp i).post (ρ i) ((sp i).deps.map ρ) (lo i) (hi i) w)->(∀i j,i<n->j<n->i≠j->hi i<=lo j\/hi j<=lo i)->
   wpAny P .any ops Q (ops.size-n) (heads ops.size n) a w):
 wpAny P .any ops Q ops.size (Array.replicate ops.size false) a0 w0:=by
 have hs:=fun i (hi:i<ops.size)=>aaW.1 hsh i (aaJ.2 hi)
 have hlt:∀{j t},dst ops j=some t->j<ops.size:=fun {j t} h=>by
  rcases abX j ops.size with h1|h1
  .exact h1
  .unfold dst at h;rw[adn h1] at h;cases h
 have hone:∀i j t,i≠j->dst ops j=some t->dst ops i≠some t:=fun i j t hij hj hi=>by
  have h1:=hs j (hlt hj);dsimp only at h1;cases ho:ops[j]? with
  |none=>rw[ho] at h1;cases h1
  |some o=>
   have hd:o.dst=some t:=by unfold dst at hj;rw[ho] at hj;exact hj
   rw[ho] at h1;simp only[aa2] at h1;have h2:=h1.1;rw[hd] at h2;have h3:=aaW.1 h2 i (aaJ.2 (hlt hi));simp only[abR,beq_iff_eq,bne_iff_ne] at h3;rcases h3 with h3|h3
   .exact hij h3
   .exact h3 hi
 have hop:∀i,i<n->∃o,ops[i]? =some o/\o.guard=none/\(∀cs b,o.op≠.select cs b)/\
  (∀t,Operand.tmp t∈o.op.operands->∀j,j<ops.size->dst ops j=some t->j<i/\∃e∈o.after,Region.binds .any e=true/\e.on=j)/\
  (∀j∈(sp i).deps,j<i/\∃e∈o.after,Region.binds .any e=true/\e.on=j)/\(∀e∈o.after,Region.binds .any e=true->e.on<i):=fun i hi=>by
  have h1:=hs i (by omega);dsimp only at h1;cases ho:ops[i]? with
  |none=>rw[ho] at h1;cases h1
  |some o=>
   rw[ho] at h1;simp only[aa2,if_pos hi] at h1;obtain⟨_,⟨⟨⟨g1,g2⟩,g4⟩,g5⟩,g6⟩:=h1;refine⟨o,rfl,by simpa using g1,(fun cs b hsel=>by rw[hsel] at g2;cases g2),fun t ht j hj hd=> ?_,fun j hj=> ?_,fun e he hb=> ?_⟩
   .have h2:=aaW.1 g4 (.tmp t) (by simpa using ht)
    dsimp only at h2;have h3:=aaW.1 h2 j (aaJ.2 hj);simp only[abR,bne_iff_ne,aa2,decide_eq_true_eq,ab1,beq_iff_eq] at h3;rcases h3 with h3|⟨h3,e,he,h4⟩
    .exact absurd hd h3
    .exact⟨h3,e,by simpa using he,h4⟩
   .have h2:=aaW.1 g5 j hj
    simp only[aa2,decide_eq_true_eq,ab1,beq_iff_eq] at h2;obtain⟨h3,e,he,h4⟩:=h2;exact⟨h3,e,by simpa using he,h4⟩
   .have h2:=acH.1 g6 e he
    rw[hb] at h2;simpa using h2
 have Mc:∀i o,n<=i->ops[i]? =some o->∀j,j<n->∃e∈o.after,Region.binds .any e=true/\e.on=j:=fun i o hi ho j hj=>by
  have h1:=hs i (aa3.1 ho).1;dsimp only at h1;rw[ho] at h1;simp only[aa2,if_neg (Nat.not_lt.2 hi)] at h1;have h2:=aaW.1 h1.2 j (aaJ.2 hj);simp only[aa2,ab1,beq_iff_eq] at h2;obtain⟨e,he,h4⟩:=h2;exact⟨e,by simpa using he,h4⟩
 have fin:∀(listed:Array Bool),listed.size=ops.size->Region.ready .any ops listed=[]->∀i,i<n->listed.getD i false=true:=by
  intro listed hl hr i
  induction i using Nat.strongRecOn with
  |_ i ih=>
   intro hi;by_cases hb:listed.getD i false=true
   .exact hb
   .exfalso
    have hi':i<listed.size:=by omega
    have h0:listed.getD i true=false:=by
     simp[hi'] at hb ⊢;exact hb
    obtain⟨o,ho,_,_,_,_,dB⟩:=hop i hi;have hm:i∈Region.ready .any ops listed:=by
     rw[mem_ready];refine⟨h0,o,ho,fun e he hbd=> ?_⟩;have:=dB e he hbd;exact ih e.on this (by omega)
    rw[hr] at hm;cases hm
 have key:∀(fuel:Nat) (listed:Array Bool) (ρ:Nat->Value) (lo hi:Nat->Nat) (w:World),listed.size=ops.size->listed.toList.count false=fuel->Below w0.heap.size w0 w->
  (∀i,n<=i->listed.getD i false=false)->
  (∀i,i<n->listed.getD i false=true->w0.heap.size<=lo i/\lo i<=hi i/\hi i<=w.heap.size/\(sp i).post (ρ i) ((sp i).deps.map ρ) (lo i) (hi i) w/\∀j∈(sp i).deps,listed.getD j false=true)->
  (∀i j,i<n->j<n->listed.getD i false=true->listed.getD j false=true->i≠j->hi i<=lo j\/hi j<=lo i)->
  wpAny P .any ops Q fuel listed (part ops a0 ρ (fun j=>listed.getD j false) n) w:=by
  have last:∀(listed:Array Bool) (ρ:Nat->Value) (lo hi:Nat->Nat) (w:World),listed.size=ops.size->Below w0.heap.size w0 w->
   (∀i,n<=i->listed.getD i false=false)->
   (∀i,i<n->listed.getD i false=true->w0.heap.size<=lo i/\lo i<=hi i/\hi i<=w.heap.size/\(sp i).post (ρ i) ((sp i).deps.map ρ) (lo i) (hi i) w/\∀j∈(sp i).deps,listed.getD j false=true)->
   (∀i j,i<n->j<n->listed.getD i false=true->listed.getD j false=true->i≠j->hi i<=lo j\/hi j<=lo i)->
   (∀i,i<n->listed.getD i false=true)->wpAny P .any ops Q (listed.toList.count false) listed (part ops a0 ρ (fun j=>listed.getD j false) n) w:=by
   intro listed ρ lo hi w hl hb hno hg hd hall;have e:∀k,k<=n->part ops a0 ρ (fun j=>listed.getD j false) k=canon ops a0 ρ k:=by
    intro k
    induction k with
    |zero=>exact fun _=>rfl
    |succ k ih=>
     intro hk;unfold part canon;rw[ih (by omega),hall k (by omega),if_pos rfl]
   have e2:listed=heads ops.size n:=by
    apply Array.ext
    .simp[heads,hl];omega
    .intro i h1 h2
     by_cases hi:i<n
     .have:=hall i hi
      simp[h1] at this;rw[this];simp[heads,hi]
     .have:=hno i (by omega)
      simp[h1] at this;rw[this];simp[heads,List.getElem_append,hi]
   have e3:(heads ops.size n).toList.count false=ops.size-n:=by simp[heads,List.count_append,List.count_replicate]
   rw[e _ (aad _),e2,e3];exact hend ρ lo hi w _ rfl (tO n) (fun j t hj hd ht=>by
    rw[b8,jQ hd (fun i hi=>hone i j t hi hd) rfl n hj,if_pos (by rw[hN];exact ht)]) (fun t ht=>by
    rw[b8,eX n fun j hj _=>by
     have:=aaW.1 ht j (aaJ.2 hj);simpa using this]) hb (fun i hi=>by
    obtain⟨h1,h2,h3,h4,_⟩:=hg i hi (hall i hi);exact⟨h1,h2,h3,h4⟩) fun i j hi hj=>hd i j hi hj (hall i hi) (hall j hj)
  intro fuel
  induction fuel with
  |zero=>
   intro listed ρ lo hi w hl hc hb hno hg hd;have hall:∀i,i<n->listed.getD i false=true:=fun i hi=>by
    have hm:¬false∈listed.toList:=fun h=>by
     have:=acD.2 h;omega
    have hi':i<listed.size:=by omega
    by_cases gY:listed[i]=true
    .simp[hi',gY]
    .exfalso
     have e:listed[i]=false:=by simpa using gY
     exact hm (by rw[<-e];simp)
   have:=last listed ρ lo hi w hl hb hno hg hd hall;rw[hc] at this;exact this
  |succ fuel ih=>
   intro listed ρ lo hi w hl hc hb hno hg hd;by_cases hall:∀i,i<n->listed.getD i false=true
   .have:=last listed ρ lo hi w hl hb hno hg hd hall
    rw[hc] at this;exact this
   refine⟨fun hr=>absurd (fin listed hl hr) hall,fun i hi=> ?_⟩;have mj:=hi;rw[mem_ready] at hi;obtain⟨h0,o,ho,dK⟩:=hi;have abe:=(aa3.1 ho).1;have hin:i<n:=by
    rcases abX i n with h|h
    .exact h
    .exact absurd (fun j hj=>by
      obtain⟨e,he,hbd,rfl⟩:=Mc i o h ho j hj;exact dK e he hbd) hall
   have hi':i<listed.size:=by omega
   obtain⟨o',ho',hgd,hsel,hread,JC,_⟩:=hop i hin;rw[ho] at ho';cases ho';have fj:listed.getD i false=false:=by
    simp[hi'] at h0 ⊢;exact h0
   have oN:∀j∈(sp i).deps,listed.getD j false=true:=fun j hj=>by
    obtain⟨_,e,he,hbd,rfl⟩:=JC j hj;exact dK e he hbd
   have hev:execOp (part ops a0 ρ (fun j=>listed.getD j false) n).eval o=execOp (canon ops a0 ρ i).eval o:=by
    refine execOp_congr o hsel fun x hx=> ?_
    cases x with
    |tmp t=>
     refine mC (fun i j hij=>hone i j t hij) (by omega) fun j hj hd=> ?_
     obtain⟨h1,e,he,hbd,rfl⟩:=hread t hx j (by omega) hd;exact⟨h1,dK e he hbd⟩
    |_=>rfl
   have qE:=hstep i o ρ w (canon ops a0 ρ i).eval hin ho hb (fun j hj=>by
    have hjl:=(JC j hj).1;obtain⟨h1,h2,h3,h4,_⟩:=hg j (by omega) (oN j hj);exact⟨lo j,hi j,h1,h2,h3,h4⟩) (fun j t hj hd ht=>by
    rw[b8,jQ hd (fun i hi=>hone i j t hi hd) rfl i hj,if_pos (by rw[hN];exact ht)]) (fun t ht=>by
    rw[b8,eX i fun j hj _=>by
     have:=aaW.1 ht j (aaJ.2 hj);simpa using this]) (fun v=>rfl)
   unfold wpOp;rw[ho];dsimp only;have hw:Region.wanted o (yielded ops (part ops a0 ρ (fun j=>listed.getD j false) n).tmps)=true:=by
    unfold Region.wanted;rw[hgd]
   rw[if_pos hw];refine .inl ?_;have ur:dM P o (part ops a0 ρ (fun j=>listed.getD j false) n).eval w fun v w'=>Below w.heap.size w w'/\(sp i).post v ((sp i).deps.map ρ) w.heap.size w'.heap.size w':=by
    unfold dM at qE ⊢;rw[hev];exact qE
   refine ur.wp fun v w' hv=> ?_
   obtain⟨cm,hpost⟩:=hv;have BU:o.dst=dst ops i:=by unfold dst;rw[ho];rfl
   have eD:∀j,(listed.setIfInBounds i true).getD j false=if j=i then true else listed.getD j false:=fun j=>by
    by_cases e:j=i
    .subst e
     rw[if_pos rfl];simp[hi']
    .rw[if_neg e]
     exact getD_set_ne false (fun h=>e h.symm)
   rw[BU,rK hone fj hin,mA (L':=fun j=>(listed.setIfInBounds i true).getD j false) (ρ':=upd ρ i v) (fun j=>(eD j).symm) (fun _ _=>rfl)];have hsz:=cm.size;have hb0:=hb.size;have Rm:∀j,j≠i->listed.getD j false=true->(∀k∈(sp j).deps,listed.getD k false=true)->(sp j).deps.map (upd ρ i v)=(sp j).deps.map ρ:=fun j hj hjl hk=>by
    refine abT fun k hkm=> ?_
    unfold upd;rw[if_neg];intro e;subst e;rw[hk k hkm] at fj;cases fj
   have Gt:(sp i).deps.map (upd ρ i v)=(sp i).deps.map ρ:=abT fun k hkm=>by
    unfold upd;rw[if_neg];intro e;subst e;rw[oN k hkm] at fj;cases fj
   refine ih (listed.setIfInBounds i true) (upd ρ i v) (tj lo i w.heap.size) (tj hi i w'.heap.size) w' (by simpa using hl) ?_ (hb.trans (cm.mono hb0)) (fun j hj=>by rw[eD,if_neg (by omega)];exact hno j hj) ?_ ?_
   .rw[ac5]
    have hi2:i<listed.toList.length:=by simpa using hi'
    have e:listed.toList[i]=false:=by
     simp[hi'] at h0;simpa using h0
    have hpos:0<listed.toList.count false:=acD.2 (by rw[<-e];exact acG hi2);rw[aek hi2,e,if_pos (by decide),if_neg (by decide)];omega
   .intro j hj hjl
    rw[eD] at hjl;by_cases e:j=i
    .subst e
     unfold tj;rw[if_pos rfl,if_pos rfl];refine⟨hb0,hsz,aad _,?_,fun k hk=>by rw[eD];split;rfl;exact oN k hk⟩;rw[Gt];unfold upd;rw[if_pos rfl];exact hpost
    .rw[if_neg e] at hjl
     obtain⟨h1,h2,h3,h4,h5⟩:=hg j hj hjl;unfold tj;rw[if_neg e,if_neg e];refine⟨h1,h2,by omega,?_,fun k hk=>by rw[eD];split;rfl;exact h5 k hk⟩;rw[Rm j e hjl h5];unfold upd;rw[if_neg e];exact LQ j hj _ _ _ _ w w' h3 cm h4
   .intro j k hj hk hjl hkl hjk
    rw[eD] at hjl hkl;unfold tj;by_cases e:j=i
    .subst e
     rw[if_neg (fun h=>hjk h.symm)] at hkl;rw[if_pos rfl,if_pos rfl,if_neg (fun h=>hjk h.symm),if_neg (fun h=>hjk h.symm)];exact .inr (hg k hk hkl).2.2.1
    .rw[if_neg e] at hjl
     by_cases e2:k=i
     .subst e2
      rw[if_neg e,if_neg e,if_pos rfl,if_pos rfl];exact .inl (hg j hj hjl).2.2.1
     .rw[if_neg e2] at hkl
      rw[if_neg e,if_neg e,if_neg e2,if_neg e2];exact hd j k hj hk hjl hkl hjk
 have hnone:∀j,(Array.replicate ops.size false).getD j false=false:=fun j=>by by_cases hk:j<ops.size<;>simp[hk]
 have h0:part ops a0 (fun _=>undef) (fun j=>(Array.replicate ops.size false).getD j false) n=a0:=by
  have:∀k,part ops a0 (fun _=>undef) (fun j=>(Array.replicate ops.size false).getD j false) k=a0:=by
   intro k
   induction k with
   |zero=>rfl
   |succ k ih=>
    unfold part;rw[ih,hnone k,if_neg (by decide)]
  exact this _
 have hk:=key ops.size (Array.replicate ops.size false) (fun _=>undef) (fun _=>0) (fun _=>0) w0 (by simp) (by simp) (aae _ _) (fun i _=>hnone i) (fun i _ h=>by rw[hnone i] at h;cases h) (fun i _ _ _ h=>by rw[hnone i] at h;cases h);rw[h0] at hk;exact hk
end aP
end
section
open Go.RowKit
namespace aP
def bS (L:Nat->Bool) (i:Nat):Nat->Bool:=fun j=>if j=i then true else L j
theorem nD {ops:Array Oper} {a0:Act} {ρ:Nat->Value} {L:Nat->Bool}:∀{k:Nat},(∀i,i<k->L i=true)->part ops a0 ρ L k=canon ops a0 ρ k
 |0,_=>rfl
 |k+1,h=>by
  unfold part canon;rw[if_pos (h k (by omega)),nD fun i hi=>h i (by omega)]
theorem acd {P:Program} {ops:Array Oper} {Q:Exit->Act->World->Prop} {a0:Act} {w0:World} (val:Nat->Value) (C:(Nat->Bool)->World->Prop) (N:Nat) (hN:a0.tmps.size=N) (hsh:shape ops ops.size (fun _=>[])=true)
 (DT:C (fun _=>false) w0)
 (hstep:∀i o (L:Nat->Bool) w (ev:Operand->Value),ops[i]? =some o->L i=false->C L w->(∀e∈o.after,Region.binds .any e=true->L e.on=true)->(∀j o',ops[j]? =some o'->L j=true->∀e∈o'.after,Region.binds .any e=true->L e.on=true)->
   (∀j t,j<i->dst ops j=some t->t<N->ev (.tmp t)=val j)->(∀t,((List.range i).all fun j=>dst ops j != some t)=true->ev (.tmp t)=a0.eval (.tmp t))->(∀v,ev (.const v)=v)->(∀f,ev (.func f)= .func (.func f) #[] #[])->
   dM P o ev w fun v w'=>v=val i/\C (bS L i) w')
 (hend:∀L w,(∀i,i<ops.size->L i=true)->C L w->Q .normal (canon ops a0 val ops.size) w):
 wpAny P .any ops Q ops.size (Array.replicate ops.size false) a0 w0:=by
 have hs:=fun i (hi:i<ops.size)=>aaW.1 hsh i (aaJ.2 hi)
 have hlt:∀{j t},dst ops j=some t->j<ops.size:=fun {j t} h=>by
  rcases abX j ops.size with h1|h1
  .exact h1
  .unfold dst at h;rw[adn h1] at h;cases h
 have hone:∀i j t,i≠j->dst ops j=some t->dst ops i≠some t:=fun i j t hij hj hi=>by
  have h1:=hs j (hlt hj);dsimp only at h1;cases ho:ops[j]? with
  |none=>rw[ho] at h1;cases h1
  |some o=>
   have hd:o.dst=some t:=by unfold dst at hj;rw[ho] at hj;exact hj
   rw[ho] at h1;simp only[aa2] at h1;have h2:=h1.1;rw[hd] at h2;have h3:=aaW.1 h2 i (aaJ.2 (hlt hi));simp only[abR,beq_iff_eq,bne_iff_ne] at h3;rcases h3 with h3|h3
   .exact hij h3
   .exact h3 hi
 have hop:∀i,i<ops.size->∃o,ops[i]? =some o/\o.guard=none/\(∀cs b,o.op≠.select cs b)/\
  (∀t,Operand.tmp t∈o.op.operands->∀j,j<ops.size->dst ops j=some t->j<i/\∃e∈o.after,Region.binds .any e=true/\e.on=j)/\(∀e∈o.after,Region.binds .any e=true->e.on<i):=fun i hi=>by
  have h1:=hs i hi;dsimp only at h1;cases ho:ops[i]? with
  |none=>rw[ho] at h1;cases h1
  |some o=>
   rw[ho] at h1;simp only[aa2,if_pos hi] at h1;obtain⟨_,⟨⟨⟨g1,g2⟩,g4⟩,_⟩,g6⟩:=h1;refine⟨o,rfl,by simpa using g1,(fun cs b hsel=>by rw[hsel] at g2;cases g2),fun t ht j hj hd=> ?_,fun e he hb=> ?_⟩
   .have h2:=aaW.1 g4 (.tmp t) (by simpa using ht)
    dsimp only at h2;have h3:=aaW.1 h2 j (aaJ.2 hj);simp only[abR,bne_iff_ne,aa2,decide_eq_true_eq,ab1,beq_iff_eq] at h3;rcases h3 with h3|⟨h3,e,he,h4⟩
    .exact absurd hd h3
    .exact⟨h3,e,by simpa using he,h4⟩
   .have h2:=acH.1 g6 e he
    rw[hb] at h2;simpa using h2
 have fin:∀(listed:Array Bool),listed.size=ops.size->Region.ready .any ops listed=[]->∀i,i<ops.size->listed.getD i false=true:=by
  intro listed hl hr i
  induction i using Nat.strongRecOn with
  |_ i ih=>
   intro hi;by_cases hb:listed.getD i false=true
   .exact hb
   .exfalso
    have hi':i<listed.size:=by omega
    have h0:listed.getD i true=false:=by
     simp[hi'] at hb ⊢;exact hb
    obtain⟨o,ho,_,_,_,dB⟩:=hop i hi;have hm:i∈Region.ready .any ops listed:=by
     rw[mem_ready];refine⟨h0,o,ho,fun e he hbd=> ?_⟩;have:=dB e he hbd;exact ih e.on this (by omega)
    rw[hr] at hm;cases hm
 have key:∀(fuel:Nat) (listed:Array Bool) (w:World),listed.size=ops.size->listed.toList.count false=fuel->C (fun j=>listed.getD j false) w->(∀j o',ops[j]? =some o'->listed.getD j false=true->∀e∈o'.after,Region.binds .any e=true->listed.getD e.on false=true)->
  wpAny P .any ops Q fuel listed (part ops a0 val (fun j=>listed.getD j false) ops.size) w:=by
  intro fuel
  induction fuel with
  |zero=>
   intro listed w hl hc hC hdc;have hall:∀i,i<ops.size->listed.getD i false=true:=fun i hi=>by
    have hm:¬false∈listed.toList:=fun h=>by
     have:=acD.2 h;omega
    have hi':i<listed.size:=by omega
    by_cases gY:listed[i]=true
    .simp[hi',gY]
    .exfalso
     have e:listed[i]=false:=by simpa using gY
     exact hm (by rw[<-e];simp)
   refine⟨?_,by rw[nD hall];exact hend _ _ hall hC⟩;refine aei.2 fun i hi=> ?_
   rw[mem_ready] at hi;obtain⟨h0,o,ho,_⟩:=hi;have h1:=hall i (aa3.1 ho).1;have hi':i<listed.size:=by have:=(aa3.1 ho).1;omega
   simp[hi'] at h0 h1;rw[h0] at h1;cases h1
  |succ fuel ih=>
   intro listed w hl hc hC hdc;refine⟨fun hr=>by rw[nD (fin listed hl hr)];exact hend _ _ (fin listed hl hr) hC,fun i hi=> ?_⟩;rw[mem_ready] at hi;obtain⟨h0,o,ho,dK⟩:=hi;have hin:=(aa3.1 ho).1;have hi':i<listed.size:=by omega
   obtain⟨o',ho',hgd,hsel,hread,_⟩:=hop i hin;rw[ho] at ho';cases ho';have fj:listed.getD i false=false:=by
    simp[hi'] at h0 ⊢;exact h0
   have hev:execOp (part ops a0 val (fun j=>listed.getD j false) ops.size).eval o=execOp (canon ops a0 val i).eval o:=by
    refine execOp_congr o hsel fun x hx=> ?_
    cases x with
    |tmp t=>
     refine mC (fun i j hij=>hone i j t hij) (by omega) fun j hj hd=> ?_
     obtain⟨h1,e,he,hbd,rfl⟩:=hread t hx j (by omega) hd;exact⟨h1,dK e he hbd⟩
    |_=>rfl
   have qE:=hstep i o (fun j=>listed.getD j false) w (canon ops a0 val i).eval ho fj hC dK hdc (fun j t hj hd ht=>by
    rw[b8,jQ hd (fun i hi=>hone i j t hi hd) rfl i hj,if_pos (by rw[hN];exact ht)]) (fun t ht=>by
    rw[b8,eX i fun j hj _=>by
     have:=aaW.1 ht j (aaJ.2 hj);simpa using this]) (fun v=>rfl) (fun f=>rfl)
   unfold wpOp;rw[ho];dsimp only;have hw:Region.wanted o (yielded ops (part ops a0 val (fun j=>listed.getD j false) ops.size).tmps)=true:=by
    unfold Region.wanted;rw[hgd]
   rw[if_pos hw];refine .inl ?_;have ur:dM P o (part ops a0 val (fun j=>listed.getD j false) ops.size).eval w fun v w'=>v=val i/\C (bS (fun j=>listed.getD j false) i) w':=by
    unfold dM at qE ⊢;rw[hev];exact qE
   refine ur.wp fun v w' hv=> ?_
   obtain⟨rfl,Gx⟩:=hv;have BU:o.dst=dst ops i:=by unfold dst;rw[ho];rfl
   have eD:∀j,(listed.setIfInBounds i true).getD j false=if j=i then true else listed.getD j false:=fun j=>by
    by_cases e:j=i
    .subst e
     rw[if_pos rfl];simp[hi']
    .rw[if_neg e]
     exact getD_set_ne false (fun h=>e h.symm)
   rw[BU,rK hone fj hin,mA (L':=fun j=>(listed.setIfInBounds i true).getD j false) (ρ':=val) (fun j=>(eD j).symm) (fun j _=>by unfold upd;split;rename_i e;rw[e];rfl)];refine ih (listed.setIfInBounds i true) w' (by simpa using hl) ?_ ?_ ?_
   .rw[ac5]
    have hi2:i<listed.toList.length:=by simpa using hi'
    have e:listed.toList[i]=false:=by
     simp[hi'] at h0;simpa using h0
    have hpos:0<listed.toList.count false:=acD.2 (by rw[<-e];exact acG hi2);rw[aek hi2,e,if_pos (by decide),if_neg (by decide)];omega
   .have e:(fun j=>(listed.setIfInBounds i true).getD j false)=bS (fun j=>listed.getD j false) i:=funext fun j=>by rw[eD];rfl
    rw[e];exact Gx
   .intro j o' hj hjl e he iN
    rw[eD] at hjl ⊢;by_cases e1:e.on=i
    .rw[if_pos e1]
    .rw[if_neg e1]
     by_cases e2:j=i
     .subst e2
      rw[ho] at hj;cases hj;exact dK e he iN
     .rw[if_neg e2] at hjl
      exact hdc j o' hj hjl e he iN
 have hnone:∀j,(Array.replicate ops.size false).getD j false=false:=fun j=>by by_cases hk:j<ops.size<;>simp[hk]
 have h0:part ops a0 val (fun j=>(Array.replicate ops.size false).getD j false) ops.size=a0:=by
  have:∀k,part ops a0 val (fun j=>(Array.replicate ops.size false).getD j false) k=a0:=by
   intro k
   induction k with
   |zero=>rfl
   |succ k ih=>
    unfold part;rw[ih,hnone k,if_neg (by decide)]
  exact this _
 have hk:=key ops.size (Array.replicate ops.size false) w0 (by simp) (by simp) (by rw[show(fun j=>(Array.replicate ops.size false).getD j false)=fun _=>false from funext hnone];exact DT) (fun j o' _ h=>by rw[hnone j] at h;cases h);rw[h0] at hk;exact hk
end aP
end
section
open Go.RowKit
namespace AnyM
def iM (A:World):List (Nat×World)->(Nat->Bool)->World->Prop
 |[],_,V=>V=A
 |(k,w)::r,L,V=>if L k=true then V=w else iM A r L V
theorem other {A:World} {i:Nat}:∀{r:List (Nat×World)} {L:Nat->Bool} {V:World},(r.all fun q=>q.1 != i)=true->iM A r L V->iM A r (aP.bS L i) V
 |[],_,_,_,h=>h
 |(k,w)::r,L,V,hk,h=>by
  rw[List.all_cons,aa2] at hk;have e1:aP.bS L i k=L k:=if_neg (fun e=>by simp[e] at hk);unfold iM at h ⊢;rw[e1]
  split
  .rename_i hl
   rw[if_pos hl] at h;exact h
  .rename_i hl
   rw[if_neg hl] at h;exact other hk.2 h
theorem gv {P:Program} {o:Oper} {ev:Operand->Value} {v:Value} {i:Nat} {A:World} {r:List (Nat×World)} {L:Nat->Bool} {V:World} (hC:iM A r L V) (h:(execOp ev o).run P V= .ok (.value v) V) (hr:(r.all fun q=>q.1 != i)=true):aP.dM P o ev V fun u w'=>u=v/\iM A r (aP.bS L i) w':=aP.aD h ⟨rfl,other hr hC⟩
end AnyM
namespace aP
end aP
end
section
open Go.RowKit Go.Sort
theorem bB {ops:Array Oper} {rest:List Oper} {o:Oper} {a:Act} {Q:Exit->Act->World->Prop} (hgd:o.guard=none) (s x:Operand)
 (ho:o.op= .call { callee:= .builtin .append,args:= #[s,x],argTypes:= #[55,55] }) (W:World) (B:Nat) (v:Value) (l:List Int) (z:Int) (hown:aj W B v l)
 (hB:B<=W.heap.size) (hl:l.length<=17592186044000) (hs:a.eval s=v) (hx:a.eval x= .slice (some ⟨W.heap.size,0,none⟩) 1 1)
 (h:∀v' w',aj w' B v' (l++[z])->(W.alloc (.cells #[.int .i64 z] 3)).grownBy w' v.ownBlock->(v'.ownBlock=v.ownBlock\/v'.ownBlock=some (W.heap.size+1))->Below B W w'->wpList Tryz.prog ops Q rest (a.put o.dst v') w'):
 wpList Tryz.prog ops Q (o::rest) a (W.alloc (.cells #[.int .i64 z] 3)):=by
 obtain⟨i0,hi,hz0,hz1,hz2⟩:=info_parts Tryz.b7;have hb0:Below B W (W.alloc (.cells #[.int .i64 z] 3)):=(aae _ _).alloc hB _;refine wpList_append_own_at _ hgd s x 55 ho B 3 i0 (.int .i64 0) 1 8 Tryz.underlying55 hi hz0 hz1 hz2 rfl (by decide) _ _ _ hs (abH hown _) ⟨W.heap.size,0,none⟩ 1 1 [.int .i64 z] hx rfl (cell_one_new _ _ _) (by simp[Value.oneCell']) (by unfold maxLen;omega) (by omega) (by simp;omega) ?_;intro v' w' hown' hg _ hat;have ho':aj w' B v' (l++[z]):=by
  unfold aj;rw[aar,abj];exact hown'
 have Pq:∀b,v.ownBlock=some b->B<=b:=fun b hb=>(aap hown b hb).1
 refine h v' w' ho' hg (by simpa using hat) (hb0.grown hg (by simp;omega) Pq)
end
namespace Nu
def pre (ts:List Tok):Except (Nat×Int) (List Tok)->Except (Nat×Int) (List Tok)
 | .error x=> .error x
 | .ok us=> .ok (ts++us)
theorem pre_nil (r:Except (Nat×Int) (List Tok)):pre [] r=r:=by cases r<;>rfl
theorem QN (a b:List Tok) (r:Except (Nat×Int) (List Tok)):pre a (pre b r)=pre (a++b) r:=by cases r<;>simp[pre]
theorem iL {g:Nat->Int} {n p:Nat} {x:Nat×Int} (k:Nat) (h:next g n p= .error x):dh g n (k+1) p= .error x:=by simp[dh,h]
theorem jP {g:Nat->Int} {n p p':Nat} {t:Tok} (k:Nat) (h:next g n p= .ok (t,p')) (h3:t.kind=3):dh g n (k+1) p= .ok [t]:=by simp[dh,h,h3]
theorem jO {g:Nat->Int} {n p p':Nat} {t:Tok} (k:Nat) (h:next g n p= .ok (t,p')) (h3:t.kind≠3):dh g n (k+1) p=pre [t] (dh g n k p'):=by
 simp only[dh,h,if_neg h3];cases dh g n k p'<;>rfl
theorem jT {g:Nat->Int} {n p p':Nat} {t:Tok} (hp:p<=n) (h:next g n p= .ok (t,p')):p'<=n/\(t.kind≠3->p<p'):=by
 have hs:=iK av g n p hp;by_cases h1:skip av g n p=n
 .rw[h1] at hs
  rw[nK hs] at h;cases h;exact⟨aad _,fun h=>absurd rfl h⟩
 .have hlt:skip av g n p<n:=adI hs.hi h1
  have hlo:=hs.lo;cases hd:isDigit (g (skip av g n p))
  .by_cases h10:g (skip av g n p)=10
   .rw[lG hs hlt h10] at h
    cases h;exact⟨hlt,fun _=>by omega⟩
   .rw[lI hs hlt hd h10] at h
    cases h
  .have hr:=iK isDigit g n (skip av g n p) hs.hi
   have hrl:skip av g n p<skip isDigit g n (skip av g n p):=by
    rcases abX (skip av g n p) (skip isDigit g n (skip av g n p)) with h'|h'
    .exact h'
    .have e:=aee hr.lo h'
     have:=hr.stop (by rw[<-e];exact hlt);rw[<-e,hd] at this;cases this
   by_cases hb:9<skip isDigit g n (skip av g n p)-skip av g n p\/(1<skip isDigit g n (skip av g n p)-skip av g n p/\g (skip av g n p)=48)
   .rw[nL hs hlt hd hr hb] at h
    cases h
   .rw[nJ hs hlt hd hr hb] at h
    cases h;exact⟨hr.hi,fun _=>by omega⟩
theorem Bd {g:Nat->Int} {n p p':Nat} {t:Tok} (hp:p<=n) (h:next g n p= .ok (t,p')):
 (t.kind=1\/t.kind=2\/t.kind=3)/\0<=t.at'/\t.at'<=n/\0<=t.fin/\t.fin<=n/\0<=t.num/\t.num<1000000000:=by
 have hs:=iK av g n p hp;have hhi:=hs.hi;by_cases h1:skip av g n p=n
 .rw[h1] at hs
  rw[nK hs] at h;cases h;exact⟨by simp,by simp⟩
 .have hlt:skip av g n p<n:=adI hs.hi h1
  cases hd:isDigit (g (skip av g n p))
  .by_cases h10:g (skip av g n p)=10
   .rw[lG hs hlt h10] at h
    cases h;refine⟨by simp,?_⟩;dsimp only;omega
   .rw[lI hs hlt hd h10] at h
    cases h
  .have hr:=iK isDigit g n (skip av g n p) hs.hi
   have agG:=hr.hi;by_cases hb:9<skip isDigit g n (skip av g n p)-skip av g n p\/(1<skip isDigit g n (skip av g n p)-skip av g n p/\g (skip av g n p)=48)
   .rw[nL hs hlt hd hr hb] at h
    cases h
   .rw[nJ hs hlt hd hr hb] at h
    cases h;have hv:=Eg g (skip av g n p) (skip isDigit g n (skip av g n p)-skip av g n p) (by omega) (fun i hi=>by
     have:=hr.all (skip av g n p+i) (by omega) (by omega);simpa[isDigit] using this)
    refine⟨by simp,?_⟩;dsimp only;omega
theorem H7 {g:Nat->Int} {n:Nat} {k p:Nat} {t:Tok} {ts:List Tok} (hp:p<=n) (h:dh g n k p= .ok (t::ts)):
 ∃p',next g n p= .ok (t,p')/\p'<=n/\∃k',dh g n k' p'= .ok ts:=by
 cases k with
 |zero=>simp[dh] at h
 |succ k=>
  cases hx:next g n p with
  |error x=>rw[iL k hx] at h;cases h
  |ok y=>
   obtain⟨u,p'⟩:=y;have hm:=jT hp hx;by_cases h3:u.kind=3
   .rw[jP k hx h3] at h
    cases h;exact⟨p',rfl,hm.1,0,rfl⟩
   .rw[jO k hx h3] at h
    cases hr:dh g n k p' with
    |error x=>rw[hr] at h;cases h
    |ok us=>
     rw[hr] at h;simp only[pre,Except.ok.injEq,abm,abi,ac0] at h;obtain⟨rfl,rfl⟩:=h;exact⟨p',rfl,hm.1,k,hr⟩
theorem tv {g:Nat->Int} {n:Nat}:∀{k p:Nat} {ts:List Tok},p<=n->dh g n k p= .ok ts->ts.length<=n-p+1
 |0,p,ts,_,h=>by simp[dh] at h;subst h;simp
 |k+1,p,ts,hp,h=>by
  cases hx:next g n p with
  |error x=>rw[iL k hx] at h;cases h
  |ok y=>
   obtain⟨u,p'⟩:=y;have hm:=jT hp hx;by_cases h3:u.kind=3
   .rw[jP k hx h3] at h
    cases h;simp
   .rw[jO k hx h3] at h
    cases hr:dh g n k p' with
    |error x=>rw[hr] at h;cases h
    |ok us=>
     rw[hr] at h;cases h;have ih:=tv hm.1 hr;have:=hm.2 h3;simp;omega
theorem vv {g:Nat->Int} {n:Nat} {ts:List Tok} (h:scan g n= .ok ts):ts.length<=n+1:=by
 have:=tv (aax _) h;omega
end Nu
section
namespace Nu
section
variable {g ga gb:Nat->Int} {n na nb:Nat}
def Tok.on (m:Nat) (t:Tok):Tok:=⟨t.kind,t.at'+m,t.fin+m,t.num⟩
def on (m:Nat):Except (Nat×Int) (List Tok)->Except (Nat×Int) (List Tok)
 | .error x=> .error (x.1+m,x.2)
 | .ok ts=> .ok (ts.map (Tok.on m))
end
end Nu
end
namespace Nu
theorem LG {g:Nat->Int} {n p:Nat} {x:Nat×Int} (hp:p<=n) (h:next g n p= .error x):(x.2=11\/x.2=12)/\x.1<n:=by
 have hs:=iK av g n p hp;by_cases h1:skip av g n p=n
 .rw[h1] at hs
  rw[nK hs] at h;cases h
 .have hlt:skip av g n p<n:=adI hs.hi h1
  cases hd:isDigit (g (skip av g n p))
  .by_cases h10:g (skip av g n p)=10
   .rw[lG hs hlt h10] at h
    cases h
   .rw[lI hs hlt hd h10] at h
    cases h;exact⟨.inl rfl,hlt⟩
  .have hr:=iK isDigit g n (skip av g n p) hs.hi
   by_cases hb:9<skip isDigit g n (skip av g n p)-skip av g n p\/(1<skip isDigit g n (skip av g n p)-skip av g n p/\g (skip av g n p)=48)
   .rw[nL hs hlt hd hr hb] at h
    cases h;exact⟨.inr rfl,hlt⟩
   .rw[nJ hs hlt hd hr hb] at h
    cases h
theorem yx {g:Nat->Int} {n:Nat} {x:Nat×Int}:∀{k p:Nat},p<=n->dh g n k p= .error x->(x.2=11\/x.2=12)/\x.1<n
 |0,p,_,h=>by simp[dh] at h
 |k+1,p,hp,h=>by
  cases hx:next g n p with
  |error y=>
   rw[iL k hx] at h;cases h;exact LG hp hx
  |ok y=>
   obtain⟨u,p'⟩:=y;have hm:=jT hp hx;by_cases h3:u.kind=3
   .rw[jP k hx h3] at h
    cases h
   .rw[jO k hx h3] at h
    cases hr:dh g n k p' with
    |error y=>
     rw[hr] at h;cases h;exact yx hm.1 hr
    |ok us=>rw[hr] at h;cases h
theorem AR {g:Nat->Int} {n:Nat} {x:Nat×Int} (h:scan g n= .error x):(x.2=11\/x.2=12)/\x.1<n:=yx (aax _) h
end Nu
namespace Nu
def ofBytes (l:List UInt8):Nat->Int:=fun i=>((l.getD i 0).toNat:Int)
theorem Dn (a b:List UInt8) (i:Nat) (h:i<a.length):ofBytes (a++b) i=ofBytes a i:=by
 simp[ofBytes,aaH h]
theorem Vg {u:Nat} (h:0<u):ofBytes (Lib.decDigits u) 0≠48:=by
 induction u using Nat.strongRecOn with
 |_ u ih=>
  by_cases h9:u<10
  .rw[Lib.decDigits_one h9]
   simp[ofBytes];omega
  .have hne:0<(Lib.decDigits (u/10)).length:=by
    rw[aeg];unfold Lib.nDigits
    split<;>omega
   rw[Lib.decDigits,dif_neg h9,Dn _ _ _ hne];exact ih (u/10) (by omega) (by omega)
theorem yI:∀(k u:Nat),u<10 ^ (k+1)->Lib.nDigits u<=k+1
 |0,u,h=>by unfold Lib.nDigits;rw[dif_pos (by omega)];exact aad _
 |k+1,u,h=>by
  unfold Lib.nDigits
  split
  .omega
  .have:=yI k (u/10) (by rw[Nat.pow_succ] at h;omega)
   omega
theorem DX {u:Nat} (h:u<=999999999):(Lib.decDigits u).length<=9:=by
 rw[aeg];exact yI 8 u (by omega)
theorem GF (u:Nat):0<(Lib.decDigits u).length:=by
 rw[aeg];unfold Lib.nDigits
 split<;>omega
theorem I6 {x:Int} (h0:0<=x):Lib.itoa x=Lib.decDigits x.toNat:=by unfold Lib.itoa;rw[if_neg (by omega)]
section
end
end Nu
section
namespace Ce
open Nu
structure Cert where
 pl:Bool
 ar:List (List Int)
 es:List (Int×Int)
def zero:Cert:=⟨false,[],[]⟩
section
variable (B:Nat->Int) (n:Nat)
def J6 (i:Nat):Nat:=skip isDigit B n i
def LD (i:Nat):Prop:=i<J6 B n i/\J6 B n i-i<=9/\(J6 B n i-i=1\/B i≠48)
instance (i:Nat):Decidable (LD B n i):=by unfold LD;infer_instance
def num (i:Nat):Option (Int×Nat):=if LD B n i then some (val B i (J6 B n i-i),J6 B n i) else none
def VI:Nat->List Int->Nat->Except Nat (List Int×Nat)
 |0,_,i=> .error i
 |f+1,l,i=>match num B n i with
  |none=> .error i
  |some (v,k)=>if l≠[]/\v<l.headD 0 then .error i else if B k=10 then .ok (l++[v],k+1) else if B k=32 then VI f (l++[v]) (k+1) else .error k
def sD (i:Nat):Except Nat (List Int×Nat):=if B i=10 then .ok ([],i+1) else VI B n (n+1) [] i
def edg (i:Nat) (last:Int×Int):Except Nat ((Int×Int)×Nat):=
 match num B n i with
 |none=> .error i
 |some (u,k)=>if B k≠32 then .error k else match num B n (k+1) with
  |none=> .error (k+1)
  |some (v,e)=>if v<=u then .error (k+1) else if u<last.1\/(u=last.1/\v<=last.2) then .error i else if B e≠10 then .error e else .ok ((u,v),e+1)
def xP:Nat->List (Int×Int)->Int×Int->Nat->Except Nat (List (Int×Int)×Nat)
 |0,es,_,i=> .ok (es,i)
 |k+1,es,last,i=>match edg B n i last with
  | .error e=> .error e
  | .ok (p,j)=>xP k (es++[p]) p j
end
def dg (x:Int):List UInt8:=Lib.decDigits x.toNat
def jn:List Int->List UInt8
 |[]=>[]
 |[x]=>dg x
 |x::y::r=>dg x++32::jn (y::r)
def bU (l:List Int):List UInt8:=jn l++[10]
def gZ (p:Int×Int):List UInt8:=dg p.1++32::(dg p.2++[10])
def uM (c:Cert):List UInt8:=if c.pl then c.ar.flatMap bU else c.es.flatMap gZ
def Cw (c:Cert):Nat:=if c.pl then c.ar.length else c.es.length
def eA (c:Cert):List UInt8:=[if c.pl then 112 else 110,32]++(dg (Cw c)++10::uM c)
def dH (x:Int):Prop:=0<=x/\x<=999999999
def Iy (l:List Int):Prop:=∀x∈l,dH x/\l.headD 0<=x
def OT (es:List (Int×Int)):Prop:=(∀p∈es,dH p.1/\dH p.2/\p.1<p.2)/\∀i p q,es[i]? =some p->es[i+1]? =some q->p.1<q.1\/(p.1=q.1/\p.2<q.2)
def good (c:Cert):Prop:=if c.pl then c.es=[]/\(∀l∈c.ar,Iy l)/\c.ar.length<=1048576 else c.ar=[]/\OT c.es/\c.es.length<=4194304
theorem J5 (x:Int):0<(dg x).length:=GF _
theorem kZ {x:Int} (h:dH x):(dg x).length<=9:=DX (by have:=h.1;have:=h.2;omega)
end Ce
end
section
namespace Ce
open Nu
section
variable {B:Nat->Int} {n:Nat}
def Up (last:Int×Int):List (Int×Int)->Prop
 |[]=>True
 |p::es=>(dH p.1/\dH p.2/\p.1<p.2)/\(last.1<p.1\/(last.1=p.1/\last.2<p.2))/\Up p es
end
end Ce
end
section
open Go.RowKit
def Hh (w:World) (B:Nat) (v:Value) (c:Ce.Cert):Prop:=∃va ve vs,v= .agg #[.bool c.pl,va,ve]/\ay w B va vs c.ar/\bD w B ve c.es
section
variable {w W W':World} {pl:Bool} {va ve:Value} {vs:List Value} {ls:List (List Int)} {es:List (Int×Int)} {la lb:Int}
theorem bw {b:Nat} {t:TypeId} {x y z:Value} (h:W.heap[b]? =some (.cells #[x,y,z] t (0,0))):W.cell? ⟨b,0,none⟩=some x/\W.cell? ⟨b,1,none⟩=some y/\W.cell? ⟨b,2,none⟩=some z/\∀i,W.frozen? ⟨b,i,none⟩=false:=by
 simp[World.cell?,World.frozen?,h]
theorem gi {b:Nat} {t:TypeId} {x y:Value} (h:W.heap[b]? =some (.cells #[x,y] t (0,0))):W.cell? ⟨b,0,none⟩=some x/\W.cell? ⟨b,1,none⟩=some y/\∀i,W.frozen? ⟨b,i,none⟩=false:=by
 simp[World.cell?,World.frozen?,h]
theorem vq {b:Nat} {t:TypeId} {x y z:Value} (h:W.heap[b]? =some (.cells #[x,y,z] t (0,0))) (x' y' z':Value):(((W.setCell ⟨b,0,none⟩ x').setCell ⟨b,1,none⟩ y').setCell ⟨b,2,none⟩ z').heap[b]? =some (.cells #[x',y',z'] t (0,0)):=by
 rw[heap_setCell_same _ b 2 _ _ _ (heap_setCell_same _ b 1 _ _ _ (heap_setCell_same W b 0 _ _ _ h))];simp
end
end
section
open Go.RowKit
namespace Ce
def fC (w:World) (ao:Option Addr) (ls:List (List Int)):Prop:=∀(k:Nat) (l:List Int),ls[k]? =some l->∃b o xa xc,ao=some ⟨b,o,none⟩/\w.cell? ⟨b,o+k,none⟩=some (.slice xa l.length xc)/\aU w xa l
theorem fC.later {w w':World} {ao:Option Addr} {ls:List (List Int)} (h:fC w ao ls) (hb:Below w.heap.size w w'):fC w' ao ls:=fun k l hl=>by
 obtain⟨b,o,xa,xc,e,hc,hs⟩:=h k l hl;exact⟨b,o,xa,xc,e,(hb.cell (p:=⟨b,o+k,none⟩) (block_lt_of_cell hc)).trans hc,hs.later hb⟩
def yG (ls:List (List Int)):Prop:=(∀l∈ls,Iy l)/\ls.length<=1048576
def kj (es:List (Int×Int)):Prop:=OT es/\es.length<=4194304
def Says (e:Ending) (p:Prop):Prop:=∃t,e= .returned (.bool t)/\(t=true↔p)
theorem Says.yes {p:Prop} (h:p):Says (.returned (.bool true)) p:=⟨true,rfl,iff_of_true rfl h⟩
theorem Says.no {p:Prop} (h:¬p):Says (.returned (.bool false)) p:=⟨false,rfl,iff_of_false aem h⟩
end Ce
end
end Go.Proofs.YtdbjpbjocmcpkaaGreatDoor
