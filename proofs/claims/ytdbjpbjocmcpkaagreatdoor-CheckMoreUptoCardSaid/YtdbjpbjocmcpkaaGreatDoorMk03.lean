import Derived.Shelf.Abstract
import Derived.Test.YtdbjpbjocmcpkaaGreatDoorMk02
namespace Go.Proofs.YtdbjpbjocmcpkaaGreatDoor
section
open Go.RowKit
namespace aI
def dst (ops:Array Oper) (i:Nat):Option Tmp:=(ops[i]?).bind (·.dst)
structure CC where
 deps:List Nat
 post:Value->List Value->Nat->Nat->World->Prop
def upd (ρ:Nat->Value) (i:Nat) (v:Value):Nat->Value:=fun j=>if j=i then v else ρ j
def o9 (f:Nat->Nat) (i x:Nat):Nat->Nat:=fun j=>if j=i then x else f j
def part (ops:Array Oper) (a0:Act) (ρ:Nat->Value) (L:Nat->Bool):Nat->Act
 |0=>a0
 |i+1=>if L i then (part ops a0 ρ L i).put (dst ops i) (ρ i) else part ops a0 ρ L i
def canon (ops:Array Oper) (a0:Act) (ρ:Nat->Value):Nat->Act
 |0=>a0
 |i+1=>(canon ops a0 ρ i).put (dst ops i) (ρ i)
section
variable {ops:Array Oper} {a0:Act} {ρ:Nat->Value} {L:Nat->Bool}
theorem bF (k:Nat):canon ops a0 ρ k=part ops a0 ρ (fun _=>true) k:=by
 induction k with
 |zero=>rfl
 |succ k ih=>simp[canon,part,ih]
theorem pL (k:Nat):(canon ops a0 ρ k).defers=a0.defers:=by
 induction k with
 |zero=>rfl
 |succ k ih=>
  unfold canon;cases dst ops k with
  |none=>exact ih
  |some d=>exact ih
theorem J3 (a:Act) (d:Option Tmp) (v:Value):(a.put d v).tmps.size=a.tmps.size:=by
 cases d<;>simp[Act.put]
theorem Gl (k:Nat):(part ops a0 ρ L k).tmps.size=a0.tmps.size:=by
 induction k with
 |zero=>rfl
 |succ k ih=>
  unfold part
  split
  .rw[J3,ih]
  .exact ih
theorem yu (a:Act) (t:Tmp) (v:Value):(a.put (some t) v).eval (.tmp t)=if t<a.tmps.size then v else undef:=by
 unfold Act.put Act.eval;dsimp only;by_cases h:t<a.tmps.size
 .rw[if_pos h]
  simp[h]
 .rw[if_neg h]
  simp;exact fun h'=>absurd h' h
theorem nA (a:Act) (t:Tmp) (d:Option Tmp) (v:Value) (h:d≠some t):(a.put d v).eval (.tmp t)=a.eval (.tmp t):=
 Act.eval_put fun d' hd hx=>by cases hx;exact h hd
theorem dy {t:Tmp} (k:Nat) (h:∀j,j<k->L j=true->dst ops j≠some t):(part ops a0 ρ L k).eval (.tmp t)=a0.eval (.tmp t):=by
 induction k with
 |zero=>rfl
 |succ k ih=>
  have ih':=ih fun j hj=>h j (by omega)
  unfold part
  split
  .rename_i hL
   rw[nA _ _ _ _ (h k (by omega) hL),ih']
  .exact ih'
theorem gK {t:Tmp} {j:Nat} (hd:dst ops j=some t) (hone:∀i,i≠j->dst ops i≠some t) (hL:L j=true) (k:Nat) (hj:j<k):(part ops a0 ρ L k).eval (.tmp t)=if t<a0.tmps.size then ρ j else undef:=by
 induction k with
 |zero=>omega
 |succ k ih=>
  unfold part;by_cases e:j=k
  .subst e
   rw[if_pos hL,hd,yu,Gl]
  .have ih':=ih (by omega)
   split
   .rw[nA _ _ _ _ (hone k (fun h=>e h.symm)),ih']
   .exact ih'
theorem jM {i n:Nat} {t:Tmp} (hone:∀i j,i≠j->dst ops j=some t->dst ops i≠some t) (hin:i<=n) (h:∀j,j<n->dst ops j=some t->j<i/\L j=true):(part ops a0 ρ L n).eval (.tmp t)=(canon ops a0 ρ i).eval (.tmp t):=by
 rw[bF];by_cases hex:∃j,j<n/\dst ops j=some t
 .obtain⟨j,hj,hd⟩:=hex
  obtain⟨h1,h2⟩:=h j hj hd;rw[gK hd (fun i hi=>hone i j hi hd) h2 n hj,gK hd (fun i hi=>hone i j hi hd) rfl i h1]
 .rw[dy n fun j hj _ hd=>hex ⟨j,hj,hd⟩,dy i fun j hj _ hd=>hex ⟨j,by omega,hd⟩]
theorem n4 {i n:Nat} {v:Value} (hone:∀i j t,i≠j->dst ops j=some t->dst ops i≠some t) (hi:L i=false) (hin:i<n):
 (part ops a0 ρ L n).put (dst ops i) v=part ops a0 (upd ρ i v) (fun j=>if j=i then true else L j) n:=by
 have low:∀k,k<=i->part ops a0 (upd ρ i v) (fun j=>if j=i then true else L j) k=part ops a0 ρ L k:=by
  intro k
  induction k with
  |zero=>exact fun _=>rfl
  |succ k ih=>
   intro hk;have e:k≠i:=by omega
   unfold part;rw[ih (by omega),if_neg e];unfold upd;rw[if_neg e]
 induction n with
 |zero=>omega
 |succ n ih=>
  by_cases e:n=i
  .subst e
   unfold part;rw[if_pos rfl,hi,low n (aaD _),if_neg (by decide)];simp[upd]
  .have ih':=ih (by omega)
   unfold part;rw[if_neg e,<-ih'];unfold upd;rw[if_neg e]
   split
   .exact Act.put_comm _ _ _ fun d h1 h2=>hone i n d (fun e2=>e e2.symm) h1 h2
   .rfl
theorem jL {ρ':Nat->Value} {L':Nat->Bool} (hL:∀j,L j=L' j) (h:∀j,L j=true->ρ j=ρ' j) (k:Nat):part ops a0 ρ L k=part ops a0 ρ' L' k:=by
 induction k with
 |zero=>rfl
 |succ k ih=>
  unfold part;rw[<-hL k]
  split
  .rename_i hk
   rw[ih,h k hk]
  .exact ih
end
def shape (ops:Array Oper) (n:Nat) (deps:Nat->List Nat):Bool:=
 (List.range ops.size).all fun i=>match ops[i]? with
   |none=>false
   |some o=>(match o.dst with|none=>true|some d=>(List.range ops.size).all fun j=>j==i||dst ops j != some d)&&
    if i<n then
     o.guard.isNone&&(match o.op with| .select _ _=>false|_=>true)&&
     (o.op.operands.toList.all fun x=>match x with
       | .tmp t=>(List.range ops.size).all fun j=>dst ops j != some t||(decide (j<i)&&o.after.toList.any fun e=>Region.binds .any e&&e.on==j)
       |_=>true)&&
     ((deps i).all fun j=>decide (j<i)&&o.after.toList.any fun e=>Region.binds .any e&&e.on==j)&&
     (o.after.all fun e=> !Region.binds .any e||decide (e.on<i))
    else (List.range n).all fun j=>o.after.toList.any fun e=>Region.binds .any e&&e.on==j
def heads (size n:Nat):Array Bool:=(List.replicate n true++List.replicate (size-n) false).toArray
def cX (P:Program) (o:Oper) (ev:Operand->Value) (w:World) (R:Value->World->Prop):Prop:=
 match (execOp ev o).run P w with
 | .ok (.value v) w'=>R v w'
 | .ok .skip w'=>R undef w'
 | .ok (.enter f args) w'=>Calls P f args w' (fun e w''=>∃v,e= .returned v/\R v w'')
 |_=>False
theorem cX.wp {P:Program} {o:Oper} {a:Act} {w:World} {R:Value->World->Prop} {K:Act->World->Prop} {Q:Exit->Act->World->Prop} (h:cX P o a.eval w R) (hK:∀v w',R v w'->K (a.put o.dst v) w'):o.wp P a w K Q:=by
 unfold cX at h;unfold Oper.wp;generalize (execOp a.eval o).run P w=r at h ⊢;cases r with
 |ok n w'=>
  cases n<;>simp only[Oper.upon] at h ⊢
  case value v=>exact hK v w' h
  case skip=>exact hK _ w' h
  case enter f args=>
   refine Calls.mono h fun e w'' he=> ?_
   obtain⟨v,rfl,hv⟩:=he;exact hK v w'' hv
 |halt x w'=>cases h
theorem az {P:Program} {o:Oper} {ev:Operand->Value} {w:World} {R:Value->World->Prop} {v:Value} {w':World} (h:(execOp ev o).run P w= .ok (.value v) w') (hR:R v w'):cX P o ev w R:=by
 unfold cX;rw[h];exact hR
theorem uB {P:Program} {o:Oper} {ev:Operand->Value} {w:World} {R:Value->World->Prop} {w':World} (h:(execOp ev o).run P w= .ok .skip w') (hR:R undef w'):cX P o ev w R:=by
 unfold cX;rw[h];exact hR
theorem any {P:Program} {ops:Array Oper} {Q:Exit->Act->World->Prop} {a0:Act} {w0:World} (sp:Nat->CC) (n N:Nat) (hn:n<=ops.size) (hN:a0.tmps.size=N) (hsh:shape ops n (fun i=>(sp i).deps)=true)
 (GH:∀i,i<n->∀v vs lo hi w w',hi<=w.heap.size->Below w.heap.size w w'->(sp i).post v vs lo hi w->(sp i).post v vs lo hi w')
 (hstep:∀i o (ρ:Nat->Value) w (ev:Operand->Value),i<n->ops[i]? =some o->Below w0.heap.size w0 w->(∀j∈(sp i).deps,∃lo hi,w0.heap.size<=lo/\lo<=hi/\hi<=w.heap.size/\(sp j).post (ρ j) ((sp j).deps.map ρ) lo hi w)->
   (∀j t,j<i->dst ops j=some t->t<N->ev (.tmp t)=ρ j)->(∀t,((List.range i).all fun j=>dst ops j != some t)=true->ev (.tmp t)=a0.eval (.tmp t))->(∀v,ev (.const v)=v)->
   cX P o ev w fun v w'=>Below w.heap.size w w'/\(sp i).post v ((sp i).deps.map ρ) w.heap.size w'.heap.size w')
 (hend:∀(ρ:Nat->Value) (lo hi:Nat->Nat) w a,a=canon ops a0 ρ n->a.defers=a0.defers->(∀j t,j<n->dst ops j=some t->t<N->a.eval (.tmp t)=ρ j)->(∀t,((List.range n).all fun j=>dst ops j != some t)=true->a.eval (.tmp t)=a0.eval (.tmp t))->Below w0.heap.size w0 w->(∀i,i<n->w0.heap.size<=lo i/\lo i<=hi i/\hi i<=w.heap.size/\(sp i).post (ρ i) ((sp i).deps.map ρ) (lo i) (hi i) w)->(∀i j,i<n->j<n->i≠j->hi i<=lo j\/hi j<=lo i)->
   wpAny P .any ops Q (ops.size-n) (heads ops.size n) a w):
 wpAny P .any ops Q ops.size (Array.replicate ops.size false) a0 w0:=by
 have hs:=fun i (hi:i<ops.size)=>aaV.1 hsh i (aaX.2 hi)
 have hlt:∀{j t},dst ops j=some t->j<ops.size:=fun {j t} h=>by
  rcases abk j ops.size with h1|h1
  .exact h1
  .unfold dst at h;rw[ab0 h1] at h;cases h
 have hone:∀i j t,i≠j->dst ops j=some t->dst ops i≠some t:=fun i j t hij hj hi=>by
  have h1:=hs j (hlt hj);dsimp only at h1;cases ho:ops[j]? with
  |none=>rw[ho] at h1;cases h1
  |some o=>
   have hd:o.dst=some t:=by unfold dst at hj;rw[ho] at hj;exact hj
   rw[ho] at h1;simp only[aaZ] at h1;have h2:=h1.1;rw[hd] at h2;have h3:=aaV.1 h2 i (aaX.2 (hlt hi));simp only[abw,beq_iff_eq,bne_iff_ne] at h3;rcases h3 with h3|h3
   .exact hij h3
   .exact h3 hi
 have hop:∀i,i<n->∃o,ops[i]? =some o/\o.guard=none/\(∀cs b,o.op≠.select cs b)/\
  (∀t,Operand.tmp t∈o.op.operands->∀j,j<ops.size->dst ops j=some t->j<i/\∃e∈o.after,Region.binds .any e=true/\e.on=j)/\
  (∀j∈(sp i).deps,j<i/\∃e∈o.after,Region.binds .any e=true/\e.on=j)/\(∀e∈o.after,Region.binds .any e=true->e.on<i):=fun i hi=>by
  have h1:=hs i (by omega);dsimp only at h1;cases ho:ops[i]? with
  |none=>rw[ho] at h1;cases h1
  |some o=>
   rw[ho] at h1;simp only[aaZ,if_pos hi] at h1;obtain⟨_,⟨⟨⟨g1,g2⟩,g4⟩,g5⟩,g6⟩:=h1;refine⟨o,rfl,by simpa using g1,(fun cs b hsel=>by rw[hsel] at g2;cases g2),fun t ht j hj hd=> ?_,fun j hj=> ?_,fun e he hb=> ?_⟩
   .have h2:=aaV.1 g4 (.tmp t) (by simpa using ht)
    dsimp only at h2;have h3:=aaV.1 h2 j (aaX.2 hj);simp only[abw,bne_iff_ne,aaZ,decide_eq_true_eq,abx,beq_iff_eq] at h3;rcases h3 with h3|⟨h3,e,he,h4⟩
    .exact absurd hd h3
    .exact⟨h3,e,by simpa using he,h4⟩
   .have h2:=aaV.1 g5 j hj
    simp only[aaZ,decide_eq_true_eq,abx,beq_iff_eq] at h2;obtain⟨h3,e,he,h4⟩:=h2;exact⟨h3,e,by simpa using he,h4⟩
   .have h2:=abT.1 g6 e he
    rw[hb] at h2;simpa using h2
 have GV:∀i o,n<=i->ops[i]? =some o->∀j,j<n->∃e∈o.after,Region.binds .any e=true/\e.on=j:=fun i o hi ho j hj=>by
  have h1:=hs i (aa2.1 ho).1;dsimp only at h1;rw[ho] at h1;simp only[aaZ,if_neg (Nat.not_lt.2 hi)] at h1;have h2:=aaV.1 h1.2 j (aaX.2 hj);simp only[aaZ,abx,beq_iff_eq] at h2;obtain⟨e,he,h4⟩:=h2;exact⟨e,by simpa using he,h4⟩
 have fin:∀(listed:Array Bool),listed.size=ops.size->Region.ready .any ops listed=[]->∀i,i<n->listed.getD i false=true:=by
  intro listed hl hr i
  induction i using Nat.strongRecOn with
  |_ i ih=>
   intro hi;by_cases hb:listed.getD i false=true
   .exact hb
   .exfalso
    have hi':i<listed.size:=by omega
    have h0:listed.getD i true=false:=by
     simp[hi'] at hb ⊢;exact hb
    obtain⟨o,ho,_,_,_,_,dw⟩:=hop i hi;have hm:i∈Region.ready .any ops listed:=by
     rw[mem_ready];refine⟨h0,o,ho,fun e he hbd=> ?_⟩;have:=dw e he hbd;exact ih e.on this (by omega)
    rw[hr] at hm;cases hm
 have key:∀(fuel:Nat) (listed:Array Bool) (ρ:Nat->Value) (lo hi:Nat->Nat) (w:World),listed.size=ops.size->listed.toList.count false=fuel->Below w0.heap.size w0 w->
  (∀i,n<=i->listed.getD i false=false)->
  (∀i,i<n->listed.getD i false=true->w0.heap.size<=lo i/\lo i<=hi i/\hi i<=w.heap.size/\(sp i).post (ρ i) ((sp i).deps.map ρ) (lo i) (hi i) w/\∀j∈(sp i).deps,listed.getD j false=true)->
  (∀i j,i<n->j<n->listed.getD i false=true->listed.getD j false=true->i≠j->hi i<=lo j\/hi j<=lo i)->
  wpAny P .any ops Q fuel listed (part ops a0 ρ (fun j=>listed.getD j false) n) w:=by
  have last:∀(listed:Array Bool) (ρ:Nat->Value) (lo hi:Nat->Nat) (w:World),listed.size=ops.size->Below w0.heap.size w0 w->
   (∀i,n<=i->listed.getD i false=false)->
   (∀i,i<n->listed.getD i false=true->w0.heap.size<=lo i/\lo i<=hi i/\hi i<=w.heap.size/\(sp i).post (ρ i) ((sp i).deps.map ρ) (lo i) (hi i) w/\∀j∈(sp i).deps,listed.getD j false=true)->
   (∀i j,i<n->j<n->listed.getD i false=true->listed.getD j false=true->i≠j->hi i<=lo j\/hi j<=lo i)->
   (∀i,i<n->listed.getD i false=true)->wpAny P .any ops Q (listed.toList.count false) listed (part ops a0 ρ (fun j=>listed.getD j false) n) w:=by
   intro listed ρ lo hi w hl hb hno hg hd hall;have e:∀k,k<=n->part ops a0 ρ (fun j=>listed.getD j false) k=canon ops a0 ρ k:=by
    intro k
    induction k with
    |zero=>exact fun _=>rfl
    |succ k ih=>
     intro hk;unfold part canon;rw[ih (by omega),hall k (by omega),if_pos rfl]
   have e2:listed=heads ops.size n:=by
    apply Array.ext
    .simp[heads,hl];omega
    .intro i h1 h2
     by_cases hi:i<n
     .have:=hall i hi
      simp[h1] at this;rw[this];simp[heads,hi]
     .have:=hno i (by omega)
      simp[h1] at this;rw[this];simp[heads,List.getElem_append,hi]
   have e3:(heads ops.size n).toList.count false=ops.size-n:=by simp[heads,List.count_append,List.count_replicate]
   rw[e _ (aaD _),e2,e3];exact hend ρ lo hi w _ rfl (pL n) (fun j t hj hd ht=>by
    rw[bF,gK hd (fun i hi=>hone i j t hi hd) rfl n hj,if_pos (by rw[hN];exact ht)]) (fun t ht=>by
    rw[bF,dy n fun j hj _=>by
     have:=aaV.1 ht j (aaX.2 hj);simpa using this]) hb (fun i hi=>by
    obtain⟨h1,h2,h3,h4,_⟩:=hg i hi (hall i hi);exact⟨h1,h2,h3,h4⟩) fun i j hi hj=>hd i j hi hj (hall i hi) (hall j hj)
  intro fuel
  induction fuel with
  |zero=>
   intro listed ρ lo hi w hl hc hb hno hg hd;have hall:∀i,i<n->listed.getD i false=true:=fun i hi=>by
    have hm:¬false∈listed.toList:=fun h=>by
     have:=abJ.2 h;omega
    have hi':i<listed.size:=by omega
    by_cases sX:listed[i]=true
    .simp[hi',sX]
    .exfalso
     have e:listed[i]=false:=by simpa using sX
     exact hm (by rw[<-e];simp)
   have:=last listed ρ lo hi w hl hb hno hg hd hall;rw[hc] at this;exact this
  |succ fuel ih=>
   intro listed ρ lo hi w hl hc hb hno hg hd;by_cases hall:∀i,i<n->listed.getD i false=true
   .have:=last listed ρ lo hi w hl hb hno hg hd hall
    rw[hc] at this;exact this
   refine⟨fun hr=>absurd (fin listed hl hr) hall,fun i hi=> ?_⟩;have xO:=hi;rw[mem_ready] at hi;obtain⟨h0,o,ho,cA⟩:=hi;have Vb:=(aa2.1 ho).1;have hin:i<n:=by
    rcases abk i n with h|h
    .exact h
    .exact absurd (fun j hj=>by
      obtain⟨e,he,hbd,rfl⟩:=GV i o h ho j hj;exact cA e he hbd) hall
   have hi':i<listed.size:=by omega
   obtain⟨o',ho',hgd,hsel,hread,Ev,_⟩:=hop i hin;rw[ho] at ho';cases ho';have eI:listed.getD i false=false:=by
    simp[hi'] at h0 ⊢;exact h0
   have rB:∀j∈(sp i).deps,listed.getD j false=true:=fun j hj=>by
    obtain⟨_,e,he,hbd,rfl⟩:=Ev j hj;exact cA e he hbd
   have hev:execOp (part ops a0 ρ (fun j=>listed.getD j false) n).eval o=execOp (canon ops a0 ρ i).eval o:=by
    refine execOp_congr o hsel fun x hx=> ?_
    cases x with
    |tmp t=>
     refine jM (fun i j hij=>hone i j t hij) (by omega) fun j hj hd=> ?_
     obtain⟨h1,e,he,hbd,rfl⟩:=hread t hx j (by omega) hd;exact⟨h1,cA e he hbd⟩
    |_=>rfl
   have ng:=hstep i o ρ w (canon ops a0 ρ i).eval hin ho hb (fun j hj=>by
    have hjl:=(Ev j hj).1;obtain⟨h1,h2,h3,h4,_⟩:=hg j (by omega) (rB j hj);exact⟨lo j,hi j,h1,h2,h3,h4⟩) (fun j t hj hd ht=>by
    rw[bF,gK hd (fun i hi=>hone i j t hi hd) rfl i hj,if_pos (by rw[hN];exact ht)]) (fun t ht=>by
    rw[bF,dy i fun j hj _=>by
     have:=aaV.1 ht j (aaX.2 hj);simpa using this]) (fun v=>rfl)
   unfold wpOp;rw[ho];dsimp only;have hw:Region.wanted o (yielded ops (part ops a0 ρ (fun j=>listed.getD j false) n).tmps)=true:=by
    unfold Region.wanted;rw[hgd]
   rw[if_pos hw];refine .inl ?_;have pY:cX P o (part ops a0 ρ (fun j=>listed.getD j false) n).eval w fun v w'=>Below w.heap.size w w'/\(sp i).post v ((sp i).deps.map ρ) w.heap.size w'.heap.size w':=by
    unfold cX at ng ⊢;rw[hev];exact ng
   refine pY.wp fun v w' hv=> ?_
   obtain⟨cm,hpost⟩:=hv;have xU:o.dst=dst ops i:=by unfold dst;rw[ho];rfl
   have cP:∀j,(listed.setIfInBounds i true).getD j false=if j=i then true else listed.getD j false:=fun j=>by
    by_cases e:j=i
    .subst e
     rw[if_pos rfl];simp[hi']
    .rw[if_neg e]
     exact getD_set_ne false (fun h=>e h.symm)
   rw[xU,n4 hone eI hin,jL (L':=fun j=>(listed.setIfInBounds i true).getD j false) (ρ':=upd ρ i v) (fun j=>(cP j).symm) (fun _ _=>rfl)];have hsz:=cm.size;have hb0:=hb.size;have Mr:∀j,j≠i->listed.getD j false=true->(∀k∈(sp j).deps,listed.getD k false=true)->(sp j).deps.map (upd ρ i v)=(sp j).deps.map ρ:=fun j hj hjl hk=>by
    refine aby fun k hkm=> ?_
    unfold upd;rw[if_neg];intro e;subst e;rw[hk k hkm] at eI;cases eI
   have Sh:(sp i).deps.map (upd ρ i v)=(sp i).deps.map ρ:=aby fun k hkm=>by
    unfold upd;rw[if_neg];intro e;subst e;rw[rB k hkm] at eI;cases eI
   refine ih (listed.setIfInBounds i true) (upd ρ i v) (o9 lo i w.heap.size) (o9 hi i w'.heap.size) w' (by simpa using hl) ?_ (hb.trans (cm.mono hb0)) (fun j hj=>by rw[cP,if_neg (by omega)];exact hno j hj) ?_ ?_
   .rw[ab4]
    have hi2:i<listed.toList.length:=by simpa using hi'
    have e:listed.toList[i]=false:=by
     simp[hi'] at h0;simpa using h0
    have hpos:0<listed.toList.count false:=abJ.2 (by rw[<-e];exact ab6 hi2);rw[acQ hi2,e,if_pos (by decide),if_neg (by decide)];omega
   .intro j hj hjl
    rw[cP] at hjl;by_cases e:j=i
    .subst e
     unfold o9;rw[if_pos rfl,if_pos rfl];refine⟨hb0,hsz,aaD _,?_,fun k hk=>by rw[cP];split;rfl;exact rB k hk⟩;rw[Sh];unfold upd;rw[if_pos rfl];exact hpost
    .rw[if_neg e] at hjl
     obtain⟨h1,h2,h3,h4,h5⟩:=hg j hj hjl;unfold o9;rw[if_neg e,if_neg e];refine⟨h1,h2,by omega,?_,fun k hk=>by rw[cP];split;rfl;exact h5 k hk⟩;rw[Mr j e hjl h5];unfold upd;rw[if_neg e];exact GH j hj _ _ _ _ w w' h3 cm h4
   .intro j k hj hk hjl hkl hjk
    rw[cP] at hjl hkl;unfold o9;by_cases e:j=i
    .subst e
     rw[if_neg (fun h=>hjk h.symm)] at hkl;rw[if_pos rfl,if_pos rfl,if_neg (fun h=>hjk h.symm),if_neg (fun h=>hjk h.symm)];exact .inr (hg k hk hkl).2.2.1
    .rw[if_neg e] at hjl
     by_cases e2:k=i
     .subst e2
      rw[if_neg e,if_neg e,if_pos rfl,if_pos rfl];exact .inl (hg j hj hjl).2.2.1
     .rw[if_neg e2] at hkl
      rw[if_neg e,if_neg e,if_neg e2,if_neg e2];exact hd j k hj hk hjl hkl hjk
 have hnone:∀j,(Array.replicate ops.size false).getD j false=false:=fun j=>by by_cases hk:j<ops.size<;>simp[hk]
 have h0:part ops a0 (fun _=>undef) (fun j=>(Array.replicate ops.size false).getD j false) n=a0:=by
  have:∀k,part ops a0 (fun _=>undef) (fun j=>(Array.replicate ops.size false).getD j false) k=a0:=by
   intro k
   induction k with
   |zero=>rfl
   |succ k ih=>
    unfold part;rw[ih,hnone k,if_neg (by decide)]
  exact this _
 have hk:=key ops.size (Array.replicate ops.size false) (fun _=>undef) (fun _=>0) (fun _=>0) w0 (by simp) (by simp) (aaE _ _) (fun i _=>hnone i) (fun i _ h=>by rw[hnone i] at h;cases h) (fun i _ _ _ h=>by rw[hnone i] at h;cases h);rw[h0] at hk;exact hk
end aI
end
section
open Go.RowKit
namespace aI
def bB (L:Nat->Bool) (i:Nat):Nat->Bool:=fun j=>if j=i then true else L j
theorem kM {ops:Array Oper} {a0:Act} {ρ:Nat->Value} {L:Nat->Bool}:∀{k:Nat},(∀i,i<k->L i=true)->part ops a0 ρ L k=canon ops a0 ρ k
 |0,_=>rfl
 |k+1,h=>by
  unfold part canon;rw[if_pos (h k (by omega)),kM fun i hi=>h i (by omega)]
theorem V3 {P:Program} {ops:Array Oper} {Q:Exit->Act->World->Prop} {a0:Act} {w0:World} (val:Nat->Value) (C:(Nat->Bool)->World->Prop) (N:Nat) (hN:a0.tmps.size=N) (hsh:shape ops ops.size (fun _=>[])=true)
 (EE:C (fun _=>false) w0)
 (hstep:∀i o (L:Nat->Bool) w (ev:Operand->Value),ops[i]? =some o->L i=false->C L w->(∀e∈o.after,Region.binds .any e=true->L e.on=true)->(∀j o',ops[j]? =some o'->L j=true->∀e∈o'.after,Region.binds .any e=true->L e.on=true)->
   (∀j t,j<i->dst ops j=some t->t<N->ev (.tmp t)=val j)->(∀t,((List.range i).all fun j=>dst ops j != some t)=true->ev (.tmp t)=a0.eval (.tmp t))->(∀v,ev (.const v)=v)->(∀f,ev (.func f)= .func (.func f) #[] #[])->
   cX P o ev w fun v w'=>v=val i/\C (bB L i) w')
 (hend:∀L w,(∀i,i<ops.size->L i=true)->C L w->Q .normal (canon ops a0 val ops.size) w):
 wpAny P .any ops Q ops.size (Array.replicate ops.size false) a0 w0:=by
 have hs:=fun i (hi:i<ops.size)=>aaV.1 hsh i (aaX.2 hi)
 have hlt:∀{j t},dst ops j=some t->j<ops.size:=fun {j t} h=>by
  rcases abk j ops.size with h1|h1
  .exact h1
  .unfold dst at h;rw[ab0 h1] at h;cases h
 have hone:∀i j t,i≠j->dst ops j=some t->dst ops i≠some t:=fun i j t hij hj hi=>by
  have h1:=hs j (hlt hj);dsimp only at h1;cases ho:ops[j]? with
  |none=>rw[ho] at h1;cases h1
  |some o=>
   have hd:o.dst=some t:=by unfold dst at hj;rw[ho] at hj;exact hj
   rw[ho] at h1;simp only[aaZ] at h1;have h2:=h1.1;rw[hd] at h2;have h3:=aaV.1 h2 i (aaX.2 (hlt hi));simp only[abw,beq_iff_eq,bne_iff_ne] at h3;rcases h3 with h3|h3
   .exact hij h3
   .exact h3 hi
 have hop:∀i,i<ops.size->∃o,ops[i]? =some o/\o.guard=none/\(∀cs b,o.op≠.select cs b)/\
  (∀t,Operand.tmp t∈o.op.operands->∀j,j<ops.size->dst ops j=some t->j<i/\∃e∈o.after,Region.binds .any e=true/\e.on=j)/\(∀e∈o.after,Region.binds .any e=true->e.on<i):=fun i hi=>by
  have h1:=hs i hi;dsimp only at h1;cases ho:ops[i]? with
  |none=>rw[ho] at h1;cases h1
  |some o=>
   rw[ho] at h1;simp only[aaZ,if_pos hi] at h1;obtain⟨_,⟨⟨⟨g1,g2⟩,g4⟩,_⟩,g6⟩:=h1;refine⟨o,rfl,by simpa using g1,(fun cs b hsel=>by rw[hsel] at g2;cases g2),fun t ht j hj hd=> ?_,fun e he hb=> ?_⟩
   .have h2:=aaV.1 g4 (.tmp t) (by simpa using ht)
    dsimp only at h2;have h3:=aaV.1 h2 j (aaX.2 hj);simp only[abw,bne_iff_ne,aaZ,decide_eq_true_eq,abx,beq_iff_eq] at h3;rcases h3 with h3|⟨h3,e,he,h4⟩
    .exact absurd hd h3
    .exact⟨h3,e,by simpa using he,h4⟩
   .have h2:=abT.1 g6 e he
    rw[hb] at h2;simpa using h2
 have fin:∀(listed:Array Bool),listed.size=ops.size->Region.ready .any ops listed=[]->∀i,i<ops.size->listed.getD i false=true:=by
  intro listed hl hr i
  induction i using Nat.strongRecOn with
  |_ i ih=>
   intro hi;by_cases hb:listed.getD i false=true
   .exact hb
   .exfalso
    have hi':i<listed.size:=by omega
    have h0:listed.getD i true=false:=by
     simp[hi'] at hb ⊢;exact hb
    obtain⟨o,ho,_,_,_,dw⟩:=hop i hi;have hm:i∈Region.ready .any ops listed:=by
     rw[mem_ready];refine⟨h0,o,ho,fun e he hbd=> ?_⟩;have:=dw e he hbd;exact ih e.on this (by omega)
    rw[hr] at hm;cases hm
 have key:∀(fuel:Nat) (listed:Array Bool) (w:World),listed.size=ops.size->listed.toList.count false=fuel->C (fun j=>listed.getD j false) w->(∀j o',ops[j]? =some o'->listed.getD j false=true->∀e∈o'.after,Region.binds .any e=true->listed.getD e.on false=true)->
  wpAny P .any ops Q fuel listed (part ops a0 val (fun j=>listed.getD j false) ops.size) w:=by
  intro fuel
  induction fuel with
  |zero=>
   intro listed w hl hc hC hdc;have hall:∀i,i<ops.size->listed.getD i false=true:=fun i hi=>by
    have hm:¬false∈listed.toList:=fun h=>by
     have:=abJ.2 h;omega
    have hi':i<listed.size:=by omega
    by_cases sX:listed[i]=true
    .simp[hi',sX]
    .exfalso
     have e:listed[i]=false:=by simpa using sX
     exact hm (by rw[<-e];simp)
   refine⟨?_,by rw[kM hall];exact hend _ _ hall hC⟩;refine acP.2 fun i hi=> ?_
   rw[mem_ready] at hi;obtain⟨h0,o,ho,_⟩:=hi;have h1:=hall i (aa2.1 ho).1;have hi':i<listed.size:=by have:=(aa2.1 ho).1;omega
   simp[hi'] at h0 h1;rw[h0] at h1;cases h1
  |succ fuel ih=>
   intro listed w hl hc hC hdc;refine⟨fun hr=>by rw[kM (fin listed hl hr)];exact hend _ _ (fin listed hl hr) hC,fun i hi=> ?_⟩;rw[mem_ready] at hi;obtain⟨h0,o,ho,cA⟩:=hi;have hin:=(aa2.1 ho).1;have hi':i<listed.size:=by omega
   obtain⟨o',ho',hgd,hsel,hread,_⟩:=hop i hin;rw[ho] at ho';cases ho';have eI:listed.getD i false=false:=by
    simp[hi'] at h0 ⊢;exact h0
   have hev:execOp (part ops a0 val (fun j=>listed.getD j false) ops.size).eval o=execOp (canon ops a0 val i).eval o:=by
    refine execOp_congr o hsel fun x hx=> ?_
    cases x with
    |tmp t=>
     refine jM (fun i j hij=>hone i j t hij) (by omega) fun j hj hd=> ?_
     obtain⟨h1,e,he,hbd,rfl⟩:=hread t hx j (by omega) hd;exact⟨h1,cA e he hbd⟩
    |_=>rfl
   have ng:=hstep i o (fun j=>listed.getD j false) w (canon ops a0 val i).eval ho eI hC cA hdc (fun j t hj hd ht=>by
    rw[bF,gK hd (fun i hi=>hone i j t hi hd) rfl i hj,if_pos (by rw[hN];exact ht)]) (fun t ht=>by
    rw[bF,dy i fun j hj _=>by
     have:=aaV.1 ht j (aaX.2 hj);simpa using this]) (fun v=>rfl) (fun f=>rfl)
   unfold wpOp;rw[ho];dsimp only;have hw:Region.wanted o (yielded ops (part ops a0 val (fun j=>listed.getD j false) ops.size).tmps)=true:=by
    unfold Region.wanted;rw[hgd]
   rw[if_pos hw];refine .inl ?_;have pY:cX P o (part ops a0 val (fun j=>listed.getD j false) ops.size).eval w fun v w'=>v=val i/\C (bB (fun j=>listed.getD j false) i) w':=by
    unfold cX at ng ⊢;rw[hev];exact ng
   refine pY.wp fun v w' hv=> ?_
   obtain⟨rfl,Cf⟩:=hv;have xU:o.dst=dst ops i:=by unfold dst;rw[ho];rfl
   have cP:∀j,(listed.setIfInBounds i true).getD j false=if j=i then true else listed.getD j false:=fun j=>by
    by_cases e:j=i
    .subst e
     rw[if_pos rfl];simp[hi']
    .rw[if_neg e]
     exact getD_set_ne false (fun h=>e h.symm)
   rw[xU,n4 hone eI hin,jL (L':=fun j=>(listed.setIfInBounds i true).getD j false) (ρ':=val) (fun j=>(cP j).symm) (fun j _=>by unfold upd;split;rename_i e;rw[e];rfl)];refine ih (listed.setIfInBounds i true) w' (by simpa using hl) ?_ ?_ ?_
   .rw[ab4]
    have hi2:i<listed.toList.length:=by simpa using hi'
    have e:listed.toList[i]=false:=by
     simp[hi'] at h0;simpa using h0
    have hpos:0<listed.toList.count false:=abJ.2 (by rw[<-e];exact ab6 hi2);rw[acQ hi2,e,if_pos (by decide),if_neg (by decide)];omega
   .have e:(fun j=>(listed.setIfInBounds i true).getD j false)=bB (fun j=>listed.getD j false) i:=funext fun j=>by rw[cP];rfl
    rw[e];exact Cf
   .intro j o' hj hjl e he gQ
    rw[cP] at hjl ⊢;by_cases e1:e.on=i
    .rw[if_pos e1]
    .rw[if_neg e1]
     by_cases e2:j=i
     .subst e2
      rw[ho] at hj;cases hj;exact cA e he gQ
     .rw[if_neg e2] at hjl
      exact hdc j o' hj hjl e he gQ
 have hnone:∀j,(Array.replicate ops.size false).getD j false=false:=fun j=>by by_cases hk:j<ops.size<;>simp[hk]
 have h0:part ops a0 val (fun j=>(Array.replicate ops.size false).getD j false) ops.size=a0:=by
  have:∀k,part ops a0 val (fun j=>(Array.replicate ops.size false).getD j false) k=a0:=by
   intro k
   induction k with
   |zero=>rfl
   |succ k ih=>
    unfold part;rw[ih,hnone k,if_neg (by decide)]
  exact this _
 have hk:=key ops.size (Array.replicate ops.size false) w0 (by simp) (by simp) (by rw[show(fun j=>(Array.replicate ops.size false).getD j false)=fun _=>false from funext hnone];exact EE) (fun j o' _ h=>by rw[hnone j] at h;cases h);rw[h0] at hk;exact hk
end aI
end
section
open Go.RowKit
namespace AnyM
def gP (A:World):List (Nat×World)->(Nat->Bool)->World->Prop
 |[],_,V=>V=A
 |(k,w)::r,L,V=>if L k=true then V=w else gP A r L V
theorem other {A:World} {i:Nat}:∀{r:List (Nat×World)} {L:Nat->Bool} {V:World},(r.all fun q=>q.1 != i)=true->gP A r L V->gP A r (aI.bB L i) V
 |[],_,_,_,h=>h
 |(k,w)::r,L,V,hk,h=>by
  rw[List.all_cons,aaZ] at hk;have e1:aI.bB L i k=L k:=if_neg (fun e=>by simp[e] at hk);unfold gP at h ⊢;rw[e1]
  split
  .rename_i hl
   rw[if_pos hl] at h;exact h
  .rename_i hl
   rw[if_neg hl] at h;exact other hk.2 h
end AnyM
namespace aI
end aI
end
section
open Go.RowKit Go.Sort
theorem Ga {U:World} (B:Nat) (v:Value) (vs:List Value) (m:Nat) (xa:Option Addr) (xn xc:Nat) (hR:U.ownsRow B 55 1 v m vs) (hB:B<=U.heap.size) (g:Nat) (hg:U.heap[g]? =some (.cells #[.slice xa xn xc] 55 (0,0))) (hl:m<=4398046511000):
 ∃v' w',(∀(o:Oper) (ev:Operand->Value) (s x:Operand),o.op= .call { callee:= .builtin .append,args:= #[s,x],argTypes:= #[25,25] }->o.type=25->ev s=v->ev x= .slice (some ⟨g,0,none⟩) 1 1->(execOp ev o).run Tryz.prog U= .ok (.value v') w')/\w'.ownsRow B 55 1 v' (m+1) (vs++[.slice xa xn xc])/\U.grownBy w' v.ownBlock/\(v'.ownBlock=v.ownBlock\/v'.ownBlock=some U.heap.size):=by
 obtain⟨i1,hi1,hy0,hy1,hy2⟩:=info_parts Tryz.rj;obtain⟨v',w',hr,h2,h3,_,h5⟩:=run_append_own_at (P:=Tryz.prog) U B 25 25 55 i1 (.slice none 0 0) 1 24 Tryz.underlying25 hi1 hy0 hy1 hy2 rfl (by decide) v m vs hR ⟨g,0,none⟩ 1 1 [.slice xa xn xc] rfl (ab7 hg) (by simp[Value.oneCell']) (by unfold maxLen;omega) (by omega) hB;refine⟨v',w',fun o ev s x ho ht hs hx=> ?_,h2,h3,h5⟩;unfold execOp;simp only[ho,ht,resolve,invoke,builtin,Sem.run_bind,Sem.run_pure,acW,ac6,ab9,ac2,hs,hx,hr]
end
section
open Go.RowKit
theorem JZ {w:World} {B:Nat} {v:Value} {vs:List Value} {ls:List (List Int)} (h:ay w B v vs ls) (hn:0<ls.length):∃g c,v= .slice (some ⟨g,0,none⟩) ls.length c:=by
 rcases h.outer.2 with ⟨rfl,h0⟩|⟨g,cap,cur,rfl,_⟩
 .omega
 .exact⟨g,cap,rfl⟩
theorem bJ {w:World} {B:Nat} {v:Value} {vs:List Value} {ls:List (List Int)} (h:ay w B v vs ls):∃ao c,v= .slice ao ls.length c:=by
 rcases h.outer.2 with ⟨rfl,h0⟩|⟨g,cap,cur,rfl,_⟩
 .exact⟨none,0,by rw[h0]⟩
 .exact⟨_,cap,rfl⟩
end
section
open Go.RowKit
def rV (w:World) (B:Nat) (v:Value) (c:Ce.Cert):Prop:=∃va ve vs,v= .agg #[.bool c.pl,va,ve]/\ay w B va vs c.ar/\aL w B ve c.es
section
variable {w W W':World} {pl:Bool} {va ve:Value} {vs:List Value} {ls:List (List Int)} {es:List (Int×Int)} {la lb:Int}
theorem aR {b:Nat} {t:TypeId} {x y z:Value} (h:W.heap[b]? =some (.cells #[x,y,z] t (0,0))):W.cell? ⟨b,0,none⟩=some x/\W.cell? ⟨b,1,none⟩=some y/\W.cell? ⟨b,2,none⟩=some z/\∀i,W.frozen? ⟨b,i,none⟩=false:=by
 simp[World.cell?,World.frozen?,h]
theorem eH {b:Nat} {t:TypeId} {x y:Value} (h:W.heap[b]? =some (.cells #[x,y] t (0,0))):W.cell? ⟨b,0,none⟩=some x/\W.cell? ⟨b,1,none⟩=some y/\∀i,W.frozen? ⟨b,i,none⟩=false:=by
 simp[World.cell?,World.frozen?,h]
theorem qH {b:Nat} {t:TypeId} {x y z:Value} (h:W.heap[b]? =some (.cells #[x,y,z] t (0,0))) (x' y' z':Value):(((W.setCell ⟨b,0,none⟩ x').setCell ⟨b,1,none⟩ y').setCell ⟨b,2,none⟩ z').heap[b]? =some (.cells #[x',y',z'] t (0,0)):=by
 rw[heap_setCell_same _ b 2 _ _ _ (heap_setCell_same _ b 1 _ _ _ (heap_setCell_same W b 0 _ _ _ h))];simp
end
end
end Go.Proofs.YtdbjpbjocmcpkaaGreatDoor
