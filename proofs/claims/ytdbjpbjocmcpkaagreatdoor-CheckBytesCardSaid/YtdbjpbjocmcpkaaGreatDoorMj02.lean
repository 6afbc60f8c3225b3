import Derived.Test.YtdbjpbjocmcpkaaGreatDoorMj01
import Derived.Lib.AppendStr
import Derived.Lib.ConvBytes
import Derived.Shelf.Abstract
import Derived.Laws.Externs
import Derived.Lib.UnsafeStr
import Derived.Lib.Builder
set_option maxHeartbeats 2000000
set_option maxRecDepth 100000
namespace Go.Proofs.YtdbjpbjocmcpkaaGreatDoor
section
open Go.Proofs.Tryz
open Go.RowKit
def Ce.wU (w:World) (B:Nat) (v:Value) (L:List UInt8):Prop:=w.ownsRow B 5 1 v L.length (Lib.byteCells L)
theorem Ce.wU.nil (w:World) (B:Nat):Ce.wU w B (.slice none 0 0) []:=⟨rfl,.inl ⟨rfl,rfl⟩⟩
theorem Ce.E9 (L:List UInt8):Lib.strCells ⟨L.toArray⟩=Lib.byteCells L:=by simp[Lib.strCells,Lib.byteCells]
theorem Ce.MR (L S:List UInt8):Lib.byteCells L++Lib.byteCells S=Lib.byteCells (L++S):=by simp[Lib.byteCells]
theorem dY {ops:Array Oper} {rest:List Oper} {o:Oper} {a:Act} {Q:Exit->Act->World->Prop} (hgd:o.guard=none) (sl x:Operand)
 (ho:o.op= .call { callee:= .builtin .append,args:= #[sl,x],argTypes:= #[35,9] }) (w:World) (B:Nat) (v:Value) (L S:List UInt8) (hs:a.eval sl=v) (hx:a.eval x= .string ⟨S.toArray⟩) (hown:Ce.wU w B v L)
 (hl:L.length+S.length<=140737488355328) (hB:B<=w.heap.size)
 (h:∀v' w',Ce.wU w' B v' (L++S)->w.grownBy w' v.ownBlock->wpList prog ops Q rest (a.put o.dst v') w'):wpList prog ops Q (o::rest) a w:=by
 obtain⟨i0,hi,hz0,hz1,hz2⟩:=info_parts (show(prog.info? 5).map (fun i=>(i.zero,i.size,i.bytes))=some (some (.int .u8 0),1,1) by kernel_rfl);have hsz:(⟨S.toArray⟩:ByteArray).size=S.length:=by simp[ByteArray.size]
 refine Lib.wpList_append_own_string (P:=prog) w hgd sl x 35 9 ho B 5 i0 Tryz.underlying35 Tryz.underlying9 hi hz0 hz1 hz2 v L.length _ hs hown ⟨S.toArray⟩ hx (by rw[hsz];unfold maxLen;omega) (by rw[hsz];exact hl) hB ?_;intro v' w' h1 h2 _;refine h v' w' ?_ h2;unfold Ce.wU;rw[hsz,Ce.E9,Ce.MR] at h1;rw[aaZ];exact h1
theorem cR {ops:Array Oper} {rest:List Oper} {o:Oper} {a:Act} {Q:Exit->Act->World->Prop} (hgd:o.guard=none) (sl x:Operand)
 (ho:o.op= .call { callee:= .builtin .append,args:= #[sl,x],argTypes:= #[35,35] }) (W:World) (B:Nat) (v:Value) (L S:List UInt8) (hown:Ce.wU W B v L) (hB:B<=W.heap.size)
 (hl:L.length+S.length<=140737488355328) (hs:a.eval sl=v) (tmp:Obj) (ael:tmp= .cells (Lib.byteCells S).toArray 5) (hx:a.eval x= .slice (some ⟨W.heap.size,0,none⟩) S.length S.length)
 (h:∀v' w',Ce.wU w' B v' (L++S)->(W.alloc tmp).grownBy w' v.ownBlock->wpList prog ops Q rest (a.put o.dst v') w'):wpList prog ops Q (o::rest) a (W.alloc tmp):=by
 subst ael;obtain⟨i0,hi,hz0,hz1,hz2⟩:=info_parts (show(prog.info? 5).map (fun i=>(i.zero,i.size,i.bytes))=some (some (.int .u8 0),1,1) by kernel_rfl);have hbl:(Lib.byteCells S).length=S.length:=by simp[Lib.byteCells]
 have hcells:∀(j:Nat) (u:Value),(Lib.byteCells S)[j]? =some u->(W.alloc (.cells (Lib.byteCells S).toArray 5)).cell? ((⟨W.heap.size,0,none⟩:Addr).add j)=some u:=by
  intro j u hj;exact adO (heap_alloc_new W (.cells (Lib.byteCells S).toArray 5)) j u (by simpa using hj)
 have hall:∀u∈Lib.byteCells S,u.oneCell'=true:=by
  intro u hu;simp only[Lib.byteCells,abO] at hu;obtain⟨c,_,rfl⟩:=hu;rfl
 refine wpList_append_own_at _ hgd sl x 35 ho B 5 i0 (.int .u8 0) 1 1 Tryz.underlying35 hi hz0 hz1 hz2 rfl (by decide) _ _ _ hs (abv hown _) ⟨W.heap.size,0,none⟩ S.length S.length (Lib.byteCells S) hx (by simpa using hbl) ?_ ?_ (by unfold maxLen;omega) (by omega) (by simp;omega) ?_
 .exact hcells
 .exact hall
 intro v' w' hown' hg _ _;refine h v' w' ?_ hg;unfold Ce.wU;rw[Ce.MR] at hown';rw[aaZ];exact hown'
end
section
open Go.RowKit
namespace gJ
def dst (ops:Array Oper) (i:Nat):Option Tmp:=(ops[i]?).bind (·.dst)
structure JD where
 deps:List Nat
 post:Value->List Value->Nat->Nat->World->Prop
def upd (ρ:Nat->Value) (i:Nat) (v:Value):Nat->Value:=fun j=>if j=i then v else ρ j
def uZ (f:Nat->Nat) (i x:Nat):Nat->Nat:=fun j=>if j=i then x else f j
def part (ops:Array Oper) (a0:Act) (ρ:Nat->Value) (L:Nat->Bool):Nat->Act
 |0=>a0
 |i+1=>if L i then (part ops a0 ρ L i).put (dst ops i) (ρ i) else part ops a0 ρ L i
def canon (ops:Array Oper) (a0:Act) (ρ:Nat->Value):Nat->Act
 |0=>a0
 |i+1=>(canon ops a0 ρ i).put (dst ops i) (ρ i)
section
variable {ops:Array Oper} {a0:Act} {ρ:Nat->Value} {L:Nat->Bool}
theorem eV (k:Nat):canon ops a0 ρ k=part ops a0 ρ (fun _=>true) k:=by
 induction k with
 |zero=>rfl
 |succ k ih=>simp[canon,part,ih]
theorem vI (k:Nat):(canon ops a0 ρ k).defers=a0.defers:=by
 induction k with
 |zero=>rfl
 |succ k ih=>
  unfold canon;cases dst ops k with
  |none=>exact ih
  |some d=>exact ih
theorem RH (a:Act) (d:Option Tmp) (v:Value):(a.put d v).tmps.size=a.tmps.size:=by
 cases d<;>simp[Act.put]
theorem N7 (k:Nat):(part ops a0 ρ L k).tmps.size=a0.tmps.size:=by
 induction k with
 |zero=>rfl
 |succ k ih=>
  unfold part
  split
  .rw[RH,ih]
  .exact ih
theorem Eg (a:Act) (t:Tmp) (v:Value):(a.put (some t) v).eval (.tmp t)=if t<a.tmps.size then v else undef:=by
 unfold Act.put Act.eval;dsimp only;by_cases h:t<a.tmps.size
 .rw[if_pos h]
  simp[h]
 .rw[if_neg h]
  simp;exact fun h'=>absurd h' h
theorem sQ (a:Act) (t:Tmp) (d:Option Tmp) (v:Value) (h:d≠some t):(a.put d v).eval (.tmp t)=a.eval (.tmp t):=
 Act.eval_put fun d' hd hx=>by cases hx;exact h hd
theorem jy {t:Tmp} (k:Nat) (h:∀j,j<k->L j=true->dst ops j≠some t):(part ops a0 ρ L k).eval (.tmp t)=a0.eval (.tmp t):=by
 induction k with
 |zero=>rfl
 |succ k ih=>
  have ih':=ih fun j hj=>h j (by omega)
  unfold part
  split
  .rename_i hL
   rw[sQ _ _ _ _ (h k (by omega) hL),ih']
  .exact ih'
theorem pG {t:Tmp} {j:Nat} (hd:dst ops j=some t) (hone:∀i,i≠j->dst ops i≠some t) (hL:L j=true) (k:Nat) (hj:j<k):(part ops a0 ρ L k).eval (.tmp t)=if t<a0.tmps.size then ρ j else undef:=by
 induction k with
 |zero=>omega
 |succ k ih=>
  unfold part;by_cases e:j=k
  .subst e
   rw[if_pos hL,hd,Eg,N7]
  .have ih':=ih (by omega)
   split
   .rw[sQ _ _ _ _ (hone k (fun h=>e h.symm)),ih']
   .exact ih'
theorem AO {i n:Nat} {t:Tmp} (hone:∀i j,i≠j->dst ops j=some t->dst ops i≠some t) (hin:i<=n) (h:∀j,j<n->dst ops j=some t->j<i/\L j=true):(part ops a0 ρ L n).eval (.tmp t)=(canon ops a0 ρ i).eval (.tmp t):=by
 rw[eV];by_cases hex:∃j,j<n/\dst ops j=some t
 .obtain⟨j,hj,hd⟩:=hex
  obtain⟨h1,h2⟩:=h j hj hd;rw[pG hd (fun i hi=>hone i j hi hd) h2 n hj,pG hd (fun i hi=>hone i j hi hd) rfl i h1]
 .rw[jy n fun j hj _ hd=>hex ⟨j,hj,hd⟩,jy i fun j hj _ hd=>hex ⟨j,by omega,hd⟩]
theorem GD {i n:Nat} {v:Value} (hone:∀i j t,i≠j->dst ops j=some t->dst ops i≠some t) (hi:L i=false) (hin:i<n):
 (part ops a0 ρ L n).put (dst ops i) v=part ops a0 (upd ρ i v) (fun j=>if j=i then true else L j) n:=by
 have low:∀k,k<=i->part ops a0 (upd ρ i v) (fun j=>if j=i then true else L j) k=part ops a0 ρ L k:=by
  intro k
  induction k with
  |zero=>exact fun _=>rfl
  |succ k ih=>
   intro hk;have e:k≠i:=by omega
   unfold part;rw[ih (by omega),if_neg e];unfold upd;rw[if_neg e]
 induction n with
 |zero=>omega
 |succ n ih=>
  by_cases e:n=i
  .subst e
   unfold part;rw[if_pos rfl,hi,low n (aaF _),if_neg (by decide)];simp[upd]
  .have ih':=ih (by omega)
   unfold part;rw[if_neg e,<-ih'];unfold upd;rw[if_neg e]
   split
   .exact Act.put_comm _ _ _ fun d h1 h2=>hone i n d (fun e2=>e e2.symm) h1 h2
   .rfl
theorem AL {ρ':Nat->Value} {L':Nat->Bool} (hL:∀j,L j=L' j) (h:∀j,L j=true->ρ j=ρ' j) (k:Nat):part ops a0 ρ L k=part ops a0 ρ' L' k:=by
 induction k with
 |zero=>rfl
 |succ k ih=>
  unfold part;rw[<-hL k]
  split
  .rename_i hk
   rw[ih,h k hk]
  .exact ih
end
def shape (ops:Array Oper) (n:Nat) (deps:Nat->List Nat):Bool:=
 (List.range ops.size).all fun i=>match ops[i]? with
   |none=>false
   |some o=>(match o.dst with|none=>true|some d=>(List.range ops.size).all fun j=>j==i||dst ops j != some d)&&
    if i<n then
     o.guard.isNone&&(match o.op with| .select _ _=>false|_=>true)&&
     (o.op.operands.toList.all fun x=>match x with
       | .tmp t=>(List.range ops.size).all fun j=>dst ops j != some t||(decide (j<i)&&o.after.toList.any fun e=>Region.binds .any e&&e.on==j)
       |_=>true)&&
     ((deps i).all fun j=>decide (j<i)&&o.after.toList.any fun e=>Region.binds .any e&&e.on==j)&&
     (o.after.all fun e=> !Region.binds .any e||decide (e.on<i))
    else (List.range n).all fun j=>o.after.toList.any fun e=>Region.binds .any e&&e.on==j
def heads (size n:Nat):Array Bool:=(List.replicate n true++List.replicate (size-n) false).toArray
def jS (P:Program) (o:Oper) (ev:Operand->Value) (w:World) (R:Value->World->Prop):Prop:=
 match (execOp ev o).run P w with
 | .ok (.value v) w'=>R v w'
 | .ok .skip w'=>R undef w'
 | .ok (.enter f args) w'=>Calls P f args w' (fun e w''=>∃v,e= .returned v/\R v w'')
 |_=>False
theorem jS.wp {P:Program} {o:Oper} {a:Act} {w:World} {R:Value->World->Prop} {K:Act->World->Prop} {Q:Exit->Act->World->Prop} (h:jS P o a.eval w R) (hK:∀v w',R v w'->K (a.put o.dst v) w'):o.wp P a w K Q:=by
 unfold jS at h;unfold Oper.wp;generalize (execOp a.eval o).run P w=r at h ⊢;cases r with
 |ok n w'=>
  cases n<;>simp only[Oper.upon] at h ⊢
  case value v=>exact hK v w' h
  case skip=>exact hK _ w' h
  case enter f args=>
   refine Calls.mono h fun e w'' he=> ?_
   obtain⟨v,rfl,hv⟩:=he;exact hK v w'' hv
 |halt x w'=>cases h
theorem bI {P:Program} {o:Oper} {ev:Operand->Value} {w:World} {R:Value->World->Prop} {v:Value} {w':World} (h:(execOp ev o).run P w= .ok (.value v) w') (hR:R v w'):jS P o ev w R:=by
 unfold jS;rw[h];exact hR
theorem any {P:Program} {ops:Array Oper} {Q:Exit->Act->World->Prop} {a0:Act} {w0:World} (sp:Nat->JD) (n N:Nat) (hn:n<=ops.size) (hN:a0.tmps.size=N) (hsh:shape ops n (fun i=>(sp i).deps)=true)
 (OC:∀i,i<n->∀v vs lo hi w w',hi<=w.heap.size->Below w.heap.size w w'->(sp i).post v vs lo hi w->(sp i).post v vs lo hi w')
 (hstep:∀i o (ρ:Nat->Value) w (ev:Operand->Value),i<n->ops[i]? =some o->Below w0.heap.size w0 w->(∀j∈(sp i).deps,∃lo hi,w0.heap.size<=lo/\lo<=hi/\hi<=w.heap.size/\(sp j).post (ρ j) ((sp j).deps.map ρ) lo hi w)->
   (∀j t,j<i->dst ops j=some t->t<N->ev (.tmp t)=ρ j)->(∀t,((List.range i).all fun j=>dst ops j != some t)=true->ev (.tmp t)=a0.eval (.tmp t))->(∀v,ev (.const v)=v)->
   jS P o ev w fun v w'=>Below w.heap.size w w'/\(sp i).post v ((sp i).deps.map ρ) w.heap.size w'.heap.size w')
 (hend:∀(ρ:Nat->Value) (lo hi:Nat->Nat) w a,a=canon ops a0 ρ n->a.defers=a0.defers->(∀j t,j<n->dst ops j=some t->t<N->a.eval (.tmp t)=ρ j)->(∀t,((List.range n).all fun j=>dst ops j != some t)=true->a.eval (.tmp t)=a0.eval (.tmp t))->Below w0.heap.size w0 w->(∀i,i<n->w0.heap.size<=lo i/\lo i<=hi i/\hi i<=w.heap.size/\(sp i).post (ρ i) ((sp i).deps.map ρ) (lo i) (hi i) w)->(∀i j,i<n->j<n->i≠j->hi i<=lo j\/hi j<=lo i)->
   wpAny P .any ops Q (ops.size-n) (heads ops.size n) a w):
 wpAny P .any ops Q ops.size (Array.replicate ops.size false) a0 w0:=by
 have hs:=fun i (hi:i<ops.size)=>abH.1 hsh i (abq.2 hi)
 have hlt:∀{j t},dst ops j=some t->j<ops.size:=fun {j t} h=>by
  rcases abW j ops.size with h1|h1
  .exact h1
  .unfold dst at h;rw[Array.getElem?_eq_none h1] at h;cases h
 have hone:∀i j t,i≠j->dst ops j=some t->dst ops i≠some t:=fun i j t hij hj hi=>by
  have h1:=hs j (hlt hj);dsimp only at h1;cases ho:ops[j]? with
  |none=>rw[ho] at h1;cases h1
  |some o=>
   have hd:o.dst=some t:=by unfold dst at hj;rw[ho] at hj;exact hj
   rw[ho] at h1;simp only[abB] at h1;have h2:=h1.1;rw[hd] at h2;have h3:=abH.1 h2 i (abq.2 (hlt hi));simp only[ab6,beq_iff_eq,bne_iff_ne] at h3;rcases h3 with h3|h3
   .exact hij h3
   .exact h3 hi
 have hop:∀i,i<n->∃o,ops[i]? =some o/\o.guard=none/\(∀cs b,o.op≠.select cs b)/\
  (∀t,Operand.tmp t∈o.op.operands->∀j,j<ops.size->dst ops j=some t->j<i/\∃e∈o.after,Region.binds .any e=true/\e.on=j)/\
  (∀j∈(sp i).deps,j<i/\∃e∈o.after,Region.binds .any e=true/\e.on=j)/\(∀e∈o.after,Region.binds .any e=true->e.on<i):=fun i hi=>by
  have h1:=hs i (by omega);dsimp only at h1;cases ho:ops[i]? with
  |none=>rw[ho] at h1;cases h1
  |some o=>
   rw[ho] at h1;simp only[abB,if_pos hi] at h1;obtain⟨_,⟨⟨⟨g1,g2⟩,g4⟩,g5⟩,g6⟩:=h1;refine⟨o,rfl,by simpa using g1,(fun cs b hsel=>by rw[hsel] at g2;cases g2),fun t ht j hj hd=> ?_,fun j hj=> ?_,fun e he hb=> ?_⟩
   .have h2:=abH.1 g4 (.tmp t) (by simpa using ht)
    dsimp only at h2;have h3:=abH.1 h2 j (abq.2 hj);simp only[ab6,bne_iff_ne,abB,decide_eq_true_eq,acp,beq_iff_eq] at h3;rcases h3 with h3|⟨h3,e,he,h4⟩
    .exact absurd hd h3
    .exact⟨h3,e,by simpa using he,h4⟩
   .have h2:=abH.1 g5 j hj
    simp only[abB,decide_eq_true_eq,acp,beq_iff_eq] at h2;obtain⟨h3,e,he,h4⟩:=h2;exact⟨h3,e,by simpa using he,h4⟩
   .have h2:=adx.1 g6 e he
    rw[hb] at h2;simpa using h2
 have OS:∀i o,n<=i->ops[i]? =some o->∀j,j<n->∃e∈o.after,Region.binds .any e=true/\e.on=j:=fun i o hi ho j hj=>by
  have h1:=hs i (abX.1 ho).1;dsimp only at h1;rw[ho] at h1;simp only[abB,if_neg (Nat.not_lt.2 hi)] at h1;have h2:=abH.1 h1.2 j (abq.2 hj);simp only[abB,acp,beq_iff_eq] at h2;obtain⟨e,he,h4⟩:=h2;exact⟨e,by simpa using he,h4⟩
 have fin:∀(listed:Array Bool),listed.size=ops.size->Region.ready .any ops listed=[]->∀i,i<n->listed.getD i false=true:=by
  intro listed hl hr i
  induction i using Nat.strongRecOn with
  |_ i ih=>
   intro hi;by_cases hb:listed.getD i false=true
   .exact hb
   .exfalso
    have hi':i<listed.size:=by omega
    have h0:listed.getD i true=false:=by
     simp[hi'] at hb ⊢;exact hb
    obtain⟨o,ho,_,_,_,_,eT⟩:=hop i hi;have hm:i∈Region.ready .any ops listed:=by
     rw[mem_ready];refine⟨h0,o,ho,fun e he hbd=> ?_⟩;have:=eT e he hbd;exact ih e.on this (by omega)
    rw[hr] at hm;cases hm
 have key:∀(fuel:Nat) (listed:Array Bool) (ρ:Nat->Value) (lo hi:Nat->Nat) (w:World),listed.size=ops.size->listed.toList.count false=fuel->Below w0.heap.size w0 w->
  (∀i,n<=i->listed.getD i false=false)->
  (∀i,i<n->listed.getD i false=true->w0.heap.size<=lo i/\lo i<=hi i/\hi i<=w.heap.size/\(sp i).post (ρ i) ((sp i).deps.map ρ) (lo i) (hi i) w/\∀j∈(sp i).deps,listed.getD j false=true)->
  (∀i j,i<n->j<n->listed.getD i false=true->listed.getD j false=true->i≠j->hi i<=lo j\/hi j<=lo i)->
  wpAny P .any ops Q fuel listed (part ops a0 ρ (fun j=>listed.getD j false) n) w:=by
  have last:∀(listed:Array Bool) (ρ:Nat->Value) (lo hi:Nat->Nat) (w:World),listed.size=ops.size->Below w0.heap.size w0 w->
   (∀i,n<=i->listed.getD i false=false)->
   (∀i,i<n->listed.getD i false=true->w0.heap.size<=lo i/\lo i<=hi i/\hi i<=w.heap.size/\(sp i).post (ρ i) ((sp i).deps.map ρ) (lo i) (hi i) w/\∀j∈(sp i).deps,listed.getD j false=true)->
   (∀i j,i<n->j<n->listed.getD i false=true->listed.getD j false=true->i≠j->hi i<=lo j\/hi j<=lo i)->
   (∀i,i<n->listed.getD i false=true)->wpAny P .any ops Q (listed.toList.count false) listed (part ops a0 ρ (fun j=>listed.getD j false) n) w:=by
   intro listed ρ lo hi w hl hb hno hg hd hall;have e:∀k,k<=n->part ops a0 ρ (fun j=>listed.getD j false) k=canon ops a0 ρ k:=by
    intro k
    induction k with
    |zero=>exact fun _=>rfl
    |succ k ih=>
     intro hk;unfold part canon;rw[ih (by omega),hall k (by omega),if_pos rfl]
   have e2:listed=heads ops.size n:=by
    apply Array.ext
    .simp[heads,hl];omega
    .intro i h1 h2
     by_cases hi:i<n
     .have:=hall i hi
      simp[h1] at this;rw[this];simp[heads,hi]
     .have:=hno i (by omega)
      simp[h1] at this;rw[this];simp[heads,List.getElem_append,hi]
   have e3:(heads ops.size n).toList.count false=ops.size-n:=by simp[heads,List.count_append,List.count_replicate]
   rw[e _ (aaF _),e2,e3];exact hend ρ lo hi w _ rfl (vI n) (fun j t hj hd ht=>by
    rw[eV,pG hd (fun i hi=>hone i j t hi hd) rfl n hj,if_pos (by rw[hN];exact ht)]) (fun t ht=>by
    rw[eV,jy n fun j hj _=>by
     have:=abH.1 ht j (abq.2 hj);simpa using this]) hb (fun i hi=>by
    obtain⟨h1,h2,h3,h4,_⟩:=hg i hi (hall i hi);exact⟨h1,h2,h3,h4⟩) fun i j hi hj=>hd i j hi hj (hall i hi) (hall j hj)
  intro fuel
  induction fuel with
  |zero=>
   intro listed ρ lo hi w hl hc hb hno hg hd;have hall:∀i,i<n->listed.getD i false=true:=fun i hi=>by
    have hm:¬false∈listed.toList:=fun h=>by
     have:=adk.2 h;omega
    have hi':i<listed.size:=by omega
    by_cases lN:listed[i]=true
    .simp[hi',lN]
    .exfalso
     have e:listed[i]=false:=by simpa using lN
     exact hm (by rw[<-e];simp)
   have:=last listed ρ lo hi w hl hb hno hg hd hall;rw[hc] at this;exact this
  |succ fuel ih=>
   intro listed ρ lo hi w hl hc hb hno hg hd;by_cases hall:∀i,i<n->listed.getD i false=true
   .have:=last listed ρ lo hi w hl hb hno hg hd hall
    rw[hc] at this;exact this
   refine⟨fun hr=>absurd (fin listed hl hr) hall,fun i hi=> ?_⟩;have nS:=hi;rw[mem_ready] at hi;obtain⟨h0,o,ho,DZ⟩:=hi;have ae4:=(abX.1 ho).1;have hin:i<n:=by
    rcases abW i n with h|h
    .exact h
    .exact absurd (fun j hj=>by
      obtain⟨e,he,hbd,rfl⟩:=OS i o h ho j hj;exact DZ e he hbd) hall
   have hi':i<listed.size:=by omega
   obtain⟨o',ho',hgd,hsel,hread,LV,_⟩:=hop i hin;rw[ho] at ho';cases ho';have pS:listed.getD i false=false:=by
    simp[hi'] at h0 ⊢;exact h0
   have qI:∀j∈(sp i).deps,listed.getD j false=true:=fun j hj=>by
    obtain⟨_,e,he,hbd,rfl⟩:=LV j hj;exact DZ e he hbd
   have hev:execOp (part ops a0 ρ (fun j=>listed.getD j false) n).eval o=execOp (canon ops a0 ρ i).eval o:=by
    refine execOp_congr o hsel fun x hx=> ?_
    cases x with
    |tmp t=>
     refine AO (fun i j hij=>hone i j t hij) (by omega) fun j hj hd=> ?_
     obtain⟨h1,e,he,hbd,rfl⟩:=hread t hx j (by omega) hd;exact⟨h1,DZ e he hbd⟩
    |_=>rfl
   have LA:=hstep i o ρ w (canon ops a0 ρ i).eval hin ho hb (fun j hj=>by
    have hjl:=(LV j hj).1;obtain⟨h1,h2,h3,h4,_⟩:=hg j (by omega) (qI j hj);exact⟨lo j,hi j,h1,h2,h3,h4⟩) (fun j t hj hd ht=>by
    rw[eV,pG hd (fun i hi=>hone i j t hi hd) rfl i hj,if_pos (by rw[hN];exact ht)]) (fun t ht=>by
    rw[eV,jy i fun j hj _=>by
     have:=abH.1 ht j (abq.2 hj);simpa using this]) (fun v=>rfl)
   unfold wpOp;rw[ho];dsimp only;have hw:Region.wanted o (yielded ops (part ops a0 ρ (fun j=>listed.getD j false) n).tmps)=true:=by
    unfold Region.wanted;rw[hgd]
   rw[if_pos hw];refine .inl ?_;have OB:jS P o (part ops a0 ρ (fun j=>listed.getD j false) n).eval w fun v w'=>Below w.heap.size w w'/\(sp i).post v ((sp i).deps.map ρ) w.heap.size w'.heap.size w':=by
    unfold jS at LA ⊢;rw[hev];exact LA
   refine OB.wp fun v w' hv=> ?_
   obtain⟨dA,hpost⟩:=hv;have Vr:o.dst=dst ops i:=by unfold dst;rw[ho];rfl
   have kI:∀j,(listed.setIfInBounds i true).getD j false=if j=i then true else listed.getD j false:=fun j=>by
    by_cases e:j=i
    .subst e
     rw[if_pos rfl];simp[hi']
    .rw[if_neg e]
     exact getD_set_ne false (fun h=>e h.symm)
   rw[Vr,GD hone pS hin,AL (L':=fun j=>(listed.setIfInBounds i true).getD j false) (ρ':=upd ρ i v) (fun j=>(kI j).symm) (fun _ _=>rfl)];have hsz:=dA.size;have hb0:=hb.size;have UH:∀j,j≠i->listed.getD j false=true->(∀k∈(sp j).deps,listed.getD k false=true)->(sp j).deps.map (upd ρ i v)=(sp j).deps.map ρ:=fun j hj hjl hk=>by
    refine abS fun k hkm=> ?_
    unfold upd;rw[if_neg];intro e;subst e;rw[hk k hkm] at pS;cases pS
   have Jl:(sp i).deps.map (upd ρ i v)=(sp i).deps.map ρ:=abS fun k hkm=>by
    unfold upd;rw[if_neg];intro e;subst e;rw[qI k hkm] at pS;cases pS
   refine ih (listed.setIfInBounds i true) (upd ρ i v) (uZ lo i w.heap.size) (uZ hi i w'.heap.size) w' (by simpa using hl) ?_ (hb.trans (dA.mono hb0)) (fun j hj=>by rw[kI,if_neg (by omega)];exact hno j hj) ?_ ?_
   .rw[ad5]
    have hi2:i<listed.toList.length:=by simpa using hi'
    have e:listed.toList[i]=false:=by
     simp[hi'] at h0;simpa using h0
    have hpos:0<listed.toList.count false:=adk.2 (by rw[<-e];exact acP hi2);rw[List.count_set hi2,e,if_pos (by decide),if_neg (by decide)];omega
   .intro j hj hjl
    rw[kI] at hjl;by_cases e:j=i
    .subst e
     unfold uZ;rw[if_pos rfl,if_pos rfl];refine⟨hb0,hsz,aaF _,?_,fun k hk=>by rw[kI];split;rfl;exact qI k hk⟩;rw[Jl];unfold upd;rw[if_pos rfl];exact hpost
    .rw[if_neg e] at hjl
     obtain⟨h1,h2,h3,h4,h5⟩:=hg j hj hjl;unfold uZ;rw[if_neg e,if_neg e];refine⟨h1,h2,by omega,?_,fun k hk=>by rw[kI];split;rfl;exact h5 k hk⟩;rw[UH j e hjl h5];unfold upd;rw[if_neg e];exact OC j hj _ _ _ _ w w' h3 dA h4
   .intro j k hj hk hjl hkl hjk
    rw[kI] at hjl hkl;unfold uZ;by_cases e:j=i
    .subst e
     rw[if_neg (fun h=>hjk h.symm)] at hkl;rw[if_pos rfl,if_pos rfl,if_neg (fun h=>hjk h.symm),if_neg (fun h=>hjk h.symm)];exact .inr (hg k hk hkl).2.2.1
    .rw[if_neg e] at hjl
     by_cases e2:k=i
     .subst e2
      rw[if_neg e,if_neg e,if_pos rfl,if_pos rfl];exact .inl (hg j hj hjl).2.2.1
     .rw[if_neg e2] at hkl
      rw[if_neg e,if_neg e,if_neg e2,if_neg e2];exact hd j k hj hk hjl hkl hjk
 have hnone:∀j,(Array.replicate ops.size false).getD j false=false:=fun j=>by by_cases hk:j<ops.size<;>simp[hk]
 have h0:part ops a0 (fun _=>undef) (fun j=>(Array.replicate ops.size false).getD j false) n=a0:=by
  have:∀k,part ops a0 (fun _=>undef) (fun j=>(Array.replicate ops.size false).getD j false) k=a0:=by
   intro k
   induction k with
   |zero=>rfl
   |succ k ih=>
    unfold part;rw[ih,hnone k,if_neg (by decide)]
  exact this _
 have hk:=key ops.size (Array.replicate ops.size false) (fun _=>undef) (fun _=>0) (fun _=>0) w0 (by simp) (by simp) (aaG _ _) (fun i _=>hnone i) (fun i _ h=>by rw[hnone i] at h;cases h) (fun i _ _ _ h=>by rw[hnone i] at h;cases h);rw[h0] at hk;exact hk
end gJ
end
section
open Go.RowKit
namespace gJ
def fZ (L:Nat->Bool) (i:Nat):Nat->Bool:=fun j=>if j=i then true else L j
end gJ
end
section
open Go.RowKit
namespace AnyM
def GP (A:World):List (Nat×World)->(Nat->Bool)->World->Prop
 |[],_,V=>V=A
 |(k,w)::r,L,V=>if L k=true then V=w else GP A r L V
theorem other {A:World} {i:Nat}:∀{r:List (Nat×World)} {L:Nat->Bool} {V:World},(r.all fun q=>q.1 != i)=true->GP A r L V->GP A r (gJ.fZ L i) V
 |[],_,_,_,h=>h
 |(k,w)::r,L,V,hk,h=>by
  rw[List.all_cons,abB] at hk;have e1:gJ.fZ L i k=L k:=if_neg (fun e=>by simp[e] at hk);unfold GP at h ⊢;rw[e1]
  split
  .rename_i hl
   rw[if_pos hl] at h;exact h
  .rename_i hl
   rw[if_neg hl] at h;exact other hk.2 h
theorem gv {P:Program} {o:Oper} {ev:Operand->Value} {v:Value} {i:Nat} {A:World} {r:List (Nat×World)} {L:Nat->Bool} {V:World} (hC:GP A r L V) (h:(execOp ev o).run P V= .ok (.value v) V) (hr:(r.all fun q=>q.1 != i)=true):gJ.jS P o ev V fun u w'=>u=v/\GP A r (gJ.fZ L i) w':=gJ.bI h ⟨rfl,other hr hC⟩
end AnyM
namespace gJ
end gJ
end
section
open Go.RowKit
theorem Rv {w:World} {B:Nat} {v:Value} {vs:List Value} {ls:List (List Int)} (h:ay w B v vs ls) (hn:0<ls.length):∃g c,v= .slice (some ⟨g,0,none⟩) ls.length c:=by
 rcases h.outer.2 with ⟨rfl,h0⟩|⟨g,cap,cur,rfl,_⟩
 .omega
 .exact⟨g,cap,rfl⟩
theorem bG {w:World} {B:Nat} {v:Value} {vs:List Value} {ls:List (List Int)} (h:ay w B v vs ls):∃ao c,v= .slice ao ls.length c:=by
 rcases h.outer.2 with ⟨rfl,h0⟩|⟨g,cap,cur,rfl,_⟩
 .exact⟨none,0,by rw[h0]⟩
 .exact⟨_,cap,rfl⟩
end
section
open Go.RowKit
def ze (w:World) (B:Nat) (v:Value) (c:Ce.Cert):Prop:=∃va ve vs,v= .agg #[.bool c.pl,va,ve]/\ay w B va vs c.ar/\aW w B ve c.es
def V7 (r:Ce.Cert×Int×Int) (w:World) (e:Ending) (w':World):Prop:=
 Below w.heap.size w w'/\∃v,e= .returned (.tuple #[v,.int .i64 r.2.1,.int .i64 r.2.2])/\ze w' w.heap.size v r.1
theorem yG (w:World) (B:Nat):ze w B (.agg #[.bool false,.slice none 0 0,.slice none 0 0]) Ce.zero:=⟨_,_,[],rfl,ay.nil _ _,aW.nil _ _⟩
theorem N9 {R:Ce.Cert×Int×Int} {w w':World} {p q:Int} (h:(Ce.zero,p,q)=R) (hb:Below w.heap.size w w'):V7 R w (.returned (.tuple #[.agg #[.bool false,.slice none 0 0,.slice none 0 0],.int .i64 p,.int .i64 q])) w':=by
 subst h;exact⟨hb,_,rfl,yG _ _⟩
section
variable {w W W':World} {pl:Bool} {va ve:Value} {vs:List Value} {ls:List (List Int)} {es:List (Int×Int)} {la lb:Int}
theorem bF {b:Nat} {t:TypeId} {x y z:Value} (h:W.heap[b]? =some (.cells #[x,y,z] t (0,0))):W.cell? ⟨b,0,none⟩=some x/\W.cell? ⟨b,1,none⟩=some y/\W.cell? ⟨b,2,none⟩=some z/\∀i,W.frozen? ⟨b,i,none⟩=false:=by
 simp[World.cell?,World.frozen?,h]
theorem aU {b:Nat} {t:TypeId} {x y:Value} (h:W.heap[b]? =some (.cells #[x,y] t (0,0))):W.cell? ⟨b,0,none⟩=some x/\W.cell? ⟨b,1,none⟩=some y/\∀i,W.frozen? ⟨b,i,none⟩=false:=by
 simp[World.cell?,World.frozen?,h]
theorem wY {b:Nat} {t:TypeId} {x y z:Value} (h:W.heap[b]? =some (.cells #[x,y,z] t (0,0))) (x' y' z':Value):(((W.setCell ⟨b,0,none⟩ x').setCell ⟨b,1,none⟩ y').setCell ⟨b,2,none⟩ z').heap[b]? =some (.cells #[x',y',z'] t (0,0)):=by
 rw[heap_setCell_same _ b 2 _ _ _ (heap_setCell_same _ b 1 _ _ _ (heap_setCell_same W b 0 _ _ _ h))];simp
end
end
section
open Go.Proofs.Tryz
open Go.RowKit
def oU (w:World) (B b:Nat) (p:Value) (L:List UInt8) (t:Bool):Prop:=
 B<=b/\∃v,w.heap[b]? =some (.cells #[p,v,.bool t] 146 (0,0))/\Ce.wU w B v L/\v.ownBlock≠some b
def dL (w:World) (B b:Nat) (L:List UInt8) (t:Bool):Prop:=oU w B b (.pointer none) L t\/oU w B b (.pointer (some ⟨b,0,none⟩)) L t
section
variable {w w':World} {B b:Nat} {p:Value} {L:List UInt8} {t:Bool}
theorem oU.lt (h:oU w B b p L t):b<w.heap.size:=by
 obtain⟨_,v,hb,_⟩:=h;exact lt_of_block hb
theorem oU.later (h:oU w B b p L t) (hb:Below w.heap.size w w'):oU w' B b p L t:=by
 obtain⟨h0,v,h1,h2,h3⟩:=h;exact⟨h0,v,(hb.block _ (lt_of_block h1)).trans h1,cO h2 fun g _ _ h=>hb.block g h,h3⟩
theorem oU.used (h:oU w B b p L t) (q:Value):oU (w.setCell ⟨b,0,none⟩ q) B b q L t:=by
 obtain⟨h0,v,h1,h2,h3⟩:=h;refine⟨h0,v,?_,?_,h3⟩
 .rw[heap_setCell_same w b 0 _ _ _ h1];simp
 .exact cO h2 fun g hg _ _=>heap_setCell_other _ ⟨b,0,none⟩ g _ (by dsimp only;intro e;exact h3 (by rw[hg,e]))
theorem dL.later (h:dL w B b L t) (hb:Below w.heap.size w w'):dL w' B b L t:=h.imp (·.later hb) (·.later hb)
theorem dL.some (h:dL w B b L t):∃p,oU w B b p L t:=h.elim (fun h=>⟨_,h⟩) (fun h=>⟨_,h⟩)
theorem oU.cells (h:oU w B b p L t):∃vo vc,w.cell? ⟨b,0,none⟩=Option.some p/\w.cell? ⟨b,1,none⟩=Option.some (.slice vo L.length vc)/\w.cell? ⟨b,2,none⟩=Option.some (.bool t)/\(∀i,w.frozen? ⟨b,i,none⟩=false)/\w.shape? b=Option.some (146,3):=by
 obtain⟨h0,v,h1,h2,h3⟩:=h;have hv:∃vo vc,v= .slice vo L.length vc:=by
  rcases h2.2 with ⟨rfl,h⟩|⟨g,cap,cur,rfl,-⟩
  .exact⟨none,0,by rw[h]⟩
  .exact⟨_,_,rfl⟩
 obtain⟨vo,vc,rfl⟩:=hv;exact⟨vo,vc,by simp[World.cell?,h1],by simp[World.cell?,h1],by simp[World.cell?,h1],fun i=>by simp[World.frozen?,h1],by simp[World.shape?,h1]⟩
theorem oU.new (w:World) (hB:B<=w.heap.size):dL (w.alloc (.cells #[.pointer none,.slice none 0 0,.bool false] 146)) B w.heap.size [] false:=
 .inl ⟨hB,_,heap_alloc_new w _,Ce.wU.nil _ _,by simp[Value.ownBlock]⟩
theorem oU.xd (h:oU w B b p L t):oU (w.setCell ⟨b,2,none⟩ (.bool true)) B b p L true:=by
 obtain⟨h0,v,h1,h2,h3⟩:=h;refine⟨h0,v,?_,?_,h3⟩
 .rw[heap_setCell_same w b 2 _ _ _ h1];simp
 .exact cO h2 fun g hg _ _=>heap_setCell_other _ ⟨b,2,none⟩ g _ (by dsimp only;intro e;exact h3 (by rw[hg,e]))
end
theorem yz (b:Nat) (w:World) (h0:w.cell? ⟨b,0,none⟩=some (.pointer (some ⟨b,0,none⟩))):
 Calls prog 172 #[.pointer (some ⟨b,0,none⟩)] w fun e w'=>e= .returned (.tuple #[])/\w'=w:=by
 obtain⟨j,hj,_⟩:=abI.1 (show(prog.info? 144).map (·.size)=some 2 by kernel_rfl);go_enter func172,ntmps172;go_wp2;rw[Lib.run_neq_ptr_same w _ Tryz.underlying142 hj];go_wp2
 go_end0
 exact⟨rfl,rfl⟩
theorem wF (b:Nat) (w:World) (h0:w.cell? ⟨b,0,none⟩=some (.pointer none)) (hsh:w.shape? b=some (146,3)) (hfz:w.frozen? ⟨b,0,none⟩=false):
 Calls prog 172 #[.pointer (some ⟨b,0,none⟩)] w fun e w'=>e= .returned (.tuple #[])/\w'=w.setCell ⟨b,0,none⟩ (.pointer (some ⟨b,0,none⟩)):=by
 obtain⟨j,hj,hjs⟩:=abI.1 (show(prog.info? 144).map (·.size)=some 2 by kernel_rfl);have hj0:j.size≠0:=by rw[hjs];decide
 go_enter func172,ntmps172;go_wp2;rw[Lib.run_to_unsafe w ⟨b,0,none⟩ Tryz.underlying142 Tryz.underlying333 hj hj0 hsh (Nat.zero_lt_succ 2)];simp only[Result.andThen];rw[aeL];go_wp2;rw[run_callFunc_extern func232 (by kernel_rfl) (by kernel_rfl) (by kernel_rfl) (e:=Extern.AbiNoEscape.same) (by kernel_rfl)];rw[Lib.run_noEscape];simp only[Result.andThen];rw[aeL];go_wp2;rw[Lib.run_from_unsafe w ⟨b,0,none⟩ Tryz.underlying333 Tryz.underlying142 hj hsh (by kernel_rfl)];simp only[Result.andThen];rw[aeL];go_wp2
 go_end0
 exact⟨rfl,rfl⟩
theorem zX {w:World} {B b:Nat} {L:List UInt8} {t:Bool} (h:dL w B b L t):
 Calls prog 172 #[.pointer (some ⟨b,0,none⟩)] w fun e w'=>e= .returned (.tuple #[])/\oU w' B b (.pointer (some ⟨b,0,none⟩)) L t/\Below B w w':=by
 rcases h with h|h
 .obtain⟨vo,vc,c0,c1,c2,fz,hsh⟩:=h.cells
  refine(wF b w c0 hsh (fz 0)).mono ?_;rintro e w' ⟨rfl,rfl⟩;exact⟨rfl,h.used _,(aaG B w).setCell (p:=⟨b,0,none⟩) h.1 _⟩
 .obtain⟨vo,vc,c0,c1,c2,fz,hsh⟩:=h.cells
  refine(yz b w c0).mono ?_;rintro e w' ⟨rfl,rfl⟩;exact⟨rfl,h,aaG B _⟩
theorem rT {w:World} {B b:Nat} {L:List UInt8} {t:Bool} (h:dL w B b L t):
 Calls prog 79 #[.pointer (some ⟨b,0,none⟩)] w fun e w'=>e= .returned (.int .i64 (L.length:Int))/\w'=w:=by
 obtain⟨p,h⟩:=h.some;obtain⟨vo,vc,c0,c1,-,fz,hsh⟩:=h.cells;clear h;go_enter func79,ntmps79;go_wp2;go_ret;exact⟨rfl,rfl⟩
theorem uU {w:World} {B b:Nat} {L S:List UInt8} {t:Bool} (h:dL w B b L t) (hB:B<=w.heap.size) (hl:L.length+S.length<=140737488355328):
 Calls prog 120 #[.pointer (some ⟨b,0,none⟩),.string ⟨S.toArray⟩] w fun e w'=>(∃v,e= .returned v)/\dL w' B b (L++S) t/\Below B w w':=by
 have HW:=ζ h;clear h;go_enter func120,ntmps120;go_wp2_with (go_at_call 172;refine(zX HW.out).mono ?_;rintro e w1 ⟨rfl,h1,hb1⟩;refine aaI ?_);refine ζ ?_;obtain⟨h0,v,hh,LX,hne⟩:=h1;obtain⟨vo,vc,c0,c1,c2,fz,hsh⟩:=oU.cells ⟨h0,v,hh,LX,hne⟩;obtain rfl:v= .slice vo L.length vc:=by
  have:w1.cell? ⟨b,1,none⟩=some v:=by simp[World.cell?,hh]
  exact aa9 (this.symm.trans c1)
 have hB1:B<=w1.heap.size:=aa1 hB hb1.size;have aD:=ζ hb1;have nU:=ζ hne;clear hsh hb1 hne;go_wp2_with (at_builtin;refine dY rfl _ _ rfl w1 B (.slice vo L.length vc) L S rfl rfl LX hl hB1 ?_;refine aaI ?_);refine ζ ?_;intro v' w2 QB hg2;have eT:∀x,(Value.slice vo L.length vc).ownBlock=some x->B<=x:=fun x e=>(aaO LX x e).1
 have Jg:=(hg2.block b (lt_of_block hh) (fun e=>nU.out e.symm)).trans hh;have hv':∃TN TP,v'= .slice TN (L++S).length TP:=by
  rcases QB.2 with ⟨rfl,h⟩|⟨g,cap,cur,rfl,-⟩
  .exact⟨none,0,by rw[h]⟩
  .exact⟨_,_,rfl⟩
 obtain⟨TN,TP,rfl⟩:=hv';obtain⟨d0,d1,d2,df⟩:=bF Jg;have U8:(Value.slice TN (L++S).length TP).ownBlock≠some b:=fun e=>by
  rcases QB.2 with ⟨h,-⟩|⟨g,cap,cur,h,-,hg,-⟩
  .rw[h] at e
   cases e
  .rw[h] at e
   obtain rfl:g=b:=by simpa[Value.ownBlock] using e
   rw[Jg] at hg;have:=congrArg (fun o=>match o with|some (Obj.cells _ t _)=>t|_=>146) hg;revert this;dsimp only;decide
 have HF:=ζ (show dL (w2.setCell ⟨b,1,none⟩ (.slice TN (L++S).length TP)) B b (L++S) t from .inr ⟨h0,_,by rw[heap_setCell_same w2 b 1 _ _ _ Jg];simp,cO QB fun g hg _ _=>heap_setCell_other _ ⟨b,1,none⟩ g _ (by dsimp only;intro e;exact U8 (by rw[hg,e])),U8⟩);have HBF:=ζ (((aD.out.grown hg2 hB1 eT).setCell (p:=⟨b,1,none⟩) h0 (.slice TN (L++S).length TP)));clear QB hg2 eT U8 hh Jg LX;rw[aaZ] at HF HBF;go_wp2;go_ret2;exact⟨⟨_,rfl⟩,HF.out,HBF.out⟩
theorem Cp {w:World} {B b:Nat} {L:List UInt8} {t:Bool} (h:dL w B b L t) (h0:L≠[]):
 Calls prog 80 #[.pointer (some ⟨b,0,none⟩)] w fun e w'=>e= .returned (.string ⟨L.toArray⟩)/\Below B w w':=by
 obtain⟨p,hB,v,hbk,hown,hne⟩:=h.some;have hl0:L.length≠0:=by simpa using h0
 obtain⟨g,cap,cur,rfl,hbg,hg,hnc,hcm,hcs,abh⟩:∃g cap cur,v= .slice (some ⟨g,0,none⟩) L.length cap/\B<=g/\w.heap[g]? =some (.cells cur 5 (0,0))/\L.length<=cap/\cap<=maxLen/\cur.size=cap*1/\cur.toList.take (L.length*1)=Lib.byteCells L:=by
  rcases hown.2 with ⟨_,hz⟩|⟨g,cap,cur,hv,r⟩
  .exact absurd hz hl0
  .exact⟨g,cap,cur,hv,r⟩
 have c1:w.drew.cell? ⟨b,1,none⟩=some (.slice (some ⟨g,0,none⟩) L.length cap):=by
  have:w.drew.heap[b]? =some (.cells #[p,.slice (some ⟨g,0,none⟩) L.length cap,.bool t] 146 (0,0)):=hbk;simp[World.cell?,this]
 have hSD:(Builtin.unsafeSliceData_ #[35] 207 #[.slice (some ⟨g,0,none⟩) L.length cap]).run prog w.drew= .ok (.pointer (some ⟨g,0,none⟩)) w.drew:=
  Lib.run_unsafeSliceData_row _ _ _ _ _ _ (by omega)
 have hUS:(Builtin.unsafeString_ #[207,3] 9 #[.pointer (some ⟨g,0,none⟩),.int .i64 L.length]).run prog w.drew= .ok (.string ⟨L.toArray⟩) (w.drew.freeze ⟨g,0,none⟩ L.length):=by
  refine Lib.run_unsafeString_row w.drew 207 3 9 5 Tryz.underlying207 (by kernel_rfl) g cur.size (by have hg':w.drew.heap[g]? =some (.cells cur 5 (0,0)):=hg;simp[World.shape?,hg']) L h0 (by omega) (by unfold maxLen at hcm;omega) ?_;intro j x hx;have:=hown.cells (g:=g) rfl j (.int .u8 x.toNat) (by simp[Lib.byteCells,hx]);exact this
 clear h0 hown abh hcs hcm hnc hbk h hne;go_enter func80,ntmps80;go_wp2
 go_region
 all_goals (go_wp2;go_ret;exact⟨rfl,Lib.below_freeze (adD (aaG B w)) (p:=⟨g,0,none⟩) hbg _⟩)
end
section
open Go.RowKit
def e8 (w:World) (b:Nat) (ao:Option Addr) (n cap p:Nat):Prop:=
 w.heap[b]? =some (.cells #[.slice ao n cap,.int .i64 p] 254 (0,0))
def posOf (w:World) (b:Nat):Nat:=match w.cell? ⟨b,1,none⟩ with
 |some (.int _ x)=>x.toNat
 |_=>0
section
variable {w w':World} {b:Nat} {ao:Option Addr} {n cap p:Nat} {g:Nat->Int}
theorem e8.lt (h:e8 w b ao n cap p):b<w.heap.size:=lt_of_block h
theorem e8.text (h:e8 w b ao n cap p):w.cell? ⟨b,0,none⟩=some (.slice ao n cap):=by unfold e8 at h;simp[World.cell?,h]
theorem e8.place (h:e8 w b ao n cap p):w.cell? ⟨b,1,none⟩=some (.int .i64 p):=by unfold e8 at h;simp[World.cell?,h]
theorem e8.free (h:e8 w b ao n cap p) (i:Nat):w.frozen? ⟨b,i,none⟩=false:=by unfold e8 at h;simp[World.frozen?,h]
theorem e8.pos (h:e8 w b ao n cap p):posOf w b=p:=by simp[posOf,h.place]
theorem e8.set (h:e8 w b ao n cap p) (q:Nat):e8 (w.setCell ⟨b,1,none⟩ (.int .i64 q)) b ao n cap q:=by
 unfold e8 at h ⊢;rw[heap_setCell_same w b 1 _ _ _ h];simp
theorem e8.alloc (h:e8 w b ao n cap p) (o:Obj):e8 (w.alloc o) b ao n cap p:=(aa0 w o b h.lt).trans h
theorem e8.kept {r:Option Nat} (h:e8 w b ao n cap p) (hg:w.grownBy w' r) (hr:some b≠r):e8 w' b ao n cap p:=(hg.block b h.lt hr).trans h
theorem e8.drewN (h:e8 w b ao n cap p) (k:Nat):e8 (w.drewN k) b ao n cap p:=h
theorem e8.nZ (h:e8 w b ao n cap p) {B:Nat} (hB:b≠B) (x0 x1 x2 x3:Value):e8 (nZ w B x0 x1 x2 x3) b ao n cap p:=(AE hB x0 x1 x2 x3).trans h
end
end
end Go.Proofs.YtdbjpbjocmcpkaaGreatDoor
