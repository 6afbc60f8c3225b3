import Derived.Test.YtbhdibflpjhpaaaGreatMg38
import Derived.Test.YtbhdibflpjhpaaaGreatMg26
namespace Go.Proofs.YtbhdibflpjhpaaaGreat
section
namespace Lt
open Pl
section
variable {n m:Nat} {T:DF n m} {E:Env} {oe:Nat->List Nat} {hf:Nat->Int}
def Root (T:DF n m) (v:Nat):Prop:=∀a,a<m->T.tree a=true->T.go a≠v
theorem Inv.enter {st:TS} {fin:Nat->Prop} {G:List Nat} {v:Nat} (h:Inv T E oe st fin G []) (hv:v<n) (hr:Root T v) (hnf:¬fin v):Inv T E oe (enter st v) fin G [⟨v,0,[]⟩]:=by
 have hfl:flat ([⟨v,0,[]⟩]:List Lv)=flat []:=by simp[flat]
 have bD:=h.way;have hw:st.way=[]:=by
  cases hw:st.way with
  |nil=>rfl
  |cons _ _=>rw[hw] at bD;exact bD.elim
 refine⟨by rw[hfl];exact h.lk,by rw[hfl];exact h.stk,h.len,?_,h.Lx,fun e=> ?_,fun x hx y ym ty gy=> ?_,by simp,fun l hl=> ?_,fun e he te=> ?_,fun x hx y z ym zm yf zf hne sd aQ=>h.r1 x hx y z ym zm yf zf hne sd (by rw[hfl] at aQ;exact aQ),fun a am ta fa sd aQ=>h.r2 a am ta fa sd (by rw[hfl] at aQ;exact aQ)⟩
 .unfold Lt.enter
  dsimp only;rw[hw];refine⟨⟨rfl,rfl⟩,ab6 _,⟨hv,?_,fun a _ _ _ b0 hb=>by simp at hb,fun x hx=>by simp at hx⟩,hr⟩;show kY T E.lw _ ((oe v).take 0) [];rw[List.take_zero];exact kY.nil
 .rw[h.gi e]
  refine and_congr_right fun em=>⟨?_,?_⟩
  .rintro(q|⟨l,hl,_⟩)
   .exact .inl q
   .simp at hl
  .rintro(q|⟨l,hl,_,q⟩)
   .exact .inl q
   .rw[aan.1 hl] at q
    simp at q
 .rcases hx with hx|⟨l,hl,hx⟩
  .exact h.vi x (.inl hx) y ym ty gy
  .rw[aan.1 hl] at hx
   exact absurd (gy.trans hx.symm) (hr y ym ty)
 .rw[aan.1 hl]
  exact hnf
 .rcases h.ti e he te with q|⟨l,hl,_⟩
  .exact .inl q
  .simp at hl
theorem JL (hE:dU T E oe hf) {N:Nat} (hN:2*m+1<=N):∀(L:List Int) {st:TS} {fin:Nat->Prop} {G:List Nat},Inv T E oe st fin G []->(∀x∈L,∃v:Nat,v<n/\x=(v:Int))->L.Nodup->(∀v:Nat,Root T v->(v:Int)∈L->¬fin v)->
 (trees E N L st=some none/\∀sd,¬T.LR sd)\/∃st' fin' G',trees E N L st=some (some st')/\Inv T E oe st' fin' G' []/\(∀v,fin v->fin' v)/\∀v:Nat,Root T v->(v:Int)∈L->fin' v:=by
 intro L
 induction L with
 |nil=>exact fun {st fin G} h _ _ _=> .inr ⟨st,fin,G,rfl,h,fun _ q=>q,fun v _ hv=>by simp at hv⟩
 |cons x L ih=>
  intro st fin G h hL hnd hro;obtain⟨v,hv,rfl⟩:=hL x aai;obtain⟨Ny,Uu⟩:=acr.1 hnd;unfold trees;rcases hE.par v hv with ⟨a,k1,k2,k3,k4⟩|⟨k1,k2⟩
  .rw[k4]
   dsimp only;have:=hE.h0 a k1;rw[if_neg (by omega)];rcases ih h (fun x hx=>hL x (aak _ hx)) Uu (fun u hu hm=>hro u hu (aak _ hm)) with q|⟨st',fin',G',q1,q2,q3,q4⟩
   .exact .inl q
   .refine .inr ⟨st',fin',G',q1,q2,q3,fun u hu hm=> ?_⟩
    rcases aaj.1 hm with e|hm
    .obtain rfl:u=v:=by omega
     exact absurd k3 (hu a k1 k2)
    .exact q4 u hu hm
  .rw[k2]
   dsimp only;rw[if_pos rfl];have hi:=h.enter hv k1 (hro v k1 aai);rcases FP hE N hi (by simp;omega) with q|⟨fX,uh,G1,q1,q2,q3,q4,q5⟩
   .rw[q.1]
    exact .inl ⟨rfl,q.2⟩
   .rw[q1]
    dsimp only;have td:uh v:=q4 ⟨v,0,[]⟩ aai;have agt:∀u:Nat,Root T u->(u:Int)∈L->¬uh u:=fun u hu hm hfu=>by
     rcases q5 u hfu with q|⟨l,hl,q⟩|⟨a,a1,a2,a3⟩
     .exact hro u hu (aak _ hm) q
     .rw[aan.1 hl] at q
      dsimp only at q;rw[q] at Ny;exact Ny hm
     .exact hu a a1 a2 a3
    rcases ih q2 (fun x hx=>hL x (aak _ hx)) Uu agt with q|⟨st',fin',G',p1,p2,p3,p4⟩
    .exact .inl q
    .refine .inr ⟨st',fin',G',p1,p2,fun u hu=>p3 u (q3 u hu),fun u hu hm=> ?_⟩
     rcases aaj.1 hm with e|hm
     .obtain rfl:u=v:=by omega
      exact p3 u td
     .exact p4 u hu hm
theorem Xc {st:TS} {fin:Nat->Prop} {G:List Nat} (h:Inv T E oe st fin G []) (hr:∀v,v<n->Root T v->fin v):∀v,v<n->fin v:=by
 have key:∀(d:Nat) (v:Nat),v<n->T.ay v<=d->fin v:=by
  intro d
  induction d with
  |zero=>
   intro v hv hd;refine hr v hv fun a am ta ga=> ?_
   have h1:=(T.bS a am ta).1;have h2:=(T.low _ (T.lt a am).1).1;rw[ga] at h1;omega
  |succ d ih=>
   intro v hv hd;by_cases tQ:Root T v
   .exact hr v hv tQ
   .obtain⟨a,am,ta,ga⟩:∃a,a<m/\T.tree a=true/\T.go a=v:=abO fun q=>tQ fun a am ta ga=>q ⟨a,am,ta,ga⟩
    have h1:=(T.bS a am ta).1;rw[ga] at h1;have SA:=ih (T.fr a) (T.lt a am).1 (by omega);rcases h.ti a ((h.gi a).2 ⟨am,.inl SA⟩) ta with q|⟨l,hl,_⟩
    .rw[<-ga];exact q
    .simp at hl
 intro v hv;have:=T.low v hv;exact key n v hv (by omega)
end
section
variable {like turn aC bz:List Int} {seen:Nat->Prop} {m:Nat} {sd:Nat->Bool}
theorem jV.unique {d x r:Nat} (h:jV like d x r):∀{d' r':Nat},jV like d' x r'->d=d'/\r=r':=by
 induction h with
 |root hx=>
  intro d' r' h';cases h' with
  |root _=>exact⟨rfl,rfl⟩
  |step hy _=>rw[hx] at hy;omega
 |step hx _ ih=>
  intro d' r' h';cases h' with
  |root hy=>rw[hx] at hy;omega
  | @step d2 x2 y2 r2 hy h2=>
    rw[hx] at hy;obtain rfl:=afa hy;obtain⟨e1,e2⟩:=ih h2;exact⟨by rw[e1],e2⟩
inductive Val (like turn:List Int):Nat->Bool->Prop
 |root {x:Nat}:g like x= -1->Val like turn x (decide (g turn x=1))
 |step {x y:Nat} {b:Bool}:g like x=(y:Int)->Val like turn y b->Val like turn x (b ^^ decide (g turn x= -1))
theorem Val.unique {x:Nat} {b:Bool} (h:Val like turn x b):∀{b':Bool},Val like turn x b'->b=b':=by
 induction h with
 |root hx=>
  intro b' h';cases h' with
  |root _=>rfl
  |step hy _=>rw[hx] at hy;omega
 |step hx _ ih=>
  intro b' h';cases h' with
  |root hy=>rw[hx] at hy;omega
  | @step x2 y2 b2 hy h2=>
    rw[hx] at hy;obtain rfl:=afa hy;rw[ih h2]
theorem jV.val {d x r:Nat} (h:jV like d x r):∃b,Val like turn x b:=by
 induction h with
 |root hx=>exact⟨_,.root hx⟩
 |step hx _ ih=>
  obtain⟨b,hb⟩:=ih;exact⟨_,.step hx hb⟩
open Classical in
theorem Lk.sat (h:Lk m like turn seen []):∃sd,Sat like turn seen [] sd:=by
 refine⟨fun x=>decide (Val like turn x true),fun x y hx hl=> ?_,fun x hx hl _=> ?_,fun p hp=>by simp at hp⟩
 .have hy:seen y:=by
   rcases h.cl x hx with q|⟨y',q1,q2⟩
   .rw[hl] at q;omega
   .rw[hl] at q1
    obtain rfl:=afa q1;exact q2
  obtain⟨d,r,hres⟩:=h.res y hy;obtain⟨b,hb⟩:=hres.val (turn:=turn);have KR:=Val.step hl hb;have e1:decide (Val like turn y true)=b:=by
   cases b with
   |true=>exact decide_eq_true hb
   |false=>exact decide_eq_false fun q=>by cases hb.unique q
  have e2:∀{c:Bool},Val like turn x c->decide (Val like turn x true)=c:=fun {c} hc=>by
   cases c with
   |true=>exact decide_eq_true hc
   |false=>exact decide_eq_false fun q=>by cases hc.unique q
  rw[e1];exact e2 KR
 .have hc:=Val.root (turn:=turn) hl
  cases hb:decide (g turn x=1) with
  |true=>rw[hb] at hc;exact decide_eq_true hc
  |false=>rw[hb] at hc;exact decide_eq_false fun q=>by cases hc.unique q
structure aeg (m:Nat) (seen:Nat->Prop) (sd:Nat->Bool) (like turn aC bz:List Int):Prop where
 ll:aC.length=m
 lt:bz.length=m
 sat:Sat aC bz seen [] sd
 lnk:∀z,g aC z=g like z\/g aC z= -1
 tn:∀z,z<m->g bz z=1\/g bz z= -1
theorem TY (hm:∀x,seen x->x<m) (hl:like.length=m) (ht:turn.length=m) (hs:Sat like turn seen [] sd) (htn:∀z,z<m->g turn z=1\/g turn z= -1) (hc:∀x:Nat,seen x->g like x= -1\/∃y:Nat,g like x=(y:Int)/\seen y) {d x r:Nat} (h:jV like d x r):seen x->∀k,d<k->
 ∃aC bz,side k like turn x=some (aC,bz)/\aeg m seen sd like turn aC bz/\g aC x= -1/\∀z,(g aC z=g like z/\g bz z=g turn z)\/∃d' r',d'<=d/\jV like d' z r':=by
 induction h with
 | @root x hx=>
   intro sx k hk;cases k with
   |zero=>omega
   |succ k=>
    refine⟨like,turn,?_,⟨hl,ht,hs,fun _=> .inl rfl,htn⟩,hx,fun _=> .inl ⟨rfl,rfl⟩⟩;unfold side;rw[nw (by rw[hl];exact hm x sx),hx];rfl
 | @step d x y r hx hr ih=>
   intro sx k hk;cases k with
   |zero=>omega
   |succ k=>
    have sy:seen y:=by
     rcases hc x sx with q|⟨y',q1,q2⟩
     .rw[hx] at q;omega
     .rw[hx] at q1
      obtain rfl:=afa q1;exact q2
    obtain⟨fA,gR,k1,k2,k3,k4⟩:=ih sy k (by omega);have xm:=hm x sx;have ym:=hm y sy;have hsame:g fA x=g like x/\g gR x=g turn x:=by
     rcases k4 x with q|⟨d',r',q1,q2⟩
     .exact q
     .have:=(jV.step hx hr).unique q2
      omega
    have hxy:x≠y:=fun e=>by
     rw[e] at hx;have h1:=jV.step hx hr;have:=h1.unique hr;omega
    unfold side;rw[nw (by rw[hl];exact xm),hx];dsimp only;rw[if_neg (by omega),k1];dsimp only;rw[nw (by rw[k2.ll];exact xm),hsame.1,hx];dsimp only;rw[nw (by rw[k2.lt];exact xm),nw (by rw[k2.lt];exact ym),nY (by rw[k2.ll];exact xm)];dsimp only;rw[nY (by rw[k2.lt];exact xm)];refine⟨_,_,rfl,⟨by rw[acJ];exact k2.ll,by rw[acJ];exact k2.lt,⟨fun z w hz hzw=> ?_,fun z hz hzr _=> ?_,fun p hp=>by simp at hp⟩,fun z=> ?_,fun z hz=> ?_⟩,fZ (by rw[k2.ll];exact xm),fun z=> ?_⟩
    .have hne:z≠x:=fun e=>by
      rw[e,fZ (by rw[k2.ll];exact xm)] at hzw;omega
     rw[bG hne] at hzw ⊢;exact k2.sat.lk z w hz hzw
    .by_cases e:z=x
     .subst e
      have h1:=k2.sat.lk z y sx (by rw[hsame.1];exact hx);have h2:=k2.sat.rt y sy k3 (by simp[cF]);rw[fZ (by rw[k2.lt];exact xm),h1,h2];rcases k2.tn z xm with a|a<;>rcases k2.tn y ym with b|b<;>rw[a,b]<;>decide
     .rw[bG e] at hzr ⊢
      exact k2.sat.rt z hz hzr (by simp[cF])
    .by_cases e:z=x
     .rw[e]
      exact .inr (fZ (by rw[k2.ll];exact xm))
     .rw[bG e]
      exact k2.lnk z
    .by_cases e:z=x
     .rw[e,fZ (by rw[k2.lt];exact xm)]
      rcases k2.tn x xm with a|a<;>rcases k2.tn y ym with b|b<;>rw[a,b]<;>decide
     .rw[bG e]
      exact k2.tn z hz
    .by_cases e:z=x
     .rw[e]
      exact .inr ⟨d+1,r,aad _,.step hx hr⟩
     .rcases k4 z with q|⟨d',r',q1,q2⟩
      .exact .inl ⟨by rw[bG e];exact q.1,by rw[bG e];exact q.2⟩
      .exact .inr ⟨d',r',by omega,q2⟩
theorem jV.ad3 {d x r:Nat} (hl:∀z,g aC z=g like z\/g aC z= -1) (h:jV like d x r):∃d' r',d'<=d/\jV aC d' x r':=by
 induction h with
 | @root x hx=>
   rcases hl x with q|q
   .exact⟨0,x,aad _,.root (q.trans hx)⟩
   .exact⟨0,x,aad _,.root q⟩
 | @step d x y r hx _ ih=>
   rcases hl x with q|q
   .obtain⟨d',r',q1,q2⟩:=ih
    exact⟨d'+1,r',by omega,.step (q.trans hx) q2⟩
   .exact⟨0,x,ab6 _,.root q⟩
theorem Ng (h:∀x,seen x->∃d r,jV like d x r):∀m:Nat,∃K,∀x,x<m->seen x->∃d r,d<K/\jV like d x r:=by
 intro m
 induction m with
 |zero=>exact⟨0,fun x hx=>by omega⟩
 |succ m ih=>
  obtain⟨K,hK⟩:=ih;by_cases hs:seen m
  .obtain⟨d,r,hd⟩:=h m hs
   refine⟨K+d+1,fun x hx sx=> ?_⟩;by_cases e:x=m
   .subst e;exact⟨d,r,by omega,hd⟩
   .obtain⟨d',r',q1,q2⟩:=hK x (by omega) sx
    exact⟨d',r',by omega,q2⟩
  .refine⟨K,fun x hx sx=> ?_⟩
   by_cases e:x=m
   .subst e;exact absurd sx hs
   .exact hK x (by omega) sx
end
section
variable {n m:Nat} {T:DF n m} {E:Env} {oe:Nat->List Nat} {hf:Nat->Int} {sd:Nat->Bool} {seen:Nat->Prop}
def m8 (T:DF n m) (sd:Nat->Bool) (e:Nat):Int:=if T.tree e=true then 0 else if sd e=true then 1 else -1
theorem Rq (hE:dU T E oe hf) {K:Nat} (IG:∀e,e<m->T.tree e=false->seen e) (hm:∀x,seen x->x<m):
 ∀(i k:Nat) (like turn:List Int),i+k=m->like.length=m->turn.length=m->Sat like turn seen [] sd->(∀z,z<m->g turn z=1\/g turn z= -1)->(∀x:Nat,seen x->g like x= -1\/∃y:Nat,g like x=(y:Int)/\seen y)->(∀x,x<m->seen x->∃d r,d<K/\jV like d x r)->
 sides E K ((List.range' i k).map hf) like turn ((List.range i).map (m8 T sd))=some ((List.range m).map (m8 T sd)):=by
 intro i k
 induction k generalizing i with
 |zero=>
  intro like turn hik _ _ _ _ _ _;have:i=m:=by omega
  subst this;rfl
 |succ k ih=>
  intro like turn hik hl ht hs htn hc hK;have im:i<m:=by omega
  rw[List.range'_succ,ac6];unfold sides;rw[hE.back im];have e1:((List.range i).map (m8 T sd)).length=i:=by simp
  have e2:∀z,(List.range i).map (m8 T sd)++[z]=(List.range (i+1)).map (m8 T sd)↔z=m8 T sd i:=fun z=>by
   rw[List.range_succ,acS];simp
  cases ti:T.tree i with
  |true=>
   rw[show(some (!true):Option Bool)=some false from rfl];dsimp only;rw[(e2 0).2 (by unfold m8;rw[if_pos ti])];exact ih (i+1) like turn (by omega) hl ht hs htn hc hK
  |false=>
   rw[show(some (!false):Option Bool)=some true from rfl];dsimp only;rw[e1];have si:=IG i im ti;obtain⟨d,r,hd,hres⟩:=hK i im si;obtain⟨aC,bz,k1,k2,k3,k4⟩:=TY hm hl ht hs htn hc hres si K hd;rw[k1];dsimp only;rw[nw (by rw[k2.lt];exact im)];dsimp only;have h1:=k2.sat.rt i si k3 (by simp[cF]);have e3:g bz i=m8 T sd i:=by
    unfold m8;rw[if_neg (by rw[ti];simp),h1];rcases k2.tn i im with q|q<;>rw[q]<;>simp
   rw[(e2 _).2 e3];refine ih (i+1) aC bz (by omega) k2.ll k2.lt k2.sat k2.tn (fun x hx=> ?_) (fun x hx sx=> ?_)
   .rcases k2.lnk x with q|q
    .rw[q];exact hc x hx
    .exact .inl q
   .obtain⟨d',r',q1,q2⟩:=hK x hx sx
    obtain⟨d2,r2,q3,q4⟩:=q2.ad3 k2.lnk;exact⟨d2,r2,by omega,q4⟩
theorem OH {k x:Nat} {z:Int} (h:x<k):g (List.replicate k z) x=z:=by
 unfold g;rw[acQ,if_pos h];rfl
end
end Lt
end
section
open Go.RowKit
namespace aq
theorem air {P:Program} {ops:Array Oper} {Q:Exit->Act->World->Prop} {a0:Act} {w0:World} (sp:Nat->Jn) (n N:Nat) (hn:n<=ops.size) (hN:a0.tmps.size=N) (hsh:shape ops n (fun i=>(sp i).deps)=true)
 (N3:∀i,i<n->∀v vs lo hi w w',hi<=w.heap.size->Below w.heap.size w w'->(sp i).post v vs lo hi w->(sp i).post v vs lo hi w')
 (hstep:∀i o (ρ:Nat->Value) w (ev:Operand->Value),i<n->ops[i]? =some o->Below w0.heap.size w0 w->(∀j∈(sp i).deps,∃lo hi,w0.heap.size<=lo/\lo<=hi/\hi<=w.heap.size/\(sp j).post (ρ j) ((sp j).deps.map ρ) lo hi w)->
   (∀j t,j<i->dst ops j=some t->t<N->ev (.tmp t)=ρ j)->(∀t,((List.range i).all fun j=>dst ops j != some t)=true->ev (.tmp t)=a0.eval (.tmp t))->(∀v,ev (.const v)=v)->(∀f,ev (.func f)= .func (.func f) #[] #[])->
   cJ P o ev w fun v w'=>Below w.heap.size w w'/\(sp i).post v ((sp i).deps.map ρ) w.heap.size w'.heap.size w')
 (hend:∀(ρ:Nat->Value) (lo hi:Nat->Nat) w a,a=canon ops a0 ρ n->a.defers=a0.defers->(∀j t,j<n->dst ops j=some t->t<N->a.eval (.tmp t)=ρ j)->(∀t,((List.range n).all fun j=>dst ops j != some t)=true->a.eval (.tmp t)=a0.eval (.tmp t))->Below w0.heap.size w0 w->(∀i,i<n->w0.heap.size<=lo i/\lo i<=hi i/\hi i<=w.heap.size/\(sp i).post (ρ i) ((sp i).deps.map ρ) (lo i) (hi i) w)->(∀i j,i<n->j<n->i≠j->hi i<=lo j\/hi j<=lo i)->
   wpAny P .any ops Q (ops.size-n) (heads ops.size n) a w):
 wpAny P .any ops Q ops.size (Array.replicate ops.size false) a0 w0:=by
 have hs:=fun i (hi:i<ops.size)=>acp.1 hsh i (ab1.2 hi)
 have hlt:∀{j t},dst ops j=some t->j<ops.size:=fun {j t} h=>by
  rcases adn j ops.size with h1|h1
  .exact h1
  .unfold dst at h;rw[aeA h1] at h;cases h
 have hone:∀i j t,i≠j->dst ops j=some t->dst ops i≠some t:=fun i j t hij hj hi=>by
  have h1:=hs j (hlt hj);dsimp only at h1;cases ho:ops[j]? with
  |none=>rw[ho] at h1;cases h1
  |some o=>
   have hd:o.dst=some t:=by unfold dst at hj;rw[ho] at hj;exact hj
   rw[ho] at h1;simp only[acv] at h1;have h2:=h1.1;rw[hd] at h2;have h3:=acp.1 h2 i (ab1.2 (hlt hi));simp only[ady,beq_iff_eq,bne_iff_ne] at h3;rcases h3 with h3|h3
   .exact hij h3
   .exact h3 hi
 have hop:∀i,i<n->∃o,ops[i]? =some o/\o.guard=none/\(∀cs b,o.op≠.select cs b)/\
  (∀t,Operand.tmp t∈o.op.operands->∀j,j<ops.size->dst ops j=some t->j<i/\∃e∈o.after,Region.binds .any e=true/\e.on=j)/\
  (∀j∈(sp i).deps,j<i/\∃e∈o.after,Region.binds .any e=true/\e.on=j)/\(∀e∈o.after,Region.binds .any e=true->e.on<i):=fun i hi=>by
  have h1:=hs i (by omega);dsimp only at h1;cases ho:ops[i]? with
  |none=>rw[ho] at h1;cases h1
  |some o=>
   rw[ho] at h1;simp only[acv,if_pos hi] at h1;obtain⟨_,⟨⟨⟨g1,g2⟩,g4⟩,g5⟩,g6⟩:=h1;refine⟨o,rfl,by simpa using g1,(fun cs b hsel=>by rw[hsel] at g2;cases g2),fun t ht j hj hd=> ?_,fun j hj=> ?_,fun e he hb=> ?_⟩
   .have h2:=acp.1 g4 (.tmp t) (by simpa using ht)
    dsimp only at h2;have h3:=acp.1 h2 j (ab1.2 hj);simp only[ady,bne_iff_ne,acv,decide_eq_true_eq,acR,beq_iff_eq] at h3;rcases h3 with h3|⟨h3,e,he,h4⟩
    .exact absurd hd h3
    .exact⟨h3,e,by simpa using he,h4⟩
   .have h2:=acp.1 g5 j hj
    simp only[acv,decide_eq_true_eq,acR,beq_iff_eq] at h2;obtain⟨h3,e,he,h4⟩:=h2;exact⟨h3,e,by simpa using he,h4⟩
   .have h2:=adv.1 g6 e he
    rw[hb] at h2;simpa using h2
 have Og:∀i o,n<=i->ops[i]? =some o->∀j,j<n->∃e∈o.after,Region.binds .any e=true/\e.on=j:=fun i o hi ho j hj=>by
  have h1:=hs i (abR.1 ho).1;dsimp only at h1;rw[ho] at h1;simp only[acv,if_neg (Nat.not_lt.2 hi)] at h1;have h2:=acp.1 h1.2 j (ab1.2 hj);simp only[acv,acR,beq_iff_eq] at h2;obtain⟨e,he,h4⟩:=h2;exact⟨e,by simpa using he,h4⟩
 have fin:∀(listed:Array Bool),listed.size=ops.size->Region.ready .any ops listed=[]->∀i,i<n->listed.getD i false=true:=by
  intro listed hl hr i
  induction i using Nat.strongRecOn with
  |_ i ih=>
   intro hi;by_cases hb:listed.getD i false=true
   .exact hb
   .exfalso
    have hi':i<listed.size:=by omega
    have h0:listed.getD i true=false:=by
     simp[hi'] at hb ⊢;exact hb
    obtain⟨o,ho,_,_,_,_,jJ⟩:=hop i hi;have hm:i∈Region.ready .any ops listed:=by
     rw[mem_ready];refine⟨h0,o,ho,fun e he hbd=> ?_⟩;have:=jJ e he hbd;exact ih e.on this (by omega)
    rw[hr] at hm;cases hm
 have key:∀(fuel:Nat) (listed:Array Bool) (ρ:Nat->Value) (lo hi:Nat->Nat) (w:World),listed.size=ops.size->listed.toList.count false=fuel->Below w0.heap.size w0 w->
  (∀i,n<=i->listed.getD i false=false)->
  (∀i,i<n->listed.getD i false=true->w0.heap.size<=lo i/\lo i<=hi i/\hi i<=w.heap.size/\(sp i).post (ρ i) ((sp i).deps.map ρ) (lo i) (hi i) w/\∀j∈(sp i).deps,listed.getD j false=true)->
  (∀i j,i<n->j<n->listed.getD i false=true->listed.getD j false=true->i≠j->hi i<=lo j\/hi j<=lo i)->
  wpAny P .any ops Q fuel listed (part ops a0 ρ (fun j=>listed.getD j false) n) w:=by
  have last:∀(listed:Array Bool) (ρ:Nat->Value) (lo hi:Nat->Nat) (w:World),listed.size=ops.size->Below w0.heap.size w0 w->
   (∀i,n<=i->listed.getD i false=false)->
   (∀i,i<n->listed.getD i false=true->w0.heap.size<=lo i/\lo i<=hi i/\hi i<=w.heap.size/\(sp i).post (ρ i) ((sp i).deps.map ρ) (lo i) (hi i) w/\∀j∈(sp i).deps,listed.getD j false=true)->
   (∀i j,i<n->j<n->listed.getD i false=true->listed.getD j false=true->i≠j->hi i<=lo j\/hi j<=lo i)->
   (∀i,i<n->listed.getD i false=true)->wpAny P .any ops Q (listed.toList.count false) listed (part ops a0 ρ (fun j=>listed.getD j false) n) w:=by
   intro listed ρ lo hi w hl hb hno hg hd hall;have e:∀k,k<=n->part ops a0 ρ (fun j=>listed.getD j false) k=canon ops a0 ρ k:=by
    intro k
    induction k with
    |zero=>exact fun _=>rfl
    |succ k ih=>
     intro hk;unfold part canon;rw[ih (by omega),hall k (by omega),if_pos rfl]
   have e2:listed=heads ops.size n:=by
    apply Array.ext
    .simp[heads,hl];omega
    .intro i h1 h2
     by_cases hi:i<n
     .have:=hall i hi
      simp[h1] at this;rw[this];simp[heads,hi]
     .have:=hno i (by omega)
      simp[h1] at this;rw[this];simp[heads,List.getElem_append,hi]
   have e3:(heads ops.size n).toList.count false=ops.size-n:=by simp[heads,List.count_replicate]
   rw[e _ (aad _),e2,e3];exact hend ρ lo hi w _ rfl (mz n) (fun j t hj hd ht=>by
    rw[dF,mF hd (fun i hi=>hone i j t hi hd) rfl n hj,if_pos (by rw[hN];exact ht)]) (fun t ht=>by
    rw[dF,gN n fun j hj _=>by
     have:=acp.1 ht j (ab1.2 hj);simpa using this]) hb (fun i hi=>by
    obtain⟨h1,h2,h3,h4,_⟩:=hg i hi (hall i hi);exact⟨h1,h2,h3,h4⟩) fun i j hi hj=>hd i j hi hj (hall i hi) (hall j hj)
  intro fuel
  induction fuel with
  |zero=>
   intro listed ρ lo hi w hl hc hb hno hg hd;have hall:∀i,i<n->listed.getD i false=true:=fun i hi=>by
    have hm:¬false∈listed.toList:=fun h=>by
     have:=adp.2 h;omega
    have hi':i<listed.size:=by omega
    by_cases mP:listed[i]=true
    .simp[hi',mP]
    .exfalso
     have e:listed[i]=false:=by simpa using mP
     exact hm (by rw[<-e];simp)
   have:=last listed ρ lo hi w hl hb hno hg hd hall;rw[hc] at this;exact this
  |succ fuel ih=>
   intro listed ρ lo hi w hl hc hb hno hg hd;by_cases hall:∀i,i<n->listed.getD i false=true
   .have:=last listed ρ lo hi w hl hb hno hg hd hall
    rw[hc] at this;exact this
   refine⟨fun hr=>absurd (fin listed hl hr) hall,fun i hi=> ?_⟩;have D6:=hi;rw[mem_ready] at hi;obtain⟨h0,o,ho,dY⟩:=hi;have Vw:=(abR.1 ho).1;have hin:i<n:=by
    rcases adn i n with h|h
    .exact h
    .exact absurd (fun j hj=>by
      obtain⟨e,he,hbd,rfl⟩:=Og i o h ho j hj;exact dY e he hbd) hall
   have hi':i<listed.size:=by omega
   obtain⟨o',ho',hgd,hsel,hread,K9,_⟩:=hop i hin;rw[ho] at ho';cases ho';have dQ:listed.getD i false=false:=by
    simp[hi'] at h0 ⊢;exact h0
   have BK:∀j∈(sp i).deps,listed.getD j false=true:=fun j hj=>by
    obtain⟨_,e,he,hbd,rfl⟩:=K9 j hj;exact dY e he hbd
   have hev:execOp (part ops a0 ρ (fun j=>listed.getD j false) n).eval o=execOp (canon ops a0 ρ i).eval o:=by
    refine execOp_congr o hsel fun x hx=> ?_
    cases x with
    |tmp t=>
     refine pJ (fun i j hij=>hone i j t hij) (by omega) fun j hj hd=> ?_
     obtain⟨h1,e,he,hbd,rfl⟩:=hread t hx j (by omega) hd;exact⟨h1,dY e he hbd⟩
    |_=>rfl
   have tP:=hstep i o ρ w (canon ops a0 ρ i).eval hin ho hb (fun j hj=>by
    have hjl:=(K9 j hj).1;obtain⟨h1,h2,h3,h4,_⟩:=hg j (by omega) (BK j hj);exact⟨lo j,hi j,h1,h2,h3,h4⟩) (fun j t hj hd ht=>by
    rw[dF,mF hd (fun i hi=>hone i j t hi hd) rfl i hj,if_pos (by rw[hN];exact ht)]) (fun t ht=>by
    rw[dF,gN i fun j hj _=>by
     have:=acp.1 ht j (ab1.2 hj);simpa using this]) (fun v=>rfl) (fun f=>rfl)
   unfold wpOp;rw[ho];dsimp only;have hw:Region.wanted o (yielded ops (part ops a0 ρ (fun j=>listed.getD j false) n).tmps)=true:=by
    unfold Region.wanted;rw[hgd]
   rw[if_pos hw];refine .inl ?_;have wY:cJ P o (part ops a0 ρ (fun j=>listed.getD j false) n).eval w fun v w'=>Below w.heap.size w w'/\(sp i).post v ((sp i).deps.map ρ) w.heap.size w'.heap.size w':=by
    unfold cJ at tP ⊢;rw[hev];exact tP
   refine wY.wp fun v w' hv=> ?_
   obtain⟨iQ,hpost⟩:=hv;have D8:o.dst=dst ops i:=by unfold dst;rw[ho];rfl
   have fS:∀j,(listed.setIfInBounds i true).getD j false=if j=i then true else listed.getD j false:=fun j=>by
    by_cases e:j=i
    .subst e
     rw[if_pos rfl];simp[hi']
    .rw[if_neg e]
     exact getD_set_ne false (fun h=>e h.symm)
   rw[D8,uX hone dQ hin,pI (L':=fun j=>(listed.setIfInBounds i true).getD j false) (ρ':=upd ρ i v) (fun j=>(fS j).symm) (fun _ _=>rfl)];have hsz:=iQ.size;have hb0:=hb.size;have UT:∀j,j≠i->listed.getD j false=true->(∀k∈(sp j).deps,listed.getD k false=true)->(sp j).deps.map (upd ρ i v)=(sp j).deps.map ρ:=fun j hj hjl hk=>by
    refine adE fun k hkm=> ?_
    unfold upd;rw[if_neg];intro e;subst e;rw[hk k hkm] at dQ;cases dQ
   have hdi:(sp i).deps.map (upd ρ i v)=(sp i).deps.map ρ:=adE fun k hkm=>by
    unfold upd;rw[if_neg];intro e;subst e;rw[BK k hkm] at dQ;cases dQ
   refine ih (listed.setIfInBounds i true) (upd ρ i v) (wj lo i w.heap.size) (wj hi i w'.heap.size) w' (by simpa using hl) ?_ (hb.trans (iQ.mono hb0)) (fun j hj=>by rw[fS,if_neg (by omega)];exact hno j hj) ?_ ?_
   .rw[ad5]
    have hi2:i<listed.toList.length:=by simpa using hi'
    have e:listed.toList[i]=false:=by
     simp[hi'] at h0;simpa using h0
    have hpos:0<listed.toList.count false:=adp.2 (by rw[<-e];exact adi hi2);rw[ae0 hi2,e,if_pos (by decide),if_neg (by decide)];omega
   .intro j hj hjl
    rw[fS] at hjl;by_cases e:j=i
    .subst e
     unfold wj;rw[if_pos rfl,if_pos rfl];refine⟨hb0,hsz,aad _,?_,fun k hk=>by rw[fS];split;rfl;exact BK k hk⟩;rw[hdi];unfold upd;rw[if_pos rfl];exact hpost
    .rw[if_neg e] at hjl
     obtain⟨h1,h2,h3,h4,h5⟩:=hg j hj hjl;unfold wj;rw[if_neg e,if_neg e];refine⟨h1,h2,by omega,?_,fun k hk=>by rw[fS];split;rfl;exact h5 k hk⟩;rw[UT j e hjl h5];unfold upd;rw[if_neg e];exact N3 j hj _ _ _ _ w w' h3 iQ h4
   .intro j k hj hk hjl hkl hjk
    rw[fS] at hjl hkl;unfold wj;by_cases e:j=i
    .subst e
     rw[if_neg (fun h=>hjk h.symm)] at hkl;rw[if_pos rfl,if_pos rfl,if_neg (fun h=>hjk h.symm),if_neg (fun h=>hjk h.symm)];exact .inr (hg k hk hkl).2.2.1
    .rw[if_neg e] at hjl
     by_cases e2:k=i
     .subst e2
      rw[if_neg e,if_neg e,if_pos rfl,if_pos rfl];exact .inl (hg j hj hjl).2.2.1
     .rw[if_neg e2] at hkl
      rw[if_neg e,if_neg e,if_neg e2,if_neg e2];exact hd j k hj hk hjl hkl hjk
 have hnone:∀j,(Array.replicate ops.size false).getD j false=false:=fun j=>by by_cases hk:j<ops.size<;>simp[hk]
 have h0:part ops a0 (fun _=>undef) (fun j=>(Array.replicate ops.size false).getD j false) n=a0:=by
  have:∀k,part ops a0 (fun _=>undef) (fun j=>(Array.replicate ops.size false).getD j false) k=a0:=by
   intro k
   induction k with
   |zero=>rfl
   |succ k ih=>
    unfold part;rw[ih,hnone k,if_neg (by decide)]
  exact this _
 have hk:=key ops.size (Array.replicate ops.size false) (fun _=>undef) (fun _=>0) (fun _=>0) w0 (by simp) (by simp) (aae _ _) (fun i _=>hnone i) (fun i _ h=>by rw[hnone i] at h;cases h) (fun i _ _ _ h=>by rw[hnone i] at h;cases h);rw[h0] at hk;exact hk
end aq
end
section
open Go.RowKit
namespace AnyM
def fF (A:World):List (Nat×World)->(Nat->Bool)->World->Prop
 |[],_,V=>V=A
 |(k,w)::r,L,V=>if L k=true then V=w else fF A r L V
theorem other {A:World} {i:Nat}:∀{r:List (Nat×World)} {L:Nat->Bool} {V:World},(r.all fun q=>q.1 != i)=true->fF A r L V->fF A r (aq.bM L i) V
 |[],_,_,_,h=>h
 |(k,w)::r,L,V,hk,h=>by
  rw[List.all_cons,acv] at hk;have e1:aq.bM L i k=L k:=if_neg (fun e=>by simp[e] at hk);unfold fF at h ⊢;rw[e1]
  split
  .rename_i hl
   rw[if_pos hl] at h;exact h
  .rename_i hl
   rw[if_neg hl] at h;exact other hk.2 h
theorem I0 {P:Program} {o:Oper} {ev:Operand->Value} {R:Value->World->Prop} {f:FuncId} {args:Array Value} {v:Value} {V V':World} (h:(execOp ev o).run P V= .ok (.enter f args) V) (hc:Calls P f args V fun e w'=>e= .returned v/\w'=V') (hR:R v V'):aq.cJ P o ev V R:=by
 unfold aq.cJ;rw[h];exact hc.mono fun e w' ⟨h1,h2⟩=>⟨v,h1,by rw[h2];exact hR⟩
theorem pM {P:Program} {o:Oper} {ev:Operand->Value} {R:Value->World->Prop} {f:FuncId} {args:Array Value} {v:Value} {V:World} {S:World->Prop} (h:(execOp ev o).run P V= .ok (.enter f args) V) (hc:Calls P f args V fun e w'=>e= .returned v/\S w') (hR:∀w',S w'->R v w'):aq.cJ P o ev V R:=by
 unfold aq.cJ;rw[h];exact hc.mono fun e w' ⟨h1,h2⟩=>⟨v,h1,hR w' h2⟩
theorem gv {P:Program} {o:Oper} {ev:Operand->Value} {v:Value} {i:Nat} {A:World} {r:List (Nat×World)} {L:Nat->Bool} {V:World} (hC:fF A r L V) (h:(execOp ev o).run P V= .ok (.value v) V) (hr:(r.all fun q=>q.1 != i)=true):aq.cJ P o ev V fun u w'=>u=v/\fF A r (aq.bM L i) w':=aq.cI h ⟨rfl,other hr hC⟩
end AnyM
namespace aq
def needs (ops:Array Oper):Nat->Nat->Nat->Bool
 |0,_,_=>false
 |k+1,n,i=>match ops[n]? with
  |none=>false
  |some o=>o.after.toList.any fun e=>Region.binds .any e&&(e.on==i||needs ops k e.on i)
def NK (ops:Array Oper) (n:Nat):Bool:=(List.range n).all (needs ops 3 n)
theorem zO {ops:Array Oper} {L:Nat->Bool} (hd:∀j o',ops[j]? =some o'->L j=true->∀e∈o'.after,Region.binds .any e=true->L e.on=true) {i:Nat}:∀{k n:Nat},needs ops k n i=true->L n=true->L i=true
 |0,_,h,_=>by cases h
 |k+1,n,h,hL=>by
  unfold needs at h;cases ho:ops[n]? with
  |none=>rw[ho] at h;cases h
  |some o=>
   rw[ho] at h;obtain⟨e,he,h1⟩:=acR.1 h;simp only[acv,ady,beq_iff_eq] at h1;have h2:=hd n o ho hL e (by simpa using he) h1.1;rcases h1.2 with rfl|h3
   .exact h2
   .exact zO hd h3 h2
theorem Sd {ops:Array Oper} {n:Nat} {L:Nat->Bool} (hl:NK ops n=true) (hd:∀j o',ops[j]? =some o'->L j=true->∀e∈o'.after,Region.binds .any e=true->L e.on=true) (hL:L n=true) (i:Nat) (hi:i<n):L i=true:=zO hd (acp.1 hl i (ab1.2 hi)) hL
theorem yu {ops:Array Oper} {n i:Nat} {L:Nat->Bool} (hl:NK ops n=true) (hd:∀j o',ops[j]? =some o'->L j=true->∀e∈o'.after,Region.binds .any e=true->L e.on=true) (dQ:L i=false) (hi:i<n+1):L n=false:=by
 cases h:L n with
 |false=>rfl
 |true=>
  rcases adn i n with h1|h1
  .rw[Sd hl hd h i h1] at dQ;cases dQ
  .obtain rfl:i=n:=by omega
   rw[h] at dQ;cases dQ
end aq
end
section
open Go.RowKit
namespace aq
theorem W8 {P:Program} {ops:Array Oper} {Q:Exit->Act->World->Prop} {a0:Act} {w0:World} (val:Nat->Value) (S:World->Prop) (f:World->World) (N n c:Nat) (hN:a0.tmps.size=N) (hsh:shape ops ops.size (fun _=>[])=true) (hn:ops.size=n+1) (hc:c<n) (hl:NK ops n=true)
 (hstep:∀i o w (ev:Operand->Value),ops[i]? =some o->i<n->i≠c->w=w0\/S w->
   (∀j t,j<i->dst ops j=some t->t<N->ev (.tmp t)=val j)->(∀t,((List.range i).all fun j=>dst ops j != some t)=true->ev (.tmp t)=a0.eval (.tmp t))->(execOp ev o).run P w= .ok (.value (val i)) w)
 (fG:∀o (ev:Operand->Value),ops[c]? =some o->
   (∀j t,j<c->dst ops j=some t->t<N->ev (.tmp t)=val j)->(∀t,((List.range c).all fun j=>dst ops j != some t)=true->ev (.tmp t)=a0.eval (.tmp t))->(∀f,ev (.func f)= .func (.func f) #[] #[])->cJ P o ev w0 fun v w'=>v=val c/\S w')
 (hst:∀o w (ev:Operand->Value),ops[n]? =some o->S w->
   (∀j t,j<n->dst ops j=some t->t<N->ev (.tmp t)=val j)->(∀t,((List.range n).all fun j=>dst ops j != some t)=true->ev (.tmp t)=a0.eval (.tmp t))->val n=undef/\(execOp ev o).run P w= .ok .skip (f w))
 (hend:∀w,S w->Q .normal (canon ops a0 val ops.size) (f w)):wpAny P .any ops Q ops.size (Array.replicate ops.size false) a0 w0:=by
 refine QV val (fun L w=>if L n=true then ∃V,S V/\w=f V else if L c=true then S w else w=w0) N hN hsh (by simp) ?_ ?_
 .intro i o L w ev ho dQ hC dY hdc aM dw _ cQ
  have hi:i<n+1:=by rw[<-hn];exact(abR.1 ho).1
  have hLn:L n=false:=yu hl hdc dQ hi;rw[hLn,if_neg (by simp)] at hC;by_cases e1:i=n
  .subst e1
   have yB:L c=true:=by
    have h1:=acp.1 hl c (ab1.2 hc);unfold needs at h1;rw[ho] at h1;obtain⟨e,he,h1⟩:=acR.1 h1;simp only[acv,ady,beq_iff_eq] at h1;have h2:=dY e (by simpa using he) h1.1;rcases h1.2 with rfl|h3
    .exact h2
    .exact zO hdc h3 h2
   rw[if_pos yB] at hC;obtain⟨h1,h2⟩:=hst o w ev ho hC aM dw;refine gP h2 ⟨h1.symm,?_⟩;show if bM L i i=true then _ else _
   rw[show bM L i i=true from if_pos rfl,if_pos rfl];exact⟨w,hC,rfl⟩
  .have hin:i<n:=by omega
   have en:bM L i n=L n:=if_neg (by omega);by_cases e2:i=c
   .subst e2
    rw[dQ,if_neg (by simp)] at hC;rw[hC];have h1:=fG o ev ho aM dw cQ;unfold cJ at h1 ⊢;have key:∀v w',(v=val i/\S w')->v=val i/\(if bM L i n=true then ∃V,S V/\w'=f V else if bM L i i=true then S w' else w'=w0):=fun v w' h=>⟨h.1,by
     rw[en,hLn,if_neg (by simp),show bM L i i=true from if_pos rfl,if_pos rfl];exact h.2⟩
    split at h1
    .exact key _ _ h1
    .exact key _ _ h1
    .exact h1.mono fun e w' ⟨v,h2,h3⟩=>⟨v,h2,key _ _ h3⟩
    .exact h1
   .have ec:bM L i c=L c:=if_neg (fun h=>e2 h.symm)
    refine cI (hstep i o w ev ho hin e2 (by split at hC;exact .inr hC;exact .inl hC) aM dw) ⟨rfl,?_⟩;show if bM L i n=true then _ else _
    rw[en,hLn,if_neg (by simp),ec];exact hC
 .intro L w hall hC
  rw[if_pos (hall n (by omega))] at hC;obtain⟨V,h1,rfl⟩:=hC;exact hend V h1
end aq
end
end Go.Proofs.YtbhdibflpjhpaaaGreat
