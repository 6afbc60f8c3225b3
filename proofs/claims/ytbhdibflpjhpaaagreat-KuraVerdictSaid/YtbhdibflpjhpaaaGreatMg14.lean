import Derived.Test.YtbhdibflpjhpaaaGreatMg13
namespace Go.Proofs.YtbhdibflpjhpaaaGreat
section
namespace Pl
namespace DF
variable {n m:Nat} {T:DF n m} {W:Nat->Nat->Bool}
structure Pre (T:DF n m) (W:Nat->Nat->Bool):Prop where
 self:∀e,e<m->W e e=true
 apart:∀e f,e<m->f<m->e≠f->¬meet T.fr T.go e f->W e f=false
 turn:∀e f,e<m->f<m->e≠f->meet T.fr T.go e f->W e f= !W f e
def swp (T:DF n m) (W:Nat->Nat->Bool) (p e f:Nat):Bool:=
 ((T.tree p&&(inc T.fr T.go e (T.go p)&&(decide (e=p)||W e p)))&&inc T.fr T.go f (T.go p)) ^^ ((T.tree p&&inc T.fr T.go e (T.go p))&&(inc T.fr T.go f (T.go p)&&(!decide (f=p)&&W f p)))
def sw (T:DF n m) (W:Nat->Nat->Bool) (e f:Nat):Bool:=W e f ^^ px m (fun p=>swp T W p e f)
theorem TQ {a b:Nat->Bool} (ha:Ev m T.fr T.go a) (hb:Ev m T.fr T.go b):fm m (sw T W) a b=fm m W a b:=by
 have e1:fm m (sw T W) a b=(fm m W a b ^^ fm m (fun e f=>px m (fun p=>swp T W p e f)) a b):=jg W _ a b;rw[e1,Ek];have:px m (fun p=>fm m (swp T W p) a b)=false:=aD fun p hp=>by
  have e2:fm m (swp T W p) a b=(fm m (fun e f=>(T.tree p&&(inc T.fr T.go e (T.go p)&&(decide (e=p)||W e p)))&&inc T.fr T.go f (T.go p)) a b ^^ fm m (fun e f=>(T.tree p&&inc T.fr T.go e (T.go p))&&(inc T.fr T.go f (T.go p)&&(!decide (f=p)&&W f p))) a b):=jg _ _ a b;rw[e2,vE (fun e=>T.tree p&&(inc T.fr T.go e (T.go p)&&(decide (e=p)||W e p))) (fun f=>inc T.fr T.go f (T.go p)),hb (T.go p),vE (fun e=>T.tree p&&inc T.fr T.go e (T.go p)) (fun f=>inc T.fr T.go f (T.go p)&&(!decide (f=p)&&W f p))];have:px m (fun e=>a e&&(T.tree p&&inc T.fr T.go e (T.go p)))=false:=by
   cases T.tree p with
   |false=>exact aD fun e _=>by simp
   |true=>exact(aA fun e _=>by simp).trans (ha (T.go p))
  rw[this];simp
 rw[this];simp
theorem xW {p e f:Nat} (h:¬(T.tree p=true/\inc T.fr T.go e (T.go p)=true/\inc T.fr T.go f (T.go p)=true)):swp T W p e f=false:=by
 unfold swp;cases h1:T.tree p<;>cases h2:inc T.fr T.go e (T.go p)<;>cases h3:inc T.fr T.go f (T.go p)<;>simp[h1,h2,h3] at h ⊢
theorem xV {p e f:Nat} (h1:T.tree p=true) (h2:inc T.fr T.go e (T.go p)=true) (h3:inc T.fr T.go f (T.go p)=true):swp T W p e f=((decide (e=p)||W e p) ^^ (!decide (f=p)&&W f p)):=by
 unfold swp;rw[h1,h2,h3];simp
theorem KM {e f v w:Nat} (he:e<m) (hf:f<m) (hne:e≠f) (h1:inc T.fr T.go e v=true) (h2:inc T.fr T.go f v=true) (h3:inc T.fr T.go e w=true) (h4:inc T.fr T.go f w=true):v=w:=by
 have:=T.simple e f he hf hne;have n1:=T.ne he;have n2:=T.ne hf;rw[au] at h1 h2 h3 h4;refine abO fun N1=> ?_
 rcases h1 with h1|h1<;>rcases h2 with h2|h2<;>rcases h3 with h3|h3<;>rcases h4 with h4|h4
 all_goals first
  |exact N1 (by omega)
  |exact this.1 ⟨by omega,by omega⟩
  |exact this.2 ⟨by omega,by omega⟩
theorem zQ {e f:Nat}:meet T.fr T.go e f↔∃v,inc T.fr T.go e v=true/\inc T.fr T.go f v=true:=by
 constructor
 .rintro(h|h|h|h)
  .exact⟨_,au.2 (.inl rfl),au.2 (.inl h.symm)⟩
  .exact⟨_,au.2 (.inl rfl),au.2 (.inr h.symm)⟩
  .exact⟨_,au.2 (.inr rfl),au.2 (.inl h.symm)⟩
  .exact⟨_,au.2 (.inr rfl),au.2 (.inr h.symm)⟩
 .rintro⟨v,h1,h2⟩
  rw[au] at h1 h2;rcases h1 with h1|h1<;>rcases h2 with h2|h2
  .exact .inl (by omega)
  .exact .inr (.inl (by omega))
  .exact .inr (.inr (.inl (by omega)))
  .exact .inr (.inr (.inr (by omega)))
theorem CQ {p e f:Nat} (hp:p<m) (tp:T.tree p=true) (he:e<m) (hf:f<m) (hne:e≠f) (h1:inc T.fr T.go e (T.go p)=true) (h2:inc T.fr T.go f (T.go p)=true):
 sw T W e f=(W e f ^^ ((decide (e=p)||W e p) ^^ (!decide (f=p)&&W f p))):=by
 unfold sw;rw[aK hp (fun q hq hqp=>xW fun h=> ?_),xV tp h1 h2];exact hqp (T.one q p hq hp h.1 tp (KM he hf hne h.2.1 h.2.2 h1 h2))
theorem CO {v e f:Nat} (he:e<m) (hf:f<m) (hne:e≠f) (h1:inc T.fr T.go e v=true) (h2:inc T.fr T.go f v=true) (hv:∀p,p<m->T.tree p=true->T.go p≠v):sw T W e f=W e f:=by
 unfold sw;rw[aD (fun p hp=>xW fun h=>hv p hp h.1 (KM he hf hne h.2.1 h.2.2 h1 h2))];simp
theorem Rn (h:Pre T W) {e f:Nat} (he:e<m) (hf:f<m) (hne:e≠f) (hn:¬meet T.fr T.go e f):sw T W e f=false:=by
 unfold sw;rw[aD (fun p _=>xW fun h'=>hn (zQ.2 ⟨_,h'.2⟩)),h.apart e f he hf hne hn];rfl
theorem CP (h:Pre T W) {p f:Nat} (hp:p<m) (tp:T.tree p=true) (hf:f<m) (hne:p≠f) (h2:inc T.fr T.go f (T.go p)=true):sw T W p f=false/\sw T W f p=false:=by
 have h1:inc T.fr T.go p (T.go p)=true:=au.2 (.inr rfl);have ht:=h.turn p f hp hf hne (zQ.2 ⟨_,h1,h2⟩);rw[CQ hp tp hp hf hne h1 h2,CQ hp tp hf hp (aao hne) h2 h1,ht];have e1:decide (f=p)=false:=decide_eq_false (aao hne);rw[e1];cases W f p<;>simp
theorem JR (h:Pre T W) {e f:Nat} (he:e<m) (hf:f<m) (hne:e≠f) {v:Nat} (h1:inc T.fr T.go e v=true) (h2:inc T.fr T.go f v=true) (h3:¬(T.tree e=true/\T.go e=v)) (h4:¬(T.tree f=true/\T.go f=v)):sw T W e f= !sw T W f e:=by
 have ht:=h.turn e f he hf hne (zQ.2 ⟨v,h1,h2⟩);by_cases hv:∃p,p<m/\T.tree p=true/\T.go p=v
 .obtain⟨p,hp,tp,rfl⟩:=hv
  have e1:e≠p:=fun e1=>h3 (by rw[e1];exact⟨tp,rfl⟩)
  have e2:f≠p:=fun e1=>h4 (by rw[e1];exact⟨tp,rfl⟩)
  rw[CQ hp tp he hf hne h1 h2,CQ hp tp hf he (aao hne) h2 h1,ht,decide_eq_false e1,decide_eq_false e2];cases W f e<;>cases W e p<;>cases W f p<;>rfl
 .have hv':∀p,p<m->T.tree p=true->T.go p≠v:=fun p hp tp e1=>hv ⟨p,hp,tp,e1⟩
  rw[CO he hf hne h1 h2 hv',CO hf he (aao hne) h2 h1 hv',ht]
theorem JS (h:Pre T W) {e:Nat} (he:e<m):sw T W e e= !T.tree e:=by
 unfold sw;rw[h.self e he];cases te:T.tree e with
 |true=>
  rw[aK he (fun p hp hne=> ?_)]
  .rw[xV te (au.2 (.inr rfl)) (au.2 (.inr rfl))]
   simp
  .by_cases hh:T.tree p=true/\inc T.fr T.go e (T.go p)=true
   .rw[xV hh.1 hh.2 hh.2,decide_eq_false (aao hne)]
    cases W e p<;>rfl
   .exact xW fun h'=>hh ⟨h'.1,h'.2.1⟩
 |false=>
  rw[aD (fun p hp=> ?_)]
  .rfl
  .by_cases hh:T.tree p=true/\inc T.fr T.go e (T.go p)=true
   .have hne:e≠p:=fun e1=>by rw[e1,hh.1] at te;cases te
    rw[xV hh.1 hh.2 hh.2,decide_eq_false hne];cases W e p<;>rfl
   .exact xW fun h'=>hh ⟨h'.1,h'.2.1⟩
theorem uO (h:Pre T W) {e f:Nat} (he:e<m) (hf:f<m) (hne:e≠f) (hs:sw T W e f=true):
 T.fr e=T.fr f\/(T.fr e=T.go f/\T.tree f=false)\/(T.go e=T.fr f/\T.tree e=false)\/(T.go e=T.go f/\T.tree e=false/\T.tree f=false):=by
 have hm:meet T.fr T.go e f:=abO fun hn=>by rw[Rn h he hf hne hn] at hs;cases hs
 have k1:T.tree e=true->¬(T.go e=T.fr f\/T.go e=T.go f):=fun te hh=>by
  have:=(CP h he te hf hne (au.2 (hh.imp Eq.symm Eq.symm))).1;rw[this] at hs;cases hs
 have k2:T.tree f=true->¬(T.go f=T.fr e\/T.go f=T.go e):=fun tf hh=>by
  have:=(CP h hf tf he (aao hne) (au.2 (hh.imp Eq.symm Eq.symm))).2;rw[this] at hs;cases hs
 rcases hm with hm|hm|hm|hm
 .exact .inl hm
 .refine .inr (.inl ⟨hm,?_⟩)
  cases tf:T.tree f with
  |false=>rfl
  |true=>exact absurd (.inl hm.symm) (k2 tf)
 .refine .inr (.inr (.inl ⟨hm,?_⟩))
  cases te:T.tree e with
  |false=>rfl
  |true=>exact absurd (.inl hm) (k1 te)
 .refine .inr (.inr (.inr ⟨hm,?_,?_⟩))
  .cases te:T.tree e with
   |false=>rfl
   |true=>exact absurd (.inr hm) (k1 te)
  .cases tf:T.tree f with
   |false=>rfl
   |true=>exact absurd (.inr hm.symm) (k2 tf)
noncomputable def oo (T:DF n m) (X:Nat->Nat->Bool) (b c:Nat):Bool:=fm m (fun e f=>decide (T.fr e=T.fr f)&&(!decide (e=f)&&X e f)) (T.bL b) (T.bL c)
noncomputable def oi (T:DF n m) (X:Nat->Nat->Bool) (b c:Nat):Bool:=px m (fun e=>T.bL b e&&(decide (T.fr e=T.go c)&&X e c))
noncomputable def io (T:DF n m) (X:Nat->Nat->Bool) (b c:Nat):Bool:=px m (fun f=>T.bL c f&&(decide (T.go b=T.fr f)&&X b f))
theorem LC (h:Pre T W) {b c:Nat} (hb:b<m) (hc:c<m) (tb:T.tree b=false) (tc:T.tree c=false) (hbc:b≠c):
 fm m W (T.bL b) (T.bL c)=(oo T (sw T W) b c ^^ (oi T (sw T W) b c ^^ (io T (sw T W) b c ^^ (decide (T.go b=T.go c)&&sw T W b c)))):=by
 rw[<-TQ (W:=W) (l9 hb tb) (l9 hc tc)];have hcb:T.bL c c=true:=bU.2 (.inl rfl);have rV:T.bL b b=true:=bU.2 (.inl rfl);have e1:oi T (sw T W) b c=fm m (fun e f=>decide (f=c)&&(decide (T.fr e=T.go c)&&sw T W e c)) (T.bL b) (T.bL c):=aA fun e he=>by
  rw[aK hc (fun f _ hne=>by simp[hne])];simp[hcb]
 have e2:io T (sw T W) b c=fm m (fun e f=>decide (e=b)&&(decide (T.go b=T.fr f)&&sw T W b f)) (T.bL b) (T.bL c):=by
  unfold fm;rw[kI];refine aA fun f hf=> ?_
  rw[aK hb (fun e _ hne=>by simp[hne])];simp[rV]
 have e3:(decide (T.go b=T.go c)&&sw T W b c)=fm m (fun e f=>decide (e=b)&&(decide (f=c)&&(decide (T.go b=T.go c)&&sw T W b c))) (T.bL b) (T.bL c):=by
  unfold fm;rw[aK hb (fun e _ hne=>aD fun f _=>by simp[hne]),aK hc (fun f _ hne=>by simp[hne])];simp[rV,hcb]
 rw[e3,e2,<-jg,e1,<-jg];unfold oo;rw[<-jg];refine cV (fun _ _=>rfl) (fun _ _=>rfl) (fun e f he hf h1 h2=> ?_);have ne:=T.ne he;have nf:=T.ne hf;have tbe:T.tree e=false->e=b:=fun te=>by
  rcases bU.1 h1 with h1|⟨h1,_⟩
  .exact h1
  .rw[te] at h1;cases h1
 have tcf:T.tree f=false->f=c:=fun tf=>by
  rcases bU.1 h2 with h2|⟨h2,_⟩
  .exact h2
  .rw[tf] at h2;cases h2
 by_cases cQ:e=f
 .subst cQ
  have te:T.tree e=true:=by
   cases te:T.tree e with
   |true=>rfl
   |false=>exact absurd ((tbe te).symm.trans (tcf te)) hbc
  have neb:e≠b:=fun h=>by rw[h,tb] at te;cases te
  have nec:e≠c:=fun h=>by rw[h,tc] at te;cases te
  rw[JS h he,te];simp[neb,nec]
 .have hsm:=T.simple e f he hf cQ
  cases hs:sw T W e f with
  |true=>
   rcases uO h he hf cQ hs with k|⟨k,tf⟩|⟨k,te⟩|⟨k,te,tf⟩
   .have q1:¬(f=c/\T.fr e=T.go c):=fun q=>nf (by rw[<-k,q.2,q.1])
    have q2:¬(e=b/\T.go b=T.fr f):=fun q=>ne (by rw[k,<-q.2,q.1])
    have q3:¬(e=b/\f=c/\T.go b=T.go c):=fun q=>hsm.1 ⟨k,by rw[q.1,q.2.1];exact q.2.2⟩
    have r1:(decide (f=c)&&(decide (T.fr e=T.go c)&&sw T W e c))=false:=by
     by_cases a1:f=c
     .rw[decide_eq_false (fun a2=>q1 ⟨a1,a2⟩)];simp
     .rw[decide_eq_false a1];rfl
    have r2:(decide (e=b)&&(decide (T.go b=T.fr f)&&sw T W b f))=false:=by
     by_cases a1:e=b
     .rw[decide_eq_false (fun a2=>q2 ⟨a1,a2⟩)];simp
     .rw[decide_eq_false a1];rfl
    have r3:(decide (e=b)&&(decide (f=c)&&(decide (T.go b=T.go c)&&sw T W b c)))=false:=by
     by_cases a1:e=b
     .by_cases a2:f=c
      .rw[decide_eq_false (fun a3=>q3 ⟨a1,a2,a3⟩)];simp
      .rw[decide_eq_false a2];simp
     .rw[decide_eq_false a1];rfl
    rw[r1,r2,r3,decide_eq_true k,decide_eq_false cQ];rfl
   .have Vy:=tcf tf
    subst Vy;have q0:¬T.fr e=T.fr f:=fun q=>nf (by rw[<-q,k])
    have q2:¬(e=b/\T.go b=T.fr f):=fun q=>hsm.2 ⟨k,by rw[q.1];exact q.2⟩
    have q3:¬(e=b/\T.go b=T.go f):=fun q=>ne (by rw[k,<-q.2,q.1])
    have r2:(decide (e=b)&&(decide (T.go b=T.fr f)&&sw T W b f))=false:=by
     by_cases a1:e=b
     .rw[decide_eq_false (fun a2=>q2 ⟨a1,a2⟩)];simp
     .rw[decide_eq_false a1];rfl
    have r3:(decide (e=b)&&(decide (f=f)&&(decide (T.go b=T.go f)&&sw T W b f)))=false:=by
     by_cases a1:e=b
     .rw[decide_eq_false (fun a3=>q3 ⟨a1,a3⟩)];simp
     .rw[decide_eq_false a1];rfl
    rw[r2,r3,decide_eq_false q0,decide_eq_true k,hs];simp
   .have Vy:=tbe te
    subst Vy;have q0:¬T.fr e=T.fr f:=fun q=>ne (by rw[q,k])
    have q1:¬(f=c/\T.fr e=T.go c):=fun q=>hsm.2 ⟨by rw[q.1];exact q.2,k⟩
    have q3:¬(f=c/\T.go e=T.go c):=fun q=>nf (by rw[<-k,q.2,q.1])
    have r1:(decide (f=c)&&(decide (T.fr e=T.go c)&&sw T W e c))=false:=by
     by_cases a1:f=c
     .rw[decide_eq_false (fun a2=>q1 ⟨a1,a2⟩)];simp
     .rw[decide_eq_false a1];rfl
    have r3:(decide (e=e)&&(decide (f=c)&&(decide (T.go e=T.go c)&&sw T W e c)))=false:=by
     by_cases a2:f=c
     .rw[decide_eq_false (fun a3=>q3 ⟨a2,a3⟩)];simp
     .rw[decide_eq_false a2];simp
    rw[r1,r3,decide_eq_false q0,decide_eq_true k,hs];simp
   .have hfb:=tbe te
    have Vy:=tcf tf;subst hfb Vy;have q0:¬T.fr e=T.fr f:=fun q=>hsm.1 ⟨q,k⟩
    have q1:¬T.fr e=T.go f:=fun q=>ne (by rw[q,k])
    have q2:¬T.go e=T.fr f:=fun q=>nf (by rw[<-q,k])
    rw[decide_eq_false q0,decide_eq_false q1,decide_eq_false q2,decide_eq_true k,hs];simp
  |false=>
   have r1:(decide (f=c)&&(decide (T.fr e=T.go c)&&sw T W e c))=false:=by
    by_cases a1:f=c
    .rw[<-a1,hs];simp
    .rw[decide_eq_false a1];rfl
   have r2:(decide (e=b)&&(decide (T.go b=T.fr f)&&sw T W b f))=false:=by
    by_cases a1:e=b
    .rw[<-a1,hs];simp
    .rw[decide_eq_false a1];rfl
   have r3:(decide (e=b)&&(decide (f=c)&&(decide (T.go b=T.go c)&&sw T W b c)))=false:=by
    by_cases a1:e=b
    .by_cases a2:f=c
     .rw[<-a1,<-a2,hs];simp
     .rw[decide_eq_false a2];simp
    .rw[decide_eq_false a1];rfl
   rw[r1,r2,r3];simp
theorem WH (h:Pre T W) {b:Nat} (hb:b<m) (tb:T.tree b=false):fm m W (T.bL b) (T.bL b)=false:=by
 rw[<-TQ (W:=W) (l9 hb tb) (l9 hb tb)];obtain⟨bf,bg⟩:=T.lt b hb;obtain⟨b1,b2⟩:=T.back b hb tb;have rV:T.bL b b=true:=bU.2 (.inl rfl);obtain⟨t,Sr,h1,h2⟩:=kV hb bg ⟨T.refl _ bg,b1⟩;have htb:t≠b:=fun e=>b2 (by rw[<-h2,e])
 have tt:T.tree t=true:=by
  rcases bU.1 h1 with e|⟨e,_⟩
  .exact absurd e htb
  .exact e
 have val:∀e f,e<m->f<m->T.bL b e=true->T.bL b f=true->sw T W e f=((decide (e=b)&&decide (f=b)) ^^ ((decide (e=t)&&(decide (f=b)&&sw T W t b)) ^^ (decide (e=b)&&(decide (f=t)&&sw T W b t)))):=fun e f he hf k1 k2=>by
  have Ui:∀{g:Nat},T.bL b g=true->T.tree g=false->g=b:=fun {g} k tg=>by
   rcases bU.1 k with e|⟨e,_⟩
   .exact e
   .rw[tg] at e;cases e
  by_cases cQ:e=f
  .subst cQ
   rw[JS h he];by_cases eb:e=b
   .subst eb
    rw[tb];simp[aao htb]
   .have:T.tree e=true:=by
     cases te:T.tree e with
     |true=>rfl
     |false=>exact absurd (Ui k1 te) eb
    rw[this];simp[eb]
  .by_cases e1:e=b
   .subst e1
    by_cases e2:f=t
    .subst e2
     simp[aao htb,htb]
    .have:sw T W e f=false:=by
      cases hs:sw T W e f with
      |false=>rfl
      |true=>
       exfalso;rcases uO h he hf cQ hs with k|⟨_,tf⟩|⟨k,_⟩|⟨_,_,tf⟩
       .exact cQ (gG hb he hf k1 k2 k)
       .exact cQ (Ui k2 tf).symm
       .exact e2 (gG hb hf Sr k2 h1 (k.symm.trans h2.symm))
       .exact cQ (Ui k2 tf).symm
     rw[this];simp[e2,aao cQ]
   .have te:T.tree e=true:=by
     cases te:T.tree e with
     |true=>rfl
     |false=>exact absurd (Ui k1 te) e1
    by_cases e2:f=b
    .subst e2
     by_cases e3:e=t
     .subst e3
      simp[e1]
     .have:sw T W e f=false:=by
       cases hs:sw T W e f with
       |false=>rfl
       |true=>
        exfalso;rcases uO h he hf cQ hs with k|⟨k,_⟩|⟨_,tf⟩|⟨_,tf,_⟩
        .exact cQ (gG hb he hf k1 k2 k)
        .exact e3 (gG hb he Sr k1 h1 (k.trans h2.symm))
        .rw[te] at tf;cases tf
        .rw[te] at tf;cases tf
      rw[this];simp[e1,e3]
    .have tf:T.tree f=true:=by
      cases tf:T.tree f with
      |true=>rfl
      |false=>exact absurd (Ui k2 tf) e2
     have:sw T W e f=false:=by
      cases hs:sw T W e f with
      |false=>rfl
      |true=>
       exfalso;rcases uO h he hf cQ hs with k|⟨_,k⟩|⟨_,k⟩|⟨_,k,_⟩
       .exact cQ (gG hb he hf k1 k2 k)
       .rw[tf] at k;cases k
       .rw[te] at k;cases k
       .rw[te] at k;cases k
     rw[this];simp[e1,e2]
 rw[cV (fun _ _=>rfl) (fun _ _=>rfl) val,jg,jg];have g:∀(x y:Nat) (c:Bool),x<m->y<m->T.bL b x=true->T.bL b y=true->fm m (fun e f=>decide (e=x)&&(decide (f=y)&&c)) (T.bL b) (T.bL b)=c:=fun x y c hx hy k1 k2=>by
  unfold fm;rw[aK hx (fun e _ hne=>aD fun f _=>by simp[hne]),aK hy (fun f _ hne=>by simp[hne])];simp[k1,k2]
 have g0:fm m (fun e f=>decide (e=b)&&decide (f=b)) (T.bL b) (T.bL b)=true:=by
  rw[<-g b b true hb hb rV rV];exact cV (fun _ _=>rfl) (fun _ _=>rfl) (fun e f _ _ _ _=>by simp)
 rw[g0,g t b _ Sr hb h1 rV,g b t _ hb Sr rV h1];have:=JR h Sr hb htb (v:=T.go b) (au.2 (.inl h2)) (au.2 (.inr rfl)) (fun k=>T.ne Sr (h2.trans k.2.symm)) (fun k=>by rw[tb] at k;cases k.1);rw[this];cases sw T W b t<;>rfl
theorem WD (h:Pre T W) (hz:∀b c,b<m->c<m->T.tree b=false->T.tree c=false->b≠c->fm m W (T.bL b) (T.bL c)=false):sH m T.fr T.go W:=
 ⟨h.self,h.apart,h.turn,fun _ _ ha hb=>WI (fun b c lZ hcm tb tc=>by
   by_cases e:b=c
   .subst e;exact WH h lZ tb
   .exact hz b c lZ hcm tb tc e) ha hb⟩
end DF
end Pl
end
namespace Pl
namespace DF
end DF
def tw (h:Nat):Nat:=if h%2=0 then h+1 else h-1
section
end
end Pl
section
namespace Pl
namespace DF
variable {n m:Nat} {T:DF n m} {W X:Nat->Nat->Bool}
def bu (T:DF n m) (e b:Nat):Prop:=b<m/\T.tree b=false/\(e=b\/(T.tree e=true/\T.bP (T.go e) (T.fr b)/\T.ay (T.go b)<T.ay (T.fr e)))
def jF (T:DF n m) (b e:Nat):Prop:=∃b',T.bu e b'/\T.ay (T.go b')<T.ay (T.go b)
structure LR (T:DF n m) (sd:Nat->Bool):Prop where
 same:∀{e f b c:Nat},e<m->f<m->e≠f->T.fr e=T.fr f->T.bu e b->T.bu e c->T.jF b f->T.jF c f->sd b=sd c
 Hh:∀{e f b c:Nat},e<m->f<m->e≠f->T.fr e=T.fr f->T.bu e b->T.jF b f->T.bu f c->T.jF c e->sd b≠sd c
theorem bu.bL {e b:Nat} (h:T.bu e b):T.bL b e=true:=by
 obtain⟨_,_,h|⟨h1,h2,h3⟩⟩:=h
 .exact bU.2 (.inl h)
 .exact bU.2 (.inr ⟨h1,h2,by omega⟩)
theorem bu.lt {e b:Nat} (h:T.bu e b):T.ay (T.go b)<T.ay (T.fr e):=by
 obtain⟨h1,h2,h|⟨_,_,h3⟩⟩:=h
 .subst h
  obtain⟨b1,b2⟩:=T.back e h1 h2;exact T.up (T.lt e h1).2 (T.lt e h1).1 b1 b2
 .exact h3
theorem rC {e b:Nat} (hb:b<m) (tb:T.tree b=false) (h:T.bL b e=true) (hl:T.ay (T.go b)<T.ay (T.fr e)):T.bu e b:=by
 rcases bU.1 h with h|⟨h1,h2,_⟩
 .exact⟨hb,tb,.inl h⟩
 .exact⟨hb,tb,.inr ⟨h1,h2,hl⟩⟩
theorem qo {b c e f e' f':Nat} (hb:b<m) (hc:c<m) (tb:T.tree b=false) (tc:T.tree c=false) (he:e<m) (hf:f<m) (he':e'<m) (hf':f'<m)
 (h1:T.bL b e=true) (h2:T.bL c f=true) (h3:T.fr e=T.fr f) (h4:e≠f) (h1':T.bL b e'=true) (h2':T.bL c f'=true) (h3':T.fr e'=T.fr f') (h4':e'≠f'):e=e'/\f=f':=by
 by_cases hz:T.fr e=T.fr e'
 .exact⟨gG hb he he' h1 h1' hz,gG hc hf hf' h2 h2' (by rw[<-h3,<-h3'];exact hz)⟩
 .exfalso
  have o1:=ig hb tb he h1;have Uk:=ig hb tb he' h1';have o2:=ig hc tc hf h2;have YK:=ig hc tc hf' h2';have bf:=(T.lt b hb).1;have key:∀{e f e' f':Nat},e<m->f<m->e'<m->T.bL b e=true->T.bL c f=true->T.fr e=T.fr f->T.fr e≠T.fr e'->T.fr e'=T.fr f'->T.On b (T.fr e)->T.On b (T.fr e')->T.On c (T.fr f')->T.ay (T.fr e)<=T.ay (T.fr e')->e=f:=fun {e f e' f'} he hf he' h1 h2 h3 hz h3' o1 Uk YK hh=>by
   have ha:=T.cmp (T.lt e he).1 (T.lt e' he').1 bf o1.2 Uk.2 hh;obtain⟨t1,a1⟩:=Jc hb he h1 (T.lt e' he').1 ha hz Uk.2;rw[<-h3'] at YK;obtain⟨t2,a2⟩:=Jc hc hf h2 (T.lt e' he').1 (by rw[<-h3];exact ha) (by rw[<-h3];exact hz) YK.2;exact Yq he hf t1 t2 (T.lt e' he').1 h3 a1 a2
  rcases Int.le_total (T.ay (T.fr e)) (T.ay (T.fr e')) with hh|hh
  .exact h4 (key he hf he' h1 h2 h3 hz h3' o1 Uk YK hh)
  .exact h4' (key he' hf' he h1' h2' h3' (aao hz) h3 Uk o1 o2 hh)
theorem Ka {b c:Nat} (hb:b<m) (hc:c<m) (tb:T.tree b=false) (hbc:b≠c):∀(d:Nat) (z:Nat),z<n->(n:Int)-T.ay z<=d->T.On b z->T.On c z->∃e f,e<m/\f<m/\T.bL b e=true/\T.bL c f=true/\T.fr e=T.fr f/\e≠f/\T.bP z (T.fr e):=by
 intro d
 induction d with
 |zero=>
  intro z hz hd _ _;have:=(T.low z hz).2;omega
 |succ d ih=>
  intro z hz hd o1 o2;obtain⟨e,he,h1,h2⟩:=kV hb hz o1;obtain⟨f,hf,h3,h4⟩:=kV hc hz o2;by_cases cQ:e=f
  .subst cQ
   have te:T.tree e=true/\T.bP (T.go e) (T.fr b)/\T.bP (T.go e) (T.fr c):=by
    rcases bU.1 h1 with k|⟨k1,k2,_⟩<;>rcases bU.1 h3 with l|⟨l1,l2,_⟩
    .exact absurd (k.symm.trans l) hbc
    .rw[k] at l1;rw[tb] at l1;cases l1
    .refine⟨k1,k2,?_⟩
     exfalso;have:=T.le (T.lt e he).2 (T.lt b hb).1 k2;have e1:=T.le hz (T.lt c hc).1 o2.2;rw[<-l] at e1;have e2:=(T.bS e he k1).1;have o3:=o2.1;rw[<-l] at o3;have:=T.le (T.lt e he).2 hz o3;rw[h2] at e2;omega
    .exact⟨k1,k2,l2⟩
   obtain⟨te,a1,a2⟩:=te;have e2:=(T.bS e he te);have hzg:T.bP z (T.go e):=by rw[<-h2];exact e2.2
   obtain⟨e',f',k1,k2,k3,k4,k5,k6,k7⟩:=ih (T.go e) (T.lt e he).2 (by rw[e2.1,h2];omega) ⟨T.trans o1.1 hzg,a1⟩ ⟨T.trans o2.1 hzg,a2⟩;exact⟨e',f',k1,k2,k3,k4,k5,k6,T.trans hzg k7⟩
  .exact⟨e,f,he,hf,h1,h3,h2.trans h4.symm,cQ,by rw[h2];exact T.refl z hz⟩
theorem PZ {b c e f:Nat} (hb:b<m) (hc:c<m) (tb:T.tree b=false) (tc:T.tree c=false) (he:e<m) (hf:f<m) (h1:T.bL b e=true) (h2:T.bL c f=true) (h3:T.fr e=T.fr f) (h4:e≠f):oo T X b c=X e f:=by
 have no:∀e' f',e'<m->f'<m->¬(e'=e/\f'=f)->(T.bL b e'&&(T.bL c f'&&(decide (T.fr e'=T.fr f')&&(!decide (e'=f')&&X e' f'))))=false:=fun e' f' he' hf' hne=>by
  cases k1:T.bL b e' with
  |false=>rfl
  |true=>
   cases k2:T.bL c f' with
   |false=>rfl
   |true=>
    by_cases k3:T.fr e'=T.fr f'
    .by_cases k4:e'=f'
     .simp[k4]
     .exact absurd (qo hb hc tb tc he' hf' he hf k1 k2 k3 k4 h1 h2 h3 h4) hne
    .simp[k3]
 unfold oo fm;rw[aK he (fun e' he' hne=>aD fun f' hf'=>no e' f' he' hf' fun h=>hne h.1),aK hf (fun f' hf' hne=>no e f' he hf' fun h=>hne h.2)];simp[h1,h2,h3,h4]
theorem acg {b c:Nat} (hb:b<m) (hc:c<m) (tb:T.tree b=false) (tc:T.tree c=false) (h:∀z,z<n->¬(T.On b z/\T.On c z)):oo T X b c=false:=by
 refine aD fun e he=>aD fun f hf=> ?_
 cases k1:T.bL b e with
 |false=>rfl
 |true=>
  cases k2:T.bL c f with
  |false=>rfl
  |true=>
   have:¬T.fr e=T.fr f:=fun k3=>h _ (T.lt e he).1 ⟨ig hb tb he k1,by rw[k3];exact ig hc tc hf k2⟩
   simp[this]
theorem Ca {b c t:Nat} (hb:b<m) (ht:t<m) (h1:T.bL b t=true) (h2:T.fr t=T.go c):oi T X b c=X t c:=by
 unfold oi;rw[aK ht (fun e he hne=> ?_)]
 .simp[h1,h2]
 .cases k:T.bL b e with
  |false=>rfl
  |true=>simp[show ¬T.fr e=T.go c from fun k2=>hne (gG hb he ht k h1 (k2.trans h2.symm))]
theorem Ug {b c:Nat} (hb:b<m) (tb:T.tree b=false) (h:¬T.On b (T.go c)):oi T X b c=false:=aD fun e he=>by
 cases k:T.bL b e with
 |false=>rfl
 |true=>simp[show ¬T.fr e=T.go c from fun k2=>h (by rw[<-k2];exact ig hb tb he k)]
theorem Qj {b c t:Nat} (hc:c<m) (ht:t<m) (h1:T.bL c t=true) (h2:T.fr t=T.go b):io T X b c=X b t:=by
 unfold io;rw[aK ht (fun e he hne=> ?_)]
 .simp[h1,h2]
 .cases k:T.bL c e with
  |false=>rfl
  |true=>simp[show ¬T.go b=T.fr e from fun k2=>hne (gG hc he ht k h1 (k2.symm.trans h2.symm))]
theorem NR {b c:Nat} (hc:c<m) (tc:T.tree c=false) (h:¬T.On c (T.go b)):io T X b c=false:=aD fun e he=>by
 cases k:T.bL c e with
 |false=>rfl
 |true=>simp[show ¬T.go b=T.fr e from fun k2=>h (by rw[k2];exact ig hc tc he k)]
noncomputable def Hu (T:DF n m) (X:Nat->Nat->Bool) (b:Nat):Bool:=oi T X b b
theorem Jd (h:sH m T.fr T.go W) {e f b c:Nat} (he:e<m) (hf:f<m) (hne:e≠f) (hfr:T.fr e=T.fr f) (rb:T.bu e b) (rc:T.bu f c) (hh:T.ay (T.go b)<T.ay (T.go c)):Hu T (sw T W) c=sw T W e f:=by
 have hp:Pre T W:=⟨h.self,h.apart,h.turn⟩;have kb:=bu.bL rb;have kc:=bu.bL rc;have hcv:=bu.lt rc;obtain⟨hb,tb,_⟩:=rb;obtain⟨hc,tc,_⟩:=rc;have hbc:b≠c:=fun e=>by rw[e] at hh;omega
 obtain⟨bf,bg⟩:=T.lt b hb;obtain⟨cf,cg⟩:=T.lt c hc;have vn:=(T.lt e he).1;have ob:=ig hb tb he kb;have oc:=ig hc tc hf kc;rw[<-hfr] at oc;rw[<-hfr] at hcv;have h0:=h.zero _ _ (l9 hb tb) (l9 hc tc);rw[LC hp hb hc tb tc hbc,PZ hb hc tb tc he hf kb kc hfr hne] at h0;have on:T.On b (T.go c):=⟨T.cmp bg cg vn ob.1 oc.1 (by omega),T.trans oc.1 ob.2⟩;obtain⟨t,ht,t1,t2⟩:=kV hb cg on;have Rk:T.fr t≠T.fr e:=fun k=>by rw[t2] at k;rw[k] at hcv;omega
 obtain⟨tt,ta⟩:=Jc hb ht t1 vn (by rw[t2];exact oc.1) Rk ob.2;have t3:T.bL c t=true:=bU.2 (.inr ⟨tt,T.trans ta oc.2,by rw[t2];omega⟩);rw[Ca hb ht t1 t2,NR hc tc (fun k=>by have:=T.le cg bg k.1;omega),decide_eq_false (fun k=>by rw[k] at hh;omega)] at h0;unfold Hu;rw[Ca hc ht t3 t2];cases k1:sw T W e f<;>cases k2:sw T W t c<;>simp[k1,k2] at h0 ⊢
theorem acm (h:sH m T.fr T.go W):T.LR (Hu T (sw T W)):=by
 refine⟨fun {e f b c} he hf hne hfr rb rc ⟨b',rb',hb'⟩ ⟨c',rc',hc'⟩=> ?_,fun {e f b c} he hf hne hfr rb ⟨b',rb',hb'⟩ rc ⟨c',rc',hc'⟩=> ?_⟩
 .rw[Jd h hf he (aao hne) hfr.symm rb' rb hb',Jd h hf he (aao hne) hfr.symm rc' rc hc']
 .rw[Jd h hf he (aao hne) hfr.symm rb' rb hb',Jd h he hf hne hfr rc' rc hc']
  have hp:Pre T W:=⟨h.self,h.apart,h.turn⟩;rw[JR hp he hf hne (v:=T.fr e) (au.2 (.inl rfl)) (au.2 (.inl hfr.symm)) (fun k=>T.ne he k.2.symm) (fun k=>T.ne hf (hfr.symm.trans k.2.symm))];cases sw T W f e<;>simp
end DF
end Pl
end
section
namespace Pl
namespace DF
variable {n m:Nat} {T:DF n m}
def bT (T:DF n m) (b e:Nat):Prop:=T.bu e b/\∀b',T.bu e b'->T.ay (T.go b)<=T.ay (T.go b')
def Aligned (T:DF n m) (sd:Nat->Bool):Prop:=∀{e b c:Nat},e<m->T.tree e=true->T.bT b e->T.bT c e->sd b=sd c
theorem Dt {b c e:Nat} (hb:T.bT b e) (hc:T.bT c e):T.ay (T.go b)=T.ay (T.go c):=by
 have:=hb.2 c hc.1;have:=hc.2 b hb.1;omega
theorem zR {P:Nat->Prop} {f:Nat->Nat}:∀(d:Nat) (x:Nat),P x->f x<=d->∃y,P y/\∀z,P z->f y<=f z:=by
 intro d
 induction d with
 |zero=>exact fun x hx hd=>⟨x,hx,fun z _=>by omega⟩
 |succ d ih=>
  intro x hx hd;by_cases h:∃z,P z/\f z<f x
  .obtain⟨z,hz,hlt⟩:=h
   exact ih z hz (by omega)
  .exact⟨x,hx,fun z hz=>Nat.le_of_not_lt fun hlt=>h ⟨z,hz,hlt⟩⟩
def top (T:DF n m) (b e:Nat):Prop:=(e<m/\T.tree e=true/\T.bT b e)/\∀f,(f<m/\T.tree f=true/\T.bT b f)->(T.ay (T.fr e)).toNat<=(T.ay (T.fr f)).toNat
theorem Pz {b e:Nat} (he:e<m) (te:T.tree e=true) (h:T.bT b e):∃x,T.top b x:=by
 obtain⟨y,h1,h2⟩:=zR (P:=fun e=>e<m/\T.tree e=true/\T.bT b e) (f:=fun e=>(T.ay (T.fr e)).toNat) _ e ⟨he,te,h⟩ (aad _);exact⟨y,h1,h2⟩
theorem jr {e b:Nat} (te:T.tree e=true) (h:T.bu e b):T.bP (T.go e) (T.fr b)/\T.ay (T.go b)<T.ay (T.fr e):=by
 obtain⟨_,h2,h|⟨_,h3,h4⟩⟩:=h
 .subst h;rw[te] at h2;cases h2
 .exact⟨h3,h4⟩
theorem Cw {e f z:Nat} (he:e<m) (hf:f<m) (te:T.tree e=true) (tf:T.tree f=true) (hz:z<n) (h1:T.bP (T.go e) z) (h2:T.bP (T.go f) z):e=f\/(T.ay (T.fr e)<T.ay (T.fr f)/\T.bP (T.go e) (T.fr f))\/(T.ay (T.fr f)<T.ay (T.fr e)/\T.bP (T.go f) (T.fr e)):=by
 have e1:=T.bS e he te;have f1:=T.bS f hf tf;have a1:=T.trans e1.2 h1;have a2:=T.trans f1.2 h2;by_cases h:T.ay (T.fr e)=T.ay (T.fr f)
 .exact .inl (T.one e f he hf te tf (T.same (T.lt e he).2 (T.lt f hf).2 hz h1 h2 (by omega)))
 .by_cases hl:T.ay (T.fr e)<T.ay (T.fr f)
  .exact .inr (.inl ⟨hl,T.cmp (T.lt e he).2 (T.lt f hf).1 hz h1 a2 (by omega)⟩)
  .exact .inr (.inr ⟨by omega,T.cmp (T.lt f hf).2 (T.lt e he).1 hz h2 a1 (by omega)⟩)
theorem P8 {b c e f:Nat} (he:e<m) (hf:f<m) (te:T.tree e=true) (tf:T.tree f=true) (hb:T.bT b e) (hc:T.bT c e) (hbf:T.bT b f) (hh:T.ay (T.fr f)<=T.ay (T.fr e)):T.bT c f:=by
 have lZ:=hb.1.1;obtain⟨a1,_⟩:=jr te hb.1;obtain⟨a2,l2⟩:=jr tf hbf.1;rcases Cw he hf te tf (T.lt b lZ).1 a1 a2 with k|⟨k,_⟩|⟨_,k⟩
 .subst k;exact hc
 .omega
 .have e1:=Dt hb hc
  obtain⟨a3,_⟩:=jr te hc.1;refine⟨⟨hc.1.1,hc.1.2.1,.inr ⟨tf,T.trans (T.trans k (T.bS e he te).2) a3,by omega⟩⟩,fun b' hb'=> ?_⟩;have:=hbf.2 b' hb';omega
theorem uL {b c e x y:Nat} (he:e<m) (te:T.tree e=true) (hb:T.bT b e) (hc:T.bT c e) (hx:T.top b x) (hy:T.top c y):x=y:=by
 obtain⟨⟨xm,tx,lx⟩,mx⟩:=hx;obtain⟨⟨ym,ty,ly⟩,my⟩:=hy;have x0:=T.low _ (T.lt x xm).1;have y0:=T.low _ (T.lt y ym).1;have e0:=T.low _ (T.lt e he).1;have h1:=mx e ⟨he,te,hb⟩;have h2:=my e ⟨he,te,hc⟩;have cx:=P8 he xm te tx hb hc lx (by omega);have cy:=P8 he ym te ty hc hb ly (by omega);have h3:=mx y ⟨ym,ty,cy⟩;have h4:=my x ⟨xm,tx,cx⟩;have a1:=(jr tx lx.1).1;have a2:=(jr ty cy.1).1;rcases Cw xm ym tx ty (T.lt b hb.1.1).1 a1 a2 with k|⟨k,_⟩|⟨k,_⟩
 .exact k
 .omega
 .omega
open Classical in
noncomputable def rep (T:DF n m) (b:Nat):Nat:=
 if h:∃x,T.top b x then
  (if h2:∃c,T.bT c (Classical.choose h) then Classical.choose h2 else b)
 else b
theorem Yx {b x:Nat} (hx:T.top b x):T.bT (T.rep b) x:=by
 have hex:∃x,T.top b x:=⟨x,hx⟩;have hc:=acI hex;have e1:x=Classical.choose hex:=uL hx.1.1 hx.1.2.1 hx.1.2.2 hx.1.2.2 hx hc;have h2:∃c,T.bT c (Classical.choose hex):=⟨b,hc.1.2.2⟩;unfold rep;rw[dif_pos hex,dif_pos h2];have:=acI h2;rw[e1];exact this
open Classical in
theorem RA {b c x:Nat} (h1:T.top b x) (h2:T.top c x):T.rep b=T.rep c:=by
 have hex:∃x,T.top b x:=⟨x,h1⟩;have Vz:∃x,T.top c x:=⟨x,h2⟩;have e1:x=Classical.choose hex:=uL h1.1.1 h1.1.2.1 h1.1.2.2 h1.1.2.2 h1 (acI hex);have e2:x=Classical.choose Vz:=uL h2.1.1 h2.1.2.1 h2.1.2.2 h2.1.2.2 h2 (acI Vz);have k:∃c,T.bT c x:=⟨b,h1.1.2.2⟩;have g:∀(y:Nat) (d:Nat) (hd:∃x,T.top d x),x=y->y=Classical.choose hd->T.rep d=Classical.choose k:=fun y d hd e3 e4=>by
  unfold rep;rw[dif_pos hd];have e5:Classical.choose hd=x:=by rw[<-e4,<-e3]
  have:∀z,z=x->(if h2:∃c,T.bT c z then Classical.choose h2 else d)=Classical.choose k:=fun z hz=>by
   subst hz;rw[dif_pos k]
  exact this _ e5
 rw[g x b hex rfl e1,g x c Vz rfl e2]
theorem RB {b:Nat} (h:¬ ∃x,T.top b x):T.rep b=b:=by
 unfold rep;rw[dif_neg h]
theorem uW {e f b:Nat} (he:e<m) (hf:f<m) (hfr:T.fr e=T.fr f) (rb:T.bu e b) (hb:T.jF b f):T.bu e (T.rep b)/\T.jF (T.rep b) f:=by
 by_cases hex:∃x,T.top b x
 .obtain⟨x,hx⟩:=hex
  have hr:=Yx hx;obtain⟨⟨xm,tx,lx⟩,_⟩:=hx;have hh:=Dt hr lx;obtain⟨b',rb',lb'⟩:=hb;have lZ:=rb.1;obtain⟨a2,l2⟩:=jr tx lx.1;have fb':T.bP (T.fr e) (T.fr b'):=by
   rw[hfr];obtain⟨q1,_,q3|⟨q3,q4,_⟩⟩:=rb'
   .rw[q3];exact T.refl _ (T.lt b' q1).1
   .exact T.trans (T.bS f hf q3).2 q4
  have nx:¬T.bP (T.go x) (T.fr e):=fun ha=>by
   have:=lx.2 b' ⟨rb'.1,rb'.2.1,.inr ⟨tx,T.trans ha fb',by omega⟩⟩;omega
  refine⟨?_,b',rb',by omega⟩;obtain⟨_,q2,q3|⟨te,q4,q5⟩⟩:=rb
  .subst q3
   exact absurd a2 nx
  .rcases Cw he xm te tx (T.lt b lZ).1 q4 a2 with k|⟨_,k⟩|⟨_,k⟩
   .subst k;exact hr.1
   .refine⟨hr.1.1,hr.1.2.1,.inr ⟨te,T.trans (T.trans k (T.bS x xm tx).2) (jr tx hr.1).1,by omega⟩⟩
   .exact absurd k nx
 .rw[RB hex]
  exact⟨rb,hb⟩
theorem L0 {sd:Nat->Bool} (h:T.LR sd):∃sd',T.LR sd'/\T.Aligned sd':=by
 refine⟨fun b=>sd (T.rep b),⟨fun {e f b c} he hf hne hfr rb rc ab ac=> ?_,fun {e f b c} he hf hne hfr rb ab rc ac=> ?_⟩,fun {e b c} he te hb hc=> ?_⟩
 .obtain⟨h1,h2⟩:=uW he hf hfr rb ab
  obtain⟨h3,h4⟩:=uW he hf hfr rc ac;exact h.same he hf hne hfr h1 h3 h2 h4
 .obtain⟨h1,h2⟩:=uW he hf hfr rb ab
  obtain⟨h3,h4⟩:=uW hf he hfr.symm rc ac;exact h.Hh he hf hne hfr h1 h2 h3 h4
 .obtain⟨x,hx⟩:=Pz he te hb
  obtain⟨y,hy⟩:=Pz he te hc;have:=uL he te hb hc hx hy;subst this;show sd (T.rep b)=sd (T.rep c);rw[RA hx hy]
end DF
end Pl
end
end Go.Proofs.YtbhdibflpjhpaaaGreat
