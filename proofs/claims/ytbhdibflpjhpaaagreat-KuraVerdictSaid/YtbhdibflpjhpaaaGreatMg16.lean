import Derived.Test.YtbhdibflpjhpaaaGreatMg15
namespace Go.Proofs.YtbhdibflpjhpaaaGreat
section
namespace Pl
theorem WG {m x x':Nat} (hx:x<m) (hx':x'<m) (hne:x≠x') {W W2:Nat->Nat->Bool} {C D:Nat->Bool} (hC:C x'=C x) (hD:D x'=D x)
 (h0:∀e f,e<m->f<m->e≠x->f≠x->e≠x'->f≠x'->W2 e f=W e f) (h1:∀f,f<m->f≠x->f≠x'->W2 x f=(W x f ^^ W x' f)) (h2:∀e,e<m->e≠x->e≠x'->W2 e x=(W e x ^^ W e x'))
 (h3:W2 x x=(W x x ^^ (W x x' ^^ (W x' x ^^ W x' x')))):fm m W C D=fm m W2 (fun e=>C e&& !decide (e=x')) (fun e=>D e&& !decide (e=x')):=by
 let C2:Nat->Bool:=fun e=>C e&& !decide (e=x')
 let D2:Nat->Bool:=fun e=>D e&& !decide (e=x')
 have cC:∀e,e<m->C e=(C2 e ^^ (decide (e=x')&&C x)):=fun e _=>by
  show C e=((C e&& !decide (e=x')) ^^ (decide (e=x')&&C x));by_cases h:e=x'
  .rw[h,hC];simp
  .simp[h]
 have cD:∀e,e<m->D e=(D2 e ^^ (decide (e=x')&&D x)):=fun e _=>by
  show D e=((D e&& !decide (e=x')) ^^ (decide (e=x')&&D x));by_cases h:e=x'
  .rw[h,hD];simp
  .simp[h]
 have ajO:C2 x'=false:=by simp[C2]
 have ajL:D2 x'=false:=by simp[D2]
 have C2x:C2 x=C x:=by simp[C2,hne]
 have D2x:D2 x=D x:=by simp[D2,hne]
 rw[cV cC cD (fun _ _ _ _ _ _=>rfl),El,ud,ud];have one:∀(z:Nat) (b:Bool) (Y:Nat->Bool),z<m->fm m W (fun e=>decide (e=z)&&b) Y=(b&&px m (fun f=>Y f&&W z f)):=fun z b Y hz=>by
  unfold fm;rw[aK hz (fun e _ hne=>aD fun f _=>by simp[hne]),<-jt];exact aA fun f _=>by simp
 have onR:∀(z:Nat) (b:Bool) (Y:Nat->Bool),z<m->fm m W Y (fun e=>decide (e=z)&&b)=(b&&px m (fun e=>Y e&&W e z)):=fun z b Y hz=>by
  unfold fm;rw[kI,aK hz (fun e _ hne=>aD fun f _=>by simp[hne]),<-jt];refine aA fun f _=> ?_
  simp only[decide_true,aeG];cases Y f<;>cases b<;>cases W f z<;>rfl
 have r1:=one x' (C x) D2 hx';have r2:=onR x' (D x) C2 hx';have r3:fm m W (fun e=>decide (e=x')&&C x) (fun e=>decide (e=x')&&D x)=(C x&&(D x&&W x' x')):=by
  rw[one x' (C x) _ hx',aK hx' (fun f _ hne=>by simp[hne])];simp
 rw[r1,r2,r3];have e1:fm m W2 C2 D2=fm m (fun e f=>W e f ^^ ((decide (e=x)&&W x' f) ^^ ((decide (f=x)&&W e x') ^^ (decide (e=x)&&(decide (f=x)&&W x' x'))))) C2 D2:=cV (fun _ _=>rfl) (fun _ _=>rfl) fun e f he hf k1 k2=>by
  have ne:e≠x':=fun h=>by rw[h,ajO] at k1;cases k1
  have nf:f≠x':=fun h=>by rw[h,ajL] at k2;cases k2
  by_cases a:e=x
  .by_cases b:f=x
   .rw[a,b,h3,decide_eq_true (rfl:x=x)]
    cases W x x<;>cases W x x'<;>cases W x' x<;>cases W x' x'<;>rfl
   .rw[a,h1 f hf b nf]
    simp[b]
  .by_cases b:f=x
   .rw[b,h2 e he a ne]
    simp[a]
   .rw[h0 e f he hf a b ne nf]
    simp[a,b]
 show _=fm m W2 C2 D2;rw[e1,jg,jg,jg];have s1:fm m (fun e f=>decide (e=x)&&W x' f) C2 D2=(C x&&px m (fun f=>D2 f&&W x' f)):=by
  rw[vE (fun e=>decide (e=x)) (fun f=>W x' f),aK hx (fun e _ hne=>by simp[hne]),C2x];simp
 have s2:fm m (fun e f=>decide (f=x)&&W e x') C2 D2=(D x&&px m (fun e=>C2 e&&W e x')):=by
  have:fm m (fun e f=>decide (f=x)&&W e x') C2 D2=fm m (fun e f=>W e x'&&decide (f=x)) C2 D2:=cV (fun _ _=>rfl) (fun _ _=>rfl) fun _ _ _ _ _ _=>afA _ _
  rw[this,vE (fun e=>W e x') (fun f=>decide (f=x)),aK (f:=fun f=>D2 f&&decide (f=x)) hx (fun e _ hne=>by simp[hne]),D2x,afA];simp
 have s3:fm m (fun e f=>decide (e=x)&&(decide (f=x)&&W x' x')) C2 D2=(C x&&(D x&&W x' x')):=by
  rw[vE (fun e=>decide (e=x)) (fun f=>decide (f=x)&&W x' x'),aK hx (fun e _ hne=>by simp[hne]),aK (f:=fun f=>D2 f&&(decide (f=x)&&W x' x')) hx (fun e _ hne=>by simp[hne]),C2x,D2x];simp
 rw[s1,s2,s3];generalize fm m W C2 D2=A;generalize px m (fun f=>D2 f&&W x' f)=B;generalize px m (fun e=>C2 e&&W e x')=E;cases A<;>cases B<;>cases E<;>cases C x<;>cases D x<;>cases W x' x'<;>rfl
theorem RI {n:Nat} {f:Nat->Bool} (h:px n f=true):∃i,i<n/\f i=true:=abO fun hn=>by
 rw[aD (fun i hi=>by
  cases k:f i with
  |false=>rfl
  |true=>exact absurd ⟨i,hi,k⟩ hn)] at h
 cases h
section
variable {n m:Nat} {p q:Nat->Nat}
def Less (m:Nat):Prop:=∀m' p q n,m'<m->bZ m' p q->(∀e,e<m'->p e<n/\q e<n)->fD m' p q
theorem Less.on (h:Less m) (hs:bZ m p q) (hl:∀e,e<m->p e<n/\q e<n) {K:Nat->Bool} {x:Nat} (hx:x<m) (hK:K x=false):∃W,lJ m p q (fun e=>K e=true) W:=by
 let L:=(List.range m).filter fun e=>K e
 have kN:∀{e:Nat},e∈L↔e<m/\K e=true:=fun {e}=>by
  show e∈(List.range m).filter _↔_;rw[acK,ab1]
 have nd:L.Nodup:=List.Pairwise.filter _ afc;have hlt:L.length<m:=by
  have Uu:(x::L).Nodup:=acr.2 ⟨fun hm=>(by have:=(kN.1 hm).2;rw[hK] at this;cases this),nd⟩;have:=zN Uu (n:=m) (fun e he=>by
   rcases aaj.1 he with rfl|he
   .exact hx
   .exact(kN.1 he).1)
  simp at this;omega
 have get:∀i,i<L.length->L.getD i 0∈L:=fun i hi=>by
  rw[aag,aac hi];exact adi hi
 have inj:∀i j,i<L.length->j<L.length->L.getD i 0=L.getD j 0->i=j:=fun i j hi hj e=>by
  rw[aag,aag,aac hi,aac hj] at e;exact Dk nd hi hj e
 have hP:fD L.length (fun i=>p (L.getD i 0)) (fun i=>q (L.getD i 0)):=h L.length _ _ n hlt ⟨fun i hi=>hs.1 _ (kN.1 (get i hi)).1,fun i j hi hj hne=>hs.2 _ _ (kN.1 (get i hi)).1 (kN.1 (get j hj)).1 fun e=>hne (inj i j hi hj e)⟩ (fun i hi=>hl _ (kN.1 (get i hi)).1);refine Uf hP (fun i hi=>(kN.1 (get i hi)).1) inj (fun e he hS=> ?_);obtain⟨i,hi,e1⟩:=adk (kN.2 ⟨he,hS⟩);exact⟨i,hi,by rw[aag,aac hi,e1];rfl⟩
theorem WN (hs:bZ m p q) (hl:∀e,e<m->p e<n/\q e<n) {x v:Nat} (hx:x<m) (ix:inc p q x v=true) (only:∀e,e<m->inc p q e v=true->e=x) (h:∃W,lJ m p q (fun e=>(!decide (e=x))=true) W):fD m p q:=by
 have no:∀{a:Nat->Bool},Ev m p q a->a x=false:=fun {a} ha=>by
  have:=ha v;rw[aK hx (fun e he hne=> ?_),ix,Bool.and_true] at this
  .exact this
  .have:inc p q e v=false:=by
    cases c:inc p q e v with
    |false=>rfl
    |true=>exact absurd (only e he c) hne
   rw[this,afp]
 refine fD.glue (K:=2) (k:=fun e=>if e=x then 1 else 0) hs hl (fun e _=>by show(if e=x then 1 else 0)<2;split<;>omega) (fun a ha j=> ?_) (fun j hj=> ?_)
 .have ax:=no ha
  by_cases j0:j=0
  .subst j0
   refine fun w=>(aA fun e _=> ?_).trans (ha w)
   by_cases e1:e=x
   .simp[e1,ax]
   .simp[e1]
  .refine fun w=>aD fun e _=> ?_
   by_cases e1:e=x
   .simp[e1,ax]
   .have:¬(0=j):=fun h=>j0 h.symm
    simp[e1,this]
 .by_cases j0:j=0
  .subst j0
   obtain⟨W,hW⟩:=h;have eq:∀e,((if e=x then 1 else 0)=0)↔(!decide (e=x))=true:=fun e=>by by_cases e1:e=x<;>simp[e1]
   exact⟨W,⟨fun e he h1=>hW.self e he ((eq e).1 h1),fun e f he hf h1 h2=>hW.apart e f he hf ((eq e).1 h1) ((eq f).1 h2),fun e f he hf h1 h2=>hW.turn e f he hf ((eq e).1 h1) ((eq f).1 h2),fun a b ha hb h1 h2=>hW.zero a b ha hb (fun e he h3=>(eq e).1 (h1 e he h3)) (fun e he h3=>(eq e).1 (h2 e he h3))⟩⟩
  .have j1:j=1:=by omega
   subst j1;have eq:∀e,((if e=x then 1 else 0)=1)->e=x:=fun e h=>by by_cases e1:e=x<;>simp[e1] at h ⊢
   refine⟨fun _ _=>true,⟨fun _ _ _=>rfl,fun e f _ _ h1 h2 hne=>absurd ((eq e h1).trans (eq f h2).symm) hne,fun e f _ _ h1 h2 hne=>absurd ((eq e h1).trans (eq f h2).symm) hne,fun a b ha _ h1 _=>nN fun e he=> ?_⟩⟩;cases c:a e with
   |false=>rfl
   |true=>
    have e1:=eq e (h1 e he c);rw[e1,no ha] at c;cases c
theorem beside (hs:bZ m p q) {x x' e0 z u v:Nat} (hx:x<m) (hx':x'<m) (IP:e0<m) (oY:x≠x') (hx0:x≠e0) (hx0':x'≠e0) (huv:u≠v) (huz:u≠z) (hvz:v≠z)
 (dx:∀w,inc p q x w=true↔w=u\/w=z) (LI:∀w,inc p q x' w=true↔w=v\/w=z) (d0:∀w,inc p q e0 w=true↔w=u\/w=v)
 (only:∀e,e<m->inc p q e z=true->e=x\/e=x') (h:∃W,lJ m p q (fun e=>(!decide (e=x)&& !decide (e=x'))=true) W):fD m p q:=by
 obtain⟨W0,h0⟩:=h;have K:∀{e},e≠x->e≠x'->(!decide (e=x)&& !decide (e=x'))=true:=fun {e} h1 h2=>by simp[h1,h2]
 let W:Nat->Nat->Bool:=fun e f=>
  if e=f then true else if e=x then (if f=x' then true else if f=e0 then true else inc p q f u&&W0 e0 f) else if e=x' then (if f=x then false else if f=e0 then false else inc p q f v&&W0 e0 f)
  else if f=x then (if e=e0 then false else inc p q e u&&W0 e e0) else if f=x' then (if e=e0 then true else inc p q e v&&W0 e e0) else W0 e f
 have Yk:∀e,W e e=true:=fun e=>by simp only[W,if_pos]
 have Ty:W x x'=true:=by simp only[W,if_neg oY,if_pos]
 have Tz:W x' x=false:=by simp only[W,if_neg (aao oY),if_pos]
 have wx0:W x e0=true:=by simp only[W,if_neg hx0,if_pos,if_neg (aao hx0')]
 have aap:W x' e0=false:=by simp only[W,if_neg hx0',if_neg (aao oY),if_pos,if_neg (aao hx0)]
 have w0x:W e0 x=false:=by simp only[W,if_neg (aao hx0),if_neg (aao hx0'),if_pos]
 have aaq:W e0 x'=true:=by simp only[W,if_neg (aao hx0),if_neg (aao hx0'),if_neg (aao oY),if_pos]
 have wxf:∀f,f≠x->f≠x'->f≠e0->W x f=(inc p q f u&&W0 e0 f):=fun f a b c=>by simp only[W,if_neg (aao a),if_pos,if_neg b,if_neg c]
 have TA:∀f,f≠x->f≠x'->f≠e0->W x' f=(inc p q f v&&W0 e0 f):=fun f a b c=>by simp only[W,if_neg (aao b),if_neg (aao oY),if_pos,if_neg a,if_neg c]
 have wfx:∀f,f≠x->f≠x'->f≠e0->W f x=(inc p q f u&&W0 f e0):=fun f a b c=>by simp only[W,if_neg a,if_neg b,if_pos,if_neg c]
 have TF:∀f,f≠x->f≠x'->f≠e0->W f x'=(inc p q f v&&W0 f e0):=fun f a b c=>by simp only[W,if_neg a,if_neg b,if_neg (aao oY),if_pos,if_neg c]
 have Yl:∀e f,e<m->e≠x->e≠x'->f≠x->f≠x'->W e f=W0 e f:=fun e f he a b c d=>by
  by_cases ef:e=f
  .subst ef;rw[Yk,h0.self e he (K a b)]
  .simp only[W,if_neg ef,if_neg a,if_neg b,if_neg c,if_neg d]
 have Uh:∀f,f<m->f≠x->f≠x'->inc p q f z=false:=fun f hf a b=>by
  cases c:inc p q f z with
  |false=>rfl
  |true=>rcases only f hf c with e|e<;>contradiction
 have mx:∀f,f<m->f≠x->f≠x'->(meet p q x f↔inc p q f u=true):=fun f hf a b=>by
  rw[yl];constructor
  .rintro⟨w,w1,w2⟩
   rcases(dx w).1 w1 with rfl|rfl
   .exact w2
   .rw[Uh f hf a b] at w2;cases w2
  .exact fun h=>⟨u,(dx u).2 (.inl rfl),h⟩
 have mx':∀f,f<m->f≠x->f≠x'->(meet p q x' f↔inc p q f v=true):=fun f hf a b=>by
  rw[yl];constructor
  .rintro⟨w,w1,w2⟩
   rcases(LI w).1 w1 with rfl|rfl
   .exact w2
   .rw[Uh f hf a b] at w2;cases w2
  .exact fun h=>⟨v,(LI v).2 (.inl rfl),h⟩
 have m0:∀f,(meet p q e0 f↔inc p q f u=true\/inc p q f v=true):=fun f=>by
  rw[yl];constructor
  .rintro⟨w,w1,w2⟩
   rcases(d0 w).1 w1 with rfl|rfl
   .exact .inl w2
   .exact .inr w2
  .rintro(h|h)
   .exact⟨u,(d0 u).2 (.inl rfl),h⟩
   .exact⟨v,(d0 v).2 (.inr rfl),h⟩
 have both:∀f,f<m->f≠e0->¬(inc p q f u=true/\inc p q f v=true):=fun f hf a h=>huv (zV hs hf IP a h.1 ((d0 u).2 (.inl rfl)) h.2 ((d0 v).2 (.inr rfl)))
 have tx:∀f,f<m->f≠x->f≠x'->meet p q x f->W x f= !W f x:=fun f hf a b hm=>by
  by_cases c:f=e0
  .subst c;rw[wx0,w0x];rfl
  .have iu:=(mx f hf a b).1 hm
   rw[wxf f a b c,wfx f a b c,iu];simpa using h0.turn e0 f IP hf (K (aao hx0) (aao hx0')) (K a b) (aao c) ((m0 f).2 (.inl iu))
 have tx':∀f,f<m->f≠x->f≠x'->meet p q x' f->W x' f= !W f x':=fun f hf a b hm=>by
  by_cases c:f=e0
  .subst c;rw[aap,aaq];rfl
  .have iv:=(mx' f hf a b).1 hm
   rw[TA f a b c,TF f a b c,iv];simpa using h0.turn e0 f IP hf (K (aao hx0) (aao hx0')) (K a b) (aao c) ((m0 f).2 (.inr iv))
 have ax:∀f,f<m->f≠x->f≠x'->¬meet p q x f->W x f=false/\W f x=false:=fun f hf a b hm=>by
  have iu:¬inc p q f u=true:=fun h=>hm ((mx f hf a b).2 h)
  have c:f≠e0:=fun c=>iu (by rw[c];exact(d0 u).2 (.inl rfl))
  rw[wxf f a b c,wfx f a b c];simp[iu]
 have ax':∀f,f<m->f≠x->f≠x'->¬meet p q x' f->W x' f=false/\W f x'=false:=fun f hf a b hm=>by
  have iv:¬inc p q f v=true:=fun h=>hm ((mx' f hf a b).2 h)
  have c:f≠e0:=fun c=>iv (by rw[c];exact(d0 v).2 (.inr rfl))
  rw[TA f a b c,TF f a b c];simp[iv]
 have mzz:meet p q x x':=yl.2 ⟨z,(dx z).2 (.inr rfl),(LI z).2 (.inr rfl)⟩;refine⟨W,⟨fun e _=>Yk e,fun e f he hf hne hm=> ?_,fun e f he hf hne hm=> ?_,fun C D hC hD=> ?_⟩⟩
 .by_cases a:e=x
  .subst a
   by_cases b:f=x'
   .rw[b] at hm;exact absurd mzz hm
   .exact(ax f hf (aao hne) b hm).1
  .by_cases a':e=x'
   .subst a'
    by_cases b:f=x
    .rw[b] at hm;exact absurd (meet_comm mzz) hm
    .exact(ax' f hf b (aao hne) hm).1
   .by_cases b:f=x
    .subst b;exact(ax e he a a' fun h=>hm (meet_comm h)).2
    .by_cases b':f=x'
     .subst b';exact(ax' e he a a' fun h=>hm (meet_comm h)).2
     .rw[Yl e f he a a' b b']
      exact h0.apart e f he hf (K a a') (K b b') hne hm
 .by_cases a:e=x
  .subst a
   by_cases b:f=x'
   .rw[b,Ty,Tz];rfl
   .exact tx f hf (aao hne) b hm
  .by_cases a':e=x'
   .subst a'
    by_cases b:f=x
    .rw[b,Ty,Tz];rfl
    .exact tx' f hf b (aao hne) hm
   .by_cases b:f=x
    .subst b
     rw[tx e he a a' (meet_comm hm)];simp
    .by_cases b':f=x'
     .subst b'
      rw[tx' e he a a' (meet_comm hm)];simp
     .rw[Yl e f he a a' b b',Yl f e hf b b' a a']
      exact h0.turn e f he hf (K a a') (K b b') hne hm
 ·
  have tw:∀{C:Nat->Bool},Ev m p q C->C x'=C x:=fun {C} hC=>by
   have:=hC z;rw[iI hx,aK hx' (fun e he hne=> ?_),(dx z).2 (.inr rfl),(LI z).2 (.inr rfl)] at this
   .cases a:C x<;>cases b:C x'<;>simp[a,b,aao oY] at this ⊢
   .by_cases e1:e=x
    .simp[e1]
    .rw[Uh e he e1 hne];simp
  let s:Nat->Nat:=fun e=>if e=x then e0 else e
  have sx:s x=e0:=if_pos rfl;have so:∀{e},e≠x->s e=e:=fun {e} h=>if_neg h
  have sl:∀e,e<m->s e<m:=fun e he=>by
   by_cases h:e=x
   .rw[h,sx];exact IP
   .rw[so h];exact he
  have e00:W0 e0 e0=true:=h0.self e0 IP (K (aao hx0) (aao hx0'));have f1:∀f,f<m->f≠x->f≠x'->W0 (s x) (s f)=(W x f ^^ W x' f):=fun f hf a b=>by
   rw[sx,so a];by_cases c:f=e0
   .subst c;rw[wx0,aap,e00];rfl
   .rw[wxf f a b c,TA f a b c]
    have nb:=both f hf c;cases iu:inc p q f u<;>cases iv:inc p q f v
    .have:=h0.apart e0 f IP hf (K (aao hx0) (aao hx0')) (K a b) (aao c) (fun h=>by rcases(m0 f).1 h with h|h<;>simp_all)
     rw[this];rfl
    .simp
    .simp
    .exact absurd ⟨iu,iv⟩ nb
  have f2:∀e,e<m->e≠x->e≠x'->W0 (s e) (s x)=(W e x ^^ W e x'):=fun e he a b=>by
   rw[sx,so a];by_cases c:e=e0
   .subst c;rw[w0x,aaq,e00];rfl
   .rw[wfx e a b c,TF e a b c]
    have nb:=both e he c;cases iu:inc p q e u<;>cases iv:inc p q e v
    .have:=h0.apart e e0 he IP (K a b) (K (aao hx0) (aao hx0')) c (fun h=>by rcases(m0 e).1 (meet_comm h) with h|h<;>simp_all)
     rw[this];rfl
    .simp
    .simp
    .exact absurd ⟨iu,iv⟩ nb
  have f3:W0 (s x) (s x)=(W x x ^^ (W x x' ^^ (W x' x ^^ W x' x'))):=by
   rw[sx,e00,Yk,Yk,Ty,Tz];rfl
  rw[WG hx hx' oY (W2:=fun e f=>W0 (s e) (s f)) (tw hC) (tw hD) (fun e f he _ a b c d=>by rw[so a,so b,Yl e f he a c b d]) f1 f2 f3];rw[<-yJ sl W0];have ev:∀{C:Nat->Bool},Ev m p q C->Ev m p q (push m s (fun e=>C e&& !decide (e=x'))):=fun {C} hC w=>by
   have e1:=qm sl (fun e=>C e&& !decide (e=x')) (fun e=>inc p q e w);refine e1.trans ?_;rw[<-hC w,iI hx,iI hx (fun e=>C e&&inc p q e w),iI hx' (fun e=> !decide (e=x)&&(C e&&inc p q e w))];have e2:px m (fun e=> !decide (e=x)&&((C e&& !decide (e=x'))&&inc p q (s e) w))=px m (fun e=> !decide (e=x')&&(!decide (e=x)&&(C e&&inc p q e w))):=aA fun e _=>by
    by_cases a:e=x
    .simp[a]
    .rw[so a]
     by_cases b:e=x'
     .simp[b]
     .simp[a,b]
   rw[e2,sx,tw hC];have iw:inc p q e0 w=(inc p q x w ^^ inc p q x' w):=by
    rw[Bool.eq_iff_iff,d0];by_cases a:w=u
    .subst a
     rw[(dx w).2 (.inl rfl)];have:inc p q x' w=false:=by
      cases c:inc p q x' w with
      |false=>rfl
      |true=>rcases(LI w).1 c with e|e<;>contradiction
     rw[this];simp
    .by_cases b:w=v
     .subst b
      rw[(LI w).2 (.inl rfl)];have:inc p q x w=false:=by
       cases c:inc p q x w with
       |false=>rfl
       |true=>rcases(dx w).1 c with e|e<;>contradiction
      rw[this];simp
     .by_cases c:w=z
      .subst c
       rw[(dx w).2 (.inr rfl),(LI w).2 (.inr rfl)];simp[a,b]
      .have h1:inc p q x w=false:=by
        cases d:inc p q x w with
        |false=>rfl
        |true=>rcases(dx w).1 d with e|e<;>contradiction
       have h2:inc p q x' w=false:=by
        cases d:inc p q x' w with
        |false=>rfl
        |true=>rcases(LI w).1 d with e|e<;>contradiction
       rw[h1,h2];simp[a,b]
   rw[iw];generalize px m (fun e=> !decide (e=x')&&(!decide (e=x)&&(C e&&inc p q e w)))=A;simp only[decide_eq_false oY,decide_eq_false (aao oY),Bool.not_false,Bool.and_true,aeG];cases A<;>cases C x<;>cases inc p q x w<;>cases inc p q x' w<;>rfl
  have inK:∀{C:Nat->Bool} e,e<m->push m s (fun e=>C e&& !decide (e=x')) e=true->(!decide (e=x)&& !decide (e=x'))=true:=fun {C} e _ h=>by
   obtain⟨i,hi,h1⟩:=RI h;have h1':(C i=true/\i≠x')/\s i=e:=by simpa using h1
   by_cases a:i=x
   .rw[a,sx] at h1'
    rw[<-h1'.2];exact K (aao hx0) (aao hx0')
   .rw[so a] at h1'
    rw[<-h1'.2];exact K a h1'.1.2
  exact h0.zero _ _ (ev hC) (ev hD) inK inK
end
end Pl
end
section
namespace Pl
section
variable {n m:Nat} {p q:Nat->Nat}
def lB (p q:Nat->Nat) (e z:Nat):Nat:=if p e=z then q e else p e
theorem mG {e z:Nat} (h:inc p q e z=true) (w:Nat):inc p q e w=true↔w=lB p q e z\/w=z:=by
 rw[au] at h ⊢;unfold lB;by_cases k:p e=z
 .rw[if_pos k]
  constructor
  .rintro(h|h)
   .exact .inr (by omega)
   .exact .inl h.symm
  .rintro(h|h)
   .exact .inr h.symm
   .exact .inl (by omega)
 .rw[if_neg k]
  have k2:=h.resolve_left k;constructor
  .rintro(h|h)
   .exact .inl h.symm
   .exact .inr (by omega)
  .rintro(h|h)
   .exact .inl h.symm
   .exact .inr (by omega)
theorem B9 (hs:bZ m p q) {e z:Nat} (he:e<m):lB p q e z≠z:=by
 have:=hs.1 e he;unfold lB;by_cases k:p e=z
 .rw[if_pos k];omega
 .rw[if_neg k];exact k
theorem FY {e z:Nat} (h:inc p q e z=true):(p e=lB p q e z/\q e=z)\/(p e=z/\q e=lB p q e z):=by
 rw[au] at h;unfold lB;by_cases k:p e=z
 .rw[if_pos k];exact .inr ⟨k,rfl⟩
 .rw[if_neg k];exact .inl ⟨rfl,h.resolve_left k⟩
theorem Less.two (hL:Less m) (hs:bZ m p q) (hl:∀e,e<m->p e<n/\q e<n) {x x' z:Nat} (hx:x<m) (hx':x'<m) (oY:x≠x') (ix:inc p q x z=true) (Iy:inc p q x' z=true) (only:∀e,e<m->inc p q e z=true->e=x\/e=x')
 (no:∀e,e<m->¬(inc p q e (lB p q x z)=true/\inc p q e (lB p q x' z)=true)):fD m p q:=by
 obtain⟨u,hu⟩:∃u,lB p q x z=u:=⟨_,rfl⟩;obtain⟨v,hv⟩:∃v,lB p q x' z=v:=⟨_,rfl⟩;rw[hu,hv] at no;have uz:u≠z:=by rw[<-hu];exact B9 hs hx
 have vz:v≠z:=by rw[<-hv];exact B9 hs hx'
 have iu:inc p q x u=true:=by rw[<-hu];exact(mG ix _).2 (.inl rfl)
 have iv:inc p q x' v=true:=by rw[<-hv];exact(mG Iy _).2 (.inl rfl)
 have uv:u≠v:=fun e=>uz (zV hs hx hx' oY iu (by rw[e];exact iv) ix Iy)
 have un:u<n:=by
  rcases au.1 iu with h|h
  .rw[<-h];exact(hl x hx).1
  .rw[<-h];exact(hl x hx).2
 have vn:v<n:=by
  rcases au.1 iv with h|h
  .rw[<-h];exact(hl x' hx').1
  .rw[<-h];exact(hl x' hx').2
 obtain⟨m1,rfl⟩:∃m1,m=m1+1:=⟨m-1,by omega⟩
 let sk:Nat->Nat:=fun i=>if i<x' then i else i+1
 let ks:Nat->Nat:=fun e=>if e<x' then e else e-1
 have Rp:∀i,i<m1->sk i<m1+1/\sk i≠x':=fun i hi=>by simp only[sk];split<;>omega
 have ski:∀i j,sk i=sk j->i=j:=fun i j h=>by simp only[sk] at h;split at h<;>split at h<;>omega
 have NL:∀e,e<m1+1->e≠x'->ks e<m1/\sk (ks e)=e:=fun e he hne=>by
  simp only[sk,ks];by_cases h:e<x'
  .rw[if_pos h,if_pos h];exact⟨by omega,rfl⟩
  .rw[if_neg h,if_neg (by omega)];exact⟨by omega,by omega⟩
 let P:Nat->Nat:=fun e=>if e=x then u else p e
 let Q:Nat->Nat:=fun e=>if e=x then v else q e
 have Px:P x=u:=if_pos rfl;have Qx:Q x=v:=if_pos rfl;have Po:∀{e},e≠x->P e=p e:=fun {e} h=>if_neg h
 have Qo:∀{e},e≠x->Q e=q e:=fun {e} h=>if_neg h
 have P0:∀e,e<m1+1->¬(p e=u/\q e=v)/\¬(p e=v/\q e=u):=fun e he=>⟨fun h=>no e he ⟨au.2 (.inl h.1),au.2 (.inr h.2)⟩,fun h=>no e he ⟨au.2 (.inr h.2),au.2 (.inl h.1)⟩⟩
 have sPQ:∀e f,e<m1+1->f<m1+1->e≠f->¬(P e=P f/\Q e=Q f)/\¬(P e=Q f/\Q e=P f):=fun e f he hf hne=>by
  by_cases a:e=x
  .have b:f≠x:=fun b=>hne (a.trans b.symm)
   rw[a,Px,Qx,Po b,Qo b];exact⟨fun h=>(P0 f hf).1 ⟨h.1.symm,h.2.symm⟩,fun h=>(P0 f hf).2 ⟨h.2.symm,h.1.symm⟩⟩
  .by_cases b:f=x
   .rw[b,Px,Qx,Po a,Qo a]
    exact⟨fun h=>(P0 e he).1 h,fun h=>(P0 e he).2 h⟩
   .rw[Po a,Qo a,Po b,Qo b]
    exact hs.2 e f he hf hne
 have hs1:bZ m1 (fun i=>P (sk i)) (fun i=>Q (sk i)):=by
  refine⟨fun i hi=> ?_,fun i j hi hj hne=>sPQ _ _ (Rp i hi).1 (Rp j hj).1 fun e=>hne (ski i j e)⟩;by_cases a:sk i=x
  .show P (sk i)≠Q (sk i);rw[a,Px,Qx];exact uv
  .show P (sk i)≠Q (sk i);rw[Po a,Qo a];exact hs.1 _ (Rp i hi).1
 have qI:∀i,i<m1->P (sk i)<n/\Q (sk i)<n:=fun i hi=>by
  by_cases a:sk i=x
  .rw[a,Px,Qx];exact⟨un,vn⟩
  .rw[Po a,Qo a];exact hl _ (Rp i hi).1
 have h1:=hL m1 _ _ n (by omega) hs1 qI;obtain⟨kx1,kx2⟩:=NL x hx oY;have hz:∀i,i<m1->P (sk i)≠z/\Q (sk i)≠z:=fun i hi=>by
  by_cases a:sk i=x
  .rw[a,Px,Qx];exact⟨uz,vz⟩
  .rw[Po a,Qo a]
   have:¬inc p q (sk i) z=true:=fun h=>by
    rcases only _ (Rp i hi).1 h with e|e
    .exact a e
    .exact(Rp i hi).2 e
   exact⟨fun h=>this (au.2 (.inl h)),fun h=>this (au.2 (.inr h))⟩
 have h2:=(fD.sub (z:=z) hs1 kx1 hz).1 h1;refine h2.of (fun e=>if e=x' then m1 else ks e) id (fun e he=> ?_) (fun e f he hf h=> ?_) (fun e he=> ?_) (fun _ _ _ _ h=>h)
 .show(if e=x' then m1 else ks e)<m1+1
  by_cases a:e=x'
  .rw[if_pos a];omega
  .rw[if_neg a];have:=(NL e he a).1;omega
 .have h':(if e=x' then m1 else ks e)=(if f=x' then m1 else ks f):=h
  by_cases a:e=x'<;>by_cases b:f=x'
  .rw[a,b]
  .rw[if_pos a,if_neg b] at h';have:=(NL f hf b).1;omega
  .rw[if_neg a,if_pos b] at h';have:=(NL e he a).1;omega
  .rw[if_neg a,if_neg b] at h'
   rw[<-(NL e he a).2,h',(NL f hf b).2]
 .show(iN m1 (ks x) (fun i=>P (sk i)) (fun i=>Q (sk i)) (if e=x' then m1 else ks e)=p e/\iz m1 (ks x) z (fun i=>Q (sk i)) (if e=x' then m1 else ks e)=q e)\/(iN m1 (ks x) (fun i=>P (sk i)) (fun i=>Q (sk i)) (if e=x' then m1 else ks e)=q e/\iz m1 (ks x) z (fun i=>Q (sk i)) (if e=x' then m1 else ks e)=p e)
  by_cases a:e=x'
  .rw[if_pos a,PB,Hp,kx2,Qx,a]
   have:=FY Iy;rw[hv] at this;rcases this with ⟨h3,h4⟩|⟨h3,h4⟩
   .exact .inl ⟨h3.symm,h4.symm⟩
   .exact .inr ⟨h4.symm,h3.symm⟩
  .rw[if_neg a]
   obtain⟨k1,k2⟩:=NL e he a;rw[uP k1,k2];by_cases b:e=x
   .rw[b,Ho,Px]
    have:=FY ix;rw[hu] at this;rcases this with ⟨h3,h4⟩|⟨h3,h4⟩
    .exact .inl ⟨h3.symm,h4.symm⟩
    .exact .inr ⟨h4.symm,h3.symm⟩
   .have:ks e≠ks x:=fun h=>b (by rw[<-k2,h,kx2])
    rw[xX k1 this,k2,Po b,Qo b];exact .inl ⟨rfl,rfl⟩
theorem FV (hs:bZ m p q) (t:Nat->Nat) (ht:∀v,aX m p q v->t v<5) (hi:∀v w,aX m p q v->aX m p q w->t v=t w->v=w) (hno:∀e,e<m->¬(t (p e)=3/\t (q e)=4)/\¬(t (p e)=4/\t (q e)=3)):fD m p q:=by
 have afs:∀a,a<5->∀b,b<5->(decide (a=b)||((decide (a=3)&&decide (b=4))||((decide (a=4)&&decide (b=3))||(List.range 9).any fun k=>(decide (mJ k=a)&&decide (jI k=b))||(decide (mJ k=b)&&decide (jI k=a)))))=true:=by decide
 have tab:∀a,a<5->∀b,b<5->a≠b->¬(a=3/\b=4)->¬(a=4/\b=3)->((List.range 9).any fun k=>(decide (mJ k=a)&&decide (jI k=b))||(decide (mJ k=b)&&decide (jI k=a)))=true:=fun a ha b hb h1 h2 h3=>by
  have h:=afs a ha b hb;have e2:(decide (a=3)&&decide (b=4))=false:=by
   by_cases x:a=3
   .have:¬b=4:=fun y=>h2 ⟨x,y⟩
    simp[this]
   .simp[x]
  have e3:(decide (a=4)&&decide (b=3))=false:=by
   by_cases x:a=4
   .have:¬b=3:=fun y=>h3 ⟨x,y⟩
    simp[this]
   .simp[x]
  rw[decide_eq_false h1,e2,e3,Bool.false_or,Bool.false_or,Bool.false_or] at h;exact h
 have hex:∀e,e<m->∃k,k<9/\((mJ k=t (p e)/\jI k=t (q e))\/(mJ k=t (q e)/\jI k=t (p e))):=fun e he=>by
  have e1:aX m p q (p e):=⟨e,he,.inl rfl⟩;have e2:aX m p q (q e):=⟨e,he,.inr rfl⟩;obtain⟨k,hk,h⟩:=acR.1 (tab _ (ht _ e1) _ (ht _ e2) (fun h=>hs.1 e he (hi _ _ e1 e2 h)) (hno e he).1 (hno e he).2);exact⟨k,ab1.1 hk,by simpa using h⟩
 have ahh:∃s:Nat->Nat,∀e,e<m->s e<9/\((mJ (s e)=t (p e)/\jI (s e)=t (q e))\/(mJ (s e)=t (q e)/\jI (s e)=t (p e))):=by
  refine⟨fun e=>open Classical in if h:e<m then Classical.choose (hex e h) else 0,fun e he=> ?_⟩;simp only[dif_pos he];exact acI (hex e he)
 obtain⟨s,h⟩:=ahh;refine YR.of s t (fun e he=>(h e he).1) (fun e f he hf cQ=>abO fun hne=> ?_) (fun e he=>(h e he).2) (fun v w hv hw e=>hi v w hv hw e);have hh:=hs.2 e f he hf hne;have pe:aX m p q (p e):=⟨e,he,.inl rfl⟩;have qe:aX m p q (q e):=⟨e,he,.inr rfl⟩;have pf:aX m p q (p f):=⟨f,hf,.inl rfl⟩;have qf:aX m p q (q f):=⟨f,hf,.inr rfl⟩;have a:=(h e he).2;have b:=(h f hf).2;rw[cQ] at a;rcases a with ⟨a1,a2⟩|⟨a1,a2⟩<;>rcases b with ⟨b1,b2⟩|⟨b1,b2⟩
 .exact hh.1 ⟨hi _ _ pe pf (a1.symm.trans b1),hi _ _ qe qf (a2.symm.trans b2)⟩
 .exact hh.2 ⟨hi _ _ pe qf (a1.symm.trans b1),hi _ _ qe pf (a2.symm.trans b2)⟩
 .exact hh.2 ⟨hi _ _ pe qf (a2.symm.trans b2),hi _ _ qe pf (a1.symm.trans b1)⟩
 .exact hh.1 ⟨hi _ _ pe pf (a2.symm.trans b2),hi _ _ qe qf (a1.symm.trans b1)⟩
theorem iY {l:List Nat} {x:Nat} (h:x∈l):l.idxOf x<l.length/\l.getD (l.idxOf x) 0=x:=by
 have h1:=List.idxOf_lt_length_of_mem h;refine⟨h1,?_⟩;rw[aag,aac h1];exact List.getElem_idxOf h1
open Classical in
theorem Rl (hm:m<=8) (hs:bZ m p q) (hl:∀e,e<m->p e<n/\q e<n) (h3:∀v,aX m p q v->∃a b c,a<m/\b<m/\c<m/\a≠b/\a≠c/\b≠c/\inc p q a v=true/\inc p q b v=true/\inc p q c v=true):fD m p q:=by
 let U:=(List.range n).filter fun v=>decide (aX m p q v)
 have tM:∀{v:Nat},v∈U↔aX m p q v:=fun {v}=>by
  show v∈(List.range n).filter _↔_;rw[acK,ab1,decide_eq_true_iff];refine⟨fun h=>h.2,fun h=>⟨?_,h⟩⟩;obtain⟨e,he,h|h⟩:=h
  .rw[<-h];exact(hl e he).1
  .rw[<-h];exact(hl e he).2
 have RV:U.Nodup:=List.Pairwise.filter _ afc
 let d:Nat->Nat->Nat:=fun e v=>if p e=v then 2*e else 2*e+1
 have dh:∀e v,d e v/2=e:=fun e v=>by simp only[d];split<;>omega
 have dv:∀e v w,inc p q e v=true->inc p q e w=true->d e v=d e w->v=w:=fun e v w hv hw h=>by
  rw[au] at hv hw;simp only[d] at h
  split at h<;>split at h<;>omega
 have ahg:∃A:Nat->List Nat,∀v,aX m p q v->(A v).length=3/\(A v).Nodup/\∀e∈A v,e<m/\inc p q e v=true:=by
  have:∀v,∃l:List Nat,aX m p q v->l.length=3/\l.Nodup/\∀e∈l,e<m/\inc p q e v=true:=fun v=>by
   by_cases h:aX m p q v
   .obtain⟨a,b,c,a1,b1,c1,ab,ac,bc,ia,ib,ic⟩:=h3 v h
    refine⟨[a,b,c],fun _=>⟨rfl,by simp[ab,ac,bc],fun e he=> ?_⟩⟩;simp at he;rcases he with rfl|rfl|rfl
    .exact⟨a1,ia⟩
    .exact⟨b1,ib⟩
    .exact⟨c1,ic⟩
   .exact⟨[],fun h'=>absurd h' h⟩
  exact⟨fun v=>Classical.choose (this v),fun v=>acI (this v)⟩
 obtain⟨A,hA⟩:=ahg;have hU5:U.length<=5:=by
  have nd:(U.flatMap fun v=>(A v).map fun e=>d e v).Nodup:=by
   unfold List.Nodup;rw[List.pairwise_flatMap];refine⟨fun v hv=> ?_,?_⟩
   .rw[ac8]
    refine ada ?_ (hA v (tM.1 hv)).2.1;intro a b _ _ hne e;exact hne (by rw[<-dh a v,e,dh b v])
   .refine ada ?_ RV
    intro v w hv hw hne x hx y hy e;obtain⟨a,ha,rfl⟩:=abT.1 hx;obtain⟨b,hb,rfl⟩:=abT.1 hy;have hab:a=b:=by rw[<-dh a v,e,dh b w]
    subst hab;exact hne (dv a v w ((hA v (tM.1 hv)).2.2 a ha).2 ((hA w (tM.1 hw)).2.2 a hb).2 e)
  have hlen:=zN nd (n:=2*m) (fun x hx=>by
   obtain⟨v,hv,hx⟩:=adz.1 hx;obtain⟨a,ha,rfl⟩:=abT.1 hx;have:=((hA v (tM.1 hv)).2.2 a ha).1;have:=dh a v;omega)
  have len:∀l:List Nat,(∀v∈l,aX m p q v)->(l.flatMap fun v=>(A v).map fun e=>d e v).length=3*l.length:=fun l hl'=>by
   induction l with
   |nil=>rfl
   |cons v l ih=>
    rw[ae9,abZ,aco,(hA v (hl' v aai)).1,ih (fun w hw=>hl' w (aak _ hw)),abS];omega
  rw[len U (fun v hv=>tM.1 hv)] at hlen;omega
 have QO:∀l:List Nat,l.Nodup->l.length<=5->(∀v,aX m p q v->v∈l)->(∀e,e<m->¬(l.idxOf (p e)=3/\l.idxOf (q e)=4)/\¬(l.idxOf (p e)=4/\l.idxOf (q e)=3))->fD m p q:=fun l _ Fh hall hno=>
  FV hs (fun v=>l.idxOf v) (fun v hv=>by have:=(iY (hall v hv)).1;show l.idxOf v<5;omega) (fun v w hv hw e=>by
   have e':l.idxOf v=l.idxOf w:=e;rw[<-(iY (hall v hv)).2,e',(iY (hall w hw)).2]) hno
 by_cases h4:U.length<=4
 .refine QO U RV (by omega) (fun v hv=>tM.2 hv) fun e he=> ?_
  have a:=(iY (tM.2 (⟨e,he,.inl rfl⟩:aX m p q (p e)))).1;have b:=(iY (tM.2 (⟨e,he,.inr rfl⟩:aX m p q (q e)))).1;exact⟨fun h=>by omega,fun h=>by omega⟩
 ·
  have hex:∃a b,a∈U/\b∈U/\a≠b/\∀e,e<m->¬(inc p q e a=true/\inc p q e b=true):=abO fun hno=>by
   have hall:∀a b,a∈U->b∈U->a≠b->∃e,e<m/\inc p q e a=true/\inc p q e b=true:=fun a b ha hb hab=>abO fun h=>hno ⟨a,b,ha,hb,hab,fun e he h'=>h ⟨e,he,h'⟩⟩
   have get:∀i,i<5->U.getD i 0∈U:=fun i hi=>by
    rw[aag,aac (by omega)];exact adi _
   have inj:∀i j,i<5->j<5->U.getD i 0=U.getD j 0->i=j:=fun i j hi hj e=>by
    rw[aag,aag,aac (by omega),aac (by omega)] at e;exact Dk RV (by omega) (by omega) e
   let Ps:List (Nat×Nat):=[(0,1),(0,2),(0,3),(0,4),(1,2),(1,3),(1,4),(2,3),(2,4),(3,4)]
   have YA:∀x∈Ps,x.1<x.2/\x.2<5:=by decide
   have hex:∀x:Nat×Nat,∃e,x.1<x.2->x.2<5->e<m/\inc p q e (U.getD x.1 0)=true/\inc p q e (U.getD x.2 0)=true:=fun x=>by
    by_cases h:x.1<x.2/\x.2<5
    .obtain⟨e,he⟩:=hall _ _ (get x.1 (by omega)) (get x.2 h.2) fun e=>by have:=inj x.1 x.2 (by omega) h.2 e;omega
     exact⟨e,fun _ _=>he⟩
    .exact⟨0,fun h1 h2=>absurd ⟨h1,h2⟩ h⟩
   let ed:Nat×Nat->Nat:=fun x=>Classical.choose (hex x)
   have hed:∀x,x.1<x.2->x.2<5->ed x<m/\inc p q (ed x) (U.getD x.1 0)=true/\inc p q (ed x) (U.getD x.2 0)=true:=fun x=>acI (hex x)
   have nd:(Ps.map ed).Nodup:=by
    unfold List.Nodup;rw[ac8];have psn:Ps.Nodup:=by decide
    refine ada ?_ psn;intro x y hx hy hne e;obtain⟨x1,x2⟩:=YA x hx;obtain⟨y1,y2⟩:=YA y hy;obtain⟨a1,a2,a3⟩:=hed x x1 x2;obtain⟨b1,b2,b3⟩:=hed y y1 y2;rw[<-e] at b2 b3;have ends:∀i,i<5->inc p q (ed x) (U.getD i 0)=true->i=x.1\/i=x.2:=fun i hi ii=>by
     rw[au] at a2 a3 ii;have aaQ:U.getD x.1 0≠U.getD x.2 0:=fun e=>by have:=inj x.1 x.2 (by omega) x2 e;omega
     have:U.getD i 0=U.getD x.1 0\/U.getD i 0=U.getD x.2 0:=by
      rcases a2 with a2|a2<;>rcases a3 with a3|a3<;>rcases ii with ii|ii<;>omega
     rcases this with h|h
     .exact .inl (inj i x.1 hi (by omega) h)
     .exact .inr (inj i x.2 hi x2 h)
    have c1:=ends y.1 (by omega) b2;have c2:=ends y.2 y2 b3;apply hne;have:x.1=y.1/\x.2=y.2:=by omega
    exact Prod.ext this.1 this.2
   have:=zN nd (n:=m) (fun e he=>by
    obtain⟨x,hx,rfl⟩:=abT.1 he;exact(hed x (YA x hx).1 (YA x hx).2).1)
   have:Ps.length<=m:=by rw[aco] at this;exact this
   have:Ps.length=10:=rfl;omega
  obtain⟨a,b,ha,hb,hab,hnb⟩:=hex
  let l:=((U.erase a).erase b)++[a,b]
  have mb:b∈U.erase a:=(aed (aao hab)).2 hb;have l1:=aej ha;have l2:=aej mb;have ln:((U.erase a).erase b).length=3:=by omega
  have Ny:((U.erase a).erase b).Nodup:=(RV.erase a).erase b;have na:a∉(U.erase a).erase b:=fun h=>by
   have:=List.mem_of_mem_erase h;exact(List.Nodup.mem_erase_iff RV).1 this |>.1 rfl
  have nb:b∉(U.erase a).erase b:=fun h=>(List.Nodup.mem_erase_iff (RV.erase a)).1 h |>.1 rfl
  have ia:l.idxOf a=3:=by
   show(((U.erase a).erase b)++[a,b]).idxOf a=3;rw[List.idxOf_append,if_neg na,ln];simp
  have ib:l.idxOf b=4:=by
   show(((U.erase a).erase b)++[a,b]).idxOf b=4;rw[List.idxOf_append,if_neg nb,ln];have:(a==b)=false:=by simp[hab]
   simp[List.idxOf_cons,this]
  have kN:∀v,v∈U->v∈l:=fun v hv=>by
   show v∈((U.erase a).erase b)++[a,b];by_cases e1:v=a
   .simp[e1]
   .by_cases e2:v=b
    .simp[e2]
    .exact aci _ ((aed e2).2 ((aed e1).2 hv))
  have back:∀v,v∈U->(l.idxOf v=3->v=a)/\(l.idxOf v=4->v=b):=fun v hv=>by
   have h1:=(iY (kN v hv)).2;have hla:=(iY (kN a ha)).2;have hlb:=(iY (kN b hb)).2;rw[ia] at hla;rw[ib] at hlb;exact⟨fun h=>by rw[<-h1,h,hla],fun h=>by rw[<-h1,h,hlb]⟩
  refine QO l ?_ ?_ (fun v hv=>kN v (tM.2 hv)) fun e he=> ?_
  .show(((U.erase a).erase b)++[a,b]).Nodup
   unfold List.Nodup;rw[acT];refine⟨Ny,by simp[hab],fun x hx y hy e=> ?_⟩;have hy':y=a\/y=b:=by simpa using hy
   rcases hy' with h|h
   .exact na (by rw[<-h,<-e];rw[<-h] at hx;rw[<-e] at hx;exact hx)
   .exact nb (by rw[<-h,<-e];rw[<-h] at hx;rw[<-e] at hx;exact hx)
  .show(((U.erase a).erase b)++[a,b]).length<=5
   rw[abZ,ln];exact aad 5
  .have up:p e∈U:=tM.2 ⟨e,he,.inl rfl⟩
   have uq:q e∈U:=tM.2 ⟨e,he,.inr rfl⟩;refine⟨fun h=>hnb e he ⟨au.2 (.inl ((back _ up).1 h.1)),au.2 (.inr ((back _ uq).2 h.2))⟩,fun h=>hnb e he ⟨au.2 (.inr ((back _ uq).1 h.2)),au.2 (.inl ((back _ up).2 h.1))⟩⟩
theorem few:∀(m:Nat),m<=8->∀p q n,bZ m p q->(∀e,e<m->p e<n/\q e<n)->fD m p q:=by
 intro m
 induction m using Nat.strongRecOn with
 |_ m ih=>
  intro hm p q n hs hl;have hL:Less m:=fun m' p q n h hs hl=>ih m' h (by omega) p q n hs hl
  by_cases A:∃x v,x<m/\inc p q x v=true/\∀e,e<m->inc p q e v=true->e=x
  .obtain⟨x,v,hx,ix,only⟩:=A
   exact WN hs hl hx ix only (hL.on hs hl (K:=fun e=> !decide (e=x)) hx (by simp))
  .by_cases B:∃x x' z,x<m/\x'<m/\x≠x'/\inc p q x z=true/\inc p q x' z=true/\∀e,e<m->inc p q e z=true->e=x\/e=x'
   .obtain⟨x,x',z,hx,hx',oY,ix,Iy,only⟩:=B
    by_cases C:∃e0,e0<m/\inc p q e0 (lB p q x z)=true/\inc p q e0 (lB p q x' z)=true
    .obtain⟨e0,IP,iu,iv⟩:=C
     have uz:lB p q x z≠z:=B9 hs hx;have vz:lB p q x' z≠z:=B9 hs hx';have hu:inc p q x (lB p q x z)=true:=(mG ix _).2 (.inl rfl);have hv:inc p q x' (lB p q x' z)=true:=(mG Iy _).2 (.inl rfl);have uv:lB p q x z≠lB p q x' z:=fun e=>uz (zV hs hx hx' oY hu (by rw[e];exact hv) ix Iy)
     have n1:x≠e0:=fun e=>by
      rw[<-e] at iv;rcases(mG ix _).1 iv with h|h
      .exact uv h.symm
      .exact vz h
     have n2:x'≠e0:=fun e=>by
      rw[<-e] at iu;rcases(mG Iy _).1 iu with h|h
      .exact uv h
      .exact uz h
     have d0:∀w,inc p q e0 w=true↔w=lB p q x z\/w=lB p q x' z:=fun w=>by
      constructor
      .intro h
       rw[au] at h iu iv;rcases h with h|h<;>rcases iu with iu|iu<;>rcases iv with iv|iv<;>omega
      .rintro(rfl|rfl)
       .exact iu
       .exact iv
     exact beside hs hx hx' IP oY n1 n2 uv uz vz (mG ix) (mG Iy) d0 only (hL.on hs hl (K:=fun e=> !decide (e=x)&& !decide (e=x')) hx (by simp))
    .exact hL.two hs hl hx hx' oY ix Iy only fun e he h=>C ⟨e,he,h⟩
   .refine Rl hm hs hl fun v hv=> ?_
    obtain⟨a,ha,kT⟩:=hv;have ia:inc p q a v=true:=au.2 kT;have:∃b,b<m/\inc p q b v=true/\b≠a:=abO fun h=>A ⟨a,v,ha,ia,fun e he ie=>abO fun hne=>h ⟨e,he,ie,hne⟩⟩
    obtain⟨b,hb,ib,hba⟩:=this;have:∃c,c<m/\inc p q c v=true/\c≠a/\c≠b:=abO fun h=>B ⟨a,b,v,ha,hb,aao hba,ia,ib,fun e he ie=>abO fun hne=>h ⟨e,he,ie,fun e1=>hne (.inl e1),fun e1=>hne (.inr e1)⟩⟩
    obtain⟨c,hc,ic,hca,hcb⟩:=this;exact⟨a,b,c,ha,hb,hc,aao hba,aao hca,aao hcb,ia,ib,ic⟩
end
end Pl
end
end Go.Proofs.YtbhdibflpjhpaaaGreat
