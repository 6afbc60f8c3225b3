import Derived.Test.YtbhdibflpjhpaaaGreatMg00
namespace Go.Proofs.YtbhdibflpjhpaaaGreat
namespace Pl
def px:Nat->(Nat->Bool)->Bool
 |0,_=>false
 |n+1,f=>px n f ^^ f n
theorem aA:∀{n:Nat} {f g:Nat->Bool},(∀i,i<n->f i=g i)->px n f=px n g
 |0,_,_,_=>rfl
 |n+1,f,g,h=>by
  unfold px;rw[aA (n:=n) (fun i hi=>h i (by omega)),h n (by omega)]
theorem fK (f g:Nat->Bool):∀n:Nat,px n (fun i=>f i ^^ g i)=(px n f ^^ px n g)
 |0=>rfl
 |n+1=>by
  show(px n (fun i=>f i ^^ g i) ^^ (f n ^^ g n))=((px n f ^^ f n) ^^ (px n g ^^ g n));rw[fK f g n];cases px n f<;>cases px n g<;>cases f n<;>cases g n<;>rfl
theorem aD {n:Nat} {f:Nat->Bool} (h:∀i,i<n->f i=false):px n f=false:=by
 induction n with
 |zero=>rfl
 |succ n ih=>
  unfold px;rw[ih (fun i hi=>h i (by omega)),h n (by omega)];rfl
theorem jt (c:Bool) (f:Nat->Bool) (n:Nat):px n (fun i=>c&&f i)=(c&&px n f):=by
 cases c with
 |false=>exact aD fun _ _=>rfl
 |true=>exact aA fun _ _=>rfl
theorem tJ (c:Bool) (f:Nat->Bool) (n:Nat):px n (fun i=>f i&&c)=(px n f&&c):=by
 rw[afA,<-jt];exact aA fun _ _=>afA _ _
theorem aK {n k:Nat} {f:Nat->Bool} (hk:k<n) (h:∀i,i<n->i≠k->f i=false):px n f=f k:=by
 induction n with
 |zero=>omega
 |succ n ih=>
  unfold px;by_cases e:k=n
  .subst e
   rw[aD (fun i hi=>h i (by omega) (by omega))];cases f k<;>rfl
  .rw[ih (by omega) (fun i hi=>h i (by omega)),h n (by omega) (by omega)]
   cases f k<;>rfl
theorem x8 {n k:Nat} (f:Nat->Bool) (hk:k<n):px n (fun i=>decide (i=k)&&f i)=f k:=by
 rw[aK hk (fun i _ hne=>by rw[decide_eq_false hne];rfl)];simp
theorem kI (f:Nat->Nat->Bool):∀(n m:Nat),px n (fun i=>px m (fun j=>f i j))=px m (fun j=>px n (fun i=>f i j))
 |0,m=>(aD fun _ _=>rfl).symm
 |n+1,m=>by
  show(px n (fun i=>px m (fun j=>f i j)) ^^ px m (fun j=>f n j))=px m (fun j=>px n (fun i=>f i j) ^^ f n j);rw[fK,kI f n m]
theorem qm {n m:Nat} {s:Nat->Nat} (hs:∀i,i<n->s i<m) (a g:Nat->Bool):px m (fun e=>px n (fun i=>a i&&decide (s i=e))&&g e)=px n (fun i=>a i&&g (s i)):=by
 have e1:px m (fun e=>px n (fun i=>a i&&decide (s i=e))&&g e)=px m (fun e=>px n (fun i=>a i&&(decide (s i=e)&&g e))):=aA fun e _=>by
  rw[<-tJ];exact aA fun i _=>Bool.and_assoc _ _ _
 rw[e1,kI];refine aA fun i hi=> ?_
 rw[jt,aK (hs i hi) (fun e _ hne=>by rw[decide_eq_false (fun h=>hne h.symm)];rfl)];simp
def fm (m:Nat) (W:Nat->Nat->Bool) (a b:Nat->Bool):Bool:=px m fun e=>px m fun f=>a e&&(b f&&W e f)
theorem cV {m:Nat} {W W':Nat->Nat->Bool} {a a' b b':Nat->Bool} (ha:∀e,e<m->a e=a' e) (hb:∀e,e<m->b e=b' e) (hW:∀e f,e<m->f<m->a e=true->b f=true->W e f=W' e f):fm m W a b=fm m W' a' b':=
 aA fun e he=>aA fun f hf=>by
  rw[<-ha e he,<-hb f hf];cases h1:a e with
  |false=>rfl
  |true=>
   cases h2:b f with
   |false=>rfl
   |true=>rw[hW e f he hf h1 h2]
theorem jg {m:Nat} (W W':Nat->Nat->Bool) (a b:Nat->Bool):fm m (fun e f=>W e f ^^ W' e f) a b=(fm m W a b ^^ fm m W' a b):=by
 unfold fm;rw[<-fK];refine aA fun e _=> ?_
 rw[<-fK];refine aA fun f _=> ?_
 dsimp only;cases a e<;>cases b f<;>cases W e f<;>cases W' e f<;>rfl
theorem El {m:Nat} (W:Nat->Nat->Bool) (a a' b:Nat->Bool):fm m W (fun e=>a e ^^ a' e) b=(fm m W a b ^^ fm m W a' b):=by
 unfold fm;rw[<-fK];refine aA fun e _=> ?_
 rw[<-fK];refine aA fun f _=> ?_
 dsimp only;cases a e<;>cases a' e<;>cases b f<;>cases W e f<;>rfl
theorem ud {m:Nat} (W:Nat->Nat->Bool) (a b b':Nat->Bool):fm m W a (fun e=>b e ^^ b' e)=(fm m W a b ^^ fm m W a b'):=by
 unfold fm;rw[<-fK];refine aA fun e _=> ?_
 rw[<-fK];refine aA fun f _=> ?_
 dsimp only;cases a e<;>cases b f<;>cases b' f<;>cases W e f<;>rfl
theorem nN {m:Nat} {W:Nat->Nat->Bool} {a b:Nat->Bool} (h:∀e,e<m->a e=false):fm m W a b=false:=
 aD fun e he=>aD fun f _=>by rw[h e he];rfl
theorem vD {m:Nat} {W:Nat->Nat->Bool} {a b:Nat->Bool} (h:∀e,e<m->b e=false):fm m W a b=false:=
 aD fun e _=>aD fun f hf=>by rw[h f hf];simp
theorem vE {m:Nat} (u t a b:Nat->Bool):fm m (fun e f=>u e&&t f) a b=(px m (fun e=>a e&&u e)&&px m (fun f=>b f&&t f)):=by
 unfold fm;rw[<-tJ];refine aA fun e _=> ?_
 rw[<-jt];refine aA fun f _=> ?_
 dsimp only;cases a e<;>cases b f<;>cases u e<;>cases t f<;>rfl
theorem Ek {m:Nat} (W:Nat->Nat->Nat->Bool) (a b:Nat->Bool):∀n:Nat,fm m (fun e f=>px n (fun v=>W v e f)) a b=px n (fun v=>fm m (W v) a b)
 |0=>aD fun e _=>aD fun f _=>by simp[px]
 |n+1=>by
  show fm m (fun e f=>px n (fun v=>W v e f) ^^ W n e f) a b=(px n (fun v=>fm m (W v) a b) ^^ fm m (W n) a b);rw[jg,Ek W a b n]
theorem tZ {m:Nat} (W:Nat->Nat->Bool) (a:Nat->Nat->Bool) (b:Nat->Bool):∀n:Nat,fm m W (fun e=>px n (fun v=>a v e)) b=px n (fun v=>fm m W (a v) b)
 |0=>nN fun _ _=>rfl
 |n+1=>by
  show fm m W (fun e=>px n (fun v=>a v e) ^^ a n e) b=(px n (fun v=>fm m W (a v) b) ^^ fm m W (a n) b);rw[El,tZ W a b n]
theorem tY {m:Nat} (W:Nat->Nat->Bool) (a:Nat->Bool) (b:Nat->Nat->Bool):∀n:Nat,fm m W a (fun e=>px n (fun v=>b v e))=px n (fun v=>fm m W a (b v))
 |0=>vD fun _ _=>rfl
 |n+1=>by
  show fm m W a (fun e=>px n (fun v=>b v e) ^^ b n e)=(px n (fun v=>fm m W a (b v)) ^^ fm m W a (b n));rw[ud,tY W a b n]
end Pl
namespace Pl
def inc (p q:Nat->Nat) (e v:Nat):Bool:=decide (p e=v)||decide (q e=v)
def meet (p q:Nat->Nat) (e f:Nat):Prop:=p e=p f\/p e=q f\/q e=p f\/q e=q f
def Ev (m:Nat) (p q:Nat->Nat) (a:Nat->Bool):Prop:=∀v,px m (fun e=>a e&&inc p q e v)=false
structure sH (m:Nat) (p q:Nat->Nat) (W:Nat->Nat->Bool):Prop where
 self:∀e,e<m->W e e=true
 apart:∀e f,e<m->f<m->e≠f->¬meet p q e f->W e f=false
 turn:∀e f,e<m->f<m->e≠f->meet p q e f->W e f= !W f e
 zero:∀a b,Ev m p q a->Ev m p q b->fm m W a b=false
def fD (m:Nat) (p q:Nat->Nat):Prop:=∃W,sH m p q W
theorem au {p q:Nat->Nat} {e v:Nat}:inc p q e v=true↔p e=v\/q e=v:=by
 unfold inc;simp
def aX (m:Nat) (p q:Nat->Nat) (x:Nat):Prop:=∃e,e<m/\(p e=x\/q e=x)
def push (m':Nat) (s:Nat->Nat) (a:Nat->Bool) (e:Nat):Bool:=px m' fun i=>a i&&decide (s i=e)
theorem yJ {m m':Nat} {s:Nat->Nat} (hs:∀e,e<m'->s e<m) (W:Nat->Nat->Bool) (a b:Nat->Bool):fm m W (push m' s a) (push m' s b)=fm m' (fun e f=>W (s e) (s f)) a b:=by
 have e1:∀e,px m (fun f=>push m' s a e&&(push m' s b f&&W e f))=(push m' s a e&&px m' (fun f=>b f&&W e (s f))):=fun e=>by
  rw[jt]
  congr 1
  exact qm hs b (fun f=>W e f)
 have e2:fm m W (push m' s a) (push m' s b)=px m (fun e=>push m' s a e&&px m' (fun f=>b f&&W e (s f))):=aA fun e _=>e1 e
 rw[e2];have e3:=qm hs a (fun e=>px m' (fun f=>b f&&W e (s f)));refine e3.trans (aA fun e _=> ?_);rw[jt]
theorem Ev.push {m m':Nat} {p q p' q' s t:Nat->Nat} (hs:∀e,e<m'->s e<m)
 (he:∀e,e<m'->(p (s e)=t (p' e)/\q (s e)=t (q' e))\/(p (s e)=t (q' e)/\q (s e)=t (p' e)))
 (ht:∀x y,aX m' p' q' x->aX m' p' q' y->t x=t y->x=y) {a:Nat->Bool} (ha:Ev m' p' q' a):Ev m p q (push m' s a):=fun v=>by
 have h1:=qm hs a (fun e=>inc p q e v);refine h1.trans ?_;by_cases hv:∃x,aX m' p' q' x/\t x=v
 .obtain⟨x,hx,rfl⟩:=hv
  rw[<-ha x];refine aA fun e hem=> ?_
  congr 1
  have hp:aX m' p' q' (p' e):=⟨e,hem,.inl rfl⟩;have hq:aX m' p' q' (q' e):=⟨e,hem,.inr rfl⟩;rw[Bool.eq_iff_iff,au,au];rcases he e hem with ⟨e1,e2⟩|⟨e1,e2⟩
  .rw[e1,e2]
   exact⟨fun h=>h.imp (ht _ _ hp hx) (ht _ _ hq hx),fun h=>h.imp (congrArg t) (congrArg t)⟩
  .rw[e1,e2]
   exact⟨fun h=>(h.imp (ht _ _ hq hx) (ht _ _ hp hx)).symm,fun h=>(h.imp (congrArg t) (congrArg t)).symm⟩
 .refine aD fun e hem=> ?_
  have hp:aX m' p' q' (p' e):=⟨e,hem,.inl rfl⟩;have hq:aX m' p' q' (q' e):=⟨e,hem,.inr rfl⟩;have:inc p q (s e) v=false:=by
   cases h:inc p q (s e) v with
   |false=>rfl
   |true=>
    rcases he e hem with ⟨e1,e2⟩|⟨e1,e2⟩<;>rcases au.1 h with h|h
    .exact absurd ⟨_,hp,by rw[<-e1];exact h⟩ hv
    .exact absurd ⟨_,hq,by rw[<-e2];exact h⟩ hv
    .exact absurd ⟨_,hq,by rw[<-e1];exact h⟩ hv
    .exact absurd ⟨_,hp,by rw[<-e2];exact h⟩ hv
  rw[this];simp
theorem fD.of {m m':Nat} {p q p' q':Nat->Nat} (h:fD m p q) (s t:Nat->Nat) (hs:∀e,e<m'->s e<m) (hi:∀e f,e<m'->f<m'->s e=s f->e=f)
 (he:∀e,e<m'->(p (s e)=t (p' e)/\q (s e)=t (q' e))\/(p (s e)=t (q' e)/\q (s e)=t (p' e)))
 (ht:∀x y,aX m' p' q' x->aX m' p' q' y->t x=t y->x=y):fD m' p' q':=by
 obtain⟨W,hW⟩:=h;have hm:∀e f,e<m'->f<m'->(meet p q (s e) (s f)↔meet p' q' e f):=fun e f hem D7=>by
  have pe:aX m' p' q' (p' e):=⟨e,hem,.inl rfl⟩;have qe:aX m' p' q' (q' e):=⟨e,hem,.inr rfl⟩;have pf:aX m' p' q' (p' f):=⟨f,D7,.inl rfl⟩;have qf:aX m' p' q' (q' f):=⟨f,D7,.inr rfl⟩;have k:∀{x y:Nat},aX m' p' q' x->aX m' p' q' y->(t x=t y↔x=y):=fun hx hy=>⟨ht _ _ hx hy,congrArg t⟩
  unfold meet;rcases he e hem with ⟨e1,e2⟩|⟨e1,e2⟩<;>rcases he f D7 with ⟨e3,e4⟩|⟨e3,e4⟩<;>rw[e1,e2,e3,e4,k,k,k,k]<;>first|assumption|skip
  .exact⟨fun h=>by rcases h with h|h|h|h<;>simp[h],fun h=>by rcases h with h|h|h|h<;>simp[h]⟩
  .exact⟨fun h=>by rcases h with h|h|h|h<;>simp[h],fun h=>by rcases h with h|h|h|h<;>simp[h]⟩
  .exact⟨fun h=>by rcases h with h|h|h|h<;>simp[h],fun h=>by rcases h with h|h|h|h<;>simp[h]⟩
 refine⟨fun e f=>W (s e) (s f),⟨fun e he=>hW.self _ (hs e he),fun e f hem D7 hne hn=> ?_,fun e f hem D7 hne hn=> ?_,fun a b ha hb=> ?_⟩⟩
 .exact hW.apart _ _ (hs e hem) (hs f D7) (fun h=>hne (hi e f hem D7 h)) (fun h=>hn ((hm e f hem D7).1 h))
 .exact hW.turn _ _ (hs e hem) (hs f D7) (fun h=>hne (hi e f hem D7 h)) ((hm e f hem D7).2 hn)
 .rw[<-yJ hs W a b]
  exact hW.zero _ _ (ha.push hs he ht) (hb.push hs he ht)
end Pl
section
namespace Pl
def iN (m x:Nat) (p q:Nat->Nat) (e:Nat):Nat:=if e=m then q x else p e
def iz (m x z:Nat) (q:Nat->Nat) (e:Nat):Nat:=if e=m\/e=x then z else q e
section
variable {m x z:Nat} {p q:Nat->Nat}
def bZ (m:Nat) (p q:Nat->Nat):Prop:=(∀e,e<m->p e≠q e)/\∀e f,e<m->f<m->e≠f->¬(p e=p f/\q e=q f)/\¬(p e=q f/\q e=p f)
theorem iI {m x:Nat} (hx:x<m) (f:Nat->Bool):px m f=(px m (fun e=> !decide (e=x)&&f e) ^^ f x):=by
 have e1:px m f=px m (fun e=>(!decide (e=x)&&f e) ^^ (decide (e=x)&&f e)):=aA fun e _=>by
  by_cases h:e=x<;>simp[h]
 rw[e1,fK,x8 f hx]
theorem QE (hx:x<m) {W W':Nat->Nat->Bool} {a b a' b':Nat->Bool}
 (ha:∀e,e<m->a' e=a e) (hb:∀e,e<m->b' e=b e) (jK:a' m=a x) (lZ:b' m=b x)
 (h0:∀e f,e<m->f<m->e≠x->f≠x->W' e f=W e f) (h1:∀f,f<m->f≠x->(W' x f ^^ W' m f)=W x f) (h2:∀e,e<m->e≠x->(W' e x ^^ W' e m)=W e x)
 (h3:(W' x x ^^ (W' x m ^^ (W' m x ^^ W' m m)))=W x x):fm (m+1) W' a' b'=fm m W a b:=by
 have row:∀e,px (m+1) (fun f=>a' e&&(b' f&&W' e f))=(px m (fun f=> !decide (f=x)&&(a' e&&(b f&&W' e f))) ^^ (a' e&&(b x&&(W' e x ^^ W' e m)))):=fun e=>by
  show(px m (fun f=>a' e&&(b' f&&W' e f)) ^^ (a' e&&(b' m&&W' e m)))=_;rw[iI hx,hb x hx,lZ];have:px m (fun f=> !decide (f=x)&&(a' e&&(b' f&&W' e f)))=px m (fun f=> !decide (f=x)&&(a' e&&(b f&&W' e f))):=aA fun f hf=>by rw[hb f hf]
  rw[this];cases a' e<;>cases b x<;>simp
 have aas:∀e,px m (fun f=>a e&&(b f&&W e f))=(px m (fun f=> !decide (f=x)&&(a e&&(b f&&W e f))) ^^ (a e&&(b x&&W e x))):=fun e=>iI hx _
 unfold fm;have L:px (m+1) (fun e=>px (m+1) (fun f=>a' e&&(b' f&&W' e f)))=(px m (fun e=> !decide (e=x)&&px (m+1) (fun f=>a' e&&(b' f&&W' e f))) ^^ (px (m+1) (fun f=>a' x&&(b' f&&W' x f)) ^^ px (m+1) (fun f=>a' m&&(b' f&&W' m f)))):=by
  show(px m (fun e=>px (m+1) (fun f=>a' e&&(b' f&&W' e f))) ^^ px (m+1) (fun f=>a' m&&(b' f&&W' m f)))=_;rw[iI hx (fun e=>px (m+1) (fun f=>a' e&&(b' f&&W' e f)))];simp
 have R:px m (fun e=>px m (fun f=>a e&&(b f&&W e f)))=(px m (fun e=> !decide (e=x)&&px m (fun f=>a e&&(b f&&W e f))) ^^ px m (fun f=>a x&&(b f&&W x f))):=iI hx _;rw[L,R]
 congr 1
 .refine aA fun e he=> ?_
  by_cases hex:e=x
  .simp[hex]
  .simp only[hex,decide_false,Bool.not_false,aeG]
   rw[row e,aas e,ha e he,h2 e he hex]
   congr 1
   refine aA fun f hf=> ?_
   by_cases dy:f=x
   .simp[dy]
   .rw[h0 e f he hf hex dy]
 .rw[row x,row m,aas x,ha x hx,jK,<-h3]
  have:px m (fun f=> !decide (f=x)&&(a x&&(b f&&W x f)))=(px m (fun f=> !decide (f=x)&&(a x&&(b f&&W' x f))) ^^ px m (fun f=> !decide (f=x)&&(a x&&(b f&&W' m f)))):=by
   rw[<-fK];refine aA fun f hf=> ?_
   by_cases dy:f=x
   .simp[dy]
   .rw[<-h1 f hf dy]
    cases a x<;>cases b f<;>simp[dy]
  rw[this];generalize px m (fun f=> !decide (f=x)&&(a x&&(b f&&W' x f)))=A;generalize px m (fun f=> !decide (f=x)&&(a x&&(b f&&W' m f)))=B;cases A<;>cases B<;>cases a x<;>cases b x<;>cases W' x x<;>cases W' x m<;>cases W' m x<;>cases W' m m<;>rfl
theorem KL {e v:Nat} (he:e<m) (hex:e≠x):inc (iN m x p q) (iz m x z q) e v=inc p q e v:=by
 unfold inc iN iz;rw[if_neg (by omega),if_neg (by omega)]
theorem Gf (hx:x<m) {v:Nat}:inc (iN m x p q) (iz m x z q) x v=(decide (p x=v)||decide (z=v)):=by
 unfold inc iN iz;rw[if_neg (by omega),if_pos (.inr rfl)]
theorem Gg {v:Nat}:inc (iN m x p q) (iz m x z q) m v=(decide (q x=v)||decide (z=v)):=by
 unfold inc iN iz;rw[if_pos rfl,if_pos (.inl rfl)]
theorem LK (hx:x<m) (hne:p x≠q x) (a':Nat->Bool) (jK:a' m=a' x) {v:Nat} (hv:v≠z):px (m+1) (fun e=>a' e&&inc (iN m x p q) (iz m x z q) e v)=px m (fun e=>a' e&&inc p q e v):=by
 show(px m (fun e=>a' e&&inc (iN m x p q) (iz m x z q) e v) ^^ (a' m&&inc (iN m x p q) (iz m x z q) m v))=_;rw[iI hx,iI hx (fun e=>a' e&&inc p q e v),Gf hx,Gg,jK];have:px m (fun e=> !decide (e=x)&&(a' e&&inc (iN m x p q) (iz m x z q) e v))=px m (fun e=> !decide (e=x)&&(a' e&&inc p q e v)):=aA fun e he=>by
  by_cases hex:e=x
  .simp[hex]
  .rw[KL he hex]
 rw[this];generalize px m (fun e=> !decide (e=x)&&(a' e&&inc p q e v))=A;have hzv:¬z=v:=fun h=>hv h.symm
 unfold inc;by_cases h1:p x=v
 .have h2:¬q x=v:=fun h=>hne (h1.trans h.symm)
  simp[h1,h2,hzv]
 .simp[h1,hzv]
theorem Et (hx:x<m) (hz:∀e,e<m->p e≠z/\q e≠z) (a':Nat->Bool):px (m+1) (fun e=>a' e&&inc (iN m x p q) (iz m x z q) e z)=(a' x ^^ a' m):=by
 show(px m (fun e=>a' e&&inc (iN m x p q) (iz m x z q) e z) ^^ (a' m&&inc (iN m x p q) (iz m x z q) m z))=_;rw[aK hx (fun e he hex=> ?_),Gf hx,Gg]
 .simp
 .rw[KL he hex]
  have:=hz e he;unfold inc;simp[this.1,this.2]
theorem PB:iN m x p q m=q x:=if_pos rfl
theorem Hp:iz m x z q m=z:=if_pos (.inl rfl)
theorem Ho:iz m x z q x=z:=if_pos (.inr rfl)
theorem uP {e:Nat} (he:e<m):iN m x p q e=p e:=if_neg (by omega)
theorem xX {e:Nat} (he:e<m) (hex:e≠x):iz m x z q e=q e:=if_neg (by omega)
theorem vh {e f:Nat} (he:e<m) (hf:f<m) (hex:e≠x) (dy:f≠x):meet (iN m x p q) (iz m x z q) e f↔meet p q e f:=by
 unfold meet;rw[uP he,uP hf,xX he hex,xX hf dy]
theorem meet_comm {e f:Nat} (h:meet p q e f):meet p q f e:=by
 rcases h with h|h|h|h
 .exact .inl h.symm
 .exact .inr (.inr (.inl h.symm))
 .exact .inr (.inl h.symm)
 .exact .inr (.inr (.inr h.symm))
theorem rI (hx:x<m) (hz:∀e,e<m->p e≠z/\q e≠z) {f:Nat} (hf:f<m) (dy:f≠x):meet (iN m x p q) (iz m x z q) x f↔inc p q f (p x)=true:=by
 have:=hz f hf;unfold meet;rw[uP hx,uP hf,Ho,xX hf dy,au];constructor
 .rintro(h|h|h|h)
  .exact .inl h.symm
  .exact .inr h.symm
  .exact absurd h.symm this.1
  .exact absurd h.symm this.2
 .rintro(h|h)
  .exact .inl h.symm
  .exact .inr (.inl h.symm)
theorem rJ (hz:∀e,e<m->p e≠z/\q e≠z) {f:Nat} (hf:f<m) (dy:f≠x):meet (iN m x p q) (iz m x z q) m f↔inc p q f (q x)=true:=by
 have:=hz f hf;unfold meet;rw[PB,uP hf,Hp,xX hf dy,au];constructor
 .rintro(h|h|h|h)
  .exact .inl h.symm
  .exact .inr h.symm
  .exact absurd h.symm this.1
  .exact absurd h.symm this.2
 .rintro(h|h)
  .exact .inl h.symm
  .exact .inr (.inl h.symm)
theorem Gh (hs:bZ m p q) (hx:x<m) {f:Nat} (hf:f<m) (dy:f≠x):¬(inc p q f (p x)=true/\inc p q f (q x)=true):=by
 rintro⟨h1,h2⟩;rw[au] at h1 h2;have k:=hs.2 f x hf hx dy;have n1:=hs.1 x hx;rcases h1 with h1|h1<;>rcases h2 with h2|h2
 .exact n1 (h1.symm.trans h2)
 .exact k.1 ⟨h1,h2⟩
 .exact k.2 ⟨h2,h1⟩
 .exact n1 (h1.symm.trans h2)
theorem fR {f:Nat}:meet p q x f↔inc p q f (p x)=true\/inc p q f (q x)=true:=by
 rw[au,au];unfold meet;constructor
 .rintro(h|h|h|h)
  .exact .inl (.inl h.symm)
  .exact .inl (.inr h.symm)
  .exact .inr (.inl h.symm)
  .exact .inr (.inr h.symm)
 .rintro((h|h)|(h|h))
  .exact .inl h.symm
  .exact .inr (.inl h.symm)
  .exact .inr (.inr (.inl h.symm))
  .exact .inr (.inr (.inr h.symm))
theorem fD.sub (hs:bZ m p q) (hx:x<m) (hz:∀e,e<m->p e≠z/\q e≠z):fD m p q↔fD (m+1) (iN m x p q) (iz m x z q):=by
 have Bt:x≠m:=by omega
 have mxm:meet (iN m x p q) (iz m x z q) x m:=by
  unfold meet;rw[Ho,Hp];exact .inr (.inr (.inr rfl))
 constructor
 .rintro⟨W,hW⟩
  let W':Nat->Nat->Bool:=fun e f=>
   if e=f then true else if e=x then (if f=m then true else inc p q f (p x)&&W x f) else if e=m then (if f=x then false else inc p q f (q x)&&W x f)
   else if f=x then inc p q e (p x)&&W e x else if f=m then inc p q e (q x)&&W e x else W e f
  have w0:∀e f,e<m->f<m->e≠x->f≠x->W' e f=W e f:=fun e f he hf hex dy=>by
   by_cases cQ:e=f
   .subst cQ
    simp only[W',if_pos];exact(hW.self e he).symm
   .simp only[W',if_neg cQ,if_neg hex,if_neg (show ¬e=m by omega),if_neg dy,if_neg (show ¬f=m by omega)]
  have wx:∀f,f<m->f≠x->W' x f=(inc p q f (p x)&&W x f):=fun f hf dy=>by
   simp only[W',if_neg (aao dy),if_pos,if_neg (show ¬f=m by omega)]
  have wm:∀f,f<m->f≠x->W' m f=(inc p q f (q x)&&W x f):=fun f hf dy=>by
   simp only[W',if_neg (show ¬m=f by omega),if_neg (aao Bt),if_pos,if_neg dy]
  have vx:∀e,e<m->e≠x->W' e x=(inc p q e (p x)&&W e x):=fun e he hex=>by
   simp only[W',if_neg hex,if_neg (show ¬e=m by omega),if_pos]
  have vm:∀e,e<m->e≠x->W' e m=(inc p q e (q x)&&W e x):=fun e he hex=>by
   simp only[W',if_neg (show ¬e=m by omega),if_neg hex,if_neg (aao Bt),if_pos]
  have xm:W' x m=true:=by simp only[W',if_neg Bt,if_pos]
  have mx:W' m x=false:=by simp only[W',if_neg (aao Bt),if_pos]
  have self:∀e,W' e e=true:=fun e=>by simp only[W',if_pos]
  have part:∀{f:Nat} (w:Bool),f<m->f≠x->(¬meet p q x f->w=false)->((inc p q f (p x)&&w) ^^ (inc p q f (q x)&&w))=w:=fun {f} w hf dy hw=>by
   have n1:=Gh hs hx hf dy;have n2:=fR (p:=p) (q:=q) (x:=x) (f:=f);cases k1:inc p q f (p x)<;>cases k2:inc p q f (q x)
   .rw[hw (fun h=>by rcases n2.1 h with h|h<;>simp_all)];rfl
   .simp
   .simp
   .exact absurd ⟨k1,k2⟩ n1
  refine⟨W',⟨fun e _=>self e,fun e f he hf cQ hm=> ?_,fun e f he hf cQ hm=> ?_,fun a b ha hb=> ?_⟩⟩
  .by_cases e1:e=x
   .subst e1
    by_cases f1:f=m
    .rw[f1] at hm;exact absurd mxm hm
    .rw[wx f (by omega) (aao cQ)]
     have:¬inc p q f (p e)=true:=fun k=>hm ((rI hx hz (by omega) (aao cQ)).2 k)
     simp[this]
   .by_cases e2:e=m
    .subst e2
     by_cases f1:f=x
     .rw[f1] at hm;exact absurd (meet_comm mxm) hm
     .rw[wm f (by omega) f1]
      have:¬inc p q f (q x)=true:=fun k=>hm ((rJ hz (by omega) f1).2 k)
      simp[this]
    .by_cases f1:f=x
     .subst f1
      rw[vx e (by omega) e1];have:¬inc p q e (p f)=true:=fun k=>hm (meet_comm ((rI hx hz (by omega) e1).2 k))
      simp[this]
     .by_cases f2:f=m
      .subst f2
       rw[vm e (by omega) e1];have:¬inc p q e (q x)=true:=fun k=>hm (meet_comm ((rJ hz (by omega) e1).2 k))
       simp[this]
      .rw[w0 e f (by omega) (by omega) e1 f1]
       exact hW.apart e f (by omega) (by omega) cQ fun k=>hm ((vh (by omega) (by omega) e1 f1).2 k)
  .by_cases e1:e=x
   .subst e1
    by_cases f1:f=m
    .subst f1;rw[xm,mx];rfl
    .have k:=(rI hx hz (by omega) (aao cQ)).1 hm
     rw[wx f (by omega) (aao cQ),vx f (by omega) (aao cQ),k];simpa using hW.turn e f hx (by omega) cQ (fR.2 (.inl k))
   .by_cases e2:e=m
    .subst e2
     by_cases f1:f=x
     .subst f1;rw[xm,mx];rfl
     .have k:=(rJ hz (by omega) f1).1 hm
      rw[wm f (by omega) f1,vm f (by omega) f1,k];simpa using hW.turn x f hx (by omega) (aao f1) (fR.2 (.inr k))
    .by_cases f1:f=x
     .subst f1
      have k:=(rI hx hz (by omega) e1).1 (meet_comm hm);rw[vx e (by omega) e1,wx e (by omega) e1,k];simpa using hW.turn e f (by omega) hx e1 (meet_comm (fR.2 (.inl k)))
     .by_cases f2:f=m
      .subst f2
       have k:=(rJ hz (by omega) e1).1 (meet_comm hm);rw[vm e (by omega) e1,wm e (by omega) e1,k];simpa using hW.turn e x (by omega) hx e1 (meet_comm (fR.2 (.inr k)))
      .rw[w0 e f (by omega) (by omega) e1 f1,w0 f e (by omega) (by omega) f1 e1]
       exact hW.turn e f (by omega) (by omega) cQ ((vh (by omega) (by omega) e1 f1).1 hm)
  .have jK:a m=a x:=by
    have:=ha z;rw[Et hx hz] at this;cases k1:a x<;>cases k2:a m<;>simp[k1,k2] at this ⊢
   have lZ:b m=b x:=by
    have:=hb z;rw[Et hx hz] at this;cases k1:b x<;>cases k2:b m<;>simp[k1,k2] at this ⊢
   have ev:∀{c:Nat->Bool},c m=c x->Ev (m+1) (iN m x p q) (iz m x z q) c->Ev m p q c:=fun {c} hcm hc v=>by
    by_cases hv:v=z
    .refine aD fun e he=> ?_
     have:=hz e he;have:inc p q e v=false:=by unfold inc;simp[hv,this.1,this.2]
     rw[this,afp]
    .rw[<-LK hx (hs.1 x hx) c hcm hv]
     exact hc v
   have e1:=QE hx (W:=W) (W':=W') (a:=a) (b:=b) (a':=a) (b':=b) (fun _ _=>rfl) (fun _ _=>rfl) jK lZ w0
    (fun f hf dy=>by rw[wx f hf dy,wm f hf dy];exact part _ hf dy fun k=>hW.apart x f hx hf (aao dy) k)
    (fun e he hex=>by rw[vx e he hex,vm e he hex];exact part _ he hex fun k=>hW.apart e x he hx hex fun h=>k (meet_comm h))
    (by rw[self,self,xm,mx,hW.self x hx];rfl)
   rw[e1];exact hW.zero a b (ev jK ha) (ev lZ hb)
 .rintro⟨W',hW⟩
  let W:Nat->Nat->Bool:=fun e f=>if e=x then (if f=x then true else W' x f ^^ W' m f) else if f=x then W' e x ^^ W' e m else W' e f
  have w0:∀e f,e≠x->f≠x->W e f=W' e f:=fun e f hex dy=>by simp only[W,if_neg hex,if_neg dy]
  have wx:∀f,f≠x->W x f=(W' x f ^^ W' m f):=fun f dy=>by simp only[W,if_pos,if_neg dy]
  have vx:∀e,e≠x->W e x=(W' e x ^^ W' e m):=fun e hex=>by simp only[W,if_pos,if_neg hex]
  have xx:W x x=true:=by simp only[W,if_pos]
  have Un:∀{f:Nat},f<m->f≠x->¬inc p q f (p x)=true->W' x f=false/\W' f x=false:=fun {f} hf dy k=>
   ⟨hW.apart x f (by omega) (by omega) (aao dy) fun h=>k ((rI hx hz hf dy).1 h),hW.apart f x (by omega) (by omega) dy fun h=>k ((rI hx hz hf dy).1 (meet_comm h))⟩
  have Uo:∀{f:Nat},f<m->f≠x->¬inc p q f (q x)=true->W' m f=false/\W' f m=false:=fun {f} hf dy k=>
   ⟨hW.apart m f (by omega) (by omega) (by omega) fun h=>k ((rJ hz hf dy).1 h),hW.apart f m (by omega) (by omega) (by omega) fun h=>k ((rJ hz hf dy).1 (meet_comm h))⟩
  have turn:∀{f:Nat},f<m->f≠x->meet p q x f->W x f= !W f x:=fun {f} hf dy hm=>by
   have n1:=Gh hs hx hf dy;rw[wx f dy,vx f dy];rcases fR.1 hm with k|k
   .obtain⟨k1,k2⟩:=Uo hf dy fun k2=>n1 ⟨k,k2⟩
    rw[k1,k2,hW.turn x f (by omega) (by omega) (aao dy) ((rI hx hz hf dy).2 k)];simp
   .obtain⟨k1,k2⟩:=Un hf dy fun k2=>n1 ⟨k2,k⟩
    rw[k1,k2,hW.turn m f (by omega) (by omega) (by omega) ((rJ hz hf dy).2 k)];simp
  refine⟨W,⟨fun e he=> ?_,fun e f he hf cQ hm=> ?_,fun e f he hf cQ hm=> ?_,fun a b ha hb=> ?_⟩⟩
  .by_cases e1:e=x
   .rw[e1,xx]
   .rw[w0 e e e1 e1];exact hW.self e (by omega)
  .by_cases e1:e=x
   .subst e1
    rw[wx f (aao cQ),(Un hf (aao cQ) fun k=>hm (fR.2 (.inl k))).1,(Uo hf (aao cQ) fun k=>hm (fR.2 (.inr k))).1];rfl
   .by_cases f1:f=x
    .subst f1
     rw[vx e e1,(Un he e1 fun k=>hm (meet_comm (fR.2 (.inl k)))).2,(Uo he e1 fun k=>hm (meet_comm (fR.2 (.inr k)))).2];rfl
    .rw[w0 e f e1 f1]
     exact hW.apart e f (by omega) (by omega) cQ fun k=>hm ((vh he hf e1 f1).1 k)
  .by_cases e1:e=x
   .subst e1
    exact turn hf (aao cQ) hm
   .by_cases f1:f=x
    .subst f1
     rw[turn he e1 (meet_comm hm)];simp
    .rw[w0 e f e1 f1,w0 f e f1 e1]
     exact hW.turn e f (by omega) (by omega) cQ ((vh he hf e1 f1).2 hm)
  .let up:(Nat->Bool)->Nat->Bool:=fun c e=>if e=m then c x else c e
   have um:∀c,up c m=c x:=fun c=>by simp only[up,if_pos]
   have ue:∀c e,e<m->up c e=c e:=fun c e he=>by simp only[up,if_neg (show ¬e=m by omega)]
   have ev:∀{c:Nat->Bool},Ev m p q c->Ev (m+1) (iN m x p q) (iz m x z q) (up c):=fun {c} hc v=>by
    by_cases hv:v=z
    .rw[hv,Et hx hz,um,ue c x hx];simp
    .rw[LK hx (hs.1 x hx) (up c) (by rw[um,ue c x hx]) hv]
     exact(aA fun e he=>by rw[ue c e he]).trans (hc v)
   rw[<-QE hx (W:=W) (W':=W') (a':=up a) (b':=up b) (fun e he=>ue a e he) (fun e he=>ue b e he) (um a) (um b) (fun e f _ _ hex dy=>(w0 e f hex dy).symm) (fun f _ dy=>(wx f dy).symm) (fun e _ hex=>(vx e hex).symm) ?_]
   .exact hW.zero _ _ (ev ha) (ev hb)
   .rw[xx,hW.self x (by omega),hW.self m (by omega),hW.turn x m (by omega) (by omega) Bt mxm]
    cases W' m x<;>rfl
end
end Pl
end
namespace Pl
structure lJ (m:Nat) (p q:Nat->Nat) (S:Nat->Prop) (W:Nat->Nat->Bool):Prop where
 self:∀e,e<m->S e->W e e=true
 apart:∀e f,e<m->f<m->S e->S f->e≠f->¬meet p q e f->W e f=false
 turn:∀e f,e<m->f<m->S e->S f->e≠f->meet p q e f->W e f= !W f e
 zero:∀a b,Ev m p q a->Ev m p q b->(∀e,e<m->a e=true->S e)->(∀e,e<m->b e=true->S e)->fm m W a b=false
theorem Uf {m m':Nat} {p q s:Nat->Nat} {S:Nat->Prop} (h:fD m' (fun i=>p (s i)) (fun i=>q (s i))) (hs:∀i,i<m'->s i<m) (hi:∀i j,i<m'->j<m'->s i=s j->i=j) (ho:∀e,e<m->S e->∃i,i<m'/\s i=e):∃W,lJ m p q S W:=by
 obtain⟨W',hW⟩:=h;have hex:∃r:Nat->Nat,∀e,e<m->S e->r e<m'/\s (r e)=e:=by
  refine⟨fun e=>open Classical in if h:∃i,i<m'/\s i=e then Classical.choose h else 0,fun e he hS=> ?_⟩;have h:=ho e he hS;simp only[dif_pos h];exact acI h
 obtain⟨r,hr⟩:=hex;have rs:∀i,i<m'->S (s i)->r (s i)=i:=fun i BG hS=>hi _ _ (hr _ (hs i BG) hS).1 BG (hr _ (hs i BG) hS).2
 refine⟨fun e f=>W' (r e) (r f),⟨fun e he hS=>hW.self _ (hr e he hS).1,fun e f he hf hS Ee hne hm=> ?_,fun e f he hf hS Ee hne hm=> ?_,fun a b ha hb hSa hSb=> ?_⟩⟩
 .obtain⟨e1,e2⟩:=hr e he hS
  obtain⟨f1,f2⟩:=hr f hf Ee;refine hW.apart _ _ e1 f1 (fun k=>hne (by rw[<-e2,<-f2,k])) fun k=>hm ?_
  have k2:meet p q (s (r e)) (s (r f)):=k;rw[e2,f2] at k2;exact k2
 .obtain⟨e1,e2⟩:=hr e he hS
  obtain⟨f1,f2⟩:=hr f hf Ee;refine hW.turn _ _ e1 f1 (fun k=>hne (by rw[<-e2,<-f2,k])) ?_;show meet p q (s (r e)) (s (r f));rw[e2,f2];exact hm
 .have pu:∀{c:Nat->Bool},(∀e,e<m->c e=true->S e)->∀e,e<m->push m' s (fun i=>c (s i)) e=c e:=fun {c} hc e he=>by
   by_cases hS:S e
   .obtain⟨e1,e2⟩:=hr e he hS
    unfold push;rw[aK e1 (fun i BG hne=> ?_)]
    .simp[e2]
    .have:¬s i=e:=fun k=>hne (hi _ _ BG e1 (by rw[k,e2]))
     simp[this]
   .have:c e=false:=by
     cases k:c e with
     |false=>rfl
     |true=>exact absurd (hc e he k) hS
    rw[this];refine aD fun i BG=> ?_
    by_cases k:s i=e
    .simp[k,this]
    .simp[k]
  have ev:∀{c:Nat->Bool},(∀e,e<m->c e=true->S e)->Ev m p q c->Ev m' (fun i=>p (s i)) (fun i=>q (s i)) (fun i=>c (s i)):=fun {c} hc hev v=>by
   have e1:=qm hs (fun i=>c (s i)) (fun e=>inc p q e v);rw[<-hev v];refine Eq.trans e1.symm (aA fun e he=> ?_);rw[<-pu hc e he];rfl
  have e1:fm m (fun e f=>W' (r e) (r f)) a b=fm m (fun e f=>W' (r e) (r f)) (push m' s (fun i=>a (s i))) (push m' s (fun i=>b (s i))):=cV (fun e he=>(pu hSa e he).symm) (fun e he=>(pu hSb e he).symm) (fun _ _ _ _ _ _=>rfl);rw[e1,yJ hs];rw[<-hW.zero _ _ (ev hSa ha) (ev hSb hb)];exact cV (fun _ _=>rfl) (fun _ _=>rfl) (fun i j BG hjm k1 k2=>by rw[rs i BG (hSa _ (hs i BG) k1),rs j hjm (hSb _ (hs j hjm) k2)])
theorem J6 {n m:Nat} {p q:Nat->Nat} (hs:bZ m p q) (hl:∀e,e<m->p e<n/\q e<n) {e f:Nat} (he:e<m) (hf:f<m) (hne:e≠f) (hm:meet p q e f):px n (fun v=>inc p q e v&&inc p q f v)=true:=by
 have n1:=hs.1 e he;have n2:=hs.1 f hf;have k:=hs.2 e f he hf hne;have go:∀v,v<n->inc p q e v=true->inc p q f v=true->px n (fun v=>inc p q e v&&inc p q f v)=true:=fun v hv h1 h2=>by
  rw[aK hv (fun w _ hwv=> ?_)]
  .rw[h1,h2];rfl
  .cases k1:inc p q e w<;>cases k2:inc p q f w<;>try rfl
   exfalso;rw[au] at h1 h2 k1 k2;rcases h1 with h1|h1<;>rcases h2 with h2|h2<;>rcases k1 with k1|k1<;>rcases k2 with k2|k2
   all_goals first
    |exact hwv (by omega)
    |exact k.1 ⟨by omega,by omega⟩
    |exact k.2 ⟨by omega,by omega⟩
 rcases hm with h|h|h|h
 .exact go (p e) (hl e he).1 (au.2 (.inl rfl)) (au.2 (.inl h.symm))
 .exact go (p e) (hl e he).1 (au.2 (.inl rfl)) (au.2 (.inr h.symm))
 .exact go (q e) (hl e he).2 (au.2 (.inr rfl)) (au.2 (.inl h.symm))
 .exact go (q e) (hl e he).2 (au.2 (.inr rfl)) (au.2 (.inr h.symm))
theorem RJ {n:Nat} {p q:Nat->Nat} {e f:Nat} (hm:¬meet p q e f):px n (fun v=>inc p q e v&&inc p q f v)=false:=by
 refine aD fun v _=> ?_
 cases k1:inc p q e v<;>cases k2:inc p q f v<;>try rfl
 exfalso;rw[au] at k1 k2;apply hm;rcases k1 with k1|k1<;>rcases k2 with k2|k2
 .exact .inl (by omega)
 .exact .inr (.inl (by omega))
 .exact .inr (.inr (.inl (by omega)))
 .exact .inr (.inr (.inr (by omega)))
theorem fD.glue {n m K:Nat} {p q k:Nat->Nat} (hs:bZ m p q) (hl:∀e,e<m->p e<n/\q e<n) (hk:∀e,e<m->k e<K)
 (hev:∀a,Ev m p q a->∀j,Ev m p q (fun e=>a e&&decide (k e=j))) (hp:∀j,j<K->∃W,lJ m p q (fun e=>k e=j) W):fD m p q:=by
 have hex:∃V:Nat->Nat->Nat->Bool,∀j,j<K->lJ m p q (fun e=>k e=j) (V j):=by
  refine⟨fun j=>open Classical in if h:∃W,lJ m p q (fun e=>k e=j) W then Classical.choose h else fun _ _=>false,fun j hj=> ?_⟩;have h:=hp j hj;simp only[dif_pos h];exact acI h
 obtain⟨V,hV⟩:=hex
 let W:Nat->Nat->Bool:=fun e f=>if k e=k f then V (k e) e f else px n (fun v=>inc p q e v&&inc p q f v)&&decide (k e<k f)
 have w1:∀{e f:Nat},k e=k f->W e f=V (k e) e f:=fun {e f} h=>by simp only[W,if_pos h]
 have w2:∀{e f:Nat},¬k e=k f->W e f=(px n (fun v=>inc p q e v&&inc p q f v)&&decide (k e<k f)):=fun {e f} h=>by simp only[W,if_neg h]
 refine⟨W,⟨fun e he=> ?_,fun e f he hf hne hm=> ?_,fun e f he hf hne hm=> ?_,fun a b ha hb=> ?_⟩⟩
 .rw[w1 rfl]
  exact(hV _ (hk e he)).self e he rfl
 .by_cases h:k e=k f
  .rw[w1 h]
   exact(hV _ (hk e he)).apart e f he hf rfl h.symm hne hm
  .rw[w2 h,RJ hm];rfl
 .by_cases h:k e=k f
  .rw[w1 h,w1 h.symm,<-h]
   exact(hV _ (hk e he)).turn e f he hf rfl h.symm hne hm
  .rw[w2 h,w2 (aao h),J6 hs hl he hf hne hm,J6 hs hl hf he (aao hne) (meet_comm hm)]
   by_cases h2:k e<k f
   .rw[decide_eq_true h2,decide_eq_false (by omega)];rfl
   .rw[decide_eq_false h2,decide_eq_true (by omega)];rfl
 .have cut:∀(c:Nat->Bool) e,e<m->c e=px K (fun j=>c e&&decide (k e=j)):=fun c e he=>by
   rw[aK (hk e he) (fun j _ hne=>by simp[aao hne])];simp
  rw[cV (cut a) (cut b) (fun _ _ _ _ _ _=>rfl),tZ];refine aD fun j hj=> ?_
  rw[tY];refine aD fun l hl'=> ?_
  by_cases hjl:j=l
  .subst hjl
   rw[<-(hV j hj).zero _ _ (hev a ha j) (hev b hb j) (fun e _ h=>by simp at h;exact h.2) (fun e _ h=>by simp at h;exact h.2)];refine cV (fun _ _=>rfl) (fun _ _=>rfl) fun e f _ _ h1 h2=> ?_
   have h1':k e=j:=by simp at h1;exact h1.2
   have h2':k f=j:=by simp at h2;exact h2.2
   rw[w1 (h1'.trans h2'.symm),h1']
  .have e1:fm m W (fun e=>a e&&decide (k e=j)) (fun f=>b f&&decide (k f=l))=fm m (fun e f=>px n (fun v=>(inc p q e v&&decide (j<l))&&inc p q f v)) (fun e=>a e&&decide (k e=j)) (fun f=>b f&&decide (k f=l)):=cV (fun _ _=>rfl) (fun _ _=>rfl) fun e f _ _ h1 h2=>by
    have h1':k e=j:=by simp at h1;exact h1.2
    have h2':k f=l:=by simp at h2;exact h2.2
    rw[w2 (by rw[h1',h2'];exact hjl),<-tJ,h1',h2'];refine aA fun v _=> ?_
    cases inc p q e v<;>cases inc p q f v<;>simp
   rw[e1,Ek];refine aD fun v _=> ?_
   rw[vE (fun e=>inc p q e v&&decide (j<l)) (fun f=>inc p q f v),hev b hb l v];simp
end Pl
end Go.Proofs.YtbhdibflpjhpaaaGreat
