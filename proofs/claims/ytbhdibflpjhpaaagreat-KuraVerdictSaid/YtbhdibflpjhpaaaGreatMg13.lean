import Derived.Test.YtbhdibflpjhpaaaGreatMg12
namespace Go.Proofs.YtbhdibflpjhpaaaGreat
section
namespace Pl
def gY (m:Nat) (p q:Nat->Nat) (a:Nat->Bool) (v:Nat):Bool:=px m fun e=>a e&&inc p q e v
section
variable {m n:Nat} {p q:Nat->Nat}
theorem PT {n k:Nat} (hk:k<n):px n (fun v=>decide (k=v))=true:=by
 rw[aK hk (fun i _ hne=>decide_eq_false fun h=>hne h.symm)];simp
theorem RX (hs:bZ m p q) (hl:∀e,e<m->p e<n/\q e<n) {e f:Nat} (he:e<m) (hf:f<m) (hne:e≠f) (hm:meet p q e f):px n (fun v=>inc p q e v&&inc p q f v)=true:=by
 have KW:=hs.1 e he;have hpf:=hs.1 f hf;have h2:=hs.2 e f he hf hne;have key:∀v,v<n->inc p q e v=true->inc p q f v=true->px n (fun v=>inc p q e v&&inc p q f v)=true:=fun v hv h3 h4=>by
  rw[aK hv (fun i _ hi=> ?_),h3,h4]
  .rfl
  .cases h5:inc p q e i with
   |false=>rfl
   |true=>
    cases h6:inc p q f i with
    |false=>rfl
    |true=>
     exfalso;rw[au] at h3 h4 h5 h6;omega
 have a1:=hl e he;rcases hm with h|h|h|h
 .exact key (p e) a1.1 (au.2 (.inl rfl)) (au.2 (.inl h.symm))
 .exact key (p e) a1.1 (au.2 (.inl rfl)) (au.2 (.inr h.symm))
 .exact key (q e) a1.2 (au.2 (.inr rfl)) (au.2 (.inl h.symm))
 .exact key (q e) a1.2 (au.2 (.inr rfl)) (au.2 (.inr h.symm))
theorem NB {e f:Nat} (hm:¬meet p q e f):px n (fun v=>inc p q e v&&inc p q f v)=false:=aD fun v _=>by
 cases h3:inc p q e v with
 |false=>rfl
 |true=>
  cases h4:inc p q f v with
  |false=>rfl
  |true=>
   refine absurd ?_ hm;rw[au] at h3 h4;unfold meet;omega
theorem meet_self (hs:bZ m p q) (hl:∀e,e<m->p e<n/\q e<n) {e:Nat} (he:e<m):px n (fun v=>inc p q e v&&inc p q e v)=false:=by
 have e1:px n (fun v=>inc p q e v&&inc p q e v)=px n (fun v=>decide (p e=v) ^^ decide (q e=v)):=aA fun v _=>by
  have:=hs.1 e he;unfold inc;by_cases h:p e=v
  .have:q e≠v:=by omega
   simp[h,this]
  .simp[h]
 rw[e1,fK,PT (hl e he).1,PT (hl e he).2];rfl
structure Cr (m:Nat) (p q:Nat->Nat) (W:Nat->Nat->Bool):Prop where
 self:∀e,e<m->W e e=true
 apart:∀e f,e<m->f<m->e≠f->¬meet p q e f->W e f=false
 turn:∀e f,e<m->f<m->e≠f->meet p q e f->W e f= !W f e
theorem sH.tn {W:Nat->Nat->Bool} (h:sH m p q W):Cr m p q W:=⟨h.self,h.apart,h.turn⟩
theorem Ej {W:Nat->Nat->Bool} (h:Cr m p q W) (hs:bZ m p q) (hl:∀e,e<m->p e<n/\q e<n) (a b:Nat->Bool):(fm m W a b ^^ fm m W b a)=px n fun v=>gY m p q a v&&gY m p q b v:=by
 have e2:fm m W b a=px m (fun e=>px m fun f=>a e&&(b f&&W f e)):=by
  unfold fm;rw[kI];refine aA fun e _=>aA fun f _=> ?_
  cases a e<;>cases b f<;>rfl
 rw[e2];unfold fm;rw[<-fK];have e3:px m (fun e=>px m (fun f=>a e&&(b f&&W e f)) ^^ px m (fun f=>a e&&(b f&&W f e)))=px m (fun e=>px m fun f=>px n fun v=>(a e&&inc p q e v)&&(b f&&inc p q f v)):=aA fun e he=>by
  rw[<-fK];refine aA fun f hf=> ?_
  have e4:px n (fun v=>(a e&&inc p q e v)&&(b f&&inc p q f v))=((a e&&b f)&&px n (fun v=>inc p q e v&&inc p q f v)):=by
   rw[<-jt];refine aA fun v _=> ?_
   cases a e<;>cases b f<;>cases inc p q e v<;>cases inc p q f v<;>rfl
  rw[e4];by_cases cQ:e=f
  .subst cQ
   rw[meet_self hs hl he];cases a e<;>cases b e<;>cases W e e<;>rfl
  .by_cases hm:meet p q e f
   .rw[RX hs hl he hf cQ hm,h.turn e f he hf cQ hm]
    cases a e<;>cases b f<;>cases W f e<;>rfl
   .rw[NB hm,h.apart e f he hf cQ hm,h.apart f e hf he (fun e=>cQ e.symm) (fun h=>hm (meet_comm h))]
    cases a e<;>cases b f<;>rfl
 rw[e3];have e5:px m (fun e=>px m fun f=>px n fun v=>(a e&&inc p q e v)&&(b f&&inc p q f v))=px m (fun e=>px n fun v=>px m fun f=>(a e&&inc p q e v)&&(b f&&inc p q f v)):=aA fun e _=>kI _ _ _
 rw[e5,kI];refine aA fun v _=> ?_
 unfold gY;rw[<-tJ];refine aA fun e _=> ?_
 rw[jt]
def Goes (m:Nat) (p q:Nat->Nat):Nat->List Nat->Nat->Prop
 |x,[],y=>x=y
 |x,e::l,y=>e<m/\∃z,((p e=x/\q e=z)\/(p e=z/\q e=x))/\Goes m p q z l y
def jR (m:Nat) (p q:Nat->Nat):Nat->List Nat->Nat->Prop
 |x,[],y=>x=y
 |x,e::l,y=>x≠y/\e<m/\∃z,((p e=x/\q e=z)\/(p e=z/\q e=x))/\jR m p q z l y
def aR (l:List Nat) (e:Nat):Bool:=decide (e∈l)
theorem Du {x:Nat} {l:List Nat} (h:x∉l) (e:Nat):aR (x::l) e=(decide (e=x) ^^ aR l e):=by
 unfold aR;by_cases he:e=x
 .subst he
  simp[h]
 .simp[he]
theorem jR.goes:∀{l:List Nat} {x y:Nat},jR m p q x l y->Goes m p q x l y
 |[],_,_,h=>h
 |_::_,_,_,⟨_,h1,z,h2,h3⟩=>⟨h1,z,h2,h3.goes⟩
theorem p7 {x:Nat} (hx:x<m) (v:Nat):gY m p q (fun e=>decide (e=x)) v=inc p q x v:=x8 (fun e=>inc p q e v) hx
theorem WO (a b:Nat->Bool) (v:Nat):gY m p q (fun e=>a e ^^ b e) v=(gY m p q a v ^^ gY m p q b v):=by
 unfold gY;rw[<-fK];refine aA fun e _=> ?_
 dsimp only;cases a e<;>cases b e<;>cases inc p q e v<;>rfl
theorem OT {a b:Nat->Bool} (h:∀e,e<m->a e=b e) (v:Nat):gY m p q a v=gY m p q b v:=aA fun e he=>by rw[h e he]
theorem Goes.gY (hs:∀e,e<m->p e≠q e):∀{l:List Nat} {x y:Nat},l.Nodup->Goes m p q x l y->∀v,Pl.gY m p q (aR l) v=(decide (x=v) ^^ decide (y=v))
 |[],x,y,_,h,v=>by
  obtain rfl:x=y:=h;rw[show Pl.gY m p q (aR []) v=false from aD fun e _=>by simp[aR]];simp
 |e::l,x,y,hn,⟨he,z,hz,h⟩,v=>by
  obtain⟨h1,h2⟩:=acr.1 hn;rw[OT (fun f _=>Du h1 f),WO,p7 he,h.gY hs h2 v];have:=hs e he;unfold inc;rcases hz with ⟨a1,a2⟩|⟨a1,a2⟩
  .have hxz:x≠z:=by omega
   rw[a1,a2];by_cases b1:x=v
   .subst b1
    have:¬z=x:=fun e=>hxz e.symm
    simp[this]
   .simp[b1]
  .have hxz:x≠z:=by omega
   rw[a1,a2];by_cases b1:x=v
   .subst b1
    have:¬z=x:=fun e=>hxz e.symm
    simp[this]
   .simp[b1]
theorem OL {W:Nat->Nat->Bool} {x:Nat} (hx:x<m):fm m W (fun e=>decide (e=x)) (fun e=>decide (e=x))=W x x:=by
 unfold fm;rw[aK hx (fun i _ hne=>aD fun f _=>by simp[hne]),aK hx (fun i _ hne=>by simp[hne])];simp
theorem jR.self {W:Nat->Nat->Bool} (h:Cr m p q W) (hs:bZ m p q) (hl:∀e,e<m->p e<n/\q e<n):∀{l:List Nat} {x y:Nat},l≠[]->l.Nodup->jR m p q x l y->fm m W (aR l) (aR l)=true
 |[],_,_,h0,_,_=>absurd rfl h0
 |e::l,x,y,_,hn,⟨hxy,he,z,hz,hg⟩=>by
  obtain⟨h1,h2⟩:=acr.1 hn;have hc:∀f,f<m->aR (e::l) f=(decide (f=e) ^^ aR l f):=fun f _=>Du h1 f
  rw[cV hc hc (fun _ _ _ _ _ _=>rfl),El,ud,ud,OL he,h.self e he];have ht:=Ej h hs hl (fun f=>decide (f=e)) (aR l);cases l with
  |nil=>
   rw[vD (b:=aR []) (fun f _=>by simp[aR]),nN (a:=aR []) (fun f _=>by simp[aR]),nN (a:=aR []) (fun f _=>by simp[aR])];rfl
  |cons f l'=>
   have hzy:z≠y:=hg.1;have wZ:=jR.self h hs hl (List.cons_ne_nil f l') h2 hg;have hne:=hs.1 e he;have hxz:x≠z:=by rcases hz with hz|hz<;>omega
   have IA:z<n:=by
    have:=hl e he;rcases hz with hz|hz<;>omega
   have hd:px n (fun v=>Pl.gY m p q (fun f=>decide (f=e)) v&&Pl.gY m p q (aR (f::l')) v)=true:=by
    rw[aK IA (fun i _ hi=> ?_)]
    .rw[p7 he,hg.goes.gY hs.1 h2]
     have h3:inc p q e z=true:=au.2 (by rcases hz with hz|hz<;>omega);have h4:¬y=z:=fun e=>hzy e.symm
     simp[h3,h4]
    .rw[p7 he,hg.goes.gY hs.1 h2]
     cases h3:inc p q e i with
     |false=>rfl
     |true=>
      rw[au] at h3;have hix:i=x:=by rcases hz with hz|hz<;>omega
      have h4:¬z=i:=fun e=>hi e.symm
      have h5:¬y=i:=fun e=>hxy (by omega)
      simp[h4,h5]
   rw[hd] at ht;rw[wZ];generalize fm m W (fun f=>decide (f=e)) (aR (f::l'))=A at ht ⊢;generalize fm m W (aR (f::l')) (fun f=>decide (f=e))=B at ht ⊢;cases A<;>cases B<;>first|rfl|(cases ht)
theorem hgn (hl:∀e,e<m->p e<n/\q e<n):∀{l:List Nat} {x y:Nat},l≠[]->jR m p q x l y->x<n/\y<n:=fun {l}=>by
 induction l with
 |nil=>intro _ _ h0;exact absurd rfl h0
 |cons a l ih=>
  rintro x y _ ⟨_,h1,z,h2,h3⟩;have:=hl a h1;have hx:x<n/\z<n:=by rcases h2 with h2|h2<;>omega
  refine⟨hx.1,?_⟩;cases l with
  |nil=>obtain rfl:z=y:=h3;exact hx.2
  |cons b l=>exact(ih (List.cons_ne_nil _ _) h3).2
section
variable {m':Nat} {p' q':Nat->Nat} {τ:Nat->Nat} {T:Nat->List Nat}
theorem z8 (hs':bZ m' p' q') (hτ:∀x y,aX m' p' q' x->aX m' p' q' y->τ x=τ y->x=y) (qJ:∀i,i<m'->∀v,gY m p q (aR (T i)) v=(decide (τ (p' i)=v) ^^ decide (τ (q' i)=v))):∀i,i<m'->∀x,aX m' p' q' x->gY m p q (aR (T i)) (τ x)=inc p' q' i x:=fun i hi x hx=>by
 have hend:∀i,i<m'->aX m' p' q' (p' i)/\aX m' p' q' (q' i):=fun i hi=>⟨⟨i,hi,.inl rfl⟩,⟨i,hi,.inr rfl⟩⟩
 rw[qJ i hi];have h1:(τ (p' i)=τ x)↔p' i=x:=⟨hτ _ _ (hend i hi).1 hx,congrArg τ⟩;have h2:(τ (q' i)=τ x)↔q' i=x:=⟨hτ _ _ (hend i hi).2 hx,congrArg τ⟩;have:=hs'.1 i hi;unfold inc;simp only[h1,h2];by_cases h3:p' i=x
 .have:¬q' i=x:=by omega
  simp[h3,this]
 .simp[h3]
theorem Ei (hs':bZ m' p' q') (hτ:∀x y,aX m' p' q' x->aX m' p' q' y->τ x=τ y->x=y) (qJ:∀i,i<m'->∀v,gY m p q (aR (T i)) v=(decide (τ (p' i)=v) ^^ decide (τ (q' i)=v)))
 (hnn:∀i,i<m'->τ (p' i)<n/\τ (q' i)<n) {i j:Nat} (hi:i<m') (hj:j<m') (hne:i≠j) (hm:meet p' q' i j):px n (fun v=>gY m p q (aR (T i)) v&&gY m p q (aR (T j)) v)=true:=by
 have hend:∀i,i<m'->aX m' p' q' (p' i)/\aX m' p' q' (q' i):=fun i hi=>⟨⟨i,hi,.inl rfl⟩,⟨i,hi,.inr rfl⟩⟩
 have Gp:=z8 (m:=m) (p:=p) (q:=q) hs' hτ qJ;have key:∀x,aX m' p' q' x->τ x<n->inc p' q' i x=true->inc p' q' j x=true->px n (fun v=>gY m p q (aR (T i)) v&&gY m p q (aR (T j)) v)=true:=fun x hx o7 h1 h2=>by
  rw[aK o7 (fun v _ hv=> ?_),Gp i hi x hx,Gp j hj x hx,h1,h2]
  .rfl
  .rw[qJ i hi,qJ j hj]
   by_cases c1:τ (p' i)=v\/τ (q' i)=v
   .by_cases c2:τ (p' j)=v\/τ (q' j)=v
    .exfalso
     have hsi:=hs'.1 i hi;have hsj:=hs'.1 j hj;have h2':=hs'.2 i j hi hj hne;rw[au] at h1 h2;have k:∀{y:Nat},aX m' p' q' y->τ y=v->y≠x:=fun _ h e=>hv (by rw[<-h,e])
     have k2:∀{y z:Nat},aX m' p' q' y->aX m' p' q' z->τ y=v->τ z=v->y=z:=fun hy hz h1 h2=>hτ _ _ hy hz (h1.trans h2.symm)
     obtain⟨ep,eq⟩:=hend i hi;obtain⟨fp,fq⟩:=hend j hj;rcases c1 with c1|c1<;>rcases c2 with c2|c2
     .have:=k ep c1;have:=k fp c2;have:=k2 ep fp c1 c2;omega
     .have:=k ep c1;have:=k fq c2;have:=k2 ep fq c1 c2;omega
     .have:=k eq c1;have:=k fp c2;have:=k2 eq fp c1 c2;omega
     .have:=k eq c1;have:=k fq c2;have:=k2 eq fq c1 c2;omega
    .have c3:¬ τ (p' j)=v:=fun h=>c2 (.inl h)
     have c4:¬ τ (q' j)=v:=fun h=>c2 (.inr h)
     simp[c3,c4]
   .have c3:¬ τ (p' i)=v:=fun h=>c1 (.inl h)
    have c4:¬ τ (q' i)=v:=fun h=>c1 (.inr h)
    simp[c3,c4]
 have hn:=hnn i hi;obtain⟨ep,eq⟩:=hend i hi;rcases hm with h|h|h|h
 .exact key _ ep hn.1 (au.2 (.inl rfl)) (au.2 (.inl h.symm))
 .exact key _ ep hn.1 (au.2 (.inl rfl)) (au.2 (.inr h.symm))
 .exact key _ eq hn.2 (au.2 (.inr rfl)) (au.2 (.inl h.symm))
 .exact key _ eq hn.2 (au.2 (.inr rfl)) (au.2 (.inr h.symm))
end
theorem fD.paths (hP:fD m p q) (hs:bZ m p q) (hl:∀e,e<m->p e<n/\q e<n) {m':Nat} {p' q':Nat->Nat} (hs':bZ m' p' q') (τ:Nat->Nat)
 (hτ:∀x y,aX m' p' q' x->aX m' p' q' y->τ x=τ y->x=y) (T:Nat->List Nat) (VZ:∀i,i<m'->T i≠[]) (VY:∀i,i<m'->(T i).Nodup) (hT:∀i,i<m'->jR m p q (τ (p' i)) (T i) (τ (q' i)))
 (hap:∀i j,i<m'->j<m'->i≠j->¬meet p' q' i j->∀e∈T i,∀f∈T j,¬meet p q e f):fD m' p' q':=by
 obtain⟨W,hW⟩:=hP;have hlt:∀{l:List Nat} {x y:Nat},jR m p q x l y->∀e∈l,e<m:=fun {l}=>by
  induction l with
  |nil=>intro _ _ _ e he;cases he
  |cons a l ih=>
   rintro x y ⟨_,h1,z,_,h3⟩ e he;rcases aaj.1 he with rfl|he
   .exact h1
   .exact ih h3 e he
 have qJ:∀i,i<m'->∀v,gY m p q (aR (T i)) v=(decide (τ (p' i)=v) ^^ decide (τ (q' i)=v)):=fun i hi v=>(hT i hi).goes.gY hs.1 (VY i hi) v
 have hend:∀i,i<m'->aX m' p' q' (p' i)/\aX m' p' q' (q' i):=fun i hi=>⟨⟨i,hi,.inl rfl⟩,⟨i,hi,.inr rfl⟩⟩
 have Gp:=z8 (m:=m) (p:=p) (q:=q) hs' hτ qJ;refine⟨fun i j=>fm m W (aR (T i)) (aR (T j)),⟨fun i hi=>(hT i hi).self hW.tn hs hl (VZ i hi) (VY i hi),fun i j hi hj hne hm=> ?_,fun i j hi hj hne hm=> ?_,fun a b ha hb=> ?_⟩⟩
 .have:fm m W (aR (T i)) (aR (T j))=fm m (fun _ _=>false) (aR (T i)) (aR (T j)):=cV (fun _ _=>rfl) (fun _ _=>rfl) fun e f he hf h1 h2=>by
   have h1:e∈T i:=by simpa[aR] using h1
   have h2:f∈T j:=by simpa[aR] using h2
   have h3:=hap i j hi hj hne hm e h1 f h2;have cQ:e≠f:=fun e'=>h3 (by subst e';exact .inl rfl)
   exact hW.apart e f he hf cQ h3
  show fm m W (aR (T i)) (aR (T j))=false;rw[this];exact aD fun e _=>aD fun f _=>by simp
 .have ht:=Ej hW.tn hs hl (aR (T i)) (aR (T j))
  have hd:=Ei hs' hτ qJ (fun i hi=>hgn hl (VZ i hi) (hT i hi)) hi hj hne hm;rw[hd] at ht;show fm m W (aR (T i)) (aR (T j))= !fm m W (aR (T j)) (aR (T i));generalize fm m W (aR (T i)) (aR (T j))=A at ht ⊢;generalize fm m W (aR (T j)) (aR (T i))=B at ht ⊢;cases A<;>cases B<;>first|rfl|(cases ht)
 .have lift:∀c:Nat->Bool,Ev m' p' q' c->Ev m p q (fun e=>px m' fun i=>c i&&aR (T i) e):=fun c hc v=>by
   have e1:px m (fun e=>px m' (fun i=>c i&&aR (T i) e)&&inc p q e v)=px m' (fun i=>c i&&gY m p q (aR (T i)) v):=by
    have e2:px m (fun e=>px m' (fun i=>c i&&aR (T i) e)&&inc p q e v)=px m (fun e=>px m' fun i=>c i&&(aR (T i) e&&inc p q e v)):=aA fun e _=>by
     rw[<-tJ];exact aA fun i _=>Bool.and_assoc _ _ _
    rw[e2,kI];exact aA fun i _=>jt _ _ _
   rw[e1];by_cases hx:∃x,aX m' p' q' x/\τ x=v
   .obtain⟨x,hx,rfl⟩:=hx
    rw[<-hc x];exact aA fun i hi=>by rw[Gp i hi x hx]
   .refine aD fun i hi=> ?_
    rw[qJ i hi];have c3:¬ τ (p' i)=v:=fun h=>hx ⟨_,(hend i hi).1,h⟩
    have c4:¬ τ (q' i)=v:=fun h=>hx ⟨_,(hend i hi).2,h⟩
    simp[c3,c4]
  have h0:=hW.zero _ _ (lift a ha) (lift b hb);rw[tZ (fun e f=>W e f) (fun i e=>a i&&aR (T i) e)] at h0;rw[<-h0];unfold fm;refine aA fun i hi=> ?_
  have h3:=tY (m:=m) W (fun e=>a i&&aR (T i) e) (fun j f=>b j&&aR (T j) f) m';unfold fm at h3;rw[h3];refine aA fun j hj=> ?_
  rw[<-jt,<-jt];cases hai:a i<;>cases IU:b j
  .exact(aD fun e _=>by simp).trans (aD fun e _=>aD fun f _=>by simp).symm
  .exact(aD fun e _=>by simp).trans (aD fun e _=>aD fun f _=>by simp).symm
  .exact(aD fun e _=>by simp).trans (aD fun e _=>aD fun f _=>by simp).symm
  .exact aA fun e _=>by simp
end
end Pl
end
section
namespace Pl
section
variable {m n m':Nat} {p q p' q':Nat->Nat} {τ κ:Nat->Nat} {T:Nat->List Nat} {S S':Nat->Prop}
theorem lJ.Zy {W:Nat->Nat->Bool} (hW:lJ m' p' q' S' W) (hs:bZ m p q) (hl:∀e,e<m->p e<n/\q e<n) (hs':bZ m' p' q')
 (hτ:∀x y,aX m' p' q' x->aX m' p' q' y->τ x=τ y->x=y) (VZ:∀i,i<m'->T i≠[]) (VY:∀i,i<m'->(T i).Nodup) (hT:∀i,i<m'->jR m p q (τ (p' i)) (T i) (τ (q' i)))
 (hκ:∀e,e<m->κ e<m'/\e∈T (κ e)) (Sm:∀i,i<m'->∀e∈T i,κ e=i)
 (hap:∀i j,i<m'->j<m'->i≠j->¬meet p' q' i j->∀e∈T i,∀f∈T j,¬meet p q e f)
 (hc:∀a,Ev m p q a->(∀e,e<m->a e=true->S e)->∃c,Ev m' p' q' c/\(∀i,i<m'->c i=true->S' i)/\∀e,e<m->a e=c (κ e)):∃W,lJ m p q S W:=by
 classical
 let V:Nat->Nat->Bool:=fun i j=>if S' i/\S' j then W i j else decide (i<j)
 let W':Nat->Nat->Bool:=fun e f=>if κ e=κ f then decide (e=f)||(decide (meet p q e f)&&decide (e<f)) else V (κ e) (κ f)&&decide (meet p q e f)
 have hVt:∀i j,i<m'->j<m'->i≠j->meet p' q' i j->V i j= !V j i:=fun i j hi hj hne hm=>by
  simp only[V];by_cases h:S' i/\S' j
  .rw[if_pos h,if_pos ⟨h.2,h.1⟩]
   exact hW.turn i j hi hj h.1 h.2 hne hm
  .rw[if_neg h,if_neg (fun k=>h ⟨k.2,k.1⟩)]
   by_cases c:i<j
   .have:¬j<i:=by omega
    simp[c,this]
   .have:j<i:=by omega
    simp[c,this]
 have V0:Cr m p q W':=by
  refine⟨fun e he=> ?_,fun e f he hf hne hm=> ?_,fun e f he hf hne hm=> ?_⟩
  .simp[W']
  .simp only[W']
   split<;>simp[hm,hne]
  .have hm2:meet p q f e:=meet_comm hm
   simp only[W'];by_cases h:κ e=κ f
   .rw[if_pos h,if_pos h.symm]
    by_cases c:e<f
    .have h1:¬f<e:=by omega
     have h2:¬f=e:=by omega
     simp[hm,c,h1,h2]
    .have h1:f<e:=by omega
     have h2:¬f=e:=by omega
     simp[hm,hm2,c,h1,hne]
   .rw[if_neg h,if_neg (fun k=>h k.symm)]
    have Sw:meet p' q' (κ e) (κ f):=abO fun hn=>hap _ _ (hκ e he).1 (hκ f hf).1 h hn e (hκ e he).2 f (hκ f hf).2 hm
    rw[hVt _ _ (hκ e he).1 (hκ f hf).1 h Sw];simp[hm,hm2]
 have qJ:∀i,i<m'->∀v,gY m p q (aR (T i)) v=(decide (τ (p' i)=v) ^^ decide (τ (q' i)=v)):=fun i hi v=>(hT i hi).goes.gY hs.1 (VY i hi) v
 have hoff:∀{i j},i<m'->j<m'->i≠j->fm m W' (aR (T i)) (aR (T j))=(V i j&&fm m (fun e f=>decide (meet p q e f)) (aR (T i)) (aR (T j))):=fun {i j} hi hj hne=>by
  have e1:fm m W' (aR (T i)) (aR (T j))=fm m (fun e f=>V i j&&decide (meet p q e f)) (aR (T i)) (aR (T j)):=cV (fun _ _=>rfl) (fun _ _=>rfl) fun e f he hf h1 h2=>by
   have h1:e∈T i:=by simpa[aR] using h1
   have h2:f∈T j:=by simpa[aR] using h2
   have k1:=Sm i hi e h1;have k2:=Sm j hj f h2;simp only[W',k1,k2,if_neg hne]
  rw[e1];cases hv:V i j
  .exact aD fun e _=>aD fun f _=>by simp
  .simp
 have hval:∀i j,i<m'->j<m'->S' i->S' j->fm m W' (aR (T i)) (aR (T j))=W i j:=fun i j hi hj si sj=>by
  by_cases hij:i=j
  .subst hij
   rw[(hT i hi).self V0 hs hl (VZ i hi) (VY i hi),hW.self i hi si]
  .have hVW:V i j=W i j:=by simp only[V];rw[if_pos ⟨si,sj⟩]
   have ahz:V j i=W j i:=by simp only[V];rw[if_pos ⟨sj,si⟩]
   by_cases hm:meet p' q' i j
   .have ht:=Ej V0 hs hl (aR (T i)) (aR (T j))
    rw[Ei hs' hτ qJ (fun i hi=>hgn hl (VZ i hi) (hT i hi)) hi hj hij hm] at ht;rw[hoff hi hj hij,hoff hj hi (fun e=>hij e.symm),hVW,ahz,hW.turn i j hi hj si sj hij hm] at ht;rw[hoff hi hj hij,hVW,hW.turn i j hi hj si sj hij hm];generalize fm m (fun e f=>decide (meet p q e f)) (aR (T i)) (aR (T j))=A at ht ⊢;generalize fm m (fun e f=>decide (meet p q e f)) (aR (T j)) (aR (T i))=B at ht ⊢;revert ht;cases W j i<;>cases A<;>cases B<;>decide
   .rw[hoff hi hj hij,hW.apart i j hi hj si sj hij hm]
    have:fm m (fun e f=>decide (meet p q e f)) (aR (T i)) (aR (T j))=fm m (fun _ _=>false) (aR (T i)) (aR (T j)):=cV (fun _ _=>rfl) (fun _ _=>rfl) fun e f he hf h1 h2=>by
     have h1:e∈T i:=by simpa[aR] using h1
     have h2:f∈T j:=by simpa[aR] using h2
     simp[hap i j hi hj hij hm e h1 f h2]
    rw[this,show fm m (fun _ _=>false) (aR (T i)) (aR (T j))=false from aD fun e _=>aD fun f _=>by simp];simp
 refine⟨W',⟨fun e he _=>V0.self e he,fun e f he hf _ _ hne hm=>V0.apart e f he hf hne hm,fun e f he hf _ _ hne hm=>V0.turn e f he hf hne hm,fun a b ha hb sa sb=> ?_⟩⟩;obtain⟨c,hc1,hc2,hc3⟩:=hc a ha sa;obtain⟨d,BL,hd2,Zg⟩:=hc b hb sb;have hsum:∀(a c:Nat->Bool),(∀e,e<m->a e=c (κ e))->∀e,e<m->a e=px m' fun i=>c i&&aR (T i) e:=fun a c h e he=>by
  rw[h e he,aK (hκ e he).1 (fun i hi hne=> ?_)]
  .simp[aR,(hκ e he).2]
  .have:e∉T i:=fun hm=>hne (Sm i hi e hm).symm
   simp[aR,this]
 rw[cV (hsum a c hc3) (hsum b d Zg) (fun _ _ _ _ _ _=>rfl),tZ (fun e f=>W' e f) (fun i e=>c i&&aR (T i) e)];rw[<-hW.zero c d hc1 BL hc2 hd2];unfold fm;refine aA fun i hi=> ?_
 have h3:=tY (m:=m) W' (fun e=>c i&&aR (T i) e) (fun j f=>d j&&aR (T j) f) m';unfold fm at h3;rw[h3];refine aA fun j hj=> ?_
 cases hai:c i<;>cases IU:d j
 .exact aD fun e _=>aD fun f _=>by simp
 .exact aD fun e _=>aD fun f _=>by simp
 .exact aD fun e _=>aD fun f _=>by simp
 .rw[<-hval i j hi hj (hc2 i hi hai) (hd2 j hj IU)]
  exact aA fun e _=>aA fun f _=>by simp
theorem lJ.YC {W:Nat->Nat->Bool} (hW:lJ m p q S W) {s:Nat->Nat} (hs:∀i,i<m'->s i<m/\S (s i)) (hi:∀i j,i<m'->j<m'->s i=s j->i=j):fD m' (fun i=>p (s i)) (fun i=>q (s i)):=by
 refine⟨fun i j=>W (s i) (s j),fun i hi'=>hW.self _ (hs i hi').1 (hs i hi').2,fun i j hi' hj hne hm=>hW.apart _ _ (hs i hi').1 (hs j hj).1 (hs i hi').2 (hs j hj).2 (fun e=>hne (hi i j hi' hj e)) hm,fun i j hi' hj hne hm=>hW.turn _ _ (hs i hi').1 (hs j hj).1 (hs i hi').2 (hs j hj).2 (fun e=>hne (hi i j hi' hj e)) hm,fun a b ha hb=> ?_⟩;rw[<-yJ (fun i hi'=>(hs i hi').1) W a b];have ev:∀{a:Nat->Bool},Ev m' (fun i=>p (s i)) (fun i=>q (s i)) a->Ev m p q (push m' s a):=fun {a} ha v=>(qm (fun i hi'=>(hs i hi').1) a (fun e=>inc p q e v)).trans (ha v)
 have inS:∀{a:Nat->Bool} e,e<m->push m' s a e=true->S e:=fun {a} e _ h=>abO fun hn=>by
  have:push m' s a e=false:=aD fun i hi'=>by
   have:¬s i=e:=fun k=>hn (k▸(hs i hi').2)
   simp[this]
  rw[this] at h;cases h
 exact hW.zero _ _ (ev ha) (ev hb) inS inS
def skip (k i:Nat):Nat:=if i<k then i else i+1
theorem TU (k i:Nat):skip k i≠k:=by
 unfold skip
 split<;>omega
theorem jH {k i m:Nat} (h:i<m):skip k i<m+1:=by
 unfold skip
 split<;>omega
theorem uR {k i j:Nat} (h:skip k i=skip k j):i=j:=by
 unfold skip at h
 split at h<;>split at h<;>omega
theorem TT {k e m:Nat} (he:e<m+1) (hne:e≠k) (hk:k<m+1):∃i,i<m/\skip k i=e:=by
 by_cases c:e<k
 .exact⟨e,by omega,if_pos c⟩
 .exact⟨e-1,by omega,by unfold skip;rw[if_neg (by omega)];omega⟩
theorem Kh {k:Nat} (hk:k<m+1) (h:fD m (fun i=>p (skip k i)) (fun i=>q (skip k i))):∃W,lJ (m+1) p q (fun e=>e≠k) W:=
 Uf h (fun _ hi=>jH hi) (fun _ _ _ _ h=>uR h) fun _ he hne=>TT he hne hk
end
end Pl
end
section
namespace Pl
theorem F5:∀{l1 l2:List Nat},l1.Nodup->(∀x∈l1,x∈l2)->l1.length<=l2.length
 |[],_,_,_=>ab6 _
 |a::l1,l2,hn,hs=>by
  have ha:a∈l2:=hs a aai;obtain⟨hna,hn'⟩:=acr.1 hn;have h1:=F5 (l1:=l1) (l2:=l2.erase a) hn' (fun x hx=>(aed (fun e=>hna (by rw[<-e];exact hx))).2 (hs x (aak _ hx)));have h2:=aej ha;have h3:=List.length_pos_of_mem ha;show l1.length+1<=l2.length;omega
theorem zN {l:List Nat} {n:Nat} (h:l.Nodup) (hl:∀x∈l,x<n):l.length<=n:=by
 have:=F5 h (l2:=List.range n) (fun x hx=>ab1.2 (hl x hx));rwa[ae8] at this
def it (f:Nat->Nat):Nat->Nat->Nat
 |0,x=>x
 |k+1,x=>it f k (f x)
theorem Qi (f:Nat->Nat):∀(a b x:Nat),it f (a+b) x=it f a (it f b x)
 |_,0,_=>rfl
 |a,b+1,x=>Qi f a b (f x)
section
variable {n:Nat} {f:Nat->Nat} (hf:∀x,x<n->f x<n) (hi:∀x y,x<n->y<n->f x=f y->x=y)
include hf
theorem NQ:∀(k:Nat) {x:Nat},x<n->it f k x<n
 |0,_,hx=>hx
 |k+1,_,hx=>NQ k (hf _ hx)
include hi
end
open Classical in
noncomputable def firsts (n:Nat) (f:Nat->Nat):List Nat:=(List.range n).filter fun h=>decide (∀k,h<=it f k h)
open Classical in
theorem AU {n:Nat} {f:Nat->Nat} {h:Nat}:h∈firsts n f↔h<n/\∀k,h<=it f k h:=by
 unfold firsts;rw[acK,ab1,decide_eq_true_iff]
section
variable {n:Nat} {f:Nat->Nat} (hf:∀x,x<n->f x<n) (hi:∀x y,x<n->y<n->f x=f y->x=y)
include hf
theorem Ac {x:Nat} (hx:x<n):∃k,it f k x∈firsts n f:=by
 have key:∀(d k:Nat),it f k x<=d->∃k,it f k x∈firsts n f:=by
  intro d
  induction d with
  |zero=>
   intro k hk;exact⟨k,AU.2 ⟨NQ hf k hx,fun j=>by omega⟩⟩
  |succ d ih=>
   intro k hk;by_cases h:∀j,it f k x<=it f j (it f k x)
   .exact⟨k,AU.2 ⟨NQ hf k hx,h⟩⟩
   .have:∃j,it f j (it f k x)<it f k x:=abO fun hn=>h fun j=>Nat.le_of_not_lt fun hlt=>hn ⟨j,hlt⟩
    obtain⟨j,hj⟩:=this;exact ih (j+k) (by rw[Qi];omega)
 exact key _ 0 (aad _)
include hi
end
end Pl
end
section
namespace Pl
structure DF (n m:Nat) where
 fr:Nat->Nat
 go:Nat->Nat
 tree:Nat->Bool
 ay:Nat->Int
 bP:Nat->Nat->Prop
 lt:∀e,e<m->fr e<n/\go e<n
 refl:∀v,v<n->bP v v
 trans:∀{a b c:Nat},bP a b->bP b c->bP a c
 up:∀{u v:Nat},u<n->v<n->bP u v->u≠v->ay u<ay v
 cmp:∀{a b c:Nat},a<n->b<n->c<n->bP a c->bP b c->ay a<=ay b->bP a b
 bS:∀e,e<m->tree e=true->ay (go e)=ay (fr e)+1/\bP (fr e) (go e)
 one:∀e f,e<m->f<m->tree e=true->tree f=true->go e=go f->e=f
 par:∀{e a:Nat},e<m->a<n->tree e=true->bP a (go e)->a≠go e->bP a (fr e)
 back:∀e,e<m->tree e=false->bP (go e) (fr e)/\go e≠fr e
 child:∀{w v:Nat},w<n->v<n->bP w v->w≠v->∃k,k<m/\tree k=true/\fr k=w/\bP (go k) v
 simple:∀e f,e<m->f<m->e≠f->¬(fr e=fr f/\go e=go f)/\¬(fr e=go f/\go e=fr f)
 low:∀v,v<n->0<=ay v/\ay v<n
namespace DF
variable {n m:Nat} (T:DF n m)
theorem ne {e:Nat} (he:e<m):T.fr e≠T.go e:=fun h=>by
 cases ht:T.tree e with
 |true=>have:=(T.bS e he ht).1;rw[<-h] at this;omega
 |false=>exact(T.back e he ht).2 h.symm
theorem same {a b c:Nat} (ha:a<n) (hb:b<n) (hc:c<n) (h1:T.bP a c) (h2:T.bP b c) (h:T.ay a=T.ay b):a=b:=
 abO fun hne=>by
  have:=T.up ha hb (T.cmp ha hb hc h1 h2 (by omega)) hne;omega
theorem le {a b:Nat} (ha:a<n) (hb:b<n) (h:T.bP a b):T.ay a<=T.ay b:=by
 by_cases e:a=b
 .rw[e];omega
 .have:=T.up ha hb h e;omega
open Classical in
noncomputable def bL (b e:Nat):Bool:=decide (e=b)||(T.tree e&&(decide (T.bP (T.go e) (T.fr b))&&decide (T.ay (T.go b)<=T.ay (T.fr e))))
def On (b z:Nat):Prop:=T.bP (T.go b) z/\T.bP z (T.fr b)
variable {T}
theorem bU {b e:Nat}:T.bL b e=true↔e=b\/(T.tree e=true/\T.bP (T.go e) (T.fr b)/\T.ay (T.go b)<=T.ay (T.fr e)):=by
 unfold bL;simp
theorem ig {b e:Nat} (hb:b<m) (tb:T.tree b=false) (he:e<m) (h:T.bL b e=true):T.On b (T.fr e):=by
 obtain⟨bf,bg⟩:=T.lt b hb;obtain⟨ef,eg⟩:=T.lt e he;rcases bU.1 h with rfl|⟨h1,h2,h3⟩
 .exact⟨(T.back e hb tb).1,T.refl _ bf⟩
 .have h4:=T.trans (T.bS e he h1).2 h2
  exact⟨T.cmp bg ef bf (T.back b hb tb).1 h4 h3,h4⟩
theorem gG {b e f:Nat} (hb:b<m) (he:e<m) (hf:f<m) (h1:T.bL b e=true) (h2:T.bL b f=true) (h:T.fr e=T.fr f):e=f:=by
 obtain⟨bf,bg⟩:=T.lt b hb;have no:∀{g:Nat},g<m->T.tree g=true->T.bP (T.go g) (T.fr b)->T.fr g≠T.fr b:=fun {g} hg tg ha hh=>by
  have:=T.le (T.lt g hg).2 bf ha;have:=(T.bS g hg tg).1;rw[hh] at this;omega
 rcases bU.1 h1 with rfl|⟨t1,a1,_⟩<;>rcases bU.1 h2 with rfl|⟨t2,a2,_⟩
 .rfl
 .exact absurd h.symm (no hf t2 a2)
 .exact absurd h (no he t1 a1)
 .have e1:=(T.bS e he t1).1
  have e2:=(T.bS f hf t2).1;rw[h] at e1;exact T.one e f he hf t1 t2 (T.same (T.lt e he).2 (T.lt f hf).2 bf a1 a2 (by omega))
theorem kV {b z:Nat} (hb:b<m) (hz:z<n) (h:T.On b z):∃e,e<m/\T.bL b e=true/\T.fr e=z:=by
 obtain⟨bf,bg⟩:=T.lt b hb;by_cases e:z=T.fr b
 .exact⟨b,hb,bU.2 (.inl rfl),e.symm⟩
 .obtain⟨k,hk,tk,fk,ak⟩:=T.child hz bf h.2 e
  refine⟨k,hk,bU.2 (.inr ⟨tk,ak,?_⟩),fk⟩;rw[fk];exact T.le bg hz h.1
theorem Jc {b e z:Nat} (hb:b<m) (he:e<m) (h:T.bL b e=true) (hz:z<n) (h1:T.bP (T.fr e) z) (h2:T.fr e≠z) (h3:T.bP z (T.fr b)):T.tree e=true/\T.bP (T.go e) z:=by
 obtain⟨bf,bg⟩:=T.lt b hb;rcases bU.1 h with rfl|⟨t1,a1,_⟩
 .exfalso
  have:=T.up bf hz h1 h2;have:=T.le hz bf h3;omega
 .refine⟨t1,T.cmp (T.lt e he).2 hz bf a1 h3 ?_⟩
  have:=T.up (T.lt e he).1 hz h1 h2;have:=(T.bS e he t1).1;omega
theorem Yq {e f z:Nat} (he:e<m) (hf:f<m) (te:T.tree e=true) (tf:T.tree f=true) (hz:z<n) (h:T.fr e=T.fr f) (h1:T.bP (T.go e) z) (h2:T.bP (T.go f) z):e=f:=by
 have e1:=(T.bS e he te).1;have e2:=(T.bS f hf tf).1;rw[h] at e1;exact T.one e f he hf te tf (T.same (T.lt e he).2 (T.lt f hf).2 hz h1 h2 (by omega))
open Classical in
theorem ZA {b:Nat} (hb:b<m) (tb:T.tree b=false) {z:Nat} (hz:z<n):px m (fun e=>T.bL b e&&decide (T.fr e=z))=decide (T.On b z):=by
 by_cases h:T.On b z
 .rw[decide_eq_true h]
  obtain⟨e,he,h1,h2⟩:=kV hb hz h;rw[aK he (fun f hf hne=> ?_)]
  .rw[h1,decide_eq_true h2];rfl
  .cases h3:T.bL b f with
   |false=>rfl
   |true=>
    rw[decide_eq_false (fun h4=>hne (gG hb hf he h3 h1 (h4.trans h2.symm)))];rfl
 .rw[decide_eq_false h]
  refine aD fun e he=> ?_
  cases h3:T.bL b e with
  |false=>rfl
  |true=>
   rw[decide_eq_false (fun (h4:T.fr e=z)=>h (h4▸ig hb tb he h3))];rfl
open Classical in
theorem Zz {b:Nat} (hb:b<m) (tb:T.tree b=false) {z:Nat} (hz:z<n):px m (fun e=>T.bL b e&&decide (T.go e=z))=decide (T.On b z):=by
 obtain⟨bf,bg⟩:=T.lt b hb;obtain⟨b1,b2⟩:=T.back b hb tb;have in_:∀{e:Nat},e<m->T.tree e=true->T.bL b e=true->T.On b (T.go e)/\T.go b≠T.go e:=fun {e} he te h=>by
  rcases bU.1 h with rfl|⟨_,a1,h3⟩
  .rw[tb] at te;cases te
  .have e1:=(T.bS e he te).1
   refine⟨⟨T.cmp bg (T.lt e he).2 bf b1 a1 (by omega),a1⟩,fun h=> ?_⟩;rw[h] at h3;omega
 by_cases h:T.On b z
 .rw[decide_eq_true h]
  by_cases hw:T.go b=z
  .rw[aK hb (fun f hf hne=> ?_)]
   .rw[bU.2 (.inl rfl),decide_eq_true hw];rfl
   .cases h3:T.bL b f with
    |false=>rfl
    |true=>
     rw[decide_eq_false (fun h4=> ?_)]
     .rfl
     .rcases bU.1 h3 with e1|⟨tf,_⟩
      .exact hne e1
      .exact(in_ hf tf h3).2 (hw.trans h4.symm)
  ·
   obtain⟨k,hk,tk,fk,ak⟩:=T.child bg hz h.1 hw;have:∃e,e<m/\T.tree e=true/\T.go e=z/\T.ay (T.go b)<=T.ay (T.fr e):=by
    have step:∀(d:Nat) (k:Nat),k<m->T.tree k=true->T.bP (T.go k) z->T.ay (T.go b)<=T.ay (T.fr k)->T.ay z<=T.ay (T.go k)+d->∃e,e<m/\T.tree e=true/\T.go e=z/\T.ay (T.go b)<=T.ay (T.fr e):=by
     intro d
     induction d with
     |zero=>
      intro k hk tk ak hh hd;by_cases e1:T.go k=z
      .exact⟨k,hk,tk,e1,hh⟩
      .have:=T.up (T.lt k hk).2 hz ak e1
       omega
     |succ d ih=>
      intro k hk tk ak hh hd;by_cases e1:T.go k=z
      .exact⟨k,hk,tk,e1,hh⟩
      .obtain⟨k',hk',JQ,OO,Xe⟩:=T.child (T.lt k hk).2 hz ak e1
       have e2:=(T.bS k hk tk).1;have e3:=(T.bS k' hk' JQ).1;rw[OO] at e3;exact ih k' hk' JQ Xe (by rw[OO];omega) (by omega)
    refine step n k hk tk ak (by rw[fk];omega) ?_;have:=T.low z hz;have:=T.low _ (T.lt k hk).2;omega
   obtain⟨e,he,te,ge,hh⟩:=this;have hce:T.bL b e=true:=bU.2 (.inr ⟨te,by rw[ge];exact h.2,hh⟩);rw[aK he (fun f hf hne=> ?_)]
   .rw[hce,decide_eq_true ge];rfl
   .cases h3:T.bL b f with
    |false=>rfl
    |true=>
     rw[decide_eq_false (fun h4=> ?_)]
     .rfl
     .rcases bU.1 h3 with e1|⟨tf,_⟩
      .exact hw (by rw[<-e1];exact h4)
      .exact hne (T.one f e hf he tf te (h4.trans ge.symm))
 .rw[decide_eq_false h]
  refine aD fun e he=> ?_
  cases h3:T.bL b e with
  |false=>rfl
  |true=>
   rw[decide_eq_false (fun h4=> ?_)]
   .rfl
   .rcases bU.1 h3 with e1|⟨te,_⟩
    .rw[e1] at h4
     exact h (by rw[<-h4];exact⟨T.refl _ bg,b1⟩)
    .exact h (h4▸(in_ he te h3).1)
theorem UK {e v:Nat} (he:e<m):inc T.fr T.go e v=(decide (T.fr e=v) ^^ decide (T.go e=v)):=by
 have:=T.ne he;unfold inc;by_cases h1:T.fr e=v<;>by_cases h2:T.go e=v
 .omega
 .rw[decide_eq_true h1,decide_eq_false h2];rfl
 .rw[decide_eq_false h1,decide_eq_true h2];rfl
 .rw[decide_eq_false h1,decide_eq_false h2];rfl
theorem l9 {b:Nat} (hb:b<m) (tb:T.tree b=false):Ev m T.fr T.go (T.bL b):=fun v=>by
 have e1:px m (fun e=>T.bL b e&&inc T.fr T.go e v)=px m (fun e=>(T.bL b e&&decide (T.fr e=v)) ^^ (T.bL b e&&decide (T.go e=v))):=aA fun e he=>by
  rw[UK he];cases T.bL b e<;>simp
 rw[e1,fK];by_cases hv:v<n
 .rw[ZA hb tb hv,Zz hb tb hv]
  simp
 .rw[aD (fun e he=> ?_),aD (fun e he=> ?_)]
  .rfl
  .rw[decide_eq_false (fun h=>hv (by rw[<-h];exact(T.lt e he).2))];simp
  .rw[decide_eq_false (fun h=>hv (by rw[<-h];exact(T.lt e he).1))];simp
theorem Ev.xor {m:Nat} {p q:Nat->Nat} {a b:Nat->Bool} (ha:Ev m p q a) (hb:Ev m p q b):Ev m p q (fun e=>a e ^^ b e):=fun v=>by
 have e1:px m (fun e=>(a e ^^ b e)&&inc p q e v)=px m (fun e=>(a e&&inc p q e v) ^^ (b e&&inc p q e v)):=aA fun e _=>by
  cases a e<;>cases b e<;>cases inc p q e v<;>rfl
 rw[e1,fK,ha v,hb v];rfl
theorem Ev.sum {m:Nat} {p q:Nat->Nat} {a:Nat->Nat->Bool}:∀(k:Nat),(∀b,b<k->Ev m p q (a b))->Ev m p q (fun e=>px k (fun b=>a b e))
 |0,_=>fun v=>aD fun _ _=>rfl
 |k+1,h=>Ev.xor (Ev.sum k (fun b hb=>h b (by omega))) (h k (by omega))
theorem MW {a:Nat->Bool} (ha:Ev m T.fr T.go a) (h:∀e,e<m->T.tree e=false->a e=false):∀(d:Nat) (e:Nat),e<m->(n:Int)-T.ay (T.go e)<=d->a e=false:=by
 intro d
 induction d with
 |zero=>
  intro e he hd;have:=(T.low _ (T.lt e he).2).2;omega
 |succ d ih=>
  intro e he hd;cases te:T.tree e with
  |false=>exact h e he te
  |true=>
   have h1:=ha (T.go e);rw[aK he (fun f hf hne=> ?_)] at h1
   .rw[au.2 (.inr rfl),Bool.and_true] at h1
    exact h1
   .cases tf:T.tree f with
    |false=>rw[h f hf tf];rfl
    |true=>
     by_cases e1:T.fr f=T.go e
     .have e2:=(T.bS f hf tf).1
      rw[ih f hf (by rw[e1] at e2;omega)];rfl
     .have:inc T.fr T.go f (T.go e)=false:=by
       cases hi:inc T.fr T.go f (T.go e) with
       |false=>rfl
       |true=>
        rcases au.1 hi with h2|h2
        .exact absurd h2 e1
        .exact absurd (T.one f e hf he tf te h2) hne
      rw[this,afp]
theorem made {a:Nat->Bool} (ha:Ev m T.fr T.go a):∀e,e<m->a e=px m (fun b=>(a b&& !T.tree b)&&T.bL b e):=by
 have hr:Ev m T.fr T.go (fun e=>a e ^^ px m (fun b=>(a b&& !T.tree b)&&T.bL b e)):=by
  refine Ev.xor ha (Ev.sum m fun b hb=> ?_);cases tb:T.tree b with
  |true=>exact fun v=>aD fun e _=>by simp
  |false=>
   cases hab:a b with
   |false=>exact fun v=>aD fun e _=>by simp
   |true=>
    have:=l9 hb tb;exact fun v=>(aA fun e _=>by simp).trans (this v)
 intro e he;have h0:=MW hr (fun e he te=> ?_) n e he (by have:=(T.low _ (T.lt e he).2).1;omega)
 .cases h1:a e<;>cases h2:px m (fun b=>(a b&& !T.tree b)&&T.bL b e)<;>simp[h1,h2] at h0 ⊢
 .rw[aK he (fun b hb hne=> ?_)]
  .rw[te,bU.2 (.inl rfl)]
   cases a e<;>rfl
  .cases hc:T.bL b e with
   |false=>simp
   |true=>
    rcases bU.1 hc with e1|⟨e1,_⟩
    .exact absurd e1.symm hne
    .rw[te] at e1;cases e1
theorem WI {W:Nat->Nat->Bool} (h:∀b c,b<m->c<m->T.tree b=false->T.tree c=false->fm m W (T.bL b) (T.bL c)=false) {a a':Nat->Bool} (ha:Ev m T.fr T.go a) (ha':Ev m T.fr T.go a'):fm m W a a'=false:=by
 rw[cV (made ha) (made ha') (fun _ _ _ _ _ _=>rfl),tZ];refine aD fun b hb=> ?_
 rw[tY];refine aD fun c hc=> ?_
 cases h1:T.tree b with
 |true=>exact nN fun e _=>by simp
 |false=>
  cases h2:T.tree c with
  |true=>exact vD fun e _=>by simp
  |false=>
   cases h3:a b with
   |false=>exact nN fun e _=>by simp
   |true=>
    cases h4:a' c with
    |false=>exact vD fun e _=>by simp
    |true=>
     refine(cV (fun e _=> ?_) (fun e _=> ?_) (fun _ _ _ _ _ _=>rfl)).trans (h b c hb hc h1 h2)<;>simp
end DF
end Pl
end
end Go.Proofs.YtbhdibflpjhpaaaGreat
