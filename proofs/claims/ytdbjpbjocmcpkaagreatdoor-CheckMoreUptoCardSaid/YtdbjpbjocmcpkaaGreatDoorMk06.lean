import Derived.Test.YtdbjpbjocmcpkaaGreatDoorMk00
import Derived.BigQuiet
set_option maxHeartbeats 1000000
set_option maxRecDepth 100000
namespace Go.Proofs.YtdbjpbjocmcpkaaGreatDoor
section
namespace Co
def au (p:Nat->Bool):Nat->Nat
 |0=>0
 |k+1=>au p k+(if p k then 1 else 0)
theorem bC (p:Nat->Bool):∀k,au p k<=k
 |0=>aaD _
 |k+1=>by
  have:=bC p k;unfold au
  split<;>omega
theorem aO {p q:Nat->Bool}:∀k,(∀i,i<k->p i=q i)->au p k=au q k
 |0,_=>rfl
 |k+1,h=>by
  have ih:=aO k (fun i hi=>h i (by omega));unfold au;rw[ih,h k (by omega)]
theorem oI {p q s:Nat->Bool}:∀k,(∀i,i<k->((s i=(p i||q i))/\(p i&&q i)=false))->au s k=au p k+au q k
 |0,_=>rfl
 |k+1,h=>by
  have ih:=oI k (fun i hi=>h i (by omega));obtain⟨h1,h2⟩:=h k (by omega);unfold au;rw[ih,h1];cases hp:p k<;>cases hq:q k<;>rw[hp,hq] at h2<;>simp at h2 ⊢ <;>omega
theorem cS (h:Nat):∀k,au (fun i=>decide (i=h)) k=if h<k then 1 else 0
 |0=>rfl
 |k+1=>by
  have ih:=cS h k;unfold au;rw[ih];by_cases e:k=h
  .subst e
   simp
  .have e1:(if decide (k=h)=true then 1 else 0)=0:=if_neg (by simpa using e)
   rw[e1];by_cases hk:h<k
   .rw[if_pos hk,if_pos (by omega)]
   .rw[if_neg hk,if_neg (by omega)]
theorem qo {p:Nat->Bool} {x:Nat}:∀k,x<k->p x=true->0<au p k
 |0,h,_=>by omega
 |k+1,h,hp=>by
  unfold au;by_cases e:x=k
  .subst e;rw[hp];simp
  .have:=qo k (by omega) hp
   omega
structure Norm (n:Nat) (m:Nat->Nat):Prop where
 le:∀x,x<n->m x<=x
 idem:∀x,x<n->m (m x)=m x
theorem Norm.lt {n:Nat} {m:Nat->Nat} (h:Norm n m) {x:Nat} (hx:x<n):m x<n:=by
 have:=h.le x hx;omega
def cnt (n:Nat) (m:Nat->Nat):Nat:=au (fun i=>decide (m i=i)) n
def size (n:Nat) (m:Nat->Nat) (a:Nat):Nat:=au (fun i=>decide (m i=m a)) n
def join (m:Nat->Nat) (a b:Nat):Nat->Nat:=fun x=>if m x=max (m a) (m b) then min (m a) (m b) else m x
theorem join_comm (m:Nat->Nat) (a b:Nat):join m a b=join m b a:=by
 funext x;unfold join;rw[Nat.max_comm,Nat.min_comm]
theorem DI (n:Nat):Norm n (fun x=>x):=⟨fun _ _=>aaD _,fun _ _=>rfl⟩
theorem Js (n:Nat):cnt n (fun x=>x)=n:=by
 unfold cnt
 induction n with
 |zero=>rfl
 |succ n ih=>unfold au;rw[ih];simp
theorem LI {n a:Nat} (h:a<n):size n (fun x=>x) a=1:=by
 unfold size;rw[cS,if_pos h]
theorem PA (n:Nat) (m:Nat->Nat):cnt n m<=n:=bC _ _
theorem size_le (n:Nat) (m:Nat->Nat) (a:Nat):size n m a<=n:=bC _ _
section
variable {n:Nat} {m:Nat->Nat} {a b:Nat}
theorem dW (h:Norm n m) (ha:a<n) (hb:b<n) (hne:m a≠m b):∃lo hi,lo<hi/\hi<n/\m lo=lo/\m hi=hi/\((lo=m a/\hi=m b)\/(lo=m b/\hi=m a))/\∀x,join m a b x=if m x=hi then lo else m x:=by
 rcases Nat.lt_or_gt_of_ne hne with hlt|hlt
 .exact⟨m a,m b,hlt,h.lt hb,h.idem a ha,h.idem b hb,.inl ⟨rfl,rfl⟩,fun x=>by unfold join;rw[Nat.max_eq_right (by omega),Nat.min_eq_left (by omega)]⟩
 .exact⟨m b,m a,hlt,h.lt ha,h.idem b hb,h.idem a ha,.inr ⟨rfl,rfl⟩,fun x=>by unfold join;rw[Nat.max_eq_left (by omega),Nat.min_eq_right (by omega)]⟩
theorem Norm.join (h:Norm n m) (ha:a<n) (hb:b<n) (hne:m a≠m b):Norm n (join m a b):=by
 obtain⟨lo,hi,h1,h2,h3,h4,-,hj⟩:=dW h ha hb hne;refine⟨fun x hx=> ?_,fun x hx=> ?_⟩
 .rw[hj]
  have:=h.le x hx
  split<;>omega
 .rw[hj x]
  split
  .rw[hj,h3,if_neg (by omega)]
  .rename_i hx'
   rw[hj,h.idem x hx,if_neg hx']
theorem A3 (h:Norm n m) (ha:a<n) (hb:b<n) (hne:m a≠m b):cnt n (join m a b)+1=cnt n m:=by
 obtain⟨lo,hi,h1,h2,h3,h4,-,hj⟩:=dW h ha hb hne;have e:=oI (p:=fun i=>decide (join m a b i=i)) (q:=fun i=>decide (i=hi)) (s:=fun i=>decide (m i=i)) n (fun i hi'=>by
  rw[hj];by_cases e:i=hi
  .subst e
   rw[h4,if_pos rfl];have:¬lo=i:=by omega
   simp[this]
  .by_cases e2:m i=hi
   .rw[if_pos e2,e2]
    have h5:¬hi=i:=fun h=>e h.symm
    have h6:¬lo=i:=fun h=>by rw[<-h,h3] at e2;omega
    simp[h5,h6,e]
   .rw[if_neg e2]
    simp[e])
 rw[cS,if_pos h2] at e;unfold cnt;omega
theorem fX (h:Norm n m) (ha:a<n) (hb:b<n) (hne:m a≠m b) {x y:Nat} (_:x<n) (_:y<n):
 join m a b x=join m a b y↔(m x=m y\/((m x=m a\/m x=m b)/\(m y=m a\/m y=m b))):=by
 obtain⟨lo,hi,h1,h2,h3,h4,hc,hj⟩:=dW h ha hb hne;rw[hj,hj];by_cases ex:m x=hi<;>by_cases ey:m y=hi
 .rw[if_pos ex,if_pos ey];omega
 .rw[if_pos ex,if_neg ey];omega
 .rw[if_neg ex,if_pos ey];omega
 .rw[if_neg ex,if_neg ey];omega
theorem pg (h:Norm n m) (ha:a<n) (hb:b<n) (hne:m a≠m b) {x:Nat} (hx:x<n) (hm:m x=m a\/m x=m b):size n (join m a b) x=size n m a+size n m b:=by
 unfold size;refine oI n (fun i hi=> ?_);have:=fX h ha hb hne hi hx;rw[abO];simp only[decide_eq_true_eq,abw,Bool.and_eq_false_iff,decide_eq_false_iff_not,this];omega
theorem wD (h:Norm n m) (ha:a<n) (hb:b<n) (hne:m a≠m b) {x:Nat} (hx:x<n) (h1:m x≠m a) (h2:m x≠m b):size n (join m a b) x=size n m x:=by
 unfold size;refine aO n (fun i hi=> ?_);have:=fX h ha hb hne hi hx;rw[abO];simp only[decide_eq_true_eq,this];omega
theorem DY (h:Norm n m) (ha:a<n) (hb:b<n) (hne:m a≠m b) {x:Nat} (hm:m x=m a\/m x=m b):join m a b x=min (m a) (m b):=by
 obtain⟨lo,hi,h1,h2,h3,h4,hc,hj⟩:=dW h ha hb hne;rw[hj]
 split<;>omega
theorem Km (h:Norm n m) (ha:a<n) (hb:b<n) (hne:m a≠m b) {x:Nat} (h1:m x≠m a) (h2:m x≠m b):join m a b x=m x:=by
 obtain⟨lo,hi,_,_,_,_,hc,hj⟩:=dW h ha hb hne;rw[hj,if_neg];omega
end
structure jX (n:Nat) (P S L m r d:Nat->Nat):Prop where
 norm:Norm n m
 lt:∀x,x<n->P x<n
 rt:∀x,x<n->r x<n
 top:∀x,x<n->P (r x)=r x
 up:∀x,x<n->r (P x)=r x
 self:∀x,x<n->P x=x->r x=x
 deep:∀x,x<n->P x≠x->d (P x)<d x
 same:∀x y,x<n->y<n->(r x=r y↔m x=m y)
 sz:∀x,x<n->S (r x)=size n m x
 ls:∀x,x<n->L (r x)=m x
theorem jX.rr {n:Nat} {P S L m r d:Nat->Nat} (h:jX n P S L m r d) {x:Nat} (hx:x<n):r (r x)=r x:=h.self _ (h.rt x hx) (h.top x hx)
theorem G9 (n:Nat):jX n (fun x=>x) (fun _=>1) (fun x=>x) (fun x=>x) (fun x=>x) (fun _=>0):=
 ⟨DI n,fun _ h=>h,fun _ h=>h,fun _ _=>rfl,fun _ _=>rfl,fun _ _ _=>rfl,fun _ _ h=>absurd rfl h,fun _ _ _ _=>Iff.rfl,fun _ h=>(LI h).symm,fun _ _=>rfl⟩
def upd (f:Nat->Nat) (x y:Nat):Nat->Nat:=fun i=>if i=x then y else f i
theorem upd_same (f:Nat->Nat) (x y:Nat):upd f x y x=y:=by simp[upd]
theorem aU (f:Nat->Nat) {x y i:Nat} (h:i≠x):upd f x y i=f i:=by simp[upd,h]
theorem jX.hang {n:Nat} {P S L m r d:Nat->Nat} (h:jX n P S L m r d) {a b:Nat} (ha:a<n) (hb:b<n) (hne:r a≠r b):
 ∃r' d',jX n (upd P (r b) (r a)) (upd S (r a) (S (r a)+S (r b))) (upd L (r a) (min (L (r a)) (L (r b)))) (join m a b) r' d':=by
 have hm:m a≠m b:=fun e=>hne ((h.same a b ha hb).2 e)
 have hA:=h.rt a ha;have hB:=h.rt b hb;have UA:=h.rr ha;have Uz:=h.rr hb;have hkey:∀x,x<n->(r x=r a↔m x=m a)/\(r x=r b↔m x=m b):=fun x hx=>⟨h.same x a hx ha,h.same x b hx hb⟩
 refine⟨fun x=>if r x=r b then r a else r x,fun x=>if r x=r b then d x+d (r a)+1 else d x,h.norm.join ha hb hm,fun x hx=> ?_,fun x hx=> ?_,fun x hx=> ?_,fun x hx=> ?_,fun x hx hp=> ?_,fun x hx hp=> ?_,fun x y hx hy=> ?_,fun x hx=> ?_,fun x hx=> ?_⟩
 .unfold upd
  split
  .exact hA
  .exact h.lt x hx
 .split
  .exact hA
  .exact h.rt x hx
 .split
  .rw[aU _ hne];exact h.top a ha
  .rename_i e
   rw[aU _ e];exact h.top x hx
 .by_cases e:x=r b
  .subst e
   rw[upd_same,UA,Uz,if_neg hne,if_pos rfl]
  .rw[aU _ e,h.up x hx]
 .by_cases e:x=r b
  .subst e
   rw[upd_same] at hp;exact absurd hp hne
  .rw[aU _ e] at hp
   have:=h.self x hx hp;rw[if_neg (by rw[this];exact e)];exact this
 .by_cases e:x=r b
  .subst e
   rw[upd_same,UA,Uz,if_neg hne,if_pos rfl];omega
  .rw[aU _ e] at hp ⊢
   have:=h.deep x hx hp;rw[h.up x hx]
   split<;>omega
 .rw[fX h.norm ha hb hm hx hy]
  obtain⟨k1,k2⟩:=hkey x hx;obtain⟨k3,k4⟩:=hkey y hy;have k5:=h.same x y hx hy;rw[<-k1,<-k2,<-k3,<-k4,<-k5];by_cases ex:r x=r b<;>by_cases ey:r y=r b
  .rw[if_pos ex,if_pos ey];omega
  .rw[if_pos ex,if_neg ey];omega
  .rw[if_neg ex,if_pos ey];omega
  .rw[if_neg ex,if_neg ey];omega
 .obtain⟨k1,k2⟩:=hkey x hx
  by_cases ex:r x=r b
  .rw[if_pos ex,upd_same,pg h.norm ha hb hm hx (.inr (k2.1 ex)),h.sz a ha,h.sz b hb]
  .rw[if_neg ex]
   by_cases ea:r x=r a
   .rw[ea,upd_same,pg h.norm ha hb hm hx (.inl (k1.1 ea)),h.sz a ha,h.sz b hb]
   .rw[aU _ ea,h.sz x hx,wD h.norm ha hb hm hx (fun e=>ea (k1.2 e)) (fun e=>ex (k2.2 e))]
 .obtain⟨k1,k2⟩:=hkey x hx
  by_cases ex:r x=r b
  .rw[if_pos ex,upd_same,DY h.norm ha hb hm (.inr (k2.1 ex)),h.ls a ha,h.ls b hb]
  .rw[if_neg ex]
   by_cases ea:r x=r a
   .rw[ea,upd_same,DY h.norm ha hb hm (.inl (k1.1 ea)),h.ls a ha,h.ls b hb]
   .rw[aU _ ea,h.ls x hx,Km h.norm ha hb hm (fun e=>ea (k1.2 e)) (fun e=>ex (k2.2 e))]
def isIn (n:Nat) (x:Int):Prop:=0<=x/\x<(n:Int)
instance (n:Nat) (x:Int):Decidable (isIn n x):=inferInstanceAs (Decidable (_/\_))
def apart (n:Nat) (m:Nat->Nat) (a b:Int):Bool:=decide (isIn n a/\isIn n b/\m a.toNat≠m b.toNat)
def dX (n:Nat) (m:Nat->Nat) (a b:Int):Nat->Nat:=if apart n m a b then join m a.toNat b.toNat else m
def q7 (n:Nat) (m:Nat->Nat) (a:Int):Int:=if isIn n a then (m a.toNat:Int) else -1
theorem jy {n:Nat} {m:Nat->Nat} {a b:Int}:apart n m a b=true↔(isIn n a/\isIn n b/\m a.toNat≠m b.toNat):=by unfold apart;exact decide_eq_true_iff
theorem dY {n:Nat} {x:Int} (h:isIn n x):x.toNat<n:=by unfold isIn at h;omega
def joins (n:Nat) (js:List (Int×Int)) (m:Nat->Nat):Nat->Nat:=js.foldl (fun m j=>dX n m j.1 j.2) m
theorem uq (n:Nat) (js:List (Int×Int)) (j:Int×Int) (m:Nat->Nat):joins n (js++[j]) m=dX n (joins n js m) j.1 j.2:=by simp[joins,List.foldl_append]
def Ii (n:Nat) (js:List (Int×Int)) (f:Nat->Nat):Prop:=∀j∈js,isIn n j.1->isIn n j.2->f j.1.toNat=f j.2.toNat
structure Gen (n:Nat) (js:List (Int×Int)) (m:Nat->Nat):Prop where
 norm:Norm n m
 meets:Ii n js m
 least:∀f:Nat->Nat,Ii n js f->∀x,x<n->f (m x)=f x
theorem Gen.id (n:Nat):Gen n [] (fun x=>x):=⟨DI n,(fun _ h=>by cases h),fun _ _ _ _=>rfl⟩
theorem Gen.keep {n:Nat} {js:List (Int×Int)} {m:Nat->Nat} (h:Gen n js m) {j:Int×Int} (hj:¬(isIn n j.1/\isIn n j.2/\m j.1.toNat≠m j.2.toNat)):Gen n (js++[j]) m:=by
 refine⟨h.norm,fun k hk h1 h2=> ?_,fun f hf=>h.least f (fun k hk=>hf k (ab5 _ hk))⟩;rcases abl.1 hk with hk|hk
 .exact h.meets k hk h1 h2
 .obtain rfl:=aa6.1 hk
  exact acZ fun e=>hj ⟨h1,h2,e⟩
theorem Gen.join {n:Nat} {js:List (Int×Int)} {m:Nat->Nat} (h:Gen n js m) {j:Int×Int} (h1:isIn n j.1) (h2:isIn n j.2) (h3:m j.1.toNat≠m j.2.toNat):Gen n (js++[j]) (join m j.1.toNat j.2.toNat):=by
 have ha:=dY h1;have hb:=dY h2;refine⟨h.norm.join ha hb h3,fun k hk k1 k2=> ?_,fun f hf x hx=> ?_⟩
 .rcases abl.1 hk with hk|hk
  .exact(fX h.norm ha hb h3 (dY k1) (dY k2)).2 (.inl (h.meets k hk k1 k2))
  .obtain rfl:=aa6.1 hk
   exact(fX h.norm ha hb h3 (dY k1) (dY k2)).2 (.inr ⟨.inl rfl,.inr rfl⟩)
 .have hf':Ii n js f:=fun k hk=>hf k (ab5 _ hk)
  have hj:=hf j (List.mem_append_right _ (List.mem_singleton_self _)) h1 h2;have ea:=h.least f hf' _ ha;have eb:=h.least f hf' _ hb;have ex:=h.least f hf' x hx;obtain⟨lo,hi,_,_,_,_,hc,MS⟩:=dW h.norm ha hb h3;rw[MS]
  split
  .rename_i e
   rcases hc with ⟨e1,e2⟩|⟨e1,e2⟩
   .rw[e1,ea,hj,<-eb,<-e2,<-e,ex]
   .rw[e1,eb,<-hj,<-ea,<-e2,<-e,ex]
  .exact ex
theorem Gen.dX {n:Nat} {js:List (Int×Int)} {m:Nat->Nat} (h:Gen n js m) (j:Int×Int):Gen n (js++[j]) (dX n m j.1 j.2):=by
 unfold Co.dX
 split
 .rename_i e
  obtain⟨h1,h2,h3⟩:=jy.1 e;exact h.join h1 h2 h3
 .rename_i e
  exact h.keep (fun h=>e (jy.2 h))
theorem ym (n:Nat) (js:List (Int×Int)):Gen n js (joins n js (fun x=>x)):=by
 suffices h:∀(ks js:List (Int×Int)) (m:Nat->Nat),Gen n js m->Gen n (js++ks) (joins n ks m) by simpa using h js [] _ (Gen.id n)
 intro ks
 induction ks with
 |nil=>intro js m h;rw[abp];exact h
 |cons k ks ih=>
  intro js m h;have:=ih _ _ (h.dX k);rw[abr] at this;exact this
end Co
end
section
open Go.Proofs.Tryz
open Go.RowKit
namespace Co
def ints (n:Nat) (f:Nat->Nat):List Int:=(List.range n).map fun i=>(f i:Int)
theorem cJ (n:Nat) (f:Nat->Nat):(ints n f).length=n:=by simp[ints]
theorem ints_at {n i:Nat} {f:Nat->Nat} (h:i<n):(ints n f)[i]? =some (f i:Int):=by
 unfold ints;rw[aaY,ab8 h];rfl
theorem ur {n:Nat} {f g:Nat->Nat} (h:∀i,i<n->f i=g i):ints n f=ints n g:=by
 unfold ints;exact aby fun i hi=>by rw[h i (aaX.1 hi)]
theorem ints_set {n i:Nat} {f:Nat->Nat} (x:Nat) (_:i<n):(ints n f).set i (x:Int)=ints n (upd f i x):=by
 refine abz fun j=> ?_
 rw[aaR,cJ];by_cases hj:j<n
 .rw[ints_at hj,ints_at hj]
  by_cases e:i=j
  .subst e
   rw[if_pos rfl,if_pos hj,upd_same]
  .rw[if_neg e,aU _ (abM e)]
 .rw[aaS (by rw[cJ];omega),aaS (by rw[cJ];omega)]
  by_cases e:i=j
  .rw[if_pos e,if_neg (by omega)]
  .rw[if_neg e]
theorem xE (n:Nat):ints n (fun _=>0)=List.replicate n 0:=by
 refine abz fun j=> ?_
 rw[abB];by_cases hj:j<n
 .rw[ints_at hj,if_pos hj];rfl
 .rw[aaS (by rw[cJ];omega),if_neg hj]
end Co
def bE (w:World) (g n:Nat) (S L:Nat->Nat):Prop:=∃cs:List Value,w.heap[g]? =some (.cells cs.toArray 386 (0,0))/\cs.length=n*2/\∀i,i<n->cs[i*2]? =some (.int .i64 (S i:Int))/\cs[i*2+1]? =some (.int .i64 (L i:Int))
section
variable {w w':World} {g n:Nat} {S L:Nat->Nat}
theorem bE.lt (h:bE w g n S L):g<w.heap.size:=by
 obtain⟨cs,h,_⟩:=h;exact lt_of_block h
theorem bE.cell (h:bE w g n S L) {i:Nat} (hi:i<n):w.cell? ⟨g,i*2,none⟩=some (.int .i64 (S i:Int))/\w.cell? ⟨g,i*2+1,none⟩=some (.int .i64 (L i:Int)):=by
 obtain⟨cs,h,hl,hc⟩:=h;obtain⟨h1,h2⟩:=hc i hi;simp[World.cell?,h,h1,h2]
theorem bE.free (h:bE w g n S L) (i:Nat):w.frozen? ⟨g,i,none⟩=false:=by
 obtain⟨cs,h,_⟩:=h;simp[World.frozen?,h]
theorem bE.same (h:bE w g n S L) (hb:w'.heap[g]? =w.heap[g]?):bE w' g n S L:=by
 obtain⟨cs,h,hr⟩:=h;exact⟨cs,hb.trans h,hr⟩
theorem bE.congr {S' L':Nat->Nat} (h:bE w g n S L) (h1:∀i,i<n->S i=S' i) (h2:∀i,i<n->L i=L' i):bE w g n S' L':=by
 obtain⟨cs,h,hl,hc⟩:=h;exact⟨cs,h,hl,fun i hi=>by rw[<-h1 i hi,<-h2 i hi];exact hc i hi⟩
theorem bE.put (h:bE w g n S L) {i:Nat} (hi:i<n) (s l:Nat):
 bE ((w.setCell ⟨g,i*2,none⟩ (.int .i64 (s:Int))).setCell ⟨g,i*2+1,none⟩ (.int .i64 (l:Int))) g n (Co.upd S i s) (Co.upd L i l)/\(w.setCell ⟨g,i*2,none⟩ (.int .i64 (s:Int))).cell? ⟨g,i*2+1,none⟩=some (.int .i64 (L i:Int))/\(w.setCell ⟨g,i*2,none⟩ (.int .i64 (s:Int))).frozen? ⟨g,i*2+1,none⟩=false:=by
 obtain⟨cs,h,hl,hc⟩:=h;have h1:=heap_setCell_same w g (i*2) _ _ (.int .i64 (s:Int)) h;have h2:=heap_setCell_same _ g (i*2+1) _ _ (.int .i64 (l:Int)) h1;rw[abR] at h1;rw[abR,abR] at h2;refine⟨⟨_,h2,by simp[hl],fun j hj=> ?_⟩,?_,by simp[World.frozen?,h1]⟩
 .obtain⟨c1,c2⟩:=hc j hj
  by_cases e:j=i
  .subst e
   rw[Co.upd_same,Co.upd_same];constructor
   .rw[aaR,if_neg (by omega),aaR,if_pos rfl,if_pos (by omega)]
   .rw[aaR,if_pos rfl,if_pos (by simp;omega)]
  .rw[Co.aU _ e,Co.aU _ e]
   constructor
   .rw[aaR,if_neg (by omega),aaR,if_neg (by omega)];exact c1
   .rw[aaR,if_neg (by omega),aaR,if_neg (by omega)];exact c2
 .have:(cs.set (i*2) (.int .i64 (s:Int)))[i*2+1]? =some (.int .i64 (L i:Int)):=by
   rw[aaR,if_neg (by omega)];exact(hc i hi).2
  simp[World.cell?,h1,this]
end
structure aY (w:World) (p gp gt n c:Nat) (P S L:Nat->Nat):Prop where
 blk:w.heap[p]? =some (.cells #[.slice (some ⟨gp,0,none⟩) n n,.slice (some ⟨gt,0,none⟩) n n,.int .i64 (c:Int)] 384 (0,0))
 par:aB w gp (Co.ints n P)
 pP:bE w gt n S L
 d1:p≠gp
 d2:p≠gt
 d3:gp≠gt
def dO (w:World) (p gp gt n:Nat) (m:Nat->Nat):Prop:=n<=1048576/\∃P S L r d,aY w p gp gt n (Co.cnt n m) P S L/\Co.jX n P S L m r d
def e6 (w:World) (v:Option Addr) (n:Nat) (m:Nat->Nat):Prop:=(v=none/\n=0)\/∃p gp gt,v=some ⟨p,0,none⟩/\dO w p gp gt n m
section
variable {w w':World} {p gp gt n c:Nat} {P S L:Nat->Nat}
theorem aY.lt (h:aY w p gp gt n c P S L):p<w.heap.size:=lt_of_block h.blk
theorem aY.same (h:aY w p gp gt n c P S L) (hk:∀k,(k=p\/k=gp\/k=gt)->k<w.heap.size->w'.heap[k]? =w.heap[k]?):aY w' p gp gt n c P S L:=by
 have hl:=h.par.lt;obtain⟨rest,hp⟩:=h.par;exact⟨(hk p (.inl rfl) h.lt).trans h.blk,⟨rest,(hk gp (.inr (.inl rfl)) hl).trans hp⟩,h.pP.same (hk gt (.inr (.inr rfl)) h.pP.lt),h.d1,h.d2,h.d3⟩
theorem aY.c0 (h:aY w p gp gt n c P S L):w.cell? ⟨p,0,none⟩=some (.slice (some ⟨gp,0,none⟩) n n):=by simp[World.cell?,h.blk]
theorem aY.c1 (h:aY w p gp gt n c P S L):w.cell? ⟨p,1,none⟩=some (.slice (some ⟨gt,0,none⟩) n n):=by simp[World.cell?,h.blk]
theorem aY.c2 (h:aY w p gp gt n c P S L):w.cell? ⟨p,2,none⟩=some (.int .i64 (c:Int)):=by simp[World.cell?,h.blk]
end
section
variable {w w':World} {p gp gt n:Nat} {m:Nat->Nat} {v:Option Addr}
theorem dO.same (h:dO w p gp gt n m) (hk:∀k,(k=p\/k=gp\/k=gt)->k<w.heap.size->w'.heap[k]? =w.heap[k]?):dO w' p gp gt n m:=by
 obtain⟨hn,P,S,L,r,d,h,hf⟩:=h;exact⟨hn,P,S,L,r,d,h.same hk,hf⟩
theorem dO.later (h:dO w p gp gt n m) (hb:Below w.heap.size w w'):dO w' p gp gt n m:=h.same fun k _ h2=>hb.block k h2
theorem dO.norm (h:dO w p gp gt n m):Co.Norm n m:=by
 obtain⟨_,_,_,_,_,_,_,hf⟩:=h;exact hf.norm
theorem e6.later (h:e6 w v n m) (hb:Below w.heap.size w w'):e6 w' v n m:=by
 rcases h with h|⟨p,gp,gt,h1,h3⟩
 .exact .inl h
 .exact .inr ⟨p,gp,gt,h1,h3.later hb⟩
theorem e6.bound (h:e6 w v n m):n<=1048576:=by
 rcases h with ⟨_,rfl⟩|⟨p,gp,gt,_,h,_⟩
 .omega
 .exact h
theorem e6.norm (h:e6 w v n m):Co.Norm n m:=by
 rcases h with ⟨_,rfl⟩|⟨p,gp,gt,_,h⟩
 .exact⟨fun x hx=>by omega,fun x hx=>by omega⟩
 .exact h.norm
end
theorem J0 (gp n:Nat) (P r d:Nat->Nat) (a:Nat) (w:World) (hp:aB w gp (Co.ints n P)) (lt:∀x,x<n->P x<n) (self:∀x,x<n->P x=x->r x=x) (up:∀x,x<n->r (P x)=r x) (deep:∀x,x<n->P x≠x->d (P x)<d x) (ha:a<n):
 Calls prog 305 #[.slice (some ⟨gp,0,none⟩) n n,.int .i64 (a:Int)] w fun e w'=>e= .returned (.int .i64 (r a:Int))/\w'=w:=by
 have HP:=ζ hp;have mK:=ζ lt;have S2:=ζ self;have nM:=ζ up;have TB:=ζ deep;clear hp lt self up deep;go_enter func305,ntmps305;go_wp2;go_loopw [1] (fun c wr=>∃x:Nat,x<n/\c= .int .i64 (x:Int)/\r x=r a/\wr=w) (fun c _=>d (intOf c).toNat)
 case atStart=>exact⟨a,ha,rfl,rfl,rfl⟩
 case round=>
  obtain⟨x,hx,rfl,hr,rfl⟩:=hrel;have c0:=HP.out.cell (Co.ints_at (f:=P) hx);have x0:(0:Int)<=(x:Int):=by omega
  have x1:(x:Int)<(n:Int):=by omega
  have HR:=ζ hr;clear hr;by_cases e:P x=x
  .have hd:((P x:Int) != (x:Int))=false:=by simp[e]
   have hs:=S2.out x hx e;have HS:=ζ (hs.symm.trans HR.out);clear hs e;go_wp2;go_ret;exact⟨by rw[<-HS.out];rfl,rfl⟩
  .have hd:((P x:Int) != (x:Int))=true:=by simp;omega
   have HE:=ζ e;clear e;go_wp2;go_roundw
   case rel=>exact⟨P x,mK.out x hx,rfl,(nM.out x hx).trans HR.out,by first|rfl|trivial⟩
   case measure=>exact TB.out x hx HE.out
theorem GQ (ao:Option Addr) (n c:Nat) (x:Int) (w:World):Calls prog 317 #[.slice ao n c,.int .i64 x] w fun e w'=>e= .returned (.bool (decide (Co.isIn n x)))/\w'=w:=by
 by_cases h1:0<=x
 .by_cases h2:x<(n:Int)
  .rw[decide_eq_true (show Co.isIn n x from⟨h1,h2⟩)]
   go_enter func317,ntmps317;go_wp2;go_ret;exact⟨rfl,rfl⟩
  .rw[decide_eq_false (fun h:Co.isIn n x=>h2 h.2)]
   go_enter func317,ntmps317;go_wp2;go_ret;exact⟨rfl,rfl⟩
 .rw[decide_eq_false (fun h:Co.isIn n x=>h1 h.1)]
  go_enter func317,ntmps317;go_wp2;go_ret;exact⟨rfl,rfl⟩
theorem x8 (v:Option Addr) (n:Nat) (m:Nat->Nat) (x:Int) (w:World) (h:e6 w v n m):Calls prog 304 #[.pointer v,.int .i64 x] w fun e w'=>e= .returned (.bool (decide (Co.isIn n x)))/\w'=w:=by
 rcases h with ⟨rfl,rfl⟩|⟨p,gp,gt,rfl,hn,P,S,L,r,d,h,hf⟩
 .rw[decide_eq_false (fun h:Co.isIn 0 x=>by unfold Co.isIn at h;omega)]
  go_enter func304,ntmps304;go_wp2;go_ret;exact⟨rfl,rfl⟩
 .have c0:=h.c0
  have HH:=ζ (GQ (some ⟨gp,0,none⟩) n n x w);clear h hf;go_enter func304,ntmps304;go_wp2_with (go_at_call 317;refine HH.out.mono ?_;rintro e w1 ⟨rfl,rfl⟩);go_ret;exact⟨rfl,rfl⟩
theorem Hq (v:Option Addr) (n:Nat) (m:Nat->Nat) (w:World) (h:e6 w v n m):Calls prog 290 #[.pointer v] w fun e w'=>e= .returned (.int .i64 (Co.cnt n m:Int))/\w'=w:=by
 rcases h with ⟨rfl,rfl⟩|⟨p,gp,gt,rfl,hn,P,S,L,r,d,h,hf⟩
 .go_enter func290,ntmps290
  go_wp2;go_ret;exact⟨rfl,rfl⟩
 .have c0:=h.c2
  clear h hf;go_enter func290,ntmps290;go_wp2;go_ret;exact⟨rfl,rfl⟩
theorem Dj {w:World} {p gp gt n c:Nat} {P S L m r d:Nat->Nat} (h:aY w p gp gt n c P S L) (hf:Co.jX n P S L m r d) {a:Nat} (ha:a<n) (k:Nat):
 Calls prog 305 #[.slice (some ⟨gp,0,none⟩) n n,.int .i64 (a:Int)] (w.drewN k) fun e w'=>e= .returned (.int .i64 (r a:Int))/\w'=w.drewN k:=
 J0 gp n P r d a _ h.par hf.lt hf.self hf.up hf.deep ha
theorem Gv (v:Option Addr) (n:Nat) (m:Nat->Nat) (x:Int) (w:World) (h:e6 w v n m):Calls prog 308 #[.pointer v,.int .i64 x] w fun e w'=>e= .returned (.int .i64 (Co.q7 n m x))/\∃k,w'=w.drewN k:=by
 have HV:=ζ (x8 v n m x w h);by_cases hx:Co.isIn n x
 .rw[decide_eq_true hx] at HV
  unfold Co.q7;rw[if_pos hx];have hxl:=Co.dY hx;rcases h with ⟨rfl,rfl⟩|⟨p,gp,gt,rfl,hn,P,S,L,r,d,h,hf⟩
  .omega
  .obtain⟨u,rfl⟩:∃u:Nat,x=(u:Int):=⟨x.toNat,by unfold Co.isIn at hx;omega⟩
   rw[abb] at hxl ⊢;have HR:=ζ (fun k=>Dj h hf hxl k);have c0:=h.c0;have c1:=h.c1;have hrl:=hf.rt u hxl;have d0:=(h.pP.cell hrl).2;rw[hf.ls u hxl] at d0;have r0:(0:Int)<=(r u:Int):=by omega
   have r1:(r u:Int)<(n:Int):=by omega
   clear h hf hx;go_enter func308,ntmps308;go_wp2_with (go_at_call 304;refine HV.out.mono ?_;rintro e w1 ⟨rfl,rfl⟩);go_quiet ((go_at_call 305;exact abQ (HR.out _)));go_wp2;go_ret;exact⟨rfl,nq,rfl⟩
 .rw[decide_eq_false hx] at HV
  unfold Co.q7;rw[if_neg hx];clear h hx;go_enter func308,ntmps308;go_wp2_with (go_at_call 304;refine HV.out.mono ?_;rintro e w1 ⟨rfl,rfl⟩);go_ret;exact⟨rfl,0,rfl⟩
end
section
open Go.Proofs.Tryz
open Go.RowKit
theorem KG (gp n:Nat) (P:Nat->Nat) (b a:Nat) (w:World) (hp:aB w gp (Co.ints n P)) (hb:b<n):
 Calls prog 306 #[.slice (some ⟨gp,0,none⟩) n n,.int .i64 (b:Int),.int .i64 (a:Int)] w fun e w'=>e= .returned (.tuple #[])/\aB w' gp (Co.ints n (Co.upd P b a))/\w'=w.setCell ⟨gp,b,none⟩ (.int .i64 (a:Int)):=by
 have c0:=hp.cell (Co.ints_at (f:=P) hb);have cf:=hp.free;have n1:=hp.set (i:=b) (by rw[Co.cJ];exact hb) (a:Int);rw[Co.ints_set a hb] at n1;have N1:=ζ n1;have b0:(0:Int)<=(b:Int):=by omega
 have b1:(b:Int)<(n:Int):=by omega
 clear hp n1;go_enter func306,ntmps306;go_wp2
 go_end0
 exact⟨rfl,N1.out,rfl⟩
theorem JI (s l s' l':Nat) (w:World) (h1:s<=1048576) (h2:s'<=1048576):
 Calls prog 307 #[.agg #[.int .i64 (s:Int),.int .i64 (l:Int)],.agg #[.int .i64 (s':Int),.int .i64 (l':Int)]] w fun e w'=>e= .returned (.agg #[.int .i64 ((s+s':Nat):Int),.int .i64 ((min l l':Nat):Int)])/\Below w.heap.size w w':=by
 have hb0:∀o1 o2 o3,Below w.heap.size w (((w.alloc o1).alloc o2).alloc o3):=fun o1 o2 o3=>(((aaE _ _).alloc (aaD _) _).alloc (by simp) _).alloc (by simp;omega) _
 have HB:=ζ hb0;clear hb0;rcases Nat.le_total l l' with hl|hl
 .rw[Nat.min_eq_left hl]
  have e1:min (l:Int) (l':Int)=(l:Int):=by omega
  have e2:((s+s':Nat):Int)=(s:Int)+(s':Int):=by omega
  have e3:(l:Int)<=(l':Int):=by omega
  rw[e2];clear e2 hl;go_enter func307,ntmps307;go_wp2;refine bodyPost_ret (v:= .agg #[.int .i64 ((s:Int)+(s':Int)),.int .i64 (l:Int)]) (by simp[results,results307,go_sem]) rfl ?_;exact⟨rfl,HB.out _ _ _⟩
 .rw[Nat.min_eq_right hl]
  have e2:((s+s':Nat):Int)=(s:Int)+(s':Int):=by omega
  rw[e2];clear e2;by_cases he:l'=l
  .subst he
   have e1:min (l':Int) (l':Int)=(l':Int):=by omega
   clear hl;go_enter func307,ntmps307;go_wp2;refine bodyPost_ret (v:= .agg #[.int .i64 ((s:Int)+(s':Int)),.int .i64 (l':Int)]) (by simp[results,results307,go_sem]) rfl ?_;exact⟨rfl,HB.out _ _ _⟩
  .have e1:min (l:Int) (l':Int)=(l':Int):=by omega
   have e3:¬((l:Int)<=(l':Int)):=by omega
   have e4:(l':Int)<(l:Int):=by omega
   clear hl he;go_enter func307,ntmps307;go_wp2;refine bodyPost_ret (v:= .agg #[.int .i64 ((s:Int)+(s':Int)),.int .i64 (l':Int)]) (by simp[results,results307,go_sem]) rfl ?_;exact⟨rfl,HB.out _ _ _⟩
def jz (w:World) (q:Option (Nat×Nat×Nat)) (n:Nat) (m:Nat->Nat):Prop:=
 match q with
 |none=>n=0
 |some (p,gp,gt)=>dO w p gp gt n m
def qR:Option (Nat×Nat×Nat)->Option Addr
 |none=>none
 |some (p,_,_)=>some ⟨p,0,none⟩
def XU:Option (Nat×Nat×Nat)->Nat->Prop
 |none,_=>False
 |some (p,gp,gt),b=>b=p\/b=gp\/b=gt
section
variable {w w':World} {q:Option (Nat×Nat×Nat)} {n:Nat} {m:Nat->Nat}
theorem jz.is (h:jz w q n m):e6 w (qR q) n m:=by
 rcases q with _|⟨p,gp,gt⟩
 .exact .inl ⟨rfl,h⟩
 .exact .inr ⟨p,gp,gt,rfl,h⟩
theorem jz.later (h:jz w q n m) (hb:Below w.heap.size w w'):jz w' q n m:=by
 rcases q with _|⟨p,gp,gt⟩
 .exact h
 .exact dO.later h hb
end
def iN (q:Option (Nat×Nat×Nat)) (n:Nat) (m:Nat->Nat) (x y:Int) (w:World) (e:Ending) (w':World):Prop:=
 e= .returned (.bool (Co.apart n m x y))/\jz w' q n (Co.dX n m x y)/\aj (XU q) w w'
theorem mW {w W V1:World} {p gp gt n c:Nat} {P S L:Nat->Nat} (h:aY w p gp gt n (c+1) P S L) {A C:Nat} (hC:C<n) (hA:A<n) (s l:Nat) (hW:W=w.setCell ⟨gp,C,none⟩ (.int .i64 (A:Int))) (hV:Below W.heap.size W V1):
 aY (((V1.setCell ⟨gt,A*2,none⟩ (.int .i64 (s:Int))).setCell ⟨gt,A*2+1,none⟩ (.int .i64 (l:Int))).setCell ⟨p,2,none⟩ (.int .i64 (c:Int))) p gp gt n c (Co.upd P C A) (Co.upd S A s) (Co.upd L A l)/\
 aj (fun b=>b=p\/b=gp\/b=gt) w (((V1.setCell ⟨gt,A*2,none⟩ (.int .i64 (s:Int))).setCell ⟨gt,A*2+1,none⟩ (.int .i64 (l:Int))).setCell ⟨p,2,none⟩ (.int .i64 (c:Int)))/\
 aY V1 p gp gt n (c+1) (Co.upd P C A) S L:=by
 have hp:=(h.par.set (i:=C) (by rw[Co.cJ];exact hC) (A:Int));rw[Co.ints_set A hC,<-hW] at hp;have hb:W.heap[p]? =w.heap[p]? :=by rw[hW];exact heap_setCell_other w ⟨gp,C,none⟩ p _ h.d1
 have ht:W.heap[gt]? =w.heap[gt]? :=by rw[hW];exact heap_setCell_other w ⟨gp,C,none⟩ gt _ (abM h.d3)
 have hsz:W.heap.size=w.heap.size:=by rw[hW];simp
 have p1:=hp.later hV;have b1:V1.heap[p]? =w.heap[p]? :=(hV.block p (by rw[hsz];exact h.lt)).trans hb;have t1:V1.heap[gt]? =w.heap[gt]? :=(hV.block gt (by rw[hsz];exact h.pP.lt)).trans ht;have T1:=h.pP.same t1;have T2:=(T1.put hA s l).1;have p2:=((p1.other (i:=A*2) h.d3 (.int .i64 (s:Int))).other (i:=A*2+1) h.d3 (.int .i64 (l:Int))).other (i:=2) (abM h.d1) (.int .i64 (c:Int));have W1:aj (fun b=>b=p\/b=gp\/b=gt) w V1:=by
  have:aj (fun b=>b=p\/b=gp\/b=gt) w W:=by rw[hW];exact(aj.refl _ w).setCell (.inr (.inl rfl)) _
  exact this.later hV
 refine⟨⟨?_,p2,T2.same (heap_setCell_other _ ⟨p,2,none⟩ gt _ (abM h.d2)),h.d1,h.d2,h.d3⟩,((W1.setCell (.inr (.inr rfl)) _).setCell (.inr (.inr rfl)) _).setCell (.inl rfl) _,⟨b1.trans h.blk,p1,T1,h.d1,h.d2,h.d3⟩⟩;have b3:(((V1.setCell ⟨gt,A*2,none⟩ (.int .i64 (s:Int))).setCell ⟨gt,A*2+1,none⟩ (.int .i64 (l:Int)))).heap[p]? =some (.cells #[.slice (some ⟨gp,0,none⟩) n n,.slice (some ⟨gt,0,none⟩) n n,.int .i64 ((c+1:Nat):Int)] 384 (0,0)):=by
  rw[heap_setCell_other _ ⟨gt,A*2+1,none⟩ p _ h.d2,heap_setCell_other _ ⟨gt,A*2,none⟩ p _ h.d2,b1];exact h.blk
 rw[heap_setCell_same _ p 2 _ _ _ b3];simp
theorem Kn {w W V1:World} {p gp gt n c:Nat} {P S L:Nat->Nat} (h:aY w p gp gt n (c+1) P S L) {A C:Nat} (hC:C<n) (hA:A<n) (s l:Nat) (hW:W=w.setCell ⟨gp,C,none⟩ (.int .i64 (A:Int))) (hV:Below W.heap.size W V1):
 (V1.cell? ⟨p,1,none⟩=some (.slice (some ⟨gt,0,none⟩) n n)/\V1.cell? ⟨gt,A*2,none⟩=some (.int .i64 (S A:Int))/\V1.cell? ⟨gt,A*2+1,none⟩=some (.int .i64 (L A:Int))/\V1.cell? ⟨gt,C*2,none⟩=some (.int .i64 (S C:Int))/\V1.cell? ⟨gt,C*2+1,none⟩=some (.int .i64 (L C:Int))/\(∀i,V1.frozen? ⟨gt,i,none⟩=false))/\
 ((V1.setCell ⟨gt,A*2,none⟩ (.int .i64 (s:Int))).cell? ⟨gt,A*2+1,none⟩=some (.int .i64 (L A:Int))/\(V1.setCell ⟨gt,A*2,none⟩ (.int .i64 (s:Int))).frozen? ⟨gt,A*2+1,none⟩=false)/\
 (((V1.setCell ⟨gt,A*2,none⟩ (.int .i64 (s:Int))).setCell ⟨gt,A*2+1,none⟩ (.int .i64 (l:Int))).cell? ⟨p,1,none⟩=some (.slice (some ⟨gt,0,none⟩) n n)/\((V1.setCell ⟨gt,A*2,none⟩ (.int .i64 (s:Int))).setCell ⟨gt,A*2+1,none⟩ (.int .i64 (l:Int))).cell? ⟨p,2,none⟩=some (.int .i64 ((c:Int)+1))/\((V1.setCell ⟨gt,A*2,none⟩ (.int .i64 (s:Int))).setCell ⟨gt,A*2+1,none⟩ (.int .i64 (l:Int))).frozen? ⟨p,2,none⟩=false):=by
 obtain⟨-,-,hv⟩:=mW h hC hA s l hW hV;obtain⟨a1,a2⟩:=hv.pP.cell hA;obtain⟨b1,b2⟩:=hv.pP.cell hC;obtain⟨-,q1,q2⟩:=hv.pP.put hA s l;have hb:((V1.setCell ⟨gt,A*2,none⟩ (.int .i64 (s:Int))).setCell ⟨gt,A*2+1,none⟩ (.int .i64 (l:Int))).heap[p]? =some (.cells #[.slice (some ⟨gp,0,none⟩) n n,.slice (some ⟨gt,0,none⟩) n n,.int .i64 ((c+1:Nat):Int)] 384 (0,0)):=by
  rw[heap_setCell_other _ ⟨gt,A*2+1,none⟩ p _ h.d2,heap_setCell_other _ ⟨gt,A*2,none⟩ p _ h.d2];exact hv.blk
 exact⟨⟨hv.c1,a1,a2,b1,b2,hv.pP.free⟩,⟨q1,q2⟩,by simp[World.cell?,hb],by simp[World.cell?,hb],by simp[World.frozen?,hb]⟩
end
section
open Go.RowKit
theorem Tryz.sM:(Tryz.prog.info? 4).map (fun i=>(i.zero,i.size,i.bytes))=some (some (.bool false),1,1):=by kernel_rfl
def Co.bB (f:Nat->Bool) (x:Nat) (y:Bool):Nat->Bool:=fun i=>if i=x then y else f i
theorem Co.fS (f:Nat->Bool) (x:Nat) (y:Bool):Co.bB f x y x=y:=by simp[Co.bB]
theorem Co.dS (f:Nat->Bool) {x i:Nat} {y:Bool} (h:i≠x):Co.bB f x y i=f i:=by simp[Co.bB,h]
def Co.bools (n:Nat) (f:Nat->Bool):List Value:=(List.range n).map fun i=>Value.bool (f i)
def aG (w:World) (g n:Nat) (f:Nat->Bool):Prop:=w.heap[g]? =some (.cells (Co.bools n f).toArray 4 (0,0))
section
variable {w w':World} {g n:Nat} {f:Nat->Bool}
theorem Co.oJ {i:Nat} (hi:i<n):(Co.bools n f)[i]? =some (.bool (f i)):=by
 unfold Co.bools;rw[aaY,ab8 hi];rfl
theorem aG.lt (h:aG w g n f):g<w.heap.size:=lt_of_block h
theorem aG.cell (h:aG w g n f) {i:Nat} (hi:i<n):w.cell? ⟨g,i,none⟩=some (.bool (f i)):=by
 unfold aG at h;have:=Co.oJ (f:=f) hi;simp[World.cell?,h,this]
theorem aG.free (h:aG w g n f) (i:Nat):w.frozen? ⟨g,i,none⟩=false:=by
 unfold aG at h;simp[World.frozen?,h]
theorem aG.set (h:aG w g n f) (i:Nat) (y:Bool):aG (w.setCell ⟨g,i,none⟩ (.bool y)) g n (Co.bB f i y):=by
 unfold aG at h ⊢;rw[heap_setCell_same w g i _ _ _ h,abR]
 congr 2
 congr 1
 refine abz fun j=> ?_
 rw[aaR];by_cases hj:j<n
 .rw[Co.oJ hj,Co.oJ hj]
  by_cases e:i=j
  .subst e
   rw[if_pos rfl,if_pos (by simp[Co.bools];exact hj),Co.fS]
  .rw[if_neg e,Co.dS _ (abM e)]
 .rw[aaS (by simp[Co.bools];omega),aaS (by simp[Co.bools];omega)]
  by_cases e:i=j
  .rw[if_pos e,if_neg (by simp[Co.bools];omega)]
  .rw[if_neg e]
theorem aG.same (h:aG w g n f) (hb:w'.heap[g]? =w.heap[g]?):aG w' g n f:=hb.trans h
theorem aG.later (h:aG w g n f) (hb:Below w.heap.size w w'):aG w' g n f:=(hb.block g h.lt).trans h
theorem mU {W:World} {k:Nat} (h:W.heap.size=k) (n:Nat):aG (W.alloc (.cells (madeCells #[.bool false] n) 4)) k n (fun _=>false):=by
 subst h;unfold aG;rw[heap_alloc_new]
 congr 2
 apply Array.ext';rw[toList_madeCells_one];refine abz fun j=> ?_
 by_cases hj:j<n
 .rw[Co.oJ hj];simp[hj]
 .rw[aaS (by simp;omega),aaS (by simp[Co.bools];omega)]
end
end
end Go.Proofs.YtdbjpbjocmcpkaaGreatDoor
