import Derived.Test.YtdbjpbjocmcpkaaGreatDoorMg01
import Derived.BigRegion
import Derived.Deep.RegionLaw
import Derived.Deep.CutBlock
import Derived.Deep.CutRange
set_option maxHeartbeats 8000000
set_option maxRecDepth 100000
namespace Go.Proofs.YtdbjpbjocmcpkaaGreatDoor
section
namespace Co
def aA (p:Nat->Bool):Nat->Nat
 |0=>0
 |k+1=>aA p k+(if p k then 1 else 0)
theorem bF (p:Nat->Bool):∀k,aA p k<=k
 |0=>aad _
 |k+1=>by
  have:=bF p k;unfold aA
  split<;>omega
theorem bu {p q:Nat->Bool}:∀k,(∀i,i<k->p i=q i)->aA p k=aA q k
 |0,_=>rfl
 |k+1,h=>by
  have ih:=bu k (fun i hi=>h i (by omega));unfold aA;rw[ih,h k (by omega)]
theorem sj {p q s:Nat->Bool}:∀k,(∀i,i<k->((s i=(p i||q i))/\(p i&&q i)=false))->aA s k=aA p k+aA q k
 |0,_=>rfl
 |k+1,h=>by
  have ih:=sj k (fun i hi=>h i (by omega));obtain⟨h1,h2⟩:=h k (by omega);unfold aA;rw[ih,h1];cases hp:p k<;>cases hq:q k<;>rw[hp,hq] at h2<;>simp at h2 ⊢ <;>omega
theorem eE (h:Nat):∀k,aA (fun i=>decide (i=h)) k=if h<k then 1 else 0
 |0=>rfl
 |k+1=>by
  have ih:=eE h k;unfold aA;rw[ih];by_cases e:k=h
  .subst e
   simp
  .have e1:(if decide (k=h)=true then 1 else 0)=0:=if_neg (by simpa using e)
   rw[e1];by_cases hk:h<k
   .rw[if_pos hk,if_pos (by omega)]
   .rw[if_neg hk,if_neg (by omega)]
theorem uH {p:Nat->Bool} {x:Nat}:∀k,x<k->p x=true->0<aA p k
 |0,h,_=>by omega
 |k+1,h,hp=>by
  unfold aA;by_cases e:x=k
  .subst e;rw[hp];simp
  .have:=uH k (by omega) hp
   omega
structure Norm (n:Nat) (m:Nat->Nat):Prop where
 le:∀x,x<n->m x<=x
 idem:∀x,x<n->m (m x)=m x
theorem Norm.lt {n:Nat} {m:Nat->Nat} (h:Norm n m) {x:Nat} (hx:x<n):m x<n:=by
 have:=h.le x hx;omega
def cnt (n:Nat) (m:Nat->Nat):Nat:=aA (fun i=>decide (m i=i)) n
def size (n:Nat) (m:Nat->Nat) (a:Nat):Nat:=aA (fun i=>decide (m i=m a)) n
def join (m:Nat->Nat) (a b:Nat):Nat->Nat:=fun x=>if m x=max (m a) (m b) then min (m a) (m b) else m x
theorem join_comm (m:Nat->Nat) (a b:Nat):join m a b=join m b a:=by
 funext x;unfold join;rw[Nat.max_comm,Nat.min_comm]
theorem IB (n:Nat):Norm n (fun x=>x):=⟨fun _ _=>aad _,fun _ _=>rfl⟩
theorem NZ (n:Nat):cnt n (fun x=>x)=n:=by
 unfold cnt
 induction n with
 |zero=>rfl
 |succ n ih=>unfold aA;rw[ih];simp
theorem QE {n a:Nat} (h:a<n):size n (fun x=>x) a=1:=by
 unfold size;rw[eE,if_pos h]
theorem NY (n:Nat) (m:Nat->Nat):cnt n m<=n:=bF _ _
theorem size_le (n:Nat) (m:Nat->Nat) (a:Nat):size n m a<=n:=bF _ _
section
variable {n:Nat} {m:Nat->Nat} {a b:Nat}
theorem fM (h:Norm n m) (ha:a<n) (hb:b<n) (hne:m a≠m b):∃lo hi,lo<hi/\hi<n/\m lo=lo/\m hi=hi/\((lo=m a/\hi=m b)\/(lo=m b/\hi=m a))/\∀x,join m a b x=if m x=hi then lo else m x:=by
 rcases Nat.lt_or_gt_of_ne hne with hlt|hlt
 .exact⟨m a,m b,hlt,h.lt hb,h.idem a ha,h.idem b hb,.inl ⟨rfl,rfl⟩,fun x=>by unfold join;rw[Nat.max_eq_right (by omega),Nat.min_eq_left (by omega)]⟩
 .exact⟨m b,m a,hlt,h.lt ha,h.idem b hb,h.idem a ha,.inr ⟨rfl,rfl⟩,fun x=>by unfold join;rw[Nat.max_eq_left (by omega),Nat.min_eq_right (by omega)]⟩
theorem Norm.join (h:Norm n m) (ha:a<n) (hb:b<n) (hne:m a≠m b):Norm n (join m a b):=by
 obtain⟨lo,hi,h1,h2,h3,h4,-,hj⟩:=fM h ha hb hne;refine⟨fun x hx=> ?_,fun x hx=> ?_⟩
 .rw[hj]
  have:=h.le x hx
  split<;>omega
 .rw[hj x]
  split
  .rw[hj,h3,if_neg (by omega)]
  .rename_i hx'
   rw[hj,h.idem x hx,if_neg hx']
theorem E1 (h:Norm n m) (ha:a<n) (hb:b<n) (hne:m a≠m b):cnt n (join m a b)+1=cnt n m:=by
 obtain⟨lo,hi,h1,h2,h3,h4,-,hj⟩:=fM h ha hb hne;have e:=sj (p:=fun i=>decide (join m a b i=i)) (q:=fun i=>decide (i=hi)) (s:=fun i=>decide (m i=i)) n (fun i hi'=>by
  rw[hj];by_cases e:i=hi
  .subst e
   rw[h4,if_pos rfl];have:¬lo=i:=by omega
   simp[this]
  .by_cases e2:m i=hi
   .rw[if_pos e2,e2]
    have h5:¬hi=i:=fun h=>e h.symm
    have h6:¬lo=i:=fun h=>by rw[<-h,h3] at e2;omega
    simp[h5,h6,e]
   .rw[if_neg e2]
    simp[e])
 rw[eE,if_pos h2] at e;unfold cnt;omega
theorem jA (h:Norm n m) (ha:a<n) (hb:b<n) (hne:m a≠m b) {x y:Nat} (_:x<n) (_:y<n):
 join m a b x=join m a b y↔(m x=m y\/((m x=m a\/m x=m b)/\(m y=m a\/m y=m b))):=by
 obtain⟨lo,hi,h1,h2,h3,h4,hc,hj⟩:=fM h ha hb hne;rw[hj,hj];by_cases ex:m x=hi<;>by_cases ey:m y=hi
 .rw[if_pos ex,if_pos ey];omega
 .rw[if_pos ex,if_neg ey];omega
 .rw[if_neg ex,if_pos ey];omega
 .rw[if_neg ex,if_neg ey];omega
theorem tq (h:Norm n m) (ha:a<n) (hb:b<n) (hne:m a≠m b) {x:Nat} (hx:x<n) (hm:m x=m a\/m x=m b):size n (join m a b) x=size n m a+size n m b:=by
 unfold size;refine sj n (fun i hi=> ?_);have:=jA h ha hb hne hi hx;rw[ach];simp only[decide_eq_true_eq,abR,Bool.and_eq_false_iff,decide_eq_false_iff_not,this];omega
theorem AO (h:Norm n m) (ha:a<n) (hb:b<n) (hne:m a≠m b) {x:Nat} (hx:x<n) (h1:m x≠m a) (h2:m x≠m b):size n (join m a b) x=size n m x:=by
 unfold size;refine bu n (fun i hi=> ?_);have:=jA h ha hb hne hi hx;rw[ach];simp only[decide_eq_true_eq,this];omega
theorem I5 (h:Norm n m) (ha:a<n) (hb:b<n) (hne:m a≠m b) {x:Nat} (hm:m x=m a\/m x=m b):join m a b x=min (m a) (m b):=by
 obtain⟨lo,hi,h1,h2,h3,h4,hc,hj⟩:=fM h ha hb hne;rw[hj]
 split<;>omega
theorem O6 (h:Norm n m) (ha:a<n) (hb:b<n) (hne:m a≠m b) {x:Nat} (h1:m x≠m a) (h2:m x≠m b):join m a b x=m x:=by
 obtain⟨lo,hi,_,_,_,_,hc,hj⟩:=fM h ha hb hne;rw[hj,if_neg];omega
end
structure mN (n:Nat) (P S L m r d:Nat->Nat):Prop where
 norm:Norm n m
 lt:∀x,x<n->P x<n
 rt:∀x,x<n->r x<n
 top:∀x,x<n->P (r x)=r x
 up:∀x,x<n->r (P x)=r x
 self:∀x,x<n->P x=x->r x=x
 deep:∀x,x<n->P x≠x->d (P x)<d x
 same:∀x y,x<n->y<n->(r x=r y↔m x=m y)
 sz:∀x,x<n->S (r x)=size n m x
 ls:∀x,x<n->L (r x)=m x
theorem mN.rr {n:Nat} {P S L m r d:Nat->Nat} (h:mN n P S L m r d) {x:Nat} (hx:x<n):r (r x)=r x:=h.self _ (h.rt x hx) (h.top x hx)
theorem Mt (n:Nat):mN n (fun x=>x) (fun _=>1) (fun x=>x) (fun x=>x) (fun x=>x) (fun _=>0):=
 ⟨IB n,fun _ h=>h,fun _ h=>h,fun _ _=>rfl,fun _ _=>rfl,fun _ _ _=>rfl,fun _ _ h=>absurd rfl h,fun _ _ _ _=>Iff.rfl,fun _ h=>(QE h).symm,fun _ _=>rfl⟩
def upd (f:Nat->Nat) (x y:Nat):Nat->Nat:=fun i=>if i=x then y else f i
theorem upd_same (f:Nat->Nat) (x y:Nat):upd f x y x=y:=by simp[upd]
theorem aV (f:Nat->Nat) {x y i:Nat} (h:i≠x):upd f x y i=f i:=by simp[upd,h]
theorem mN.hang {n:Nat} {P S L m r d:Nat->Nat} (h:mN n P S L m r d) {a b:Nat} (ha:a<n) (hb:b<n) (hne:r a≠r b):
 ∃r' d',mN n (upd P (r b) (r a)) (upd S (r a) (S (r a)+S (r b))) (upd L (r a) (min (L (r a)) (L (r b)))) (join m a b) r' d':=by
 have hm:m a≠m b:=fun e=>hne ((h.same a b ha hb).2 e)
 have hA:=h.rt a ha;have hB:=h.rt b hb;have hrA:=h.rr ha;have hrB:=h.rr hb;have hkey:∀x,x<n->(r x=r a↔m x=m a)/\(r x=r b↔m x=m b):=fun x hx=>⟨h.same x a hx ha,h.same x b hx hb⟩
 refine⟨fun x=>if r x=r b then r a else r x,fun x=>if r x=r b then d x+d (r a)+1 else d x,h.norm.join ha hb hm,fun x hx=> ?_,fun x hx=> ?_,fun x hx=> ?_,fun x hx=> ?_,fun x hx hp=> ?_,fun x hx hp=> ?_,fun x y hx hy=> ?_,fun x hx=> ?_,fun x hx=> ?_⟩
 .unfold upd
  split
  .exact hA
  .exact h.lt x hx
 .split
  .exact hA
  .exact h.rt x hx
 .split
  .rw[aV _ hne];exact h.top a ha
  .rename_i e
   rw[aV _ e];exact h.top x hx
 .by_cases e:x=r b
  .subst e
   rw[upd_same,hrA,hrB,if_neg hne,if_pos rfl]
  .rw[aV _ e,h.up x hx]
 .by_cases e:x=r b
  .subst e
   rw[upd_same] at hp;exact absurd hp hne
  .rw[aV _ e] at hp
   have:=h.self x hx hp;rw[if_neg (by rw[this];exact e)];exact this
 .by_cases e:x=r b
  .subst e
   rw[upd_same,hrA,hrB,if_neg hne,if_pos rfl];omega
  .rw[aV _ e] at hp ⊢
   have:=h.deep x hx hp;rw[h.up x hx]
   split<;>omega
 .rw[jA h.norm ha hb hm hx hy]
  obtain⟨k1,k2⟩:=hkey x hx;obtain⟨k3,k4⟩:=hkey y hy;have k5:=h.same x y hx hy;rw[<-k1,<-k2,<-k3,<-k4,<-k5];by_cases ex:r x=r b<;>by_cases ey:r y=r b
  .rw[if_pos ex,if_pos ey];omega
  .rw[if_pos ex,if_neg ey];omega
  .rw[if_neg ex,if_pos ey];omega
  .rw[if_neg ex,if_neg ey];omega
 .obtain⟨k1,k2⟩:=hkey x hx
  by_cases ex:r x=r b
  .rw[if_pos ex,upd_same,tq h.norm ha hb hm hx (.inr (k2.1 ex)),h.sz a ha,h.sz b hb]
  .rw[if_neg ex]
   by_cases ea:r x=r a
   .rw[ea,upd_same,tq h.norm ha hb hm hx (.inl (k1.1 ea)),h.sz a ha,h.sz b hb]
   .rw[aV _ ea,h.sz x hx,AO h.norm ha hb hm hx (fun e=>ea (k1.2 e)) (fun e=>ex (k2.2 e))]
 .obtain⟨k1,k2⟩:=hkey x hx
  by_cases ex:r x=r b
  .rw[if_pos ex,upd_same,I5 h.norm ha hb hm (.inr (k2.1 ex)),h.ls a ha,h.ls b hb]
  .rw[if_neg ex]
   by_cases ea:r x=r a
   .rw[ea,upd_same,I5 h.norm ha hb hm (.inl (k1.1 ea)),h.ls a ha,h.ls b hb]
   .rw[aV _ ea,h.ls x hx,O6 h.norm ha hb hm (fun e=>ea (k1.2 e)) (fun e=>ex (k2.2 e))]
def isIn (n:Nat) (x:Int):Prop:=0<=x/\x<(n:Int)
instance (n:Nat) (x:Int):Decidable (isIn n x):=inferInstanceAs (Decidable (_/\_))
def apart (n:Nat) (m:Nat->Nat) (a b:Int):Bool:=decide (isIn n a/\isIn n b/\m a.toNat≠m b.toNat)
def fN (n:Nat) (m:Nat->Nat) (a b:Int):Nat->Nat:=if apart n m a b then join m a.toNat b.toNat else m
def vP (n:Nat) (m:Nat->Nat) (a:Int):Int:=if isIn n a then (m a.toNat:Int) else -1
theorem lX {n:Nat} {m:Nat->Nat} {a b:Int}:apart n m a b=true↔(isIn n a/\isIn n b/\m a.toNat≠m b.toNat):=by unfold apart;exact decide_eq_true_iff
theorem fO {n:Nat} {x:Int} (h:isIn n x):x.toNat<n:=by unfold isIn at h;omega
def joins (n:Nat) (js:List (Int×Int)) (m:Nat->Nat):Nat->Nat:=js.foldl (fun m j=>fN n m j.1 j.2) m
theorem yM (n:Nat) (js:List (Int×Int)) (j:Int×Int) (m:Nat->Nat):joins n (js++[j]) m=fN n (joins n js m) j.1 j.2:=by simp[joins,List.foldl_append]
def iW (n:Nat) (js:List (Int×Int)) (f:Nat->Nat):Prop:=∀j∈js,isIn n j.1->isIn n j.2->f j.1.toNat=f j.2.toNat
structure Gen (n:Nat) (js:List (Int×Int)) (m:Nat->Nat):Prop where
 norm:Norm n m
 meets:iW n js m
 least:∀f:Nat->Nat,iW n js f->∀x,x<n->f (m x)=f x
theorem Gen.id (n:Nat):Gen n [] (fun x=>x):=⟨IB n,(fun _ h=>by cases h),fun _ _ _ _=>rfl⟩
theorem Gen.keep {n:Nat} {js:List (Int×Int)} {m:Nat->Nat} (h:Gen n js m) {j:Int×Int} (hj:¬(isIn n j.1/\isIn n j.2/\m j.1.toNat≠m j.2.toNat)):Gen n (js++[j]) m:=by
 refine⟨h.norm,fun k hk h1 h2=> ?_,fun f hf=>h.least f (fun k hk=>hf k (ab0 _ hk))⟩;rcases abG.1 hk with hk|hk
 .exact h.meets k hk h1 h2
 .obtain rfl:=abg.1 hk
  exact aes fun e=>hj ⟨h1,h2,e⟩
theorem Gen.join {n:Nat} {js:List (Int×Int)} {m:Nat->Nat} (h:Gen n js m) {j:Int×Int} (h1:isIn n j.1) (h2:isIn n j.2) (h3:m j.1.toNat≠m j.2.toNat):Gen n (js++[j]) (join m j.1.toNat j.2.toNat):=by
 have ha:=fO h1;have hb:=fO h2;refine⟨h.norm.join ha hb h3,fun k hk k1 k2=> ?_,fun f hf x hx=> ?_⟩
 .rcases abG.1 hk with hk|hk
  .exact(jA h.norm ha hb h3 (fO k1) (fO k2)).2 (.inl (h.meets k hk k1 k2))
  .obtain rfl:=abg.1 hk
   exact(jA h.norm ha hb h3 (fO k1) (fO k2)).2 (.inr ⟨.inl rfl,.inr rfl⟩)
 .have hf':iW n js f:=fun k hk=>hf k (ab0 _ hk)
  have hj:=hf j (ad8 _ (List.mem_singleton_self _)) h1 h2;have ea:=h.least f hf' _ ha;have eb:=h.least f hf' _ hb;have ex:=h.least f hf' x hx;obtain⟨lo,hi,_,_,_,_,hc,R2⟩:=fM h.norm ha hb h3;rw[R2]
  split
  .rename_i e
   rcases hc with ⟨e1,e2⟩|⟨e1,e2⟩
   .rw[e1,ea,hj,<-eb,<-e2,<-e,ex]
   .rw[e1,eb,<-hj,<-ea,<-e2,<-e,ex]
  .exact ex
theorem Gen.fN {n:Nat} {js:List (Int×Int)} {m:Nat->Nat} (h:Gen n js m) (j:Int×Int):Gen n (js++[j]) (fN n m j.1 j.2):=by
 unfold Co.fN
 split
 .rename_i e
  obtain⟨h1,h2,h3⟩:=lX.1 e;exact h.join h1 h2 h3
 .rename_i e
  exact h.keep (fun h=>e (lX.2 h))
theorem uz (n:Nat) (js:List (Int×Int)):Gen n js (joins n js (fun x=>x)):=by
 suffices h:∀(ks js:List (Int×Int)) (m:Nat->Nat),Gen n js m->Gen n (js++ks) (joins n ks m) by simpa using h js [] _ (Gen.id n)
 intro ks
 induction ks with
 |nil=>intro js m h;rw[abQ];exact h
 |cons k ks ih=>
  intro js m h;have:=ih _ _ (h.fN k);rw[aaR] at this;exact this
end Co
end
section
open Go.Proofs.Tryz
open Go.RowKit
namespace Co
def ints (n:Nat) (f:Nat->Nat):List Int:=(List.range n).map fun i=>(f i:Int)
theorem aZ (n:Nat) (f:Nat->Nat):(ints n f).length=n:=by simp[ints]
theorem ints_at {n i:Nat} {f:Nat->Nat} (h:i<n):(ints n f)[i]? =some (f i:Int):=by
 unfold ints;rw[aaP,acU h];rfl
theorem mF {n:Nat} {f g:Nat->Nat} (h:∀i,i<n->f i=g i):ints n f=ints n g:=by
 unfold ints;exact abT fun i hi=>by rw[h i (aaJ.1 hi)]
theorem ints_set {n i:Nat} {f:Nat->Nat} (x:Nat) (_:i<n):(ints n f).set i (x:Int)=ints n (upd f i x):=by
 refine ab4 fun j=> ?_
 rw[aaI,aZ];by_cases hj:j<n
 .rw[ints_at hj,ints_at hj]
  by_cases e:i=j
  .subst e
   rw[if_pos rfl,if_pos hj,upd_same]
  .rw[if_neg e,aV _ (acs e)]
 .rw[aaV (by rw[aZ];omega),aaV (by rw[aZ];omega)]
  by_cases e:i=j
  .rw[if_pos e,if_neg (by omega)]
  .rw[if_neg e]
theorem uh (n:Nat):ints n (fun _=>0)=List.replicate n 0:=by
 refine ab4 fun j=> ?_
 rw[acj];by_cases hj:j<n
 .rw[ints_at hj,if_pos hj];rfl
 .rw[aaV (by rw[aZ];omega),if_neg hj]
end Co
def bX (w:World) (g n:Nat) (S L:Nat->Nat):Prop:=∃cs:List Value,w.heap[g]? =some (.cells cs.toArray 386 (0,0))/\cs.length=n*2/\∀i,i<n->cs[i*2]? =some (.int .i64 (S i:Int))/\cs[i*2+1]? =some (.int .i64 (L i:Int))
section
variable {w w':World} {g n:Nat} {S L:Nat->Nat}
theorem bX.lt (h:bX w g n S L):g<w.heap.size:=by
 obtain⟨cs,h,_⟩:=h;exact lt_of_block h
theorem bX.cell (h:bX w g n S L) {i:Nat} (hi:i<n):w.cell? ⟨g,i*2,none⟩=some (.int .i64 (S i:Int))/\w.cell? ⟨g,i*2+1,none⟩=some (.int .i64 (L i:Int)):=by
 obtain⟨cs,h,hl,hc⟩:=h;obtain⟨h1,h2⟩:=hc i hi;simp[World.cell?,h,h1,h2]
theorem bX.free (h:bX w g n S L) (i:Nat):w.frozen? ⟨g,i,none⟩=false:=by
 obtain⟨cs,h,_⟩:=h;simp[World.frozen?,h]
theorem bX.same (h:bX w g n S L) (hb:w'.heap[g]? =w.heap[g]?):bX w' g n S L:=by
 obtain⟨cs,h,hr⟩:=h;exact⟨cs,hb.trans h,hr⟩
theorem bX.congr {S' L':Nat->Nat} (h:bX w g n S L) (h1:∀i,i<n->S i=S' i) (h2:∀i,i<n->L i=L' i):bX w g n S' L':=by
 obtain⟨cs,h,hl,hc⟩:=h;exact⟨cs,h,hl,fun i hi=>by rw[<-h1 i hi,<-h2 i hi];exact hc i hi⟩
theorem bX.put (h:bX w g n S L) {i:Nat} (hi:i<n) (s l:Nat):
 bX ((w.setCell ⟨g,i*2,none⟩ (.int .i64 (s:Int))).setCell ⟨g,i*2+1,none⟩ (.int .i64 (l:Int))) g n (Co.upd S i s) (Co.upd L i l)/\(w.setCell ⟨g,i*2,none⟩ (.int .i64 (s:Int))).cell? ⟨g,i*2+1,none⟩=some (.int .i64 (L i:Int))/\(w.setCell ⟨g,i*2,none⟩ (.int .i64 (s:Int))).frozen? ⟨g,i*2+1,none⟩=false:=by
 obtain⟨cs,h,hl,hc⟩:=h;have h1:=heap_setCell_same w g (i*2) _ _ (.int .i64 (s:Int)) h;have h2:=heap_setCell_same _ g (i*2+1) _ _ (.int .i64 (l:Int)) h1;rw[acF] at h1;rw[acF,acF] at h2;refine⟨⟨_,h2,by simp[hl],fun j hj=> ?_⟩,?_,by simp[World.frozen?,h1]⟩
 .obtain⟨c1,c2⟩:=hc j hj
  by_cases e:j=i
  .subst e
   rw[Co.upd_same,Co.upd_same];constructor
   .rw[aaI,if_neg (by omega),aaI,if_pos rfl,if_pos (by omega)]
   .rw[aaI,if_pos rfl,if_pos (by simp;omega)]
  .rw[Co.aV _ e,Co.aV _ e]
   constructor
   .rw[aaI,if_neg (by omega),aaI,if_neg (by omega)];exact c1
   .rw[aaI,if_neg (by omega),aaI,if_neg (by omega)];exact c2
 .have:(cs.set (i*2) (.int .i64 (s:Int)))[i*2+1]? =some (.int .i64 (L i:Int)):=by
   rw[aaI,if_neg (by omega)];exact(hc i hi).2
  simp[World.cell?,h1,this]
end
structure bH (w:World) (p gp gt n c:Nat) (P S L:Nat->Nat):Prop where
 blk:w.heap[p]? =some (.cells #[.slice (some ⟨gp,0,none⟩) n n,.slice (some ⟨gt,0,none⟩) n n,.int .i64 (c:Int)] 384 (0,0))
 par:aC w gp (Co.ints n P)
 tU:bX w gt n S L
 d1:p≠gp
 d2:p≠gt
 d3:gp≠gt
def fF (w:World) (p gp gt n:Nat) (m:Nat->Nat):Prop:=n<=1048576/\∃P S L r d,bH w p gp gt n (Co.cnt n m) P S L/\Co.mN n P S L m r d
def gT (w:World) (v:Option Addr) (n:Nat) (m:Nat->Nat):Prop:=(v=none/\n=0)\/∃p gp gt,v=some ⟨p,0,none⟩/\fF w p gp gt n m
section
variable {w w':World} {p gp gt n c:Nat} {P S L:Nat->Nat}
theorem bH.lt (h:bH w p gp gt n c P S L):p<w.heap.size:=lt_of_block h.blk
theorem bH.same (h:bH w p gp gt n c P S L) (hk:∀k,(k=p\/k=gp\/k=gt)->k<w.heap.size->w'.heap[k]? =w.heap[k]?):bH w' p gp gt n c P S L:=by
 have hl:=h.par.lt;obtain⟨rest,hp⟩:=h.par;exact⟨(hk p (.inl rfl) h.lt).trans h.blk,⟨rest,(hk gp (.inr (.inl rfl)) hl).trans hp⟩,h.tU.same (hk gt (.inr (.inr rfl)) h.tU.lt),h.d1,h.d2,h.d3⟩
theorem bH.c0 (h:bH w p gp gt n c P S L):w.cell? ⟨p,0,none⟩=some (.slice (some ⟨gp,0,none⟩) n n):=by simp[World.cell?,h.blk]
theorem bH.c1 (h:bH w p gp gt n c P S L):w.cell? ⟨p,1,none⟩=some (.slice (some ⟨gt,0,none⟩) n n):=by simp[World.cell?,h.blk]
theorem bH.c2 (h:bH w p gp gt n c P S L):w.cell? ⟨p,2,none⟩=some (.int .i64 (c:Int)):=by simp[World.cell?,h.blk]
end
section
variable {w w':World} {p gp gt n:Nat} {m:Nat->Nat} {v:Option Addr}
theorem fF.same (h:fF w p gp gt n m) (hk:∀k,(k=p\/k=gp\/k=gt)->k<w.heap.size->w'.heap[k]? =w.heap[k]?):fF w' p gp gt n m:=by
 obtain⟨hn,P,S,L,r,d,h,hf⟩:=h;exact⟨hn,P,S,L,r,d,h.same hk,hf⟩
theorem fF.later (h:fF w p gp gt n m) (hb:Below w.heap.size w w'):fF w' p gp gt n m:=h.same fun k _ h2=>hb.block k h2
theorem fF.norm (h:fF w p gp gt n m):Co.Norm n m:=by
 obtain⟨_,_,_,_,_,_,_,hf⟩:=h;exact hf.norm
theorem gT.later (h:gT w v n m) (hb:Below w.heap.size w w'):gT w' v n m:=by
 rcases h with h|⟨p,gp,gt,h1,h3⟩
 .exact .inl h
 .exact .inr ⟨p,gp,gt,h1,h3.later hb⟩
theorem gT.bound (h:gT w v n m):n<=1048576:=by
 rcases h with ⟨_,rfl⟩|⟨p,gp,gt,_,h,_⟩
 .omega
 .exact h
theorem gT.norm (h:gT w v n m):Co.Norm n m:=by
 rcases h with ⟨_,rfl⟩|⟨p,gp,gt,_,h⟩
 .exact⟨fun x hx=>by omega,fun x hx=>by omega⟩
 .exact h.norm
end
theorem OC (gp n:Nat) (P r d:Nat->Nat) (a:Nat) (w:World) (hp:aC w gp (Co.ints n P)) (lt:∀x,x<n->P x<n) (self:∀x,x<n->P x=x->r x=x) (up:∀x,x<n->r (P x)=r x) (deep:∀x,x<n->P x≠x->d (P x)<d x) (ha:a<n):
 Calls prog 305 #[.slice (some ⟨gp,0,none⟩) n n,.int .i64 (a:Int)] w fun e w'=>e= .returned (.int .i64 (r a:Int))/\w'=w:=by
 have HP:=ζ hp;have l5:=ζ lt;have YZ:=ζ self;have q9:=ζ up;have ZE:=ζ deep;clear hp lt self up deep;go_enter func305,ntmps305;go_wp2;go_loopw [1] (fun c wr=>∃x:Nat,x<n/\c= .int .i64 (x:Int)/\r x=r a/\wr=w) (fun c _=>d (intOf c).toNat)
 case atStart=>exact⟨a,ha,rfl,rfl,rfl⟩
 case round=>
  obtain⟨x,hx,rfl,hr,rfl⟩:=hrel;have c0:=HP.out.cell (Co.ints_at (f:=P) hx);have x0:(0:Int)<=(x:Int):=by omega
  have x1:(x:Int)<(n:Int):=by omega
  have HR:=ζ hr;clear hr;by_cases e:P x=x
  .have hd:((P x:Int) != (x:Int))=false:=by simp[e]
   have hs:=YZ.out x hx e;have HS:=ζ (hs.symm.trans HR.out);clear hs e;go_wp2;go_ret;exact⟨by rw[<-HS.out];rfl,rfl⟩
  .have hd:((P x:Int) != (x:Int))=true:=by simp;omega
   have HE:=ζ e;clear e;go_wp2;go_roundw
   case rel=>exact⟨P x,l5.out x hx,rfl,(q9.out x hx).trans HR.out,by first|rfl|trivial⟩
   case measure=>exact ZE.out x hx HE.out
theorem L9 (ao:Option Addr) (n c:Nat) (x:Int) (w:World):Calls prog 317 #[.slice ao n c,.int .i64 x] w fun e w'=>e= .returned (.bool (decide (Co.isIn n x)))/\w'=w:=by
 by_cases h1:0<=x
 .by_cases h2:x<(n:Int)
  .rw[decide_eq_true (show Co.isIn n x from⟨h1,h2⟩)]
   go_enter func317,ntmps317;go_wp2;go_ret;exact⟨rfl,rfl⟩
  .rw[decide_eq_false (fun h:Co.isIn n x=>h2 h.2)]
   go_enter func317,ntmps317;go_wp2;go_ret;exact⟨rfl,rfl⟩
 .rw[decide_eq_false (fun h:Co.isIn n x=>h1 h.1)]
  go_enter func317,ntmps317;go_wp2;go_ret;exact⟨rfl,rfl⟩
theorem B4 (v:Option Addr) (n:Nat) (m:Nat->Nat) (x:Int) (w:World) (h:gT w v n m):Calls prog 304 #[.pointer v,.int .i64 x] w fun e w'=>e= .returned (.bool (decide (Co.isIn n x)))/\w'=w:=by
 rcases h with ⟨rfl,rfl⟩|⟨p,gp,gt,rfl,hn,P,S,L,r,d,h,hf⟩
 .rw[decide_eq_false (fun h:Co.isIn 0 x=>by unfold Co.isIn at h;omega)]
  go_enter func304,ntmps304;go_wp2;go_ret;exact⟨rfl,rfl⟩
 .have c0:=h.c0
  have HH:=ζ (L9 (some ⟨gp,0,none⟩) n n x w);clear h hf;go_enter func304,ntmps304;go_wp2_with (go_at_call 317;refine HH.out.mono ?_;rintro e w1 ⟨rfl,rfl⟩);go_ret;exact⟨rfl,rfl⟩
theorem MC (v:Option Addr) (n:Nat) (m:Nat->Nat) (w:World) (h:gT w v n m):Calls prog 290 #[.pointer v] w fun e w'=>e= .returned (.int .i64 (Co.cnt n m:Int))/\w'=w:=by
 rcases h with ⟨rfl,rfl⟩|⟨p,gp,gt,rfl,hn,P,S,L,r,d,h,hf⟩
 .go_enter func290,ntmps290
  go_wp2;go_ret;exact⟨rfl,rfl⟩
 .have c0:=h.c2
  clear h hf;go_enter func290,ntmps290;go_wp2;go_ret;exact⟨rfl,rfl⟩
theorem Ic {w:World} {p gp gt n c:Nat} {P S L m r d:Nat->Nat} (h:bH w p gp gt n c P S L) (hf:Co.mN n P S L m r d) {a:Nat} (ha:a<n) (k:Nat):
 Calls prog 305 #[.slice (some ⟨gp,0,none⟩) n n,.int .i64 (a:Int)] (w.drewN k) fun e w'=>e= .returned (.int .i64 (r a:Int))/\w'=w.drewN k:=
 OC gp n P r d a _ h.par hf.lt hf.self hf.up hf.deep ha
theorem LK (v:Option Addr) (n:Nat) (m:Nat->Nat) (x:Int) (w:World) (h:gT w v n m):Calls prog 308 #[.pointer v,.int .i64 x] w fun e w'=>e= .returned (.int .i64 (Co.vP n m x))/\∃k,w'=w.drewN k:=by
 have HV:=ζ (B4 v n m x w h);by_cases hx:Co.isIn n x
 .rw[decide_eq_true hx] at HV
  unfold Co.vP;rw[if_pos hx];have hxl:=Co.fO hx;rcases h with ⟨rfl,rfl⟩|⟨p,gp,gt,rfl,hn,P,S,L,r,d,h,hf⟩
  .omega
  .obtain⟨u,rfl⟩:∃u:Nat,x=(u:Int):=⟨x.toNat,by unfold Co.isIn at hx;omega⟩
   rw[abz] at hxl ⊢;have HR:=ζ (fun k=>Ic h hf hxl k);have c0:=h.c0;have c1:=h.c1;have hrl:=hf.rt u hxl;have d0:=(h.tU.cell hrl).2;rw[hf.ls u hxl] at d0;have r0:(0:Int)<=(r u:Int):=by omega
   have r1:(r u:Int)<(n:Int):=by omega
   clear h hf hx;go_enter func308,ntmps308;go_wp2_with (go_at_call 304;refine HV.out.mono ?_;rintro e w1 ⟨rfl,rfl⟩);go_quiet ((go_at_call 305;exact abq (HR.out _)));go_wp2;go_ret;exact⟨rfl,nq,rfl⟩
 .rw[decide_eq_false hx] at HV
  unfold Co.vP;rw[if_neg hx];clear h hx;go_enter func308,ntmps308;go_wp2_with (go_at_call 304;refine HV.out.mono ?_;rintro e w1 ⟨rfl,rfl⟩);go_ret;exact⟨rfl,0,rfl⟩
end
section
open Go.Proofs.Tryz
open Go.RowKit
theorem Pv (gp n:Nat) (P:Nat->Nat) (b a:Nat) (w:World) (hp:aC w gp (Co.ints n P)) (hb:b<n):
 Calls prog 306 #[.slice (some ⟨gp,0,none⟩) n n,.int .i64 (b:Int),.int .i64 (a:Int)] w fun e w'=>e= .returned (.tuple #[])/\aC w' gp (Co.ints n (Co.upd P b a))/\w'=w.setCell ⟨gp,b,none⟩ (.int .i64 (a:Int)):=by
 have c0:=hp.cell (Co.ints_at (f:=P) hb);have cf:=hp.free;have n1:=hp.set (i:=b) (by rw[Co.aZ];exact hb) (a:Int);rw[Co.ints_set a hb] at n1;have N1:=ζ n1;have b0:(0:Int)<=(b:Int):=by omega
 have b1:(b:Int)<(n:Int):=by omega
 clear hp n1;go_enter func306,ntmps306;go_wp2
 go_end0
 exact⟨rfl,N1.out,rfl⟩
theorem Ok (s l s' l':Nat) (w:World) (h1:s<=1048576) (h2:s'<=1048576):
 Calls prog 307 #[.agg #[.int .i64 (s:Int),.int .i64 (l:Int)],.agg #[.int .i64 (s':Int),.int .i64 (l':Int)]] w fun e w'=>e= .returned (.agg #[.int .i64 ((s+s':Nat):Int),.int .i64 ((min l l':Nat):Int)])/\Below w.heap.size w w':=by
 have hb0:∀o1 o2 o3,Below w.heap.size w (((w.alloc o1).alloc o2).alloc o3):=fun o1 o2 o3=>(((aae _ _).alloc (aad _) _).alloc (by simp) _).alloc (by simp;omega) _
 have HB:=ζ hb0;clear hb0;rcases Nat.le_total l l' with hl|hl
 .rw[Nat.min_eq_left hl]
  have e1:min (l:Int) (l':Int)=(l:Int):=by omega
  have e2:((s+s':Nat):Int)=(s:Int)+(s':Int):=by omega
  have e3:(l:Int)<=(l':Int):=by omega
  rw[e2];clear e2 hl;go_enter func307,ntmps307;go_wp2;refine bodyPost_ret (v:= .agg #[.int .i64 ((s:Int)+(s':Int)),.int .i64 (l:Int)]) (by simp[results,results307,go_sem]) rfl ?_;exact⟨rfl,HB.out _ _ _⟩
 .rw[Nat.min_eq_right hl]
  have e2:((s+s':Nat):Int)=(s:Int)+(s':Int):=by omega
  rw[e2];clear e2;by_cases he:l'=l
  .subst he
   have e1:min (l':Int) (l':Int)=(l':Int):=by omega
   clear hl;go_enter func307,ntmps307;go_wp2;refine bodyPost_ret (v:= .agg #[.int .i64 ((s:Int)+(s':Int)),.int .i64 (l':Int)]) (by simp[results,results307,go_sem]) rfl ?_;exact⟨rfl,HB.out _ _ _⟩
  .have e1:min (l:Int) (l':Int)=(l':Int):=by omega
   have e3:¬((l:Int)<=(l':Int)):=by omega
   have e4:(l':Int)<(l:Int):=by omega
   clear hl he;go_enter func307,ntmps307;go_wp2;refine bodyPost_ret (v:= .agg #[.int .i64 ((s:Int)+(s':Int)),.int .i64 (l':Int)]) (by simp[results,results307,go_sem]) rfl ?_;exact⟨rfl,HB.out _ _ _⟩
def lY (w:World) (q:Option (Nat×Nat×Nat)) (n:Nat) (m:Nat->Nat):Prop:=
 match q with
 |none=>n=0
 |some (p,gp,gt)=>fF w p gp gt n m
def vE:Option (Nat×Nat×Nat)->Option Addr
 |none=>none
 |some (p,_,_)=>some ⟨p,0,none⟩
def inQ:Option (Nat×Nat×Nat)->Nat->Prop
 |none,_=>False
 |some (p,gp,gt),b=>b=p\/b=gp\/b=gt
section
variable {w w':World} {q:Option (Nat×Nat×Nat)} {n:Nat} {m:Nat->Nat}
theorem lY.is (h:lY w q n m):gT w (vE q) n m:=by
 rcases q with _|⟨p,gp,gt⟩
 .exact .inl ⟨rfl,h⟩
 .exact .inr ⟨p,gp,gt,rfl,h⟩
theorem lY.later (h:lY w q n m) (hb:Below w.heap.size w w'):lY w' q n m:=by
 rcases q with _|⟨p,gp,gt⟩
 .exact h
 .exact fF.later h hb
end
def k9 (q:Option (Nat×Nat×Nat)) (n:Nat) (m:Nat->Nat) (x y:Int) (w:World) (e:Ending) (w':World):Prop:=
 e= .returned (.bool (Co.apart n m x y))/\lY w' q n (Co.fN n m x y)/\aq (inQ q) w w'
theorem qD {w W V1:World} {p gp gt n c:Nat} {P S L:Nat->Nat} (h:bH w p gp gt n (c+1) P S L) {A C:Nat} (hC:C<n) (hA:A<n) (s l:Nat) (hW:W=w.setCell ⟨gp,C,none⟩ (.int .i64 (A:Int))) (hV:Below W.heap.size W V1):
 bH (((V1.setCell ⟨gt,A*2,none⟩ (.int .i64 (s:Int))).setCell ⟨gt,A*2+1,none⟩ (.int .i64 (l:Int))).setCell ⟨p,2,none⟩ (.int .i64 (c:Int))) p gp gt n c (Co.upd P C A) (Co.upd S A s) (Co.upd L A l)/\
 aq (fun b=>b=p\/b=gp\/b=gt) w (((V1.setCell ⟨gt,A*2,none⟩ (.int .i64 (s:Int))).setCell ⟨gt,A*2+1,none⟩ (.int .i64 (l:Int))).setCell ⟨p,2,none⟩ (.int .i64 (c:Int)))/\
 bH V1 p gp gt n (c+1) (Co.upd P C A) S L:=by
 have hp:=(h.par.set (i:=C) (by rw[Co.aZ];exact hC) (A:Int));rw[Co.ints_set A hC,<-hW] at hp;have hb:W.heap[p]? =w.heap[p]? :=by rw[hW];exact heap_setCell_other w ⟨gp,C,none⟩ p _ h.d1
 have ht:W.heap[gt]? =w.heap[gt]? :=by rw[hW];exact heap_setCell_other w ⟨gp,C,none⟩ gt _ (acs h.d3)
 have hsz:W.heap.size=w.heap.size:=by rw[hW];simp
 have p1:=hp.later hV;have b1:V1.heap[p]? =w.heap[p]? :=(hV.block p (by rw[hsz];exact h.lt)).trans hb;have t1:V1.heap[gt]? =w.heap[gt]? :=(hV.block gt (by rw[hsz];exact h.tU.lt)).trans ht;have T1:=h.tU.same t1;have T2:=(T1.put hA s l).1;have p2:=((p1.other (i:=A*2) h.d3 (.int .i64 (s:Int))).other (i:=A*2+1) h.d3 (.int .i64 (l:Int))).other (i:=2) (acs h.d1) (.int .i64 (c:Int));have W1:aq (fun b=>b=p\/b=gp\/b=gt) w V1:=by
  have:aq (fun b=>b=p\/b=gp\/b=gt) w W:=by rw[hW];exact(aq.refl _ w).setCell (.inr (.inl rfl)) _
  exact this.later hV
 refine⟨⟨?_,p2,T2.same (heap_setCell_other _ ⟨p,2,none⟩ gt _ (acs h.d2)),h.d1,h.d2,h.d3⟩,((W1.setCell (.inr (.inr rfl)) _).setCell (.inr (.inr rfl)) _).setCell (.inl rfl) _,⟨b1.trans h.blk,p1,T1,h.d1,h.d2,h.d3⟩⟩;have b3:(((V1.setCell ⟨gt,A*2,none⟩ (.int .i64 (s:Int))).setCell ⟨gt,A*2+1,none⟩ (.int .i64 (l:Int)))).heap[p]? =some (.cells #[.slice (some ⟨gp,0,none⟩) n n,.slice (some ⟨gt,0,none⟩) n n,.int .i64 ((c+1:Nat):Int)] 384 (0,0)):=by
  rw[heap_setCell_other _ ⟨gt,A*2+1,none⟩ p _ h.d2,heap_setCell_other _ ⟨gt,A*2,none⟩ p _ h.d2,b1];exact h.blk
 rw[heap_setCell_same _ p 2 _ _ _ b3];simp
theorem O7 {w W V1:World} {p gp gt n c:Nat} {P S L:Nat->Nat} (h:bH w p gp gt n (c+1) P S L) {A C:Nat} (hC:C<n) (hA:A<n) (s l:Nat) (hW:W=w.setCell ⟨gp,C,none⟩ (.int .i64 (A:Int))) (hV:Below W.heap.size W V1):
 (V1.cell? ⟨p,1,none⟩=some (.slice (some ⟨gt,0,none⟩) n n)/\V1.cell? ⟨gt,A*2,none⟩=some (.int .i64 (S A:Int))/\V1.cell? ⟨gt,A*2+1,none⟩=some (.int .i64 (L A:Int))/\V1.cell? ⟨gt,C*2,none⟩=some (.int .i64 (S C:Int))/\V1.cell? ⟨gt,C*2+1,none⟩=some (.int .i64 (L C:Int))/\(∀i,V1.frozen? ⟨gt,i,none⟩=false))/\
 ((V1.setCell ⟨gt,A*2,none⟩ (.int .i64 (s:Int))).cell? ⟨gt,A*2+1,none⟩=some (.int .i64 (L A:Int))/\(V1.setCell ⟨gt,A*2,none⟩ (.int .i64 (s:Int))).frozen? ⟨gt,A*2+1,none⟩=false)/\
 (((V1.setCell ⟨gt,A*2,none⟩ (.int .i64 (s:Int))).setCell ⟨gt,A*2+1,none⟩ (.int .i64 (l:Int))).cell? ⟨p,1,none⟩=some (.slice (some ⟨gt,0,none⟩) n n)/\((V1.setCell ⟨gt,A*2,none⟩ (.int .i64 (s:Int))).setCell ⟨gt,A*2+1,none⟩ (.int .i64 (l:Int))).cell? ⟨p,2,none⟩=some (.int .i64 ((c:Int)+1))/\((V1.setCell ⟨gt,A*2,none⟩ (.int .i64 (s:Int))).setCell ⟨gt,A*2+1,none⟩ (.int .i64 (l:Int))).frozen? ⟨p,2,none⟩=false):=by
 obtain⟨-,-,hv⟩:=qD h hC hA s l hW hV;obtain⟨a1,a2⟩:=hv.tU.cell hA;obtain⟨b1,b2⟩:=hv.tU.cell hC;obtain⟨-,q1,q2⟩:=hv.tU.put hA s l;have hb:((V1.setCell ⟨gt,A*2,none⟩ (.int .i64 (s:Int))).setCell ⟨gt,A*2+1,none⟩ (.int .i64 (l:Int))).heap[p]? =some (.cells #[.slice (some ⟨gp,0,none⟩) n n,.slice (some ⟨gt,0,none⟩) n n,.int .i64 ((c+1:Nat):Int)] 384 (0,0)):=by
  rw[heap_setCell_other _ ⟨gt,A*2+1,none⟩ p _ h.d2,heap_setCell_other _ ⟨gt,A*2,none⟩ p _ h.d2];exact hv.blk
 exact⟨⟨hv.c1,a1,a2,b1,b2,hv.tU.free⟩,⟨q1,q2⟩,by simp[World.cell?,hb],by simp[World.cell?,hb],by simp[World.frozen?,hb]⟩
end
section
open Go.Proofs.Tryz
open Go.RowKit
theorem Tryz.infoTree:(prog.info? 386).map (fun i=>(i.zero,i.size,i.bytes))=some (some (.agg #[.int .i64 0,.int .i64 0]),2,16):=by kernel_rfl
theorem LJ {W:World} {k n:Nat} (h:W.heap.size=k):aC (W.alloc (.cells (madeCells #[.int .i64 0] n) 3)) k (Co.ints n (fun _=>0)):=by
 subst h;refine⟨[],?_⟩;rw[heap_alloc_new,abQ,Co.uh,<-cK]
theorem IM {W:World} {k n:Nat} (h:W.heap.size=k):bX (W.alloc (.cells (madeCells #[.int .i64 0,.int .i64 0] (n*2)) 386)) k n (fun _=>0) (fun _=>0):=by
 subst h;have hc:∀j,j<n*2->(madeCells #[Value.int .i64 0,Value.int .i64 0] (n*2)).toList[j]? =some (.int .i64 0):=fun j hj=>by
  have e:(madeCells #[Value.int .i64 0,Value.int .i64 0] (n*2)).toList=(List.range (n*2)).map (fun x=>[Value.int .i64 0,Value.int .i64 0][x%2]?.getD default):=by simp[madeCells]
  rw[e,aaP,acU hj];rcases abF j with h|h<;>simp[h]
 refine⟨(madeCells #[Value.int .i64 0,Value.int .i64 0] (n*2)).toList,by rw[heap_alloc_new],by rw[Array.length_toList,size_madeCells],fun i hi=>⟨hc _ (by omega),hc _ (by omega)⟩⟩
theorem bX.alloc {w:World} {g n:Nat} {S L:Nat->Nat} (h:bX w g n S L) (o:Obj):bX (w.alloc o) g n S L:=h.same (aaF w o g h.lt)
theorem Ox {W:World} {p gp gt n:Nat} (h:W.heap.size=p):(W.alloc (.cells #[.slice (some ⟨gp,0,none⟩) n n,.slice (some ⟨gt,0,none⟩) n n,.int .i64 (n:Int)] 384)).heap[p]? =some (.cells #[.slice (some ⟨gp,0,none⟩) n n,.slice (some ⟨gt,0,none⟩) n n,.int .i64 (n:Int)] 384 (0,0)):=by
 subst h;exact heap_alloc_new W _
def CN (n k p:Nat) (w wr:World):Prop:=
 ∃gp gt P S L,bH wr p gp gt n n P S L/\(∀i,i<k->P i=i/\S i=1/\L i=i)/\w.heap.size<=p/\w.heap.size<=gp/\w.heap.size<=gt/\Below w.heap.size w wr
def Qf (n:Int) (w:World) (e:Ending) (w':World):Prop:=
 ((∃k p gp gt:Nat,n=(k:Int)/\k<=1048576/\e= .returned (.tuple #[.pointer (some ⟨p,0,none⟩),.int .i64 0])/\fF w' p gp gt k (fun x=>x)/\w.heap.size<=p/\w.heap.size<=gp/\w.heap.size<=gt)\/((n<0\/1048576<n)/\e= .returned (.tuple #[.pointer none,.int .i64 2])))/\Below w.heap.size w w'
theorem QY (n:Int) (w:World):Calls prog 287 #[.int .i64 n] w (Qf n w):=by
 obtain⟨i0,hi,hz0,hz1,hz2⟩:=info_parts Tryz.b7;obtain⟨i1,hi1,hy0,hy1,hy2⟩:=info_parts Tryz.infoTree;by_cases h1:n<0
 .go_enter func287,ntmps287
  go_wp2;go_ret2;exact⟨.inr ⟨.inl h1,rfl⟩,aae _ _⟩
 by_cases h2:1048576<n
 .go_enter func287,ntmps287
  go_wp2;go_ret2;exact⟨.inr ⟨.inr h2,rfl⟩,aae _ _⟩
 obtain⟨k,rfl⟩:∃k:Nat,n=(k:Int):=⟨n.toNat,by omega⟩;have hkn:k<=1048576:=by omega
 have hm1:∀W,(Instr.makeSlice 381 (.int .i64 (k:Int)) (.int .i64 (k:Int))).run prog W= .ok (.slice (some ⟨W.heap.size,0,none⟩) k k) (W.alloc (.cells (madeCells #[.int .i64 0] k) 3)):=fun W=>by
  have:=run_make (P:=prog) W 381 3 i0 (.int .i64 0) Tryz.underlying381 hi hz0 .i64 .i64 (k:Int) (k:Int) (by omega) (acE _) (by rw[hz2];omega) (by omega);rw[this,hz1];simp[Value.cells]
 have hm2:∀W,(Instr.makeSlice 382 (.int .i64 (k:Int)) (.int .i64 (k:Int))).run prog W= .ok (.slice (some ⟨W.heap.size,0,none⟩) k k) (W.alloc (.cells (madeCells #[.int .i64 0,.int .i64 0] (k*2)) 386)):=fun W=>by
  have:=run_make (P:=prog) W 382 386 i1 (.agg #[.int .i64 0,.int .i64 0]) Tryz.underlying382 hi1 hy0 .i64 .i64 (k:Int) (k:Int) (by omega) (acE _) (by rw[hy2];omega) (by omega);rw[this,hy1];simp[Value.cells]
 go_enter func287,ntmps287
 go_upto_region 3 with fail
 go_cut [4] from 12 to 18 (fun x wr=>∃p:Nat,x= .pointer (some ⟨p,0,none⟩)/\CN k 0 p w wr)
 case first=>
  go_wp2_with fail
  go_region
  all_goals go_wp2_with fail
  all_goals go_meet
  all_goals
   refine⟨_,rfl,_,_,fun _=>0,fun _=>0,fun _=>0,⟨Ox (by simp),?_,?_,?_,?_,?_⟩,fun i hi=>by omega,?_,?_,?_,?_⟩
   .repeat (first|(refine LJ ?_;simp;done)|refine aC.alloc ?_ _)
   .repeat (first|(refine IM ?_;simp;done)|refine bX.alloc ?_ _)
   .omega
   .omega
   .omega
   .omega
   .omega
   .omega
   .repeat (first|exact aae _ _|refine aec ?_|refine ad6 ?_ (by first|omega|(simp;done)|(simp;omega)) _)
 case rest=>
  obtain⟨p,rfl,hmid⟩:=hcut;have Oe:=ζ hmid;clear hmid hm1 hm2;go_wp2;go_loopw [20] (fun c wr=>∃j:Nat,j<=k/\c= .int .i64 (j:Int)/\CN k j p w wr) (fun c _=>k-(intOf c).toNat)
  case atStart=>exact⟨0,aax _,rfl,Oe.out⟩
  case round=>
   obtain⟨j,hj,rfl,gp,gt,P,S,L,hH,hall,b1,b2,b3,hb⟩:=hrel;by_cases hlt:j<k
   .have aQ:(j:Int)<(k:Int):=by omega
    have hj0:(0:Int)<=(j:Int):=by omega
    obtain⟨W,hW⟩:∃W,W=wr.setCell ⟨gp,j,none⟩ (.int .i64 (j:Int)):=⟨_,rfl⟩;have q1:=hH.par.set (i:=j) (by rw[Co.aZ];exact hlt) (j:Int);rw[Co.ints_set j hlt,<-hW] at q1;have q2:W.heap[p]? =wr.heap[p]? :=by rw[hW];exact heap_setCell_other wr ⟨gp,j,none⟩ p _ hH.d1
    have q3:W.heap[gt]? =wr.heap[gt]? :=by rw[hW];exact heap_setCell_other wr ⟨gp,j,none⟩ gt _ (acs hH.d3)
    have T1:=hH.tU.same q3;obtain⟨T2,t1,t2⟩:=T1.put hlt 1 j;have c0:=hH.c0;have c1:W.cell? ⟨p,1,none⟩=some (.slice (some ⟨gt,0,none⟩) k k):=by simp[World.cell?,q2,hH.blk]
    have p0:=hH.par.cell (Co.ints_at (f:=P) hlt);have pf:=hH.par.free;have tc:=(T1.cell hlt).1;have tf:=T1.free;obtain⟨v1,v2⟩:=hH.tU.cell hlt;have vf:=hH.tU.free;rw[show((1:Nat):Int)=1 from rfl] at t1 t2;have jf:Hid (CN k (j+1) p w ((W.setCell ⟨gt,j*2,none⟩ (.int .i64 1)).setCell ⟨gt,j*2+1,none⟩ (.int .i64 (j:Int)))):=by
     refine⟨gp,gt,_,_,_,⟨?_,(q1.other (i:=j*2) hH.d3 _).other (i:=j*2+1) hH.d3 _,T2,hH.d1,hH.d2,hH.d3⟩,fun i hi=> ?_,b1,b2,b3,?_⟩
     .rw[heap_setCell_other _ ⟨gt,j*2+1,none⟩ p _ hH.d2,heap_setCell_other _ ⟨gt,j*2,none⟩ p _ hH.d2,q2]
      exact hH.blk
     .by_cases e:i=j
      .subst e
       rw[Co.upd_same,Co.upd_same,Co.upd_same];exact⟨rfl,rfl,rfl⟩
      .rw[Co.aV _ e,Co.aV _ e,Co.aV _ e]
       exact hall i (by omega)
     .rw[hW]
      exact((hb.setCell (p:=⟨gp,j,none⟩) b2 _).setCell (p:=⟨gt,j*2,none⟩) b3 _).setCell (p:=⟨gt,j*2+1,none⟩) b3 _
    clear hH hall hb q1 q2 q3 T1 T2;subst hW;go_wp2;go_roundw
    case rel=>exact⟨j+1,by omega,by go_num,jf.out⟩
    case measure=>simp[intOf];omega
   .have hd:¬((j:Int)<(k:Int)):=by omega
    obtain rfl:j=k:=by omega
    have jf:Hid (fF wr p gp gt j (fun x=>x)):=by
     refine⟨hkn,_,_,_,_,_,?_,Co.Mt j⟩;rw[Co.NZ];refine⟨hH.blk,?_,hH.tU.congr (fun i hi=>(hall i hi).2.1) (fun i hi=>(hall i hi).2.2),hH.d1,hH.d2,hH.d3⟩;rw[<-Co.mF (fun i hi=>(hall i hi).1)];exact hH.par
    have HB:=ζ hb;clear hH hall hb;go_wp2;go_ret2;exact⟨.inl ⟨j,p,gp,gt,rfl,hkn,rfl,jf.out,b1,b2,b3⟩,HB.out⟩
end
section
open Go.Proofs.Tryz
open Go.RowKit
namespace Co
def fix (m:Nat->Nat) (i:Nat):Bool:=decide (m i=i)
def num (m:Nat->Nat) (a:Nat):Nat:=aA (fix m) (m a)
theorem Ka (n:Nat) (m:Nat->Nat):aA (fix m) n=cnt n m:=rfl
theorem EE {m:Nat->Nat} {a:Nat} (h:m a=a):num m a=aA (fix m) a:=by unfold num;rw[h]
theorem Bb {n:Nat} {m:Nat->Nat} (hn:Norm n m) {a:Nat} (ha:a<n):num m (m a)=num m a:=by unfold num;rw[hn.idem a ha]
theorem tM {m:Nat->Nat} {a:Nat} (h:m a=a):aA (fix m) (a+1)=aA (fix m) a+1:=by
 conv=>lhs;unfold aA
 rw[if_pos (by simpa[fix] using h)]
theorem wq {m:Nat->Nat} {a:Nat} (h:m a≠a):aA (fix m) (a+1)=aA (fix m) a:=by
 conv=>lhs;unfold aA
 rw[if_neg (by simpa[fix] using h)];rfl
theorem LL {n:Nat} {m:Nat->Nat} {a:Nat} (h:a<n):vP n m (a:Int)=(m a:Int):=by
 unfold vP;rw[if_pos ⟨by omega,by omega⟩,abz]
end Co
def S4 (n:Nat) (m:Nat->Nat) (w:World) (e:Ending) (w':World):Prop:=
 ∃v,e= .returned v/\aj w' w.heap.size v (Co.ints n (Co.num m))/\Below w.heap.size w w'
theorem Dp (v:Option Addr) (n:Nat) (m:Nat->Nat) (w:World) (h:gT w v n m):Calls prog 289 #[.pointer v] w (S4 n m w):=by
 obtain⟨i0,hi,hz0,hz1,hz2⟩:=info_parts Tryz.b7;have hn:=h.bound;have xZ:=ζ h.norm;have hle:∀W a,a<n->Below w.heap.size w W->Calls prog 308 #[.pointer v,.int .i64 (a:Int)] W fun e w'=>e= .returned (.int .i64 (m a:Int))/\∃k,w'=W.drewN k:=fun W a ha hb=>by
  have:=LK v n m a W (h.later hb);rw[Co.LL ha] at this;exact this
 have zY:=ζ hle;clear hle;rcases h with ⟨rfl,rfl⟩|⟨p,gp,gt,rfl,-,P,S,L,r,d,h,-⟩
 .go_enter func289,ntmps289
  go_wp2;go_ret;exact⟨_,rfl,aj.nil _ _,aae _ _⟩
 .have c0:=h.c0
  clear h;go_enter func289,ntmps289;go_wp2_with (at_make;refine wpList_make_full _ rfl _ _ 55 rfl w.heap.size 3 i0 (.int .i64 0) 1 Tryz.underlying55 hi hz0 hz1 _ _ _ _ n rfl rfl rfl rfl (by rw[hz2];omega) (by unfold maxLen;omega) (aad _) ?_;refine aaj ?_);refine ζ ?_;intro w2 hrow hg2;rw[cK] at hrow;have hik:=dV hrow;rw[<-Co.uh] at hik;have hb2:Below w.heap.size w w2:=(aae _ _).grown hg2 (aad _) (fun j hj=>by cases hj);have rz:=ζ hik;have aB:=ζ hb2;clear hrow hg2 hik hb2;go_wp2;go_loopw [4,17] (fun s c wr=>∃(k:Nat) (F:Nat->Nat),k<=n/\c= .int .i64 (k:Int)/\s= .int .i64 (Co.aA (Co.fix m) k:Int)/\(∀i,i<k->F i=Co.num m i)/\ak wr w.heap.size (Co.ints n F)/\Below w.heap.size w wr) (fun _ c _=>n-(intOf c).toNat)
  case atStart=>exact⟨0,_,aax _,rfl,rfl,fun i hi=>by omega,rz.out,aB.out⟩
  case round=>
   obtain⟨k,F,hk,rfl,rfl,hF,j5,hb⟩:=hrel;have hcl:=Co.bF (Co.fix m) k;by_cases hkn:k<n
   .have hk0:(0:Int)<=(k:Int):=by omega
    have hk1:(k:Int)<(n:Int):=by omega
    have HL:=ζ (zY.out wr k hkn hb);have HF:=ζ hF;have HIS:=ζ j5;have HB:=ζ hb;clear hF j5 hb;by_cases hf:m k=k
    .have hd:((m k:Int)==(k:Int))=true:=by simp[hf]
     have jD:=Co.tM hf;have ko:=Co.EE hf;have pY:=ζ jD;have D9:=ζ ko;obtain⟨z,hz⟩:∃z,Co.aA (Co.fix m) k=z:=⟨_,rfl⟩;rw[hz] at hcl pY D9 ⊢;clear jD ko hz hf;go_wp2_with (go_at_call 308;refine HL.out.mono ?_;rintro e w3 ⟨rfl,q,hw3⟩;have uR:=ζ hw3;clear hw3;refine aaj ?_);refine ζ ?_;have i3:ak w3 w.heap.size (Co.ints n F):=by rw[uR.out];exact HIS.out
     have b3:Below w.heap.size w w3:=by rw[uR.out];exact below_drewN HB.out q
     have cx:=i3.cell (Co.ints_at (f:=F) hkn);have cf:=i3.free;have n1:=i3.set k (z:Int);rw[Co.ints_set z hkn] at n1;have lZ:=ζ n1;have aJ:=ζ (b3.setCell (p:=⟨w.heap.size,k,none⟩) (aad _) (.int .i64 (z:Int)));clear i3 b3 n1;go_wp2;go_roundw
     case rel=>
      refine⟨k+1,_,by omega,by go_num,by rw[pY.out];go_num,fun i hi=> ?_,lZ.out,aJ.out⟩;by_cases e:i=k
      .subst e;rw[Co.upd_same,D9.out]
      .rw[Co.aV _ e];exact HF.out i (by omega)
     case measure=>simp[intOf];omega
    .have hd:((m k:Int)==(k:Int))=false:=by simp;omega
     have hml:=xZ.out.le k hkn;have hmk:m k<k:=by omega
     have jD:=Co.wq hf;have pY:=ζ jD;have ko:=Co.Bb xZ.out hkn;have Mh:=HF.out (m k) hmk;rw[ko] at Mh;have TK:=ζ Mh;obtain⟨z,hz⟩:∃z,Co.aA (Co.fix m) k=z:=⟨_,rfl⟩;rw[hz] at hcl pY ⊢;obtain⟨y,hy⟩:∃y,m k=y:=⟨_,rfl⟩;rw[hy] at hmk HL hd TK;have y0:(0:Int)<=(y:Int):=by omega
     have y1:(y:Int)<(n:Int):=by omega
     clear jD ko Mh hz hf hy hml;go_wp2_with (go_at_call 308;refine HL.out.mono ?_;rintro e w3 ⟨rfl,q,hw3⟩;have uR:=ζ hw3;clear hw3;refine aaj ?_);refine ζ ?_;have i3:ak w3 w.heap.size (Co.ints n F):=by rw[uR.out];exact HIS.out
     have b3:Below w.heap.size w w3:=by rw[uR.out];exact below_drewN HB.out q
     have cx:=i3.cell (Co.ints_at (f:=F) hkn);have cy:=i3.cell (Co.ints_at (f:=F) (show y<n by omega));have cf:=i3.free;have n1:=i3.set k (F y:Int);rw[Co.ints_set (F y) hkn] at n1;have lZ:=ζ n1;have aJ:=ζ (b3.setCell (p:=⟨w.heap.size,k,none⟩) (aad _) (.int .i64 (F y:Int)));clear i3 b3 n1;go_wp2;go_roundw
     case rel=>
      refine⟨k+1,_,by omega,by go_num,by rw[pY.out],fun i hi=> ?_,lZ.out,aJ.out⟩;by_cases e:i=k
      .subst e;rw[Co.upd_same,TK.out]
      .rw[Co.aV _ e];exact HF.out i (by omega)
     case measure=>simp[intOf];omega
   .have hd:¬((k:Int)<(n:Int)):=by omega
    obtain rfl:k=n:=by omega
    rw[Co.mF hF] at j5;have HIS:=ζ j5;have HB:=ζ hb;clear hF j5 hb;go_wp2;go_ret;exact⟨_,rfl,HIS.out.own (aad _) (Co.aZ _ _) (by omega),HB.out⟩
end
end Go.Proofs.YtdbjpbjocmcpkaaGreatDoor
