import Derived.Test.YtdbjpbjocmcpkaaGreatDoorMj01
set_option maxHeartbeats 1000000
set_option maxRecDepth 100000
namespace Go.Proofs.YtdbjpbjocmcpkaaGreatDoor
section
namespace Co
def aC (p:Nat->Bool):Nat->Nat
 |0=>0
 |k+1=>aC p k+(if p k then 1 else 0)
theorem bM (p:Nat->Bool):∀k,aC p k<=k
 |0=>aaF _
 |k+1=>by
  have:=bM p k;unfold aC
  split<;>omega
theorem bA {p q:Nat->Bool}:∀k,(∀i,i<k->p i=q i)->aC p k=aC q k
 |0,_=>rfl
 |k+1,h=>by
  have ih:=bA k (fun i hi=>h i (by omega));unfold aC;rw[ih,h k (by omega)]
theorem uy {p q s:Nat->Bool}:∀k,(∀i,i<k->((s i=(p i||q i))/\(p i&&q i)=false))->aC s k=aC p k+aC q k
 |0,_=>rfl
 |k+1,h=>by
  have ih:=uy k (fun i hi=>h i (by omega));obtain⟨h1,h2⟩:=h k (by omega);unfold aC;rw[ih,h1];cases hp:p k<;>cases hq:q k<;>rw[hp,hq] at h2<;>simp at h2 ⊢ <;>omega
theorem e7 (h:Nat):∀k,aC (fun i=>decide (i=h)) k=if h<k then 1 else 0
 |0=>rfl
 |k+1=>by
  have ih:=e7 h k;unfold aC;rw[ih];by_cases e:k=h
  .subst e
   simp
  .have e1:(if decide (k=h)=true then 1 else 0)=0:=if_neg (by simpa using e)
   rw[e1];by_cases hk:h<k
   .rw[if_pos hk,if_pos (by omega)]
   .rw[if_neg hk,if_neg (by omega)]
theorem wG {p:Nat->Bool} {x:Nat}:∀k,x<k->p x=true->0<aC p k
 |0,h,_=>by omega
 |k+1,h,hp=>by
  unfold aC;by_cases e:x=k
  .subst e;rw[hp];simp
  .have:=wG k (by omega) hp
   omega
structure Norm (n:Nat) (m:Nat->Nat):Prop where
 le:∀x,x<n->m x<=x
 idem:∀x,x<n->m (m x)=m x
theorem Norm.lt {n:Nat} {m:Nat->Nat} (h:Norm n m) {x:Nat} (hx:x<n):m x<n:=by
 have:=h.le x hx;omega
def cnt (n:Nat) (m:Nat->Nat):Nat:=aC (fun i=>decide (m i=i)) n
def size (n:Nat) (m:Nat->Nat) (a:Nat):Nat:=aC (fun i=>decide (m i=m a)) n
def join (m:Nat->Nat) (a b:Nat):Nat->Nat:=fun x=>if m x=max (m a) (m b) then min (m a) (m b) else m x
theorem join_comm (m:Nat->Nat) (a b:Nat):join m a b=join m b a:=by
 funext x;unfold join;rw[Nat.max_comm,Nat.min_comm]
theorem KP (n:Nat):Norm n (fun x=>x):=⟨fun _ _=>aaF _,fun _ _=>rfl⟩
theorem QS (n:Nat):cnt n (fun x=>x)=n:=by
 unfold cnt
 induction n with
 |zero=>rfl
 |succ n ih=>unfold aC;rw[ih];simp
theorem TV {n a:Nat} (h:a<n):size n (fun x=>x) a=1:=by
 unfold size;rw[e7,if_pos h]
theorem yC (n:Nat) (m:Nat->Nat):cnt n m<=n:=bM _ _
theorem size_le (n:Nat) (m:Nat->Nat) (a:Nat):size n m a<=n:=bM _ _
section
variable {n:Nat} {m:Nat->Nat} {a b:Nat}
theorem gO (h:Norm n m) (ha:a<n) (hb:b<n) (hne:m a≠m b):∃lo hi,lo<hi/\hi<n/\m lo=lo/\m hi=hi/\((lo=m a/\hi=m b)\/(lo=m b/\hi=m a))/\∀x,join m a b x=if m x=hi then lo else m x:=by
 rcases Nat.lt_or_gt_of_ne hne with hlt|hlt
 .exact⟨m a,m b,hlt,h.lt hb,h.idem a ha,h.idem b hb,.inl ⟨rfl,rfl⟩,fun x=>by unfold join;rw[Nat.max_eq_right (by omega),Nat.min_eq_left (by omega)]⟩
 .exact⟨m b,m a,hlt,h.lt ha,h.idem b hb,h.idem a ha,.inr ⟨rfl,rfl⟩,fun x=>by unfold join;rw[Nat.max_eq_left (by omega),Nat.min_eq_right (by omega)]⟩
theorem Norm.join (h:Norm n m) (ha:a<n) (hb:b<n) (hne:m a≠m b):Norm n (join m a b):=by
 obtain⟨lo,hi,h1,h2,h3,h4,-,hj⟩:=gO h ha hb hne;refine⟨fun x hx=> ?_,fun x hx=> ?_⟩
 .rw[hj]
  have:=h.le x hx
  split<;>omega
 .rw[hj x]
  split
  .rw[hj,h3,if_neg (by omega)]
  .rename_i hx'
   rw[hj,h.idem x hx,if_neg hx']
theorem Ho (h:Norm n m) (ha:a<n) (hb:b<n) (hne:m a≠m b):cnt n (join m a b)+1=cnt n m:=by
 obtain⟨lo,hi,h1,h2,h3,h4,-,hj⟩:=gO h ha hb hne;have e:=uy (p:=fun i=>decide (join m a b i=i)) (q:=fun i=>decide (i=hi)) (s:=fun i=>decide (m i=i)) n (fun i hi'=>by
  rw[hj];by_cases e:i=hi
  .subst e
   rw[h4,if_pos rfl];have:¬lo=i:=by omega
   simp[this]
  .by_cases e2:m i=hi
   .rw[if_pos e2,e2]
    have h5:¬hi=i:=fun h=>e h.symm
    have h6:¬lo=i:=fun h=>by rw[<-h,h3] at e2;omega
    simp[h5,h6,e]
   .rw[if_neg e2]
    simp[e])
 rw[e7,if_pos h2] at e;unfold cnt;omega
theorem kE (h:Norm n m) (ha:a<n) (hb:b<n) (hne:m a≠m b) {x y:Nat} (_:x<n) (_:y<n):
 join m a b x=join m a b y↔(m x=m y\/((m x=m a\/m x=m b)/\(m y=m a\/m y=m b))):=by
 obtain⟨lo,hi,h1,h2,h3,h4,hc,hj⟩:=gO h ha hb hne;rw[hj,hj];by_cases ex:m x=hi<;>by_cases ey:m y=hi
 .rw[if_pos ex,if_pos ey];omega
 .rw[if_pos ex,if_neg ey];omega
 .rw[if_neg ex,if_pos ey];omega
 .rw[if_neg ex,if_neg ey];omega
theorem vg (h:Norm n m) (ha:a<n) (hb:b<n) (hne:m a≠m b) {x:Nat} (hx:x<n) (hm:m x=m a\/m x=m b):size n (join m a b) x=size n m a+size n m b:=by
 unfold size;refine uy n (fun i hi=> ?_);have:=kE h ha hb hne hi hx;rw[ace];simp only[decide_eq_true_eq,ab6,Bool.and_eq_false_iff,decide_eq_false_iff_not,this];omega
theorem CL (h:Norm n m) (ha:a<n) (hb:b<n) (hne:m a≠m b) {x:Nat} (hx:x<n) (h1:m x≠m a) (h2:m x≠m b):size n (join m a b) x=size n m x:=by
 unfold size;refine bA n (fun i hi=> ?_);have:=kE h ha hb hne hi hx;rw[ace];simp only[decide_eq_true_eq,this];omega
theorem Lm (h:Norm n m) (ha:a<n) (hb:b<n) (hne:m a≠m b) {x:Nat} (hm:m x=m a\/m x=m b):join m a b x=min (m a) (m b):=by
 obtain⟨lo,hi,h1,h2,h3,h4,hc,hj⟩:=gO h ha hb hne;rw[hj]
 split<;>omega
theorem Sa (h:Norm n m) (ha:a<n) (hb:b<n) (hne:m a≠m b) {x:Nat} (h1:m x≠m a) (h2:m x≠m b):join m a b x=m x:=by
 obtain⟨lo,hi,_,_,_,_,hc,hj⟩:=gO h ha hb hne;rw[hj,if_neg];omega
end
structure oF (n:Nat) (P S L m r d:Nat->Nat):Prop where
 norm:Norm n m
 lt:∀x,x<n->P x<n
 rt:∀x,x<n->r x<n
 top:∀x,x<n->P (r x)=r x
 up:∀x,x<n->r (P x)=r x
 self:∀x,x<n->P x=x->r x=x
 deep:∀x,x<n->P x≠x->d (P x)<d x
 same:∀x y,x<n->y<n->(r x=r y↔m x=m y)
 sz:∀x,x<n->S (r x)=size n m x
 ls:∀x,x<n->L (r x)=m x
theorem oF.rr {n:Nat} {P S L m r d:Nat->Nat} (h:oF n P S L m r d) {x:Nat} (hx:x<n):r (r x)=r x:=h.self _ (h.rt x hx) (h.top x hx)
theorem O7 (n:Nat):oF n (fun x=>x) (fun _=>1) (fun x=>x) (fun x=>x) (fun x=>x) (fun _=>0):=
 ⟨KP n,fun _ h=>h,fun _ h=>h,fun _ _=>rfl,fun _ _=>rfl,fun _ _ _=>rfl,fun _ _ h=>absurd rfl h,fun _ _ _ _=>Iff.rfl,fun _ h=>(TV h).symm,fun _ _=>rfl⟩
def upd (f:Nat->Nat) (x y:Nat):Nat->Nat:=fun i=>if i=x then y else f i
theorem upd_same (f:Nat->Nat) (x y:Nat):upd f x y x=y:=by simp[upd]
theorem aX (f:Nat->Nat) {x y i:Nat} (h:i≠x):upd f x y i=f i:=by simp[upd,h]
theorem oF.hang {n:Nat} {P S L m r d:Nat->Nat} (h:oF n P S L m r d) {a b:Nat} (ha:a<n) (hb:b<n) (hne:r a≠r b):
 ∃r' d',oF n (upd P (r b) (r a)) (upd S (r a) (S (r a)+S (r b))) (upd L (r a) (min (L (r a)) (L (r b)))) (join m a b) r' d':=by
 have hm:m a≠m b:=fun e=>hne ((h.same a b ha hb).2 e)
 have hA:=h.rt a ha;have hB:=h.rt b hb;have hrA:=h.rr ha;have hrB:=h.rr hb;have hkey:∀x,x<n->(r x=r a↔m x=m a)/\(r x=r b↔m x=m b):=fun x hx=>⟨h.same x a hx ha,h.same x b hx hb⟩
 refine⟨fun x=>if r x=r b then r a else r x,fun x=>if r x=r b then d x+d (r a)+1 else d x,h.norm.join ha hb hm,fun x hx=> ?_,fun x hx=> ?_,fun x hx=> ?_,fun x hx=> ?_,fun x hx hp=> ?_,fun x hx hp=> ?_,fun x y hx hy=> ?_,fun x hx=> ?_,fun x hx=> ?_⟩
 .unfold upd
  split
  .exact hA
  .exact h.lt x hx
 .split
  .exact hA
  .exact h.rt x hx
 .split
  .rw[aX _ hne];exact h.top a ha
  .rename_i e
   rw[aX _ e];exact h.top x hx
 .by_cases e:x=r b
  .subst e
   rw[upd_same,hrA,hrB,if_neg hne,if_pos rfl]
  .rw[aX _ e,h.up x hx]
 .by_cases e:x=r b
  .subst e
   rw[upd_same] at hp;exact absurd hp hne
  .rw[aX _ e] at hp
   have:=h.self x hx hp;rw[if_neg (by rw[this];exact e)];exact this
 .by_cases e:x=r b
  .subst e
   rw[upd_same,hrA,hrB,if_neg hne,if_pos rfl];omega
  .rw[aX _ e] at hp ⊢
   have:=h.deep x hx hp;rw[h.up x hx]
   split<;>omega
 .rw[kE h.norm ha hb hm hx hy]
  obtain⟨k1,k2⟩:=hkey x hx;obtain⟨k3,k4⟩:=hkey y hy;have k5:=h.same x y hx hy;rw[<-k1,<-k2,<-k3,<-k4,<-k5];by_cases ex:r x=r b<;>by_cases ey:r y=r b
  .rw[if_pos ex,if_pos ey];omega
  .rw[if_pos ex,if_neg ey];omega
  .rw[if_neg ex,if_pos ey];omega
  .rw[if_neg ex,if_neg ey];omega
 .obtain⟨k1,k2⟩:=hkey x hx
  by_cases ex:r x=r b
  .rw[if_pos ex,upd_same,vg h.norm ha hb hm hx (.inr (k2.1 ex)),h.sz a ha,h.sz b hb]
  .rw[if_neg ex]
   by_cases ea:r x=r a
   .rw[ea,upd_same,vg h.norm ha hb hm hx (.inl (k1.1 ea)),h.sz a ha,h.sz b hb]
   .rw[aX _ ea,h.sz x hx,CL h.norm ha hb hm hx (fun e=>ea (k1.2 e)) (fun e=>ex (k2.2 e))]
 .obtain⟨k1,k2⟩:=hkey x hx
  by_cases ex:r x=r b
  .rw[if_pos ex,upd_same,Lm h.norm ha hb hm (.inr (k2.1 ex)),h.ls a ha,h.ls b hb]
  .rw[if_neg ex]
   by_cases ea:r x=r a
   .rw[ea,upd_same,Lm h.norm ha hb hm (.inl (k1.1 ea)),h.ls a ha,h.ls b hb]
   .rw[aX _ ea,h.ls x hx,Sa h.norm ha hb hm (fun e=>ea (k1.2 e)) (fun e=>ex (k2.2 e))]
def isIn (n:Nat) (x:Int):Prop:=0<=x/\x<(n:Int)
instance (n:Nat) (x:Int):Decidable (isIn n x):=inferInstanceAs (Decidable (_/\_))
def apart (n:Nat) (m:Nat->Nat) (a b:Int):Bool:=decide (isIn n a/\isIn n b/\m a.toNat≠m b.toNat)
def gP (n:Nat) (m:Nat->Nat) (a b:Int):Nat->Nat:=if apart n m a b then join m a.toNat b.toNat else m
def xQ (n:Nat) (m:Nat->Nat) (a:Int):Int:=if isIn n a then (m a.toNat:Int) else -1
theorem nI {n:Nat} {m:Nat->Nat} {a b:Int}:apart n m a b=true↔(isIn n a/\isIn n b/\m a.toNat≠m b.toNat):=by unfold apart;exact decide_eq_true_iff
theorem gQ {n:Nat} {x:Int} (h:isIn n x):x.toNat<n:=by unfold isIn at h;omega
def joins (n:Nat) (js:List (Int×Int)) (m:Nat->Nat):Nat->Nat:=js.foldl (fun m j=>gP n m j.1 j.2) m
theorem A4 (n:Nat) (js:List (Int×Int)) (j:Int×Int) (m:Nat->Nat):joins n (js++[j]) m=gP n (joins n js m) j.1 j.2:=by simp[joins,List.foldl_append]
def jO (n:Nat) (js:List (Int×Int)) (f:Nat->Nat):Prop:=∀j∈js,isIn n j.1->isIn n j.2->f j.1.toNat=f j.2.toNat
structure Gen (n:Nat) (js:List (Int×Int)) (m:Nat->Nat):Prop where
 norm:Norm n m
 meets:jO n js m
 least:∀f:Nat->Nat,jO n js f->∀x,x<n->f (m x)=f x
theorem Gen.id (n:Nat):Gen n [] (fun x=>x):=⟨KP n,(fun _ h=>by cases h),fun _ _ _ _=>rfl⟩
theorem Gen.keep {n:Nat} {js:List (Int×Int)} {m:Nat->Nat} (h:Gen n js m) {j:Int×Int} (hj:¬(isIn n j.1/\isIn n j.2/\m j.1.toNat≠m j.2.toNat)):Gen n (js++[j]) m:=by
 refine⟨h.norm,fun k hk h1 h2=> ?_,fun f hf=>h.least f (fun k hk=>hf k (abV _ hk))⟩;rcases abo.1 hk with hk|hk
 .exact h.meets k hk h1 h2
 .obtain rfl:=abe.1 hk
  exact aee fun e=>hj ⟨h1,h2,e⟩
theorem Gen.join {n:Nat} {js:List (Int×Int)} {m:Nat->Nat} (h:Gen n js m) {j:Int×Int} (h1:isIn n j.1) (h2:isIn n j.2) (h3:m j.1.toNat≠m j.2.toNat):Gen n (js++[j]) (join m j.1.toNat j.2.toNat):=by
 have ha:=gQ h1;have hb:=gQ h2;refine⟨h.norm.join ha hb h3,fun k hk k1 k2=> ?_,fun f hf x hx=> ?_⟩
 .rcases abo.1 hk with hk|hk
  .exact(kE h.norm ha hb h3 (gQ k1) (gQ k2)).2 (.inl (h.meets k hk k1 k2))
  .obtain rfl:=abe.1 hk
   exact(kE h.norm ha hb h3 (gQ k1) (gQ k2)).2 (.inr ⟨.inl rfl,.inr rfl⟩)
 .have hf':jO n js f:=fun k hk=>hf k (abV _ hk)
  have hj:=hf j (adz _ (List.mem_singleton_self _)) h1 h2;have ea:=h.least f hf' _ ha;have eb:=h.least f hf' _ hb;have ex:=h.least f hf' x hx;obtain⟨lo,hi,_,_,_,_,hc,hjj⟩:=gO h.norm ha hb h3;rw[hjj]
  split
  .rename_i e
   rcases hc with ⟨e1,e2⟩|⟨e1,e2⟩
   .rw[e1,ea,hj,<-eb,<-e2,<-e,ex]
   .rw[e1,eb,<-hj,<-ea,<-e2,<-e,ex]
  .exact ex
theorem Gen.gP {n:Nat} {js:List (Int×Int)} {m:Nat->Nat} (h:Gen n js m) (j:Int×Int):Gen n (js++[j]) (gP n m j.1 j.2):=by
 unfold Co.gP
 split
 .rename_i e
  obtain⟨h1,h2,h3⟩:=nI.1 e;exact h.join h1 h2 h3
 .rename_i e
  exact h.keep (fun h=>e (nI.2 h))
theorem wz (n:Nat) (js:List (Int×Int)):Gen n js (joins n js (fun x=>x)):=by
 suffices h:∀(ks js:List (Int×Int)) (m:Nat->Nat),Gen n js m->Gen n (js++ks) (joins n ks m) by simpa using h js [] _ (Gen.id n)
 intro ks
 induction ks with
 |nil=>intro js m h;rw[abP];exact h
 |cons k ks ih=>
  intro js m h;have:=ih _ _ (h.gP k);rw[abb] at this;exact this
end Co
end
section
open Go.Proofs.Tryz
open Go.RowKit
namespace Co
def ints (n:Nat) (f:Nat->Nat):List Int:=(List.range n).map fun i=>(f i:Int)
theorem bw (n:Nat) (f:Nat->Nat):(ints n f).length=n:=by simp[ints]
theorem ints_at {n i:Nat} {f:Nat->Nat} (h:i<n):(ints n f)[i]? =some (f i:Int):=by
 unfold ints;rw[abj,acT h];rfl
theorem oq {n:Nat} {f g:Nat->Nat} (h:∀i,i<n->f i=g i):ints n f=ints n g:=by
 unfold ints;exact abS fun i hi=>by rw[h i (abq.1 hi)]
theorem ints_set {n i:Nat} {f:Nat->Nat} (x:Nat) (_:i<n):(ints n f).set i (x:Int)=ints n (upd f i x):=by
 refine ab0 fun j=> ?_
 rw[aa8,bw];by_cases hj:j<n
 .rw[ints_at hj,ints_at hj]
  by_cases e:i=j
  .subst e
   rw[if_pos rfl,if_pos hj,upd_same]
  .rw[if_neg e,aX _ (acn e)]
 .rw[aa6 (by rw[bw];omega),aa6 (by rw[bw];omega)]
  by_cases e:i=j
  .rw[if_pos e,if_neg (by omega)]
  .rw[if_neg e]
theorem vY (n:Nat):ints n (fun _=>0)=List.replicate n 0:=by
 refine ab0 fun j=> ?_
 rw[ach];by_cases hj:j<n
 .rw[ints_at hj,if_pos hj];rfl
 .rw[aa6 (by rw[bw];omega),if_neg hj]
end Co
def ct (w:World) (g n:Nat) (S L:Nat->Nat):Prop:=∃cs:List Value,w.heap[g]? =some (.cells cs.toArray 386 (0,0))/\cs.length=n*2/\∀i,i<n->cs[i*2]? =some (.int .i64 (S i:Int))/\cs[i*2+1]? =some (.int .i64 (L i:Int))
section
variable {w w':World} {g n:Nat} {S L:Nat->Nat}
theorem ct.lt (h:ct w g n S L):g<w.heap.size:=by
 obtain⟨cs,h,_⟩:=h;exact lt_of_block h
theorem ct.cell (h:ct w g n S L) {i:Nat} (hi:i<n):w.cell? ⟨g,i*2,none⟩=some (.int .i64 (S i:Int))/\w.cell? ⟨g,i*2+1,none⟩=some (.int .i64 (L i:Int)):=by
 obtain⟨cs,h,hl,hc⟩:=h;obtain⟨h1,h2⟩:=hc i hi;simp[World.cell?,h,h1,h2]
theorem ct.free (h:ct w g n S L) (i:Nat):w.frozen? ⟨g,i,none⟩=false:=by
 obtain⟨cs,h,_⟩:=h;simp[World.frozen?,h]
theorem ct.same (h:ct w g n S L) (hb:w'.heap[g]? =w.heap[g]?):ct w' g n S L:=by
 obtain⟨cs,h,hr⟩:=h;exact⟨cs,hb.trans h,hr⟩
theorem ct.congr {S' L':Nat->Nat} (h:ct w g n S L) (h1:∀i,i<n->S i=S' i) (h2:∀i,i<n->L i=L' i):ct w g n S' L':=by
 obtain⟨cs,h,hl,hc⟩:=h;exact⟨cs,h,hl,fun i hi=>by rw[<-h1 i hi,<-h2 i hi];exact hc i hi⟩
theorem ct.put (h:ct w g n S L) {i:Nat} (hi:i<n) (s l:Nat):
 ct ((w.setCell ⟨g,i*2,none⟩ (.int .i64 (s:Int))).setCell ⟨g,i*2+1,none⟩ (.int .i64 (l:Int))) g n (Co.upd S i s) (Co.upd L i l)/\(w.setCell ⟨g,i*2,none⟩ (.int .i64 (s:Int))).cell? ⟨g,i*2+1,none⟩=some (.int .i64 (L i:Int))/\(w.setCell ⟨g,i*2,none⟩ (.int .i64 (s:Int))).frozen? ⟨g,i*2+1,none⟩=false:=by
 obtain⟨cs,h,hl,hc⟩:=h;have h1:=heap_setCell_same w g (i*2) _ _ (.int .i64 (s:Int)) h;have h2:=heap_setCell_same _ g (i*2+1) _ _ (.int .i64 (l:Int)) h1;rw[acD] at h1;rw[acD,acD] at h2;refine⟨⟨_,h2,by simp[hl],fun j hj=> ?_⟩,?_,by simp[World.frozen?,h1]⟩
 .obtain⟨c1,c2⟩:=hc j hj
  by_cases e:j=i
  .subst e
   rw[Co.upd_same,Co.upd_same];constructor
   .rw[aa8,if_neg (by omega),aa8,if_pos rfl,if_pos (by omega)]
   .rw[aa8,if_pos rfl,if_pos (by simp;omega)]
  .rw[Co.aX _ e,Co.aX _ e]
   constructor
   .rw[aa8,if_neg (by omega),aa8,if_neg (by omega)];exact c1
   .rw[aa8,if_neg (by omega),aa8,if_neg (by omega)];exact c2
 .have:(cs.set (i*2) (.int .i64 (s:Int)))[i*2+1]? =some (.int .i64 (L i:Int)):=by
   rw[aa8,if_neg (by omega)];exact(hc i hi).2
  simp[World.cell?,h1,this]
end
structure bN (w:World) (p gp gt n c:Nat) (P S L:Nat->Nat):Prop where
 blk:w.heap[p]? =some (.cells #[.slice (some ⟨gp,0,none⟩) n n,.slice (some ⟨gt,0,none⟩) n n,.int .i64 (c:Int)] 384 (0,0))
 par:aF w gp (Co.ints n P)
 vO:ct w gt n S L
 d1:p≠gp
 d2:p≠gt
 d3:gp≠gt
def gG (w:World) (p gp gt n:Nat) (m:Nat->Nat):Prop:=n<=1048576/\∃P S L r d,bN w p gp gt n (Co.cnt n m) P S L/\Co.oF n P S L m r d
def je (w:World) (v:Option Addr) (n:Nat) (m:Nat->Nat):Prop:=(v=none/\n=0)\/∃p gp gt,v=some ⟨p,0,none⟩/\gG w p gp gt n m
section
variable {w w':World} {p gp gt n c:Nat} {P S L:Nat->Nat}
theorem bN.lt (h:bN w p gp gt n c P S L):p<w.heap.size:=lt_of_block h.blk
theorem bN.same (h:bN w p gp gt n c P S L) (hk:∀k,(k=p\/k=gp\/k=gt)->k<w.heap.size->w'.heap[k]? =w.heap[k]?):bN w' p gp gt n c P S L:=by
 have hl:=h.par.lt;obtain⟨rest,hp⟩:=h.par;exact⟨(hk p (.inl rfl) h.lt).trans h.blk,⟨rest,(hk gp (.inr (.inl rfl)) hl).trans hp⟩,h.vO.same (hk gt (.inr (.inr rfl)) h.vO.lt),h.d1,h.d2,h.d3⟩
theorem bN.c0 (h:bN w p gp gt n c P S L):w.cell? ⟨p,0,none⟩=some (.slice (some ⟨gp,0,none⟩) n n):=by simp[World.cell?,h.blk]
theorem bN.c1 (h:bN w p gp gt n c P S L):w.cell? ⟨p,1,none⟩=some (.slice (some ⟨gt,0,none⟩) n n):=by simp[World.cell?,h.blk]
theorem bN.c2 (h:bN w p gp gt n c P S L):w.cell? ⟨p,2,none⟩=some (.int .i64 (c:Int)):=by simp[World.cell?,h.blk]
end
section
variable {w w':World} {p gp gt n:Nat} {m:Nat->Nat} {v:Option Addr}
theorem gG.same (h:gG w p gp gt n m) (hk:∀k,(k=p\/k=gp\/k=gt)->k<w.heap.size->w'.heap[k]? =w.heap[k]?):gG w' p gp gt n m:=by
 obtain⟨hn,P,S,L,r,d,h,hf⟩:=h;exact⟨hn,P,S,L,r,d,h.same hk,hf⟩
theorem gG.later (h:gG w p gp gt n m) (hb:Below w.heap.size w w'):gG w' p gp gt n m:=h.same fun k _ h2=>hb.block k h2
theorem gG.norm (h:gG w p gp gt n m):Co.Norm n m:=by
 obtain⟨_,_,_,_,_,_,_,hf⟩:=h;exact hf.norm
theorem je.later (h:je w v n m) (hb:Below w.heap.size w w'):je w' v n m:=by
 rcases h with h|⟨p,gp,gt,h1,h3⟩
 .exact .inl h
 .exact .inr ⟨p,gp,gt,h1,h3.later hb⟩
theorem je.bound (h:je w v n m):n<=1048576:=by
 rcases h with ⟨_,rfl⟩|⟨p,gp,gt,_,h,_⟩
 .omega
 .exact h
theorem je.norm (h:je w v n m):Co.Norm n m:=by
 rcases h with ⟨_,rfl⟩|⟨p,gp,gt,_,h⟩
 .exact⟨fun x hx=>by omega,fun x hx=>by omega⟩
 .exact h.norm
end
theorem Rw (gp n:Nat) (P r d:Nat->Nat) (a:Nat) (w:World) (hp:aF w gp (Co.ints n P)) (lt:∀x,x<n->P x<n) (self:∀x,x<n->P x=x->r x=x) (up:∀x,x<n->r (P x)=r x) (deep:∀x,x<n->P x≠x->d (P x)<d x) (ha:a<n):
 Calls prog 305 #[.slice (some ⟨gp,0,none⟩) n n,.int .i64 (a:Int)] w fun e w'=>e= .returned (.int .i64 (r a:Int))/\w'=w:=by
 have HP:=ζ hp;have nN:=ζ lt;have acS:=ζ self;have tD:=ζ up;have ady:=ζ deep;clear hp lt self up deep;go_enter func305,ntmps305;go_wp2;go_loopw [1] (fun c wr=>∃x:Nat,x<n/\c= .int .i64 (x:Int)/\r x=r a/\wr=w) (fun c _=>d (intOf c).toNat)
 case atStart=>exact⟨a,ha,rfl,rfl,rfl⟩
 case round=>
  obtain⟨x,hx,rfl,hr,rfl⟩:=hrel;have c0:=HP.out.cell (Co.ints_at (f:=P) hx);have x0:(0:Int)<=(x:Int):=by omega
  have x1:(x:Int)<(n:Int):=by omega
  have HR:=ζ hr;clear hr;by_cases e:P x=x
  .have hd:((P x:Int) != (x:Int))=false:=by simp[e]
   have hs:=acS.out x hx e;have HS:=ζ (hs.symm.trans HR.out);clear hs e;go_wp2;go_ret;exact⟨by rw[<-HS.out];rfl,rfl⟩
  .have hd:((P x:Int) != (x:Int))=true:=by simp;omega
   have HE:=ζ e;clear e;go_wp2;go_roundw
   case rel=>exact⟨P x,nN.out x hx,rfl,(tD.out x hx).trans HR.out,by first|rfl|trivial⟩
   case measure=>exact ady.out x hx HE.out
theorem OP (ao:Option Addr) (n c:Nat) (x:Int) (w:World):Calls prog 317 #[.slice ao n c,.int .i64 x] w fun e w'=>e= .returned (.bool (decide (Co.isIn n x)))/\w'=w:=by
 by_cases h1:0<=x
 .by_cases h2:x<(n:Int)
  .rw[decide_eq_true (show Co.isIn n x from⟨h1,h2⟩)]
   go_enter func317,ntmps317;go_wp2;go_ret;exact⟨rfl,rfl⟩
  .rw[decide_eq_false (fun h:Co.isIn n x=>h2 h.2)]
   go_enter func317,ntmps317;go_wp2;go_ret;exact⟨rfl,rfl⟩
 .rw[decide_eq_false (fun h:Co.isIn n x=>h1 h.1)]
  go_enter func317,ntmps317;go_wp2;go_ret;exact⟨rfl,rfl⟩
theorem DW (v:Option Addr) (n:Nat) (m:Nat->Nat) (x:Int) (w:World) (h:je w v n m):Calls prog 304 #[.pointer v,.int .i64 x] w fun e w'=>e= .returned (.bool (decide (Co.isIn n x)))/\w'=w:=by
 rcases h with ⟨rfl,rfl⟩|⟨p,gp,gt,rfl,hn,P,S,L,r,d,h,hf⟩
 .rw[decide_eq_false (fun h:Co.isIn 0 x=>by unfold Co.isIn at h;omega)]
  go_enter func304,ntmps304;go_wp2;go_ret;exact⟨rfl,rfl⟩
 .have c0:=h.c0
  have HH:=ζ (OP (some ⟨gp,0,none⟩) n n x w);clear h hf;go_enter func304,ntmps304;go_wp2_with (go_at_call 317;refine HH.out.mono ?_;rintro e w1 ⟨rfl,rfl⟩);go_ret;exact⟨rfl,rfl⟩
theorem Pj (v:Option Addr) (n:Nat) (m:Nat->Nat) (w:World) (h:je w v n m):Calls prog 290 #[.pointer v] w fun e w'=>e= .returned (.int .i64 (Co.cnt n m:Int))/\w'=w:=by
 rcases h with ⟨rfl,rfl⟩|⟨p,gp,gt,rfl,hn,P,S,L,r,d,h,hf⟩
 .go_enter func290,ntmps290
  go_wp2;go_ret;exact⟨rfl,rfl⟩
 .have c0:=h.c2
  clear h hf;go_enter func290,ntmps290;go_wp2;go_ret;exact⟨rfl,rfl⟩
theorem Kp {w:World} {p gp gt n c:Nat} {P S L m r d:Nat->Nat} (h:bN w p gp gt n c P S L) (hf:Co.oF n P S L m r d) {a:Nat} (ha:a<n) (k:Nat):
 Calls prog 305 #[.slice (some ⟨gp,0,none⟩) n n,.int .i64 (a:Int)] (w.drewN k) fun e w'=>e= .returned (.int .i64 (r a:Int))/\w'=w.drewN k:=
 Rw gp n P r d a _ h.par hf.lt hf.self hf.up hf.deep ha
theorem Oo (v:Option Addr) (n:Nat) (m:Nat->Nat) (x:Int) (w:World) (h:je w v n m):Calls prog 308 #[.pointer v,.int .i64 x] w fun e w'=>e= .returned (.int .i64 (Co.xQ n m x))/\∃k,w'=w.drewN k:=by
 have HV:=ζ (DW v n m x w h);by_cases hx:Co.isIn n x
 .rw[decide_eq_true hx] at HV
  unfold Co.xQ;rw[if_pos hx];have hxl:=Co.gQ hx;rcases h with ⟨rfl,rfl⟩|⟨p,gp,gt,rfl,hn,P,S,L,r,d,h,hf⟩
  .omega
  .obtain⟨u,rfl⟩:∃u:Nat,x=(u:Int):=⟨x.toNat,by unfold Co.isIn at hx;omega⟩
   rw[abu] at hxl ⊢;have HR:=ζ (fun k=>Kp h hf hxl k);have c0:=h.c0;have c1:=h.c1;have hrl:=hf.rt u hxl;have d0:=(h.vO.cell hrl).2;rw[hf.ls u hxl] at d0;have r0:(0:Int)<=(r u:Int):=by omega
   have r1:(r u:Int)<(n:Int):=by omega
   clear h hf hx;go_enter func308,ntmps308;go_wp2_with (go_at_call 304;refine HV.out.mono ?_;rintro e w1 ⟨rfl,rfl⟩);go_quiet ((go_at_call 305;exact abw (HR.out _)));go_wp2;go_ret;exact⟨rfl,nq,rfl⟩
 .rw[decide_eq_false hx] at HV
  unfold Co.xQ;rw[if_neg hx];clear h hx;go_enter func308,ntmps308;go_wp2_with (go_at_call 304;refine HV.out.mono ?_;rintro e w1 ⟨rfl,rfl⟩);go_ret;exact⟨rfl,0,rfl⟩
end
section
open Go.Proofs.Tryz
open Go.RowKit
theorem SG (gp n:Nat) (P:Nat->Nat) (b a:Nat) (w:World) (hp:aF w gp (Co.ints n P)) (hb:b<n):
 Calls prog 306 #[.slice (some ⟨gp,0,none⟩) n n,.int .i64 (b:Int),.int .i64 (a:Int)] w fun e w'=>e= .returned (.tuple #[])/\aF w' gp (Co.ints n (Co.upd P b a))/\w'=w.setCell ⟨gp,b,none⟩ (.int .i64 (a:Int)):=by
 have c0:=hp.cell (Co.ints_at (f:=P) hb);have cf:=hp.free;have n1:=hp.set (i:=b) (by rw[Co.bw];exact hb) (a:Int);rw[Co.ints_set a hb] at n1;have N1:=ζ n1;have b0:(0:Int)<=(b:Int):=by omega
 have b1:(b:Int)<(n:Int):=by omega
 clear hp n1;go_enter func306,ntmps306;go_wp2
 go_end0
 exact⟨rfl,N1.out,rfl⟩
theorem Q8 (s l s' l':Nat) (w:World) (h1:s<=1048576) (h2:s'<=1048576):
 Calls prog 307 #[.agg #[.int .i64 (s:Int),.int .i64 (l:Int)],.agg #[.int .i64 (s':Int),.int .i64 (l':Int)]] w fun e w'=>e= .returned (.agg #[.int .i64 ((s+s':Nat):Int),.int .i64 ((min l l':Nat):Int)])/\Below w.heap.size w w':=by
 have hb0:∀o1 o2 o3,Below w.heap.size w (((w.alloc o1).alloc o2).alloc o3):=fun o1 o2 o3=>(((aaG _ _).alloc (aaF _) _).alloc (by simp) _).alloc (by simp;omega) _
 have HB:=ζ hb0;clear hb0;rcases Nat.le_total l l' with hl|hl
 .rw[Nat.min_eq_left hl]
  have e1:min (l:Int) (l':Int)=(l:Int):=by omega
  have e2:((s+s':Nat):Int)=(s:Int)+(s':Int):=by omega
  have e3:(l:Int)<=(l':Int):=by omega
  rw[e2];clear e2 hl;go_enter func307,ntmps307;go_wp2;refine bodyPost_ret (v:= .agg #[.int .i64 ((s:Int)+(s':Int)),.int .i64 (l:Int)]) (by simp[results,results307,go_sem]) rfl ?_;exact⟨rfl,HB.out _ _ _⟩
 .rw[Nat.min_eq_right hl]
  have e2:((s+s':Nat):Int)=(s:Int)+(s':Int):=by omega
  rw[e2];clear e2;by_cases he:l'=l
  .subst he
   have e1:min (l':Int) (l':Int)=(l':Int):=by omega
   clear hl;go_enter func307,ntmps307;go_wp2;refine bodyPost_ret (v:= .agg #[.int .i64 ((s:Int)+(s':Int)),.int .i64 (l':Int)]) (by simp[results,results307,go_sem]) rfl ?_;exact⟨rfl,HB.out _ _ _⟩
  .have e1:min (l:Int) (l':Int)=(l':Int):=by omega
   have e3:¬((l:Int)<=(l':Int)):=by omega
   have e4:(l':Int)<(l:Int):=by omega
   clear hl he;go_enter func307,ntmps307;go_wp2;refine bodyPost_ret (v:= .agg #[.int .i64 ((s:Int)+(s':Int)),.int .i64 (l':Int)]) (by simp[results,results307,go_sem]) rfl ?_;exact⟨rfl,HB.out _ _ _⟩
def nJ (w:World) (q:Option (Nat×Nat×Nat)) (n:Nat) (m:Nat->Nat):Prop:=
 match q with
 |none=>n=0
 |some (p,gp,gt)=>gG w p gp gt n m
def xu:Option (Nat×Nat×Nat)->Option Addr
 |none=>none
 |some (p,_,_)=>some ⟨p,0,none⟩
def inQ:Option (Nat×Nat×Nat)->Nat->Prop
 |none,_=>False
 |some (p,gp,gt),b=>b=p\/b=gp\/b=gt
section
variable {w w':World} {q:Option (Nat×Nat×Nat)} {n:Nat} {m:Nat->Nat}
theorem nJ.is (h:nJ w q n m):je w (xu q) n m:=by
 rcases q with _|⟨p,gp,gt⟩
 .exact .inl ⟨rfl,h⟩
 .exact .inr ⟨p,gp,gt,rfl,h⟩
theorem nJ.later (h:nJ w q n m) (hb:Below w.heap.size w w'):nJ w' q n m:=by
 rcases q with _|⟨p,gp,gt⟩
 .exact h
 .exact gG.later h hb
end
def mQ (q:Option (Nat×Nat×Nat)) (n:Nat) (m:Nat->Nat) (x y:Int) (w:World) (e:Ending) (w':World):Prop:=
 e= .returned (.bool (Co.apart n m x y))/\nJ w' q n (Co.gP n m x y)/\av (inQ q) w w'
theorem sD {w W V1:World} {p gp gt n c:Nat} {P S L:Nat->Nat} (h:bN w p gp gt n (c+1) P S L) {A C:Nat} (hC:C<n) (hA:A<n) (s l:Nat) (hW:W=w.setCell ⟨gp,C,none⟩ (.int .i64 (A:Int))) (hV:Below W.heap.size W V1):
 bN (((V1.setCell ⟨gt,A*2,none⟩ (.int .i64 (s:Int))).setCell ⟨gt,A*2+1,none⟩ (.int .i64 (l:Int))).setCell ⟨p,2,none⟩ (.int .i64 (c:Int))) p gp gt n c (Co.upd P C A) (Co.upd S A s) (Co.upd L A l)/\
 av (fun b=>b=p\/b=gp\/b=gt) w (((V1.setCell ⟨gt,A*2,none⟩ (.int .i64 (s:Int))).setCell ⟨gt,A*2+1,none⟩ (.int .i64 (l:Int))).setCell ⟨p,2,none⟩ (.int .i64 (c:Int)))/\
 bN V1 p gp gt n (c+1) (Co.upd P C A) S L:=by
 have hp:=(h.par.set (i:=C) (by rw[Co.bw];exact hC) (A:Int));rw[Co.ints_set A hC,<-hW] at hp;have hb:W.heap[p]? =w.heap[p]? :=by rw[hW];exact heap_setCell_other w ⟨gp,C,none⟩ p _ h.d1
 have ht:W.heap[gt]? =w.heap[gt]? :=by rw[hW];exact heap_setCell_other w ⟨gp,C,none⟩ gt _ (acn h.d3)
 have hsz:W.heap.size=w.heap.size:=by rw[hW];simp
 have p1:=hp.later hV;have b1:V1.heap[p]? =w.heap[p]? :=(hV.block p (by rw[hsz];exact h.lt)).trans hb;have t1:V1.heap[gt]? =w.heap[gt]? :=(hV.block gt (by rw[hsz];exact h.vO.lt)).trans ht;have T1:=h.vO.same t1;have T2:=(T1.put hA s l).1;have p2:=((p1.other (i:=A*2) h.d3 (.int .i64 (s:Int))).other (i:=A*2+1) h.d3 (.int .i64 (l:Int))).other (i:=2) (acn h.d1) (.int .i64 (c:Int));have W1:av (fun b=>b=p\/b=gp\/b=gt) w V1:=by
  have:av (fun b=>b=p\/b=gp\/b=gt) w W:=by rw[hW];exact(av.refl _ w).setCell (.inr (.inl rfl)) _
  exact this.later hV
 refine⟨⟨?_,p2,T2.same (heap_setCell_other _ ⟨p,2,none⟩ gt _ (acn h.d2)),h.d1,h.d2,h.d3⟩,((W1.setCell (.inr (.inr rfl)) _).setCell (.inr (.inr rfl)) _).setCell (.inl rfl) _,⟨b1.trans h.blk,p1,T1,h.d1,h.d2,h.d3⟩⟩;have b3:(((V1.setCell ⟨gt,A*2,none⟩ (.int .i64 (s:Int))).setCell ⟨gt,A*2+1,none⟩ (.int .i64 (l:Int)))).heap[p]? =some (.cells #[.slice (some ⟨gp,0,none⟩) n n,.slice (some ⟨gt,0,none⟩) n n,.int .i64 ((c+1:Nat):Int)] 384 (0,0)):=by
  rw[heap_setCell_other _ ⟨gt,A*2+1,none⟩ p _ h.d2,heap_setCell_other _ ⟨gt,A*2,none⟩ p _ h.d2,b1];exact h.blk
 rw[heap_setCell_same _ p 2 _ _ _ b3];simp
theorem Sb {w W V1:World} {p gp gt n c:Nat} {P S L:Nat->Nat} (h:bN w p gp gt n (c+1) P S L) {A C:Nat} (hC:C<n) (hA:A<n) (s l:Nat) (hW:W=w.setCell ⟨gp,C,none⟩ (.int .i64 (A:Int))) (hV:Below W.heap.size W V1):
 (V1.cell? ⟨p,1,none⟩=some (.slice (some ⟨gt,0,none⟩) n n)/\V1.cell? ⟨gt,A*2,none⟩=some (.int .i64 (S A:Int))/\V1.cell? ⟨gt,A*2+1,none⟩=some (.int .i64 (L A:Int))/\V1.cell? ⟨gt,C*2,none⟩=some (.int .i64 (S C:Int))/\V1.cell? ⟨gt,C*2+1,none⟩=some (.int .i64 (L C:Int))/\(∀i,V1.frozen? ⟨gt,i,none⟩=false))/\
 ((V1.setCell ⟨gt,A*2,none⟩ (.int .i64 (s:Int))).cell? ⟨gt,A*2+1,none⟩=some (.int .i64 (L A:Int))/\(V1.setCell ⟨gt,A*2,none⟩ (.int .i64 (s:Int))).frozen? ⟨gt,A*2+1,none⟩=false)/\
 (((V1.setCell ⟨gt,A*2,none⟩ (.int .i64 (s:Int))).setCell ⟨gt,A*2+1,none⟩ (.int .i64 (l:Int))).cell? ⟨p,1,none⟩=some (.slice (some ⟨gt,0,none⟩) n n)/\((V1.setCell ⟨gt,A*2,none⟩ (.int .i64 (s:Int))).setCell ⟨gt,A*2+1,none⟩ (.int .i64 (l:Int))).cell? ⟨p,2,none⟩=some (.int .i64 ((c:Int)+1))/\((V1.setCell ⟨gt,A*2,none⟩ (.int .i64 (s:Int))).setCell ⟨gt,A*2+1,none⟩ (.int .i64 (l:Int))).frozen? ⟨p,2,none⟩=false):=by
 obtain⟨-,-,hv⟩:=sD h hC hA s l hW hV;obtain⟨a1,a2⟩:=hv.vO.cell hA;obtain⟨b1,b2⟩:=hv.vO.cell hC;obtain⟨-,q1,q2⟩:=hv.vO.put hA s l;have hb:((V1.setCell ⟨gt,A*2,none⟩ (.int .i64 (s:Int))).setCell ⟨gt,A*2+1,none⟩ (.int .i64 (l:Int))).heap[p]? =some (.cells #[.slice (some ⟨gp,0,none⟩) n n,.slice (some ⟨gt,0,none⟩) n n,.int .i64 ((c+1:Nat):Int)] 384 (0,0)):=by
  rw[heap_setCell_other _ ⟨gt,A*2+1,none⟩ p _ h.d2,heap_setCell_other _ ⟨gt,A*2,none⟩ p _ h.d2];exact hv.blk
 exact⟨⟨hv.c1,a1,a2,b1,b2,hv.vO.free⟩,⟨q1,q2⟩,by simp[World.cell?,hb],by simp[World.cell?,hb],by simp[World.frozen?,hb]⟩
end
section
namespace Pl
theorem zH:∀{l1 l2:List Nat},l1.Nodup->(∀x∈l1,x∈l2)->l1.length<=l2.length
 |[],_,_,_=>aaR _
 |a::l1,l2,hn,hs=>by
  have ha:a∈l2:=hs a adn;obtain⟨hna,hn'⟩:=adH.1 hn;have h1:=zH (l1:=l1) (l2:=l2.erase a) hn' (fun x hx=>(List.mem_erase_of_ne (fun e=>hna (by rw[<-e];exact hx))).2 (hs x (ab1 _ hx)));have h2:=List.length_erase_of_mem ha;have h3:=List.length_pos_of_mem ha;show l1.length+1<=l2.length;omega
theorem GK {l:List Nat} {n:Nat} (h:l.Nodup) (hl:∀x∈l,x<n):l.length<=n:=by
 have:=zH h (l2:=List.range n) (fun x hx=>abq.2 (hl x hx));rwa[List.length_range] at this
def it (f:Nat->Nat):Nat->Nat->Nat
 |0,x=>x
 |k+1,x=>it f k (f x)
theorem eP (f:Nat->Nat):∀(a b x:Nat),it f (a+b) x=it f a (it f b x)
 |_,0,_=>rfl
 |a,b+1,x=>eP f a b (f x)
theorem lg (f:Nat->Nat) (k x:Nat):it f (k+1) x=f (it f k x):=by
 rw[Nat.add_comm,eP];rfl
section
variable {n:Nat} {f:Nat->Nat} (hf:∀x,x<n->f x<n) (hi:∀x y,x<n->y<n->f x=f y->x=y)
include hf
theorem nr:∀(k:Nat) {x:Nat},x<n->it f k x<n
 |0,_,hx=>hx
 |k+1,_,hx=>nr k (hf _ hx)
include hi
theorem Ca:∀(k:Nat) {x y:Nat},x<n->y<n->it f k x=it f k y->x=y
 |0,_,_,_,_,h=>h
 |k+1,x,y,hx,hy,h=>hi x y hx hy (Ca k (hf x hx) (hf y hy) h)
theorem Ds {x:Nat} (hx:x<n):∃k,0<k/\it f k x=x:=by
 have:∃i j,i<j/\it f i x=it f j x:=aa2 fun hn=>by
  have h1:((List.range (n+1)).map fun i=>it f i x).Nodup:=by
   unfold List.Nodup;rw[ac5];refine adq ?_ List.pairwise_lt_range;intro i j _ _ hij e;exact hn ⟨i,j,hij,e⟩
  have h2:=GK h1 (n:=n) (fun y hy=>by
   obtain⟨i,_,rfl⟩:=abO.1 hy;exact nr hf i hx)
  rw[aa3,List.length_range] at h2;omega
 obtain⟨i,j,hij,e⟩:=this;refine⟨j-i,by omega,?_⟩;have e2:it f j x=it f i (it f (j-i) x):=by rw[<-eP];congr 1;omega
 rw[e2] at e;exact(Ca hf hi i hx (nr hf _ hx) e).symm
theorem Dr {x:Nat} (hx:x<n) (b:Nat):∃c,it f c (it f b x)=x:=by
 obtain⟨k,hk,e⟩:=Ds hf hi hx;have rep:∀t,it f (t*k) x=x:=fun t=>by
  induction t with
  |zero=>rw[Nat.zero_mul];rfl
  |succ t ih=>rw[adF,eP,e,ih]
 refine⟨b*k-b,?_⟩;have:b<=b*k:=Nat.le_mul_of_pos_right b hk;rw[<-eP,show b*k-b+b=b*k by omega];exact rep b
end
open Classical in
noncomputable def firsts (n:Nat) (f:Nat->Nat):List Nat:=(List.range n).filter fun h=>decide (∀k,h<=it f k h)
open Classical in
theorem jC {n:Nat} {f:Nat->Nat} {h:Nat}:h∈firsts n f↔h<n/\∀k,h<=it f k h:=by
 unfold firsts;rw[acW,abq,decide_eq_true_iff]
section
variable {n:Nat} {f:Nat->Nat} (hf:∀x,x<n->f x<n) (hi:∀x y,x<n->y<n->f x=f y->x=y)
include hf
theorem zW {x:Nat} (hx:x<n):∃k,it f k x∈firsts n f:=by
 have key:∀(d k:Nat),it f k x<=d->∃k,it f k x∈firsts n f:=by
  intro d
  induction d with
  |zero=>
   intro k hk;exact⟨k,jC.2 ⟨nr hf k hx,fun j=>by omega⟩⟩
  |succ d ih=>
   intro k hk;by_cases h:∀j,it f k x<=it f j (it f k x)
   .exact⟨k,jC.2 ⟨nr hf k hx,h⟩⟩
   .have:∃j,it f j (it f k x)<it f k x:=aa2 fun hn=>h fun j=>Nat.le_of_not_lt fun hlt=>hn ⟨j,hlt⟩
    obtain⟨j,hj⟩:=this;exact ih (j+k) (by rw[eP];omega)
 exact key _ 0 (aaF _)
include hi
theorem FQ {x y a b:Nat} (hx:x∈firsts n f) (hy:y∈firsts n f) (h:it f a x=it f b y):x=y:=by
 obtain⟨qC,hx⟩:=jC.1 hx;obtain⟨hyn,hy⟩:=jC.1 hy;obtain⟨c,hc⟩:=Dr hf hi hyn b;obtain⟨d,hd⟩:=Dr hf hi qC a;have h1:=hx (c+a);rw[eP,h,hc] at h1;have h2:=hy (d+b);rw[eP,<-h,hd] at h2;omega
end
end Pl
end
end Go.Proofs.YtdbjpbjocmcpkaaGreatDoor
