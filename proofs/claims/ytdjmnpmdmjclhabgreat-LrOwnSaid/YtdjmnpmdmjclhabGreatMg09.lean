import Derived.Test.YtdjmnpmdmjclhabGreatMg07
namespace Go.Proofs.YtdjmnpmdmjclhabGreat
section
namespace Lt
def g (l:List Int) (x:Nat):Int:=l[x]?.getD 0
theorem lW {l:List Int} {x:Nat} (h:x<l.length):bz l (x:Int)=some (g l x):=by
 unfold bz g
 rw[if_pos (by omega)]
 simp[h]
theorem mI {l:List Int} {x:Nat} {z:Int} (h:x<l.length):eT l (x:Int) z=some (l.set x z):=by
 unfold eT
 rw[if_pos ⟨by omega,by omega⟩]
 simp
theorem abq {l:List Int} {x y:Nat} {z:Int} (h:x<l.length):g (l.set x z) y=if y=x then z else g l y:=by
 unfold g
 rw[aaq]
 by_cases e:y=x
 ·subst e;simp[h]
 ·rw[if_neg (fun k=>e k.symm),if_neg e]
theorem aU {l:List Int} {x y:Nat} {z:Int} (h:y≠x):g (l.set x z) y=g l y:=by
 unfold g
 rw[aaq,if_neg (fun k=>h k.symm)]
theorem dW {l:List Int} {x:Nat} {z:Int} (h:x<l.length):g (l.set x z) x=z:=by
 rw[abq h,if_pos rfl]
theorem fG:∀{l:List Nat} {m:Nat},l.Nodup→(∀x∈l,x<m)→l.length≤m:=by
 intro l m
 have key:∀(l1 l2:List Nat),l1.Nodup→(∀x∈l1,x∈l2)→l1.length≤l2.length:=by
  intro l1
  induction l1 with
  |nil=>intro _ _ _;exact aax _
  |cons a l1 ih=>
   intro l2 hn hs
   have ha:a∈l2:=hs a aag
   obtain⟨hna,hn'⟩:=aa0.1 hn
   have h1:=ih (l2.erase a) hn' (fun x hx=>(List.mem_erase_of_ne (fun e=>hna (by rw[←e];exact hx))).2 (hs x (aah _ hx)))
   have h2:=List.length_erase_of_mem ha
   have h3:=List.length_pos_of_mem ha
   rw[aar]
   omega
 intro hn hm
 have:=key l (List.range m) hn (fun x hx=>aaO.2 (hm x hx))
 rw[List.length_range] at this
 exact this
def dJ:List Nat→Iv
 |[]=>aO
 |x::l=>((x:Int),(((x::l).getLastD 0:Nat):Int))
abbrev cJ:=List Nat×List Nat
def cM (p:cJ):Pr:=(dJ p.1,dJ p.2)
theorem dD {l:List Nat}:dJ l=aO↔l=[]:=by
 cases l with
 |nil=>simp[dJ]
 |cons x l=>simp[dJ,aO]
theorem vG {p:cJ}:cM p=dG↔p.1=[]∧p.2=[]:=by
 unfold cM dG
 constructor
 ·intro h
  exact⟨dD.1 (congrArg Prod.fst h),dD.1 (congrArg Prod.snd h)⟩
 ·rintro⟨h1,h2⟩
  rw[h1,h2]
  rfl
theorem nI {l:List Nat} (h:l≠[]):dJ l=(((l.headD 0:Nat):Int),((l.getLastD 0:Nat):Int)):=by
 cases l with
 |nil=>exact absurd rfl h
 |cons x l=>rfl
theorem bD {l:List Nat} (h:l≠[]):l.getLastD 0∈l:=by
 cases l with
 |nil=>exact absurd rfl h
 |cons x l=>
  rw[ac1]
  cases l with
  |nil=>simp
  |cons y l=>
   have:=List.getLast_mem (l:=y::l) (by simp)
   rw[ac1]
   rw[List.getLast_eq_getLastD] at this
   exact aah _ this
theorem head_mem {l:List Nat} (h:l≠[]):l.headD 0∈l:=by
 cases l with
 |nil=>exact absurd rfl h
 |cons x l=>exact aag
def eB (like turn:List Int):List Nat→Prop
 |[]=>True
 |[x]=>g like x= -1∧g turn x=1
 |x::y::l=>(g like x=(y:Int)∧g turn x=1)∧eB like turn (y::l)
theorem eB.tail {like turn:List Int} {x:Nat}:∀{l:List Nat},eB like turn (x::l)→eB like turn l
 |[],_=>trivial
 |_::_,h=>h.2
theorem eB.fR {like turn:List Int}:∀{l:List Nat},eB like turn l→∀x∈l,g turn x=1
 |[],_,x,hx=>by simp at hx
 |[y],h,x,hx=>by rw[aao.1 hx];exact h.2
 |y::z::l,h,x,hx=>by
  rcases aaj.1 hx with rfl|hx
  ·exact h.1.2
  ·exact eB.fR h.2 x hx
theorem eB.last {like turn:List Int}:∀{l:List Nat},eB like turn l→l≠[]→g like (l.getLastD 0)= -1
 |[],_,h=>absurd rfl h
 |[x],h,_=>h.1
 |x::y::l,h,_=>by
  have:=eB.last h.2 (by simp)
  rw[ac1] at this ⊢
  rw[ac1]
  exact this
theorem eB.other {like turn aH aZ:List Int}:∀{l:List Nat},eB like turn l→(∀x∈l,g aH x=g like x∧g aZ x=g turn x)→eB aH aZ l
 |[],_,_=>trivial
 |[x],h,k=>by
  obtain⟨k1,k2⟩:=k x (by simp)
  exact⟨k1.trans h.1,k2.trans h.2⟩
 |x::y::l,h,k=>by
  obtain⟨k1,k2⟩:=k x (by simp)
  exact⟨⟨k1.trans h.1.1,k2.trans h.1.2⟩,eB.other h.2 fun z hz=>k z (aah _ hz)⟩
theorem eB.append {like turn:List Int} {b:Nat} {M:List Nat}:∀{l:List Nat},l≠[]→l.Nodup→(∀x∈l,x∉b::M)→l.getLastD 0<like.length→eB like turn l→eB like turn (b::M)→eB (like.set (l.getLastD 0) (b:Int)) turn (l++(b::M))
 |[],h,_,_,_,_,_=>absurd rfl h
 |[x],_,_,hd,hlt,h1,h2=>by
  refine⟨⟨dW hlt,h1.2⟩,h2.other fun z hz=>⟨aU fun e=>hd x (by simp) (by rw[e] at hz;exact hz),rfl⟩⟩
 |x::y::l,_,hn,hd,hlt,h1,h2=>by
  have e1:(x::y::l).getLastD 0=(y::l).getLastD 0:=by simp
  rw[e1] at hlt ⊢
  have hn2:=aa0.1 hn
  refine⟨⟨?_,h1.1.2⟩,eB.append (by simp) hn2.2 (fun z hz=>hd z (aah _ hz)) hlt h1.2 h2⟩
  rw[aU]
  ·exact h1.1.1
  ·rintro rfl
   exact hn2.1 (bD (by simp))
def cH (s:List cJ):List Nat:=s.flatMap fun p=>p.1++p.2
theorem aG (p:cJ) (s:List cJ):cH (p::s)=p.1++(p.2++cH s):=by simp[cH]
theorem bk {s:List cJ} {x:Nat}:x∈cH s↔∃p∈s,x∈p.1∨x∈p.2:=by
 unfold cH
 rw[abY]
 simp only[aal]
inductive jq (like:List Int):Nat→Nat→Nat→Prop
 |root {x:Nat}:g like x= -1→jq like 0 x x
 |step {d x y r:Nat}:g like x=(y:Int)→jq like d y r→jq like (d+1) x r
structure Lk (m:Nat) (like turn:List Int) (seen:Nat→Prop) (stk:List cJ):Prop where
 ll:like.length=m
 lt:turn.length=m
 ch:∀p∈stk,eB like turn p.1∧eB like turn p.2
 nd:(cH stk).Nodup
 sn:∀x∈cH stk,seen x
 sm:∀x,seen x→x<m
 new:∀x,x<m→¬seen x→g like x= -1∧g turn x=1
 tn:∀x,x<m→g turn x=1∨g turn x= -1
 res:∀x,seen x→∃d r,jq like d x r
 cl:∀x:Nat,seen x→g like x= -1∨∃y:Nat,g like x=(y:Int)∧seen y
structure Sat (like turn:List Int) (seen:Nat→Prop) (stk:List cJ) (sd:Nat→Bool):Prop where
 lk:∀x y:Nat,seen x→g like x=(y:Int)→sd x=(sd y ^^ decide (g turn x= -1))
 rt:∀x,seen x→g like x= -1→x∉cH stk→sd x=decide (g turn x=1)
 un:∀p∈stk,∀l∈p.1,∀r∈p.2,sd l≠sd r
section
variable {m:Nat} {like turn:List Int} {seen:Nat→Prop} {stk:List cJ} {sd:Nat→Bool}
theorem Sat.one (h:Sat like turn seen stk sd):∀{l:List Nat},eB like turn l→(∀x∈l,seen x)→∀x∈l,sd x=sd (l.getLastD 0)
 |[],_,_,x,hx=>by simp at hx
 |[y],_,_,x,hx=>by rw[aao.1 hx];rfl
 |y::z::l,hc,hs,x,hx=>by
  have e1:(y::z::l).getLastD 0=(z::l).getLastD 0:=by simp
  have ih:=fun x hx=>Sat.one h hc.2 (fun x hx=>hs x (aah _ hx)) x hx
  rw[e1]
  rcases aaj.1 hx with rfl|hx
  ·rw[h.lk x z (hs x aag) hc.1.1,hc.1.2]
   rw[ih z aag]
   simp
  ·exact ih x hx
theorem Sat.alike (h:Sat like turn seen stk sd) {l:List Nat} (hc:eB like turn l) (hs:∀x∈l,seen x) {x y:Nat} (hx:x∈l) (hy:y∈l):sd x=sd y:=
 (h.one hc hs x hx).trans (h.one hc hs y hy).symm
theorem Lk.mG (h:Lk m like turn seen stk) {p:cJ} (hp:p∈stk):(∀x∈p.1,seen x)∧∀x∈p.2,seen x:=
 ⟨fun x hx=>h.sn x (bk.2 ⟨p,hp,.inl hx⟩),fun x hx=>h.sn x (bk.2 ⟨p,hp,.inr hx⟩)⟩
theorem jq.set {d x r a b:Nat} (ha:a<like.length) (qT:g like a= -1) (h:jq like d x r):(r≠a→jq (like.set a (b:Int)) d x r)∧(r=a→∀{d' r':Nat},jq (like.set a (b:Int)) d' b r'→∃d,jq (like.set a (b:Int)) d x r'):=by
 induction h with
 | @root x hx=>
   refine⟨fun hne=> .root (by rw[aU hne];exact hx),fun he d' r' hr=> ?_⟩
   subst he
   exact⟨_,.step (dW ha) hr⟩
 | @step d x y r hx hr ih=>
   have mN:x≠a:=fun e=>by rw[e,qT] at hx;omega
   refine⟨fun hne=> .step (by rw[aU mN];exact hx) (ih.1 hne),fun he d' r' hr'=> ?_⟩
   obtain⟨d2,h2⟩:=ih.2 he hr'
   exact⟨_,.step (by rw[aU mN];exact hx) h2⟩
theorem eB.res:∀{l:List Nat},eB like turn l→∀x∈l,∃d,jq like d x (l.getLastD 0)
 |[],_,x,hx=>by simp at hx
 |[y],h,x,hx=>by
  rw[aao.1 hx]
  exact⟨0,.root h.1⟩
 |y::z::l,h,x,hx=>by
  have e1:(y::z::l).getLastD 0=(z::l).getLastD 0:=by simp
  rw[e1]
  rcases aaj.1 hx with rfl|hx
  ·obtain⟨d,hd⟩:=eB.res h.2 z aag
   exact⟨_,.step h.1.1 hd⟩
  ·exact eB.res h.2 x hx
theorem wP {a b r d0:Nat} (ha:a<like.length) (qT:g like a= -1) (hb:jq like d0 b r) (hr:r≠a) (h:∀x,seen x→∃d r,jq like d x r):∀x,seen x→∃d r,jq (like.set a (b:Int)) d x r:=fun x hx=>by
 obtain⟨d,r',h'⟩:=h x hx
 by_cases e:r'=a
 ·obtain⟨d2,h2⟩:=(h'.set (b:=b) ha qT).2 e ((hb.set (b:=b) ha qT).1 hr)
  exact⟨d2,r,h2⟩
 ·exact⟨d,r',(h'.set ha qT).1 e⟩
theorem BS {a b:Nat} (ha:a<like.length) (hb:seen b) (h:∀x:Nat,seen x→g like x= -1∨∃y:Nat,g like x=(y:Int)∧seen y):∀x:Nat,seen x→g (like.set a (b:Int)) x= -1∨∃y:Nat,g (like.set a (b:Int)) x=(y:Int)∧seen y:=fun x hx=>by
 by_cases e:x=a
 ·subst e
  exact .inr ⟨b,dW ha,hb⟩
 ·rw[aU e]
  exact h x hx
theorem Lk.push (h:Lk m like turn seen stk) {e:Nat} (he:e<m) (hs:¬seen e):Lk m like turn (fun x=>seen x∨x=e) (([],[e])::stk):=by
 have hn:=h.new e he hs
 refine⟨h.ll,h.lt,fun p hp=> ?_,?_,fun x hx=> ?_,fun x hx=> ?_,fun x hx hx2=>h.new x hx fun k=>hx2 (.inl k),h.tn,fun x hx=> ?_,fun x hx=> ?_⟩
 ·rcases aaj.1 hp with rfl|hp
  ·exact⟨trivial,hn⟩
  ·exact h.ch p hp
 ·rw[aG]
  exact aa0.2 ⟨fun k=>hs (h.sn e k),h.nd⟩
 ·rw[aG] at hx
  rcases aaj.1 hx with rfl|hx
  ·exact .inr rfl
  ·exact .inl (h.sn x hx)
 ·rcases hx with hx|rfl
  ·exact h.sm x hx
  ·exact he
 ·rcases hx with hx|rfl
  ·exact h.res x hx
  ·exact⟨0,x,.root hn.1⟩
 ·rcases hx with hx|rfl
  ·rcases h.cl x hx with k|⟨y,k1,k2⟩
   ·exact .inl k
   ·exact .inr ⟨y,k1,.inl k2⟩
  ·exact .inl hn.1
theorem Sat.push {e:Nat} (h:Sat like turn (fun x=>seen x∨x=e) (([],[e])::stk) sd) (hs:¬seen e):Sat like turn seen stk sd:=
 ⟨fun x y hx hl=>h.lk x y (.inl hx) hl,fun x hx hl hn=>h.rt x (.inl hx) hl (by
   rw[aG]
   intro k
   rcases aaj.1 k with rfl|k
   ·exact hs hx
   ·exact hn k),fun p hp=>h.un p (aah _ hp)⟩
theorem Lk.hold (h:Lk m like turn seen stk):Lk m like turn seen (([],[])::stk):=
 ⟨h.ll,h.lt,fun p hp=>by
   rcases aaj.1 hp with rfl|hp
   ·exact⟨trivial,trivial⟩
   ·exact h.ch p hp,h.nd,h.sn,h.sm,h.new,h.tn,h.res,h.cl⟩
theorem Lk.uK (h:Lk m like turn seen (([],[])::stk)):Lk m like turn seen stk:=
 ⟨h.ll,h.lt,fun p hp=>h.ch p (aah _ hp),h.nd,h.sn,h.sm,h.new,h.tn,h.res,h.cl⟩
theorem Sat.hold (h:Sat like turn seen stk sd):Sat like turn seen (([],[])::stk) sd:=
 ⟨h.lk,h.rt,fun p hp=>by
   rcases aaj.1 hp with rfl|hp
   ·exact fun l hl=>by simp at hl
   ·exact h.un p hp⟩
theorem Sat.uK (h:Sat like turn seen (([],[])::stk) sd):Sat like turn seen stk sd:=
 ⟨h.lk,h.rt,fun p hp=>h.un p (aah _ hp)⟩
theorem Km {A B:List Nat} {L:List Nat} {x:Nat}:x∈A++(B++L)↔x∈B++(A++L):=by
 simp only[aal]
 constructor<;>rintro(h|h|h)<;>simp[h]
theorem E9 {A B L:List Nat} (h:(A++(B++L)).Nodup):(B++(A++L)).Nodup:=by
 simp only[aa5,aal] at h ⊢
 obtain⟨h1,⟨h2,h3,h4⟩,h5⟩:=h
 exact⟨h2,⟨h1,h3,fun a ha b hb=>h5 a ha b (.inr hb)⟩,fun a ha b hb=>hb.elim (fun k=>(h5 b k a (.inl ha)).symm) (fun k=>h4 a ha b k)⟩
theorem Lk.qD {p:cJ} {A B:List Nat} (h:Lk m like turn seen (p::(A,B)::stk)):Lk m like turn seen (p::(B,A)::stk):=by
 refine⟨h.ll,h.lt,fun q hq=> ?_,?_,fun x hx=>h.sn x ?_,h.sm,h.new,h.tn,h.res,h.cl⟩
 ·rcases aaj.1 hq with rfl|hq
  ·exact h.ch q aag
  ·rcases aaj.1 hq with rfl|hq
   ·exact(h.ch (A,B) (by simp)).symm
   ·exact h.ch q (by simp[hq])
 ·have:=h.nd
  rw[aG,aG] at this ⊢
  rw[←aaH] at this ⊢
  rw[aa5] at this ⊢
  exact⟨this.1,E9 this.2.1,fun a ha b hb=>this.2.2 a ha b (Km.1 hb)⟩
 ·rw[aG,aG] at hx ⊢
  simp only[aal] at hx ⊢
  rcases hx with k|k|k|k|k<;>simp[k]
theorem Sat.qD {p:cJ} {A B:List Nat} (h:Sat like turn seen (p::(A,B)::stk) sd):Sat like turn seen (p::(B,A)::stk) sd:=by
 refine⟨h.lk,fun x hx hl hn=>h.rt x hx hl fun k=>hn ?_,fun q hq=> ?_⟩
 ·rw[aG,aG] at k ⊢
  simp only[aal] at k ⊢
  rcases k with k|k|k|k|k<;>simp[k]
 ·rcases aaj.1 hq with rfl|hq
  ·exact h.un q aag
  ·rcases aaj.1 hq with rfl|hq
   ·exact fun l hl r hr=>(h.un (A,B) (by simp) r hr l hl).symm
   ·exact h.un q (by simp[hq])
theorem Lk.swap {A B:List Nat} (h:Lk m like turn seen ((A,B)::stk)):Lk m like turn seen ((B,A)::stk):=h.hold.qD.uK
theorem Sat.swap {A B:List Nat} (h:Sat like turn seen ((A,B)::stk) sd):Sat like turn seen ((B,A)::stk) sd:=h.hold.qD.uK
def jk (like:List Int) (A L:List Nat):List Int:=if A=[]∨L=[] then like else like.set (A.getLastD 0) ((L.headD 0:Nat):Int)
theorem uV (A L:List Nat):(jk like A L).length=like.length:=by
 unfold jk
 split
 ·rfl
 ·exact aaT
theorem pP {A L:List Nat} {x:Nat} (h:x∉A):g (jk like A L) x=g like x:=by
 unfold jk
 split
 ·rfl
 ·rename_i hne
  exact aU fun e=>h (by rw[e];exact bD fun k=>hne (.inl k))
theorem join_eq {A L:List Nat} (hA:∀x∈A,x<like.length):join like (dJ A) (dJ L)=some (jk like A L,dJ (A++L)):=by
 unfold join jk
 by_cases h1:A=[]
 ·subst h1
  rw[if_pos (dD.2 rfl),if_pos (.inl rfl)]
  rfl
 ·rw[if_neg (fun k=>h1 (dD.1 k))]
  by_cases h2:L=[]
  ·subst h2
   rw[if_pos (dD.2 rfl),if_pos (.inr rfl),abf]
  ·rw[if_neg (fun k=>h2 (dD.1 k)),if_neg (by simp[h1,h2]),nI h1,nI h2,nI (by simp[h1])]
   dsimp only
   rw[mI (hA _ (bD h1))]
   dsimp only
   congr 3
   ·cases A with
    |nil=>exact absurd rfl h1
    |cons a A=>rfl
   ·cases L with
    |nil=>exact absurd rfl h2
    |cons b L=>
     rw[acq,acq]
     simp[List.getLast?_cons]
theorem Ho {A L:List Nat} (hn:A.Nodup) (hd:∀x∈A,x∉L) (hA:∀x∈A,x<like.length) (h1:eB like turn A) (h2:eB like turn L):eB (jk like A L) turn (A++L):=by
 unfold jk
 by_cases e1:A=[]
 ·rw[if_pos (.inl e1),e1]
  exact h2
 ·by_cases e2:L=[]
  ·rw[if_pos (.inr e2),e2,abf]
   exact h1
  ·rw[if_neg (by simp[e1,e2])]
   cases L with
   |nil=>exact absurd rfl e2
   |cons b L=>exact eB.append e1 hn hd (hA _ (bD e1)) h1 h2
theorem Hl {A L:List Nat} (hd:∀x∈A,x∉L) (hA:∀x∈A,x<like.length) (hL:∀x∈L,seen x) (h1:eB like turn A) (h2:eB like turn L) (hr:∀x,seen x→∃d r,jq like d x r) (hc:∀x:Nat,seen x→g like x= -1∨∃y:Nat,g like x=(y:Int)∧seen y):
 (∀x,seen x→∃d r,jq (jk like A L) d x r)∧∀x:Nat,seen x→g (jk like A L) x= -1∨∃y:Nat,g (jk like A L) x=(y:Int)∧seen y:=by
 unfold jk
 by_cases e1:A=[]
 ·rw[if_pos (.inl e1)]
  exact⟨hr,hc⟩
 ·by_cases e2:L=[]
  ·rw[if_pos (.inr e2)]
   exact⟨hr,hc⟩
  ·rw[if_neg (by simp[e1,e2])]
   obtain⟨d,hd'⟩:=h2.res _ (head_mem e2)
   exact⟨wP (hA _ (bD e1)) (h1.last e1) hd' (fun e=>hd _ (bD e1) (by rw[←e];exact bD e2)) hr,BS (hA _ (bD e1)) (hL _ (head_mem e2)) hc⟩
theorem Mv {A L:List Nat} (h1:eB like turn A) {x y:Nat} (hx:g like x=(y:Int)):g (jk like A L) x=(y:Int):=by
 unfold jk
 split
 ·exact hx
 ·rename_i hne
  rw[aU]
  ·exact hx
  ·rintro rfl
   rw[h1.last fun k=>hne (.inl k)] at hx
   omega
theorem zO {A L:List Nat} {x:Nat} (hx:g like x= -1) (hn:x∉A):g (jk like A L) x= -1:=(pP hn).trans hx
theorem Lk.merge {A B L R:List Nat} (h:Lk m like turn seen ((A,B)::(L,R)::stk)):Lk m (jk (jk like A L) B R) turn seen ((A++L,B++R)::stk):=by
 have hnd:=h.nd
 rw[aG,aG] at hnd
 simp only[aa5,aal] at hnd
 obtain⟨nA,⟨nB,⟨nL,⟨nR,nS,dRS⟩,dL⟩,dB⟩,dA⟩:=hnd
 obtain⟨sA,sB⟩:=h.mG (p:=(A,B)) (by simp)
 obtain⟨sL,sR⟩:=h.mG (p:=(L,R)) (by simp)
 obtain⟨cA,cB⟩:=h.ch (A,B) (by simp)
 obtain⟨cL,cR⟩:=h.ch (L,R) (by simp)
 have mA:∀x∈A,x<like.length:=fun x hx=>by rw[h.ll];exact h.sm x (sA x hx)
 have mB:∀x∈B,x<(jk like A L).length:=fun x hx=>by rw[uV,h.ll];exact h.sm x (sB x hx)
 have o1:∀{l:List Nat},eB like turn l→(∀x∈l,x∉A)→eB (jk like A L) turn l:=fun hc hd=>hc.other fun x hx=>⟨pP (hd x hx),rfl⟩
 have o2:∀{l:List Nat},eB (jk like A L) turn l→(∀x∈l,x∉B)→eB (jk (jk like A L) B R) turn l:=fun hc hd=>hc.other fun x hx=>⟨pP (hd x hx),rfl⟩
 have VZ:eB (jk like A L) turn B:=o1 cB fun x hx k=>dA x k x (.inl hx) rfl
 have cR1:eB (jk like A L) turn R:=o1 cR fun x hx k=>dA x k x (.inr (.inr (.inl hx))) rfl
 have r1:=Hl (fun x hx k=>dA x hx x (.inr (.inl k)) rfl) mA sL cA cL h.res h.cl
 have r2:=Hl (fun x hx k=>dB x hx x (.inr (.inl k)) rfl) mB sR VZ cR1 r1.1 r1.2
 refine⟨by rw[uV,uV];exact h.ll,h.lt,fun q hq=> ?_,?_,fun x hx=>h.sn x ?_,h.sm,fun x hx hs=> ?_,h.tn,r2.1,r2.2⟩
 ·rcases aaj.1 hq with rfl|hq
  ·refine⟨o2 (Ho nA (fun x hx k=>dA x hx x (.inr (.inl k)) rfl) mA cA cL) fun x hx k=> ?_,Ho nB (fun x hx k=>dB x hx x (.inr (.inl k)) rfl) mB VZ cR1⟩
   rcases aal.1 hx with hx|hx
   ·exact dA x hx x (.inl k) rfl
   ·exact dB x k x (.inl hx) rfl
  ·have hc:=h.ch q (by simp[hq])
   have hin:∀x,x∈q.1∨x∈q.2→x∈cH stk:=fun x hx=>bk.2 ⟨q,hq,hx⟩
   have f1:∀x,x∈cH stk→x∉A:=fun x hx k=>dA x k x (.inr (.inr (.inr hx))) rfl
   have f2:∀x,x∈cH stk→x∉B:=fun x hx k=>dB x k x (.inr (.inr hx)) rfl
   exact⟨o2 (o1 hc.1 fun x hx=>f1 x (hin x (.inl hx))) fun x hx=>f2 x (hin x (.inl hx)),o2 (o1 hc.2 fun x hx=>f1 x (hin x (.inr hx))) fun x hx=>f2 x (hin x (.inr hx))⟩
 ·rw[aG]
  simp only[aa5,aal]
  refine⟨⟨nA,nL,fun a ha b hb=>dA a ha b (.inr (.inl hb))⟩,⟨⟨nB,nR,fun a ha b hb=>dB a ha b (.inr (.inl hb))⟩,nS,fun a ha b hb=> ?_⟩,fun a ha b hb=> ?_⟩
  ·rcases ha with ha|ha
   ·exact dB a ha b (.inr (.inr hb))
   ·exact dRS a ha b hb
  ·rcases ha with ha|ha<;>rcases hb with (hb|hb)|hb
   ·exact dA a ha b (.inl hb)
   ·exact dA a ha b (.inr (.inr (.inl hb)))
   ·exact dA a ha b (.inr (.inr (.inr hb)))
   ·exact(dB b hb a (.inl ha)).symm
   ·exact dL a ha b (.inl hb)
   ·exact dL a ha b (.inr hb)
 ·rw[aG] at hx
  rw[aG,aG]
  simp only[aal] at hx ⊢
  rcases hx with (k|k)|(k|k)|k<;>simp[k]
 ·have:=h.new x hx hs
  exact⟨zO (zO this.1 fun k=>hs (sA x k)) fun k=>hs (sB x k),this.2⟩
theorem Sat.merge {A B L R:List Nat} (h0:Lk m like turn seen ((A,B)::(L,R)::stk)) (h:Sat (jk (jk like A L) B R) turn seen ((A++L,B++R)::stk) sd):Sat like turn seen ((A,B)::(L,R)::stk) sd:=by
 have hnd:=h0.nd
 rw[aG,aG] at hnd
 simp only[aa5,aal] at hnd
 obtain⟨nA,⟨nB,⟨nL,⟨nR,nS,dRS⟩,dL⟩,dB⟩,dA⟩:=hnd
 obtain⟨cA,cB⟩:=h0.ch (A,B) (by simp)
 have VZ:eB (jk like A L) turn B:=cB.other fun x hx=>⟨pP fun k=>dA x k x (.inl hx) rfl,rfl⟩
 refine⟨fun x y hx hl=>h.lk x y hx (Mv VZ (Mv cA hl)),fun x hx hl hn=> ?_,fun q hq=> ?_⟩
 ·rw[aG,aG] at hn
  simp only[aal,not_or] at hn
  obtain⟨k1,k2,k3,k4,k5⟩:=hn
  refine h.rt x hx (zO (zO hl k1) k2) ?_
  rw[aG]
  simp only[aal,not_or]
  exact⟨⟨k1,k3⟩,⟨k2,k4⟩,k5⟩
 ·have hu:=h.un (A++L,B++R) (by simp)
  rcases aaj.1 hq with rfl|hq
  ·exact fun l hl r hr=>hu l (aaN _ hl) r (aaN _ hr)
  ·rcases aaj.1 hq with rfl|hq
   ·exact fun l hl r hr=>hu l (aaz _ hl) r (aaz _ hr)
   ·exact h.un q (by simp[hq])
end
end Lt
end
section
namespace Lt
section
variable {m:Nat} {like turn:List Int} {seen:Nat→Prop} {stk:List cJ} {sd:Nat→Bool}
theorem uS {P:Nat→Prop} (hlk:∀x y:Nat,P x→g like x=(y:Int)→sd x=(sd y ^^ decide (g turn x= -1))):∀{l:List Nat},eB like turn l→(∀x∈l,P x)→∀x∈l,sd x=sd (l.getLastD 0)
 |[],_,_,x,hx=>by simp at hx
 |[y],_,_,x,hx=>by rw[aao.1 hx];rfl
 |y::z::l,hc,hs,x,hx=>by
  have e1:(y::z::l).getLastD 0=(z::l).getLastD 0:=by simp
  have ih:=fun x hx=>uS hlk hc.2 (fun x hx=>hs x (aah _ hx)) x hx
  rw[e1]
  rcases aaj.1 hx with rfl|hx
  ·rw[hlk x z (hs x aag) hc.1.1,hc.1.2,ih z aag]
   simp
  ·exact ih x hx
theorem Lk.align {p:cJ} {X:List Nat} {b:Nat} (h:Lk m like turn seen (p::([],X)::stk)) (hX:X≠[]) (hb:b∈cH stk):Lk m (like.set (X.getLastD 0) (b:Int)) turn seen (p::stk):=by
 have hnd:=h.nd
 rw[aG,aG] at hnd
 simp only[aaE,aa5,aal] at hnd
 obtain⟨n1,⟨n2,⟨nX,nS,dX⟩,d2⟩,d1⟩:=hnd
 obtain⟨_,sX⟩:=h.mG (p:=([],X)) (by simp)
 obtain⟨_,cX⟩:=h.ch ([],X) (by simp)
 have dz:=bD hX
 have hlt:X.getLastD 0<like.length:=by rw[h.ll];exact h.sm _ (sX _ dz)
 have sS:∀x∈cH stk,seen x:=fun x hx=>h.sn x (by rw[aG,aG];simp[hx])
 obtain⟨q,hq,hbq⟩:=bk.1 hb
 have hr:∃d r,jq like d b r∧r∈cH stk:=by
  obtain⟨c1,c2⟩:=h.ch q (by simp[hq])
  rcases hbq with k|k
  ·obtain⟨d,hd⟩:=c1.res b k
   exact⟨d,_,hd,bk.2 ⟨q,hq,.inl (bD (fun e=>by rw[e] at k;simp at k))⟩⟩
  ·obtain⟨d,hd⟩:=c2.res b k
   exact⟨d,_,hd,bk.2 ⟨q,hq,.inr (bD (fun e=>by rw[e] at k;simp at k))⟩⟩
 obtain⟨d,r,hres,hrm⟩:=hr
 refine⟨by rw[aaT];exact h.ll,h.lt,fun q hq=> ?_,?_,fun x hx=>h.sn x ?_,h.sm,fun x hx hs=> ?_,h.tn,wP hlt (cX.last hX) hres (fun e=>dX _ dz r hrm e.symm) h.res,BS hlt (sS b hb) h.cl⟩
 ·have hc:eB like turn q.1∧eB like turn q.2:=h.ch q (by rcases aaj.1 hq with rfl|hq<;>simp_all)
  have hne:∀x,x∈q.1∨x∈q.2→x≠X.getLastD 0:=fun x hx e=>by
   rcases aaj.1 hq with rfl|hq
   ·rcases hx with hx|hx
    ·exact d1 x hx _ (.inr (.inl dz)) e
    ·exact d2 x hx _ (.inl dz) e
   ·exact dX _ dz x (bk.2 ⟨q,hq,hx⟩) e.symm
  exact⟨hc.1.other fun x hx=>⟨aU (hne x (.inl hx)),rfl⟩,hc.2.other fun x hx=>⟨aU (hne x (.inr hx)),rfl⟩⟩
 ·rw[aG]
  simp only[aa5,aal]
  exact⟨n1,⟨n2,nS,fun a ha b hb=>d2 a ha b (.inr hb)⟩,fun a ha b hb=>d1 a ha b (hb.elim .inl fun k=> .inr (.inr k))⟩
 ·rw[aG] at hx
  rw[aG,aG]
  simp only[aal,aaE] at hx ⊢
  rcases hx with k|k|k<;>simp[k]
 ·have:=h.new x hx hs
  rw[aU (fun e=>hs (by rw[e];exact sX _ dz))]
  exact this
theorem Sat.align {p:cJ} {X:List Nat} {b:Nat} (h0:Lk m like turn seen (p::([],X)::stk)) (hX:X≠[]) (h:Sat (like.set (X.getLastD 0) (b:Int)) turn seen (p::stk) sd):Sat like turn seen (p::([],X)::stk) sd∧∀x∈X,sd x=sd b:=by
 obtain⟨_,sX⟩:=h0.mG (p:=([],X)) (by simp)
 obtain⟨_,cX⟩:=h0.ch ([],X) (by simp)
 have dz:=bD hX
 have hlt:X.getLastD 0<like.length:=by rw[h0.ll];exact h0.sm _ (sX _ dz)
 have hS:Sat like turn seen (p::([],X)::stk) sd:=by
  refine⟨fun x y hx hl=>h.lk x y hx ?_,fun x hx hl hn=>h.rt x hx ?_ ?_,fun q hq=> ?_⟩
  ·rw[aU]
   ·exact hl
   ·rintro rfl
    rw[cX.last hX] at hl
    omega
  ·rw[aU]
   ·exact hl
   ·rintro rfl
    exact hn (by rw[aG,aG];simp only[aal];exact .inr (.inr (.inr (.inl dz))))
  ·intro k
   refine hn ?_
   rw[aG] at k
   rw[aG,aG]
   simp only[aal] at k ⊢
   rcases k with k|k|k<;>simp[k]
  ·rcases aaj.1 hq with rfl|hq
   ·exact h.un q (by simp)
   ·rcases aaj.1 hq with rfl|hq
    ·exact fun l hl=>by simp at hl
    ·exact h.un q (by simp[hq])
 refine⟨hS,fun x hx=> ?_⟩
 rw[hS.one cX sX x hx,h.lk _ b (sX _ dz) (dW hlt),cX.fR _ dz]
 simp
def wE (turn:List Int) (L:List Nat):List Int:=if L=[] then turn else turn.set (L.getLastD 0) (-1)
theorem PL (L:List Nat):(wE turn L).length=turn.length:=by
 unfold wE
 split
 ·rfl
 ·exact aaT
theorem mF {L:List Nat} {x:Nat} (h:x∉L):g (wE turn L) x=g turn x:=by
 unfold wE
 split
 ·rfl
 ·rename_i hne
  exact aU fun e=>h (by rw[e];exact bD hne)
theorem z8 {L:List Nat} {x:Nat} (hl:∀x∈L,x<turn.length):g (wE turn L) x=g turn x∨(x=L.getLastD 0∧L≠[]∧g (wE turn L) x= -1):=by
 unfold wE
 split
 ·exact .inl rfl
 ·rename_i hne
  by_cases e:x=L.getLastD 0
  ·exact .inr ⟨e,hne,by rw[e];exact dW (hl _ (bD hne))⟩
  ·exact .inl (aU e)
theorem Lk.pop {L R:List Nat} (h:Lk m like turn seen ((L,R)::stk)):Lk m like (wE turn L) seen stk:=by
 have hnd:=h.nd
 rw[aG] at hnd
 simp only[aa5,aal] at hnd
 obtain⟨n1,⟨n2,nS,d2⟩,d1⟩:=hnd
 obtain⟨sL,sR⟩:=h.mG (p:=(L,R)) (by simp)
 have hml:∀x∈L,x<turn.length:=fun x hx=>by rw[h.lt];exact h.sm x (sL x hx)
 refine⟨h.ll,by rw[PL];exact h.lt,fun q hq=> ?_,nS,fun x hx=>h.sn x (by rw[aG];simp[hx]),h.sm,fun x hx hs=> ?_,fun x hx=> ?_,h.res,h.cl⟩
 ·have hc:=h.ch q (by simp[hq])
  have hne:∀x,x∈q.1∨x∈q.2→x∉L:=fun x hx k=>d1 x k x (.inr (bk.2 ⟨q,hq,hx⟩)) rfl
  exact⟨hc.1.other fun x hx=>⟨rfl,mF (hne x (.inl hx))⟩,hc.2.other fun x hx=>⟨rfl,mF (hne x (.inr hx))⟩⟩
 ·have:=h.new x hx hs
  exact⟨this.1,(mF fun k=>hs (sL x k)).trans this.2⟩
 ·rcases z8 (x:=x) hml with k|⟨_,_,k⟩
  ·rw[k];exact h.tn x hx
  ·exact .inr k
theorem Sat.pop {L R:List Nat} (h0:Lk m like turn seen ((L,R)::stk)) (h:Sat like (wE turn L) seen stk sd):Sat like turn seen ((L,R)::stk) sd:=by
 have hnd:=h0.nd
 rw[aG] at hnd
 simp only[aa5,aal] at hnd
 obtain⟨n1,⟨n2,nS,d2⟩,d1⟩:=hnd
 obtain⟨sL,sR⟩:=h0.mG (p:=(L,R)) (by simp)
 obtain⟨cL,cR⟩:=h0.ch (L,R) (by simp)
 have hml:∀x∈L,x<turn.length:=fun x hx=>by rw[h0.lt];exact h0.sm x (sL x hx)
 have hlk:∀x y:Nat,seen x→g like x=(y:Int)→sd x=(sd y ^^ decide (g turn x= -1)):=fun x y hx hl=>by
  have:=h.lk x y hx hl
  rcases z8 (x:=x) hml with k|⟨k1,k2,_⟩
  ·rw[k] at this;exact this
  ·rw[k1,cL.last k2] at hl
   omega
 refine⟨hlk,fun x hx hl hn=> ?_,fun q hq=> ?_⟩
 ·rw[aG] at hn
  simp only[aal,not_or] at hn
  rw[h.rt x hx hl hn.2.2,mF hn.1]
 ·rcases aaj.1 hq with rfl|hq
  ·intro l hl r hr
   have eL:L≠[]:=fun e=>by simp[e] at hl
   have eR:R≠[]:=fun e=>by simp[e] at hr
   have l1:=bD eL
   have r1:=bD eR
   have k1:=uS hlk cL sL l hl
   have k2:=uS hlk cR sR r hr
   have k3:=h.rt _ (sL _ l1) (cL.last eL) (fun k=>d1 _ l1 _ (.inr k) rfl)
   have k4:=h.rt _ (sR _ r1) (cR.last eR) (fun k=>d2 _ r1 _ k rfl)
   rw[mF (fun k=>d1 _ k _ (.inl r1) rfl),cR.fR _ r1] at k4
   have k5:g (wE turn L) (L.getLastD 0)= -1:=by
    unfold wE
    rw[if_neg eL]
    exact dW (hml _ l1)
   rw[k5] at k3
   rw[k1,k2,k3,k4]
   simp
  ·exact h.un q hq
theorem eB.drop:∀{X1 X2:List Nat},eB like turn (X1++X2)→eB like turn X2
 |[],_,h=>h
 |_::_,_,h=>eB.drop h.tail
theorem sq {X1 X2:List Nat} (h:X2≠[]):(X1++X2).getLastD 0=X2.getLastD 0:=by
 cases X2 with
 |nil=>exact absurd rfl h
 |cons b L=>
  rw[acq,acq]
  simp[List.getLast?_cons]
theorem Lk.drop {X1 X2 Y:List Nat} (h:Lk m like turn seen ((X1++X2,Y)::stk)):Lk m like turn seen ((X2,Y)::stk):=by
 refine⟨h.ll,h.lt,fun q hq=> ?_,?_,fun x hx=>h.sn x ?_,h.sm,h.new,h.tn,h.res,h.cl⟩
 ·rcases aaj.1 hq with rfl|hq
  ·have:=h.ch (X1++X2,Y) (by simp)
   exact⟨this.1.drop,this.2⟩
  ·exact h.ch q (by simp[hq])
 ·have:=h.nd
  rw[aG,aaH] at this
  rw[aG]
  exact(aa5.1 this).2.1
 ·rw[aG] at hx ⊢
  simp only[aal] at hx ⊢
  rcases hx with k|k|k<;>simp[k]
theorem Sat.drop {X1 X2 Y:List Nat} (h0:Lk m like turn seen ((X1++X2,Y)::stk)) (hX:X2≠[]) (h:Sat like turn seen ((X2,Y)::stk) sd):Sat like turn seen ((X1++X2,Y)::stk) sd:=by
 obtain⟨sX,sY⟩:=h0.mG (p:=(X1++X2,Y)) (by simp)
 obtain⟨cX,cY⟩:=h0.ch (X1++X2,Y) (by simp)
 refine⟨h.lk,fun x hx hl hn=>h.rt x hx hl fun k=>hn ?_,fun q hq=> ?_⟩
 ·rw[aG] at k ⊢
  simp only[aal] at k ⊢
  rcases k with k|k|k<;>simp[k]
 ·rcases aaj.1 hq with rfl|hq
  ·intro l hl r hr
   rw[h.one cX sX l hl,sq hX]
   exact h.un (X2,Y) (by simp) _ (bD hX) r hr
  ·exact h.un q (by simp[hq])
theorem Lk.vF {X Y:List Nat} (h:Lk m like turn seen ((X,Y)::stk)) (hX:X≠[]) (hY:Y≠[]):Lk m (like.set (X.getLastD 0) ((Y.getLastD 0:Nat):Int)) (turn.set (X.getLastD 0) (-1)) seen (([],Y)::stk):=by
 have hnd:=h.nd
 rw[aG] at hnd
 simp only[aa5,aal] at hnd
 obtain⟨n1,⟨n2,nS,d2⟩,d1⟩:=hnd
 obtain⟨sX,sY⟩:=h.mG (p:=(X,Y)) (by simp)
 obtain⟨cX,cY⟩:=h.ch (X,Y) (by simp)
 have dz:=bD hX
 have hl2:=bD hY
 have hlt:X.getLastD 0<like.length:=by rw[h.ll];exact h.sm _ (sX _ dz)
 have hlt2:X.getLastD 0<turn.length:=by rw[h.lt];exact h.sm _ (sX _ dz)
 have NY:∀{l:List Nat},eB like turn l→(∀x∈l,x≠X.getLastD 0)→eB (like.set (X.getLastD 0) ((Y.getLastD 0:Nat):Int)) (turn.set (X.getLastD 0) (-1)) l:=fun hc hd=>hc.other fun x hx=>⟨aU (hd x hx),aU (hd x hx)⟩
 refine⟨by rw[aaT];exact h.ll,by rw[aaT];exact h.lt,fun q hq=> ?_,?_,fun x hx=>h.sn x ?_,h.sm,fun x hx hs=> ?_,fun x hx=> ?_,wP hlt (cX.last hX) (.root (cY.last hY)) (fun e=>d1 _ dz _ (.inl hl2) e.symm) h.res,BS hlt (sY _ hl2) h.cl⟩
 ·rcases aaj.1 hq with rfl|hq
  ·exact⟨trivial,NY cY fun x hx e=>d1 _ dz x (.inl hx) e.symm⟩
  ·have hc:=h.ch q (by simp[hq])
   have hne:∀x,x∈q.1∨x∈q.2→x≠X.getLastD 0:=fun x hx e=>d1 _ dz x (.inr (bk.2 ⟨q,hq,hx⟩)) e.symm
   exact⟨NY hc.1 fun x hx=>hne x (.inl hx),NY hc.2 fun x hx=>hne x (.inr hx)⟩
 ·rw[aG]
  simp only[aaE,aa5]
  exact⟨n2,nS,d2⟩
 ·rw[aG] at hx ⊢
  simp only[aal,aaE] at hx ⊢
  rcases hx with k|k<;>simp[k]
 ·have:=h.new x hx hs
  have hne:x≠X.getLastD 0:=fun e=>hs (by rw[e];exact sX _ dz)
  rw[aU hne,aU hne]
  exact this
 ·by_cases e:x=X.getLastD 0
  ·rw[e,dW hlt2];exact .inr rfl
  ·rw[aU e];exact h.tn x hx
theorem Sat.vF {X Y:List Nat} (h0:Lk m like turn seen ((X,Y)::stk)) (hX:X≠[]) (hY:Y≠[]) (h:Sat (like.set (X.getLastD 0) ((Y.getLastD 0:Nat):Int)) (turn.set (X.getLastD 0) (-1)) seen (([],Y)::stk) sd):Sat like turn seen ((X,Y)::stk) sd:=by
 obtain⟨sX,sY⟩:=h0.mG (p:=(X,Y)) (by simp)
 obtain⟨cX,cY⟩:=h0.ch (X,Y) (by simp)
 have dz:=bD hX
 have hl2:=bD hY
 have hlt:X.getLastD 0<like.length:=by rw[h0.ll];exact h0.sm _ (sX _ dz)
 have hlt2:X.getLastD 0<turn.length:=by rw[h0.lt];exact h0.sm _ (sX _ dz)
 have hlk:∀x y:Nat,seen x→g like x=(y:Int)→sd x=(sd y ^^ decide (g turn x= -1)):=fun x y hx hl=>by
  have hne:x≠X.getLastD 0:=fun e=>by rw[e,cX.last hX] at hl;omega
  have:=h.lk x y hx (by rw[aU hne];exact hl)
  rw[aU hne] at this
  exact this
 refine⟨hlk,fun x hx hl hn=> ?_,fun q hq=> ?_⟩
 ·rw[aG] at hn
  simp only[aal,not_or] at hn
  have hne:x≠X.getLastD 0:=fun e=>hn.1 (by rw[e];exact dz)
  rw[h.rt x hx (by rw[aU hne];exact hl) (by rw[aG];simp only[aaE,aal,not_or];exact hn.2),aU hne]
 ·rcases aaj.1 hq with rfl|hq
  ·intro l hl r hr
   rw[uS hlk cX sX l hl,uS hlk cY sY r hr,h.lk _ _ (sX _ dz) (dW hlt),dW hlt2]
   simp
  ·exact h.un q (by simp[hq])
end
end Lt
end
section
namespace Lt
def C7:List Nat→Int
 |[]=> -1
 |x::_=>(x:Int)
theorem MR {l:List Nat}:C7 l= -1↔l=[]:=by
 cases l with
 |nil=>simp[C7]
 |cons x l=>simp[C7]
theorem sF {l:List Nat} (h:l≠[]):dJ l=(C7 l,((l.getLastD 0:Nat):Int)):=by
 cases l with
 |nil=>exact absurd rfl h
 |cons x l=>rfl
def fL (lw:List Int) (h:Int) (x:Nat):Bool:=decide (g lw x=h)
def lO (lw:List Int) (l:List Nat):Prop:=List.Pairwise (fun x y=>g lw y≤g lw x) l
section
variable {m:Nat} {lw like turn:List Int} {seen:Nat→Prop} {stk:List cJ} {sd:Nat→Bool} {h:Int}
theorem down_eq:∀(X:List Nat) (k:Nat),X.length<k→eB like turn X→(∀x∈X,x<lw.length∧x<like.length)→down lw like h k (C7 X)=some (C7 (X.dropWhile (fL lw h)))
 |X,0,hk,_,_=>absurd hk (Nat.not_lt_zero _)
 |[],k+1,_,_,_=>by
  unfold down
  simp[C7]
 |x::X,k+1,hk,hc,hm=>by
  obtain⟨h1,h2⟩:=hm x aag
  have ih:=down_eq X k (by simp at hk;omega) hc.tail (fun y hy=>hm y (aah _ hy))
  have fM:g like x=C7 X:=by
   cases X with
   |nil=>exact hc.1
   |cons y X=>exact hc.1.1
  unfold down
  have e0:¬C7 (x::X)= -1:=fun e=>by simp[C7] at e
  rw[if_neg e0]
  show(match bz lw (x:Int) with|none=>none|some a=>if a=h then (match bz like (x:Int) with|none=>none|some y=>down lw like h k y) else some (x:Int))=_
  rw[lW h1]
  dsimp only
  by_cases e:g lw x=h
  ·rw[if_pos e,lW h2]
   dsimp only
   rw[fM,ih,ab5 (by simp[fL,e])]
  ·rw[if_neg e,abP (by simp[fL,e])]
   rfl
theorem M5 (o:Iv):cut lw h like turn (dJ []) o=some (like,turn,dJ []):=by
 unfold cut
 rw[if_pos (dD.2 rfl)]
theorem sD {X:List Nat} (o:Iv) (hX:X.dropWhile (fL lw h)≠[]) (hn:X.Nodup) (hc:eB like turn X) (hm:∀x∈X,x<lw.length∧x<like.length):cut lw h like turn (dJ X) o=some (like,turn,dJ (X.dropWhile (fL lw h))):=by
 have kD:X≠[]:=fun e=>hX (by rw[e];rfl)
 have hlen:X.length<like.length+1:=Nat.lt_succ_of_le (fG hn fun x hx=>(hm x hx).2)
 have e1:(X.dropWhile (fL lw h)).getLastD 0=X.getLastD 0:=by
  have:=sq (X1:=X.takeWhile (fL lw h)) hX
  rw[acz] at this
  exact this.symm
 unfold cut
 rw[if_neg (fun k=>kD (dD.1 k)),sF kD]
 dsimp only
 rw[down_eq X _ hlen hc hm]
 dsimp only
 rw[if_neg (fun k=>hX (MR.1 k)),sF hX,e1]
theorem En {X Y:List Nat} (kD:X≠[]) (hX:X.dropWhile (fL lw h)=[]) (hY:Y≠[]) (hn:X.Nodup) (hc:eB like turn X) (hm:∀x∈X,x<lw.length∧x<like.length) (hlt:like.length=turn.length):cut lw h like turn (dJ X) (dJ Y)=some (like.set (X.getLastD 0) ((Y.getLastD 0:Nat):Int),turn.set (X.getLastD 0) (-1),dJ []):=by
 have hlen:X.length<like.length+1:=Nat.lt_succ_of_le (fG hn fun x hx=>(hm x hx).2)
 have hl:=(hm _ (bD kD)).2
 unfold cut
 rw[if_neg (fun k=>kD (dD.1 k)),sF kD,sF hY]
 dsimp only
 rw[down_eq X _ hlen hc hm,hX]
 dsimp only
 rw[if_pos (MR.2 rfl),mI hl,mI (by rw[←hlt];exact hl)]
 rfl
def jA (lw:List Int) (h:Int) (p:cJ):Bool:=p.1.all (fL lw h)&&p.2.all (fL lw h)
def cV (lw:List Int) (h:Int):List cJ→List cJ
 |[]=>[]
 |p::ps=>if jA lw h p=true then cV lw h ps else (p.1.dropWhile (fL lw h),p.2.dropWhile (fL lw h))::ps
theorem qN:∀{l:List Nat},lO lw l→∀x∈l,g lw (l.getLastD 0)≤g lw x
 |[],_,x,hx=>by simp at hx
 |[y],_,x,hx=>by rw[aao.1 hx];exact abE _
 |y::z::l,hs,x,hx=>by
  have e1:(y::z::l).getLastD 0=(z::l).getLastD 0:=by simp
  rw[e1]
  have h2:=aa4.1 hs
  rcases aaj.1 hx with rfl|hx
  ·have:=h2.1 z aag
   have:=qN h2.2 z aag
   omega
  ·exact qN h2.2 x hx
theorem gu {l:List Nat}:l.all (fL lw h)=true↔∀x∈l,g lw x=h:=by
 simp[fL]
theorem Kt {p:cJ} (hne:¬(p.1=[]∧p.2=[])) (hm:∀x,x∈p.1∨x∈p.2→x<lw.length∧g lw x≤h) (h1:lO lw p.1) (h2:lO lw p.2):∃a,least lw (cM p)=some a∧(a=h↔jA lw h p=true):=by
 obtain⟨L,R⟩:=p
 have side:∀{l:List Nat},l≠[]→lO lw l→(∀x∈l,x<lw.length∧g lw x≤h)→bz lw (dJ l).2=some (g lw (l.getLastD 0))∧g lw (l.getLastD 0)≤h∧(g lw (l.getLastD 0)=h↔l.all (fL lw h)=true):=fun {l} hl hs hm=>by
  have k:=bD hl
  rw[sF hl]
  refine⟨lW (hm _ k).1,(hm _ k).2,?_⟩
  rw[gu]
  constructor
  ·intro e x hx
   have:=qN hs x hx
   have:=(hm x hx).2
   omega
  ·exact fun e=>e _ k
 unfold least cM jA
 dsimp only at hne hm h1 h2 ⊢
 by_cases e1:L=[]
 ·have e2:R≠[]:=fun k=>hne ⟨e1,k⟩
  obtain⟨a1,_,a3⟩:=side e2 h2 fun x hx=>hm x (.inr hx)
  rw[if_pos (dD.2 e1),a1]
  refine⟨_,rfl,?_⟩
  rw[a3,e1]
  simp
 ·obtain⟨a1,a2,a3⟩:=side e1 h1 fun x hx=>hm x (.inl hx)
  rw[if_neg (fun k=>e1 (dD.1 k))]
  by_cases e2:R=[]
  ·rw[if_pos (dD.2 e2),a1]
   refine⟨_,rfl,?_⟩
   rw[a3,e2]
   simp
  ·obtain⟨b1,b2,b3⟩:=side e2 h2 fun x hx=>hm x (.inr hx)
   rw[if_neg (fun k=>e2 (dD.1 k)),a1,b1]
   refine⟨_,rfl,?_⟩
   rw[aaP,←a3,←b3]
   omega
theorem DC (mg:lw.length=m):∀(stk:List cJ) (turn:List Int),Lk m like turn seen stk→(∀p∈stk,¬(p.1=[]∧p.2=[]))→(∀x∈cH stk,g lw x≤h)→(∀p∈stk,lO lw p.1∧lO lw p.2)→
 ∃aZ,iO lw h (stk.map cM) turn=some ((stk.dropWhile (jA lw h)).map cM,aZ)∧Lk m like aZ seen (stk.dropWhile (jA lw h))∧∀sd,Sat like aZ seen (stk.dropWhile (jA lw h)) sd→Sat like turn seen stk sd
 |[],turn,hk,_,_,_=>⟨turn,rfl,hk,fun _ hs=>hs⟩
 |p::ps,turn,hk,hne,hle,hs=>by
  have hp:=hne p aag
  have hin:∀x,x∈p.1∨x∈p.2→x∈cH (p::ps):=fun x hx=>bk.2 ⟨p,aag,hx⟩
  obtain⟨a,ha,hiff⟩:=Kt (lw:=lw) (h:=h) hp (fun x hx=>⟨by rw[mg];exact hk.sm x (hk.sn x (hin x hx)),hle x (hin x hx)⟩) (hs p aag).1 (hs p aag).2
  rw[ace]
  unfold iO
  rw[if_neg (fun k=>hp (vG.1 k)),ha]
  dsimp only
  by_cases e:a=h
  ·rw[if_pos e,ab5 (hiff.1 e)]
   obtain⟨aZ,k1,k2,k3⟩:=DC mg ps (wE turn p.1) hk.pop (fun q hq=>hne q (aah _ hq)) (fun x hx=>hle x (by rw[aG];simp[hx])) (fun q hq=>hs q (aah _ hq))
   refine⟨aZ,?_,k2,fun sd aM=>Sat.pop hk (k3 sd aM)⟩
   unfold wE at k1
   by_cases e1:p.1=[]
   ·rw[if_pos (show(cM p).1=aO from dD.2 e1)]
    rw[if_pos e1] at k1
    exact k1
   ·rw[if_neg (show ¬(cM p).1=aO from fun k=>e1 (dD.1 k))]
    rw[if_neg e1] at k1
    have hl:=bD e1
    have:eT turn (cM p).1.2 (-1)=some (turn.set (p.1.getLastD 0) (-1)):=by
     unfold cM
     dsimp only
     rw[sF e1]
     exact mI (by rw[hk.lt];exact hk.sm _ (hk.sn _ (hin _ (.inl hl))))
    rw[this]
    exact k1
  ·rw[if_neg e,abP (fun k=>e (hiff.2 k))]
   exact⟨turn,rfl,hk,fun _ hs=>hs⟩
theorem Ev:∀(stk:List cJ),cV lw h stk=match stk.dropWhile (jA lw h) with|[]=>[]|p::ps=>(p.1.dropWhile (fL lw h),p.2.dropWhile (fL lw h))::ps
 |[]=>rfl
 |p::ps=>by
  unfold cV
  by_cases e:jA lw h p=true
  ·rw[if_pos e,ab5 e]
   exact Ev ps
  ·rw[if_neg e,abP e]
theorem zR {l:List Nat}:l.dropWhile (fL lw h)=[]↔∀x∈l,g lw x=h:=by
 rw[←gu]
 induction l with
 |nil=>simp
 |cons x l ih=>
  by_cases e:fL lw h x=true
  ·rw[ab5 e,ih]
   simp[e]
  ·rw[abP e]
   simp[e]
theorem PJ (mg:lw.length=m) (st:TS) (hst:st.stk=stk.map cM) (hk:Lk m st.like st.turn seen stk) (hne:∀p∈stk,¬(p.1=[]∧p.2=[])) (hle:∀x∈cH stk,g lw x≤h) (hs:∀p∈stk,lO lw p.1∧lO lw p.2):
 ∃aH aZ,trim lw h st=some { st with like:=aH,turn:=aZ,stk:=(cV lw h stk).map cM }∧Lk m aH aZ seen (cV lw h stk)∧∀sd,Sat aH aZ seen (cV lw h stk) sd→Sat st.like st.turn seen stk sd:=by
 obtain⟨aZ,k1,k2,k3⟩:=DC mg stk st.turn hk hne hle hs
 unfold trim
 rw[hst,k1]
 have ea:=Ev (lw:=lw) (h:=h) stk
 cases hd:stk.dropWhile (jA lw h) with
 |nil=>
  rw[hd] at ea k2 k3
  rw[ea]
  exact⟨st.like,aZ,rfl,k2,k3⟩
 |cons p ps=>
  rw[hd] at ea k2 k3
  have hsub:∀q∈p::ps,q∈stk:=fun q hq=>by
   have:=ack (l:=stk) (jA lw h)
   rw[hd] at this
   exact this.subset hq
  have hnot:¬jA lw h p=true:=by
   have:=List.head?_dropWhile_not (jA lw h) stk
   rw[hd] at this
   simpa using this
  have hp:=hne p (hsub p aag)
  obtain⟨L,R⟩:=p
  rw[ea]
  dsimp only at hp ⊢
  rw[ace]
  dsimp only
  rw[if_neg (fun k=>hp (vG.1 k))]
  have hnd:=k2.nd
  rw[aG] at hnd
  simp only[aa5] at hnd
  obtain⟨nL,⟨nR,-,-⟩,-⟩:=hnd
  obtain⟨cL,cR⟩:=k2.ch (L,R) aag
  obtain⟨sL,sR⟩:=k2.mG (p:=(L,R)) aag
  have mL:∀x∈L,x<lw.length∧x<st.like.length:=fun x hx=>by rw[mg,k2.ll];exact⟨k2.sm x (sL x hx),k2.sm x (sL x hx)⟩
  have mR:∀x∈R,x<lw.length∧x<st.like.length:=fun x hx=>by rw[mg,k2.ll];exact⟨k2.sm x (sR x hx),k2.sm x (sR x hx)⟩
  have eK:st.like.length=aZ.length:=by rw[k2.ll,k2.lt]
  have aaC:¬(L.dropWhile (fL lw h)=[]∧R.dropWhile (fL lw h)=[]):=fun k=>hnot (by
   unfold jA
   rw[aaP]
   exact⟨gu.2 (zR.1 k.1),gu.2 (zR.1 k.2)⟩)
  have ZC:L.takeWhile (fL lw h)++L.dropWhile (fL lw h)=L:=acz
  have JU:R.takeWhile (fL lw h)++R.dropWhile (fL lw h)=R:=acz
  show ∃aht ahs,(match cut lw h st.like aZ (dJ L) (dJ R) with|none=>none|some (eX,fR,l)=>match cut lw h eX fR (dJ R) l with|none=>none|some (eW,tB,r)=>some { st with stk:=(l,r)::ps.map cM,like:=eW,turn:=tB })=_∧_
  by_cases dl:L.dropWhile (fL lw h)=[]
  ·have dr:R.dropWhile (fL lw h)≠[]:=fun k=>aaC ⟨dl,k⟩
   have IY:R≠[]:=fun e=>dr (by rw[e];rfl)
   by_cases SJ:L=[]
   ·subst SJ
    rw[M5]
    dsimp only
    rw[sD _ dr nR cR mR]
    rw[←JU] at k2
    refine⟨st.like,aZ,rfl,k2.swap.drop.swap,fun sd aM=>k3 sd ?_⟩
    have:=Sat.drop k2.swap dr aM.swap
    rw[JU] at this
    exact this.swap
   ·rw[En SJ dl IY nL cL mL eK]
    dsimp only
    have c1:=k2.vF SJ IY
    have cR':=(c1.ch ([],R) aag).2
    rw[sD _ dr nR cR' (fun x hx=>by rw[aaT];exact mR x hx)]
    rw[dl]
    rw[←JU] at c1
    rw[sq dr] at c1
    have e1:(R.dropWhile (fL lw h)).getLastD 0=R.getLastD 0:=by
     have:=sq (X1:=R.takeWhile (fL lw h)) dr
     rw[JU] at this
     exact this.symm
    rw[e1] at c1
    refine⟨_,_,rfl,c1.swap.drop.swap,fun sd aM=>k3 sd ?_⟩
    have:=Sat.drop c1.swap dr aM.swap
    rw[JU] at this
    exact Sat.vF k2 SJ IY this.swap
  ·rw[sD _ dl nL cL mL]
   dsimp only
   have c1:Lk m st.like aZ seen ((L.dropWhile (fL lw h),R)::ps):=by
    rw[←ZC] at k2
    exact k2.drop
   have b1:∀sd,Sat st.like aZ seen ((L.dropWhile (fL lw h),R)::ps) sd→Sat st.like aZ seen ((L,R)::ps) sd:=fun sd aM=>by
    rw[←ZC] at k2
    have:=Sat.drop k2 dl aM
    rw[ZC] at this
    exact this
   by_cases IY:R=[]
   ·subst IY
    rw[M5]
    exact⟨st.like,aZ,rfl,c1,fun sd aM=>k3 sd (b1 sd aM)⟩
   ·by_cases dr:R.dropWhile (fL lw h)=[]
    ·rw[En IY dr dl nR cR mR eK,dr]
     exact⟨_,_,rfl,(c1.swap.vF IY dl).swap,fun sd aM=>k3 sd (b1 sd (Sat.vF c1.swap IY dl aM.swap).swap)⟩
    ·rw[sD _ dr nR cR mR]
     have c2:Lk m st.like aZ seen ((R.takeWhile (fL lw h)++R.dropWhile (fL lw h),L.dropWhile (fL lw h))::ps):=by
      rw[JU]
      exact c1.swap
     refine⟨st.like,aZ,rfl,c2.drop.swap,fun sd aM=>k3 sd (b1 sd ?_)⟩
     have:=Sat.drop c2 dr aM.swap
     rw[JU] at this
     exact this.swap
end
end Lt
end
end Go.Proofs.YtdjmnpmdmjclhabGreat
