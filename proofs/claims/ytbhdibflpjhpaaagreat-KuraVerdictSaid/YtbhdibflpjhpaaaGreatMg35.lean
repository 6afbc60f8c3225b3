import Derived.Test.YtbhdibflpjhpaaaGreatMg20
namespace Go.Proofs.YtbhdibflpjhpaaaGreat
section
namespace Lt
def g (l:List Int) (x:Nat):Int:=l[x]?.getD 0
theorem nw {l:List Int} {x:Nat} (h:x<l.length):bF l (x:Int)=some (g l x):=by
 unfold bF g;rw[if_pos (by omega)];simp[h]
theorem nY {l:List Int} {x:Nat} {z:Int} (h:x<l.length):fE l (x:Int) z=some (l.set x z):=by
 unfold fE;rw[if_pos ⟨by omega,by omega⟩];simp
theorem adY {l:List Int} {x y:Nat} {z:Int} (h:x<l.length):g (l.set x z) y=if y=x then z else g l y:=by
 unfold g;rw[ab0];by_cases e:y=x
 .subst e;simp[h]
 .rw[if_neg (fun k=>e k.symm),if_neg e]
theorem bG {l:List Int} {x y:Nat} {z:Int} (h:y≠x):g (l.set x z) y=g l y:=by
 unfold g;rw[ab0,if_neg (fun k=>h k.symm)]
theorem fZ {l:List Int} {x:Nat} {z:Int} (h:x<l.length):g (l.set x z) x=z:=by
 rw[adY h,if_pos rfl]
theorem jv:∀{l:List Nat} {m:Nat},l.Nodup->(∀x∈l,x<m)->l.length<=m:=by
 intro l m;have key:∀(l1 l2:List Nat),l1.Nodup->(∀x∈l1,x∈l2)->l1.length<=l2.length:=by
  intro l1
  induction l1 with
  |nil=>intro _ _ _;exact ab6 _
  |cons a l1 ih=>
   intro l2 hn hs;have ha:a∈l2:=hs a aai;obtain⟨hna,hn'⟩:=acr.1 hn;have h1:=ih (l2.erase a) hn' (fun x hx=>(aed (fun e=>hna (by rw[<-e];exact hx))).2 (hs x (aak _ hx)));have h2:=aej ha;have h3:=List.length_pos_of_mem ha;rw[abS];omega
 intro hn hm;have:=key l (List.range m) hn (fun x hx=>ab1.2 (hm x hx));rw[ae8] at this;exact this
def dR:List Nat->Iv
 |[]=>aP
 |x::l=>((x:Int),(((x::l).getLastD 0:Nat):Int))
abbrev cO:=List Nat×List Nat
def cU (p:cO):Pr:=(dR p.1,dR p.2)
theorem dK {l:List Nat}:dR l=aP↔l=[]:=by
 cases l with
 |nil=>simp[dR]
 |cons x l=>simp[dR,aP]
theorem yP {p:cO}:cU p=dN↔p.1=[]/\p.2=[]:=by
 unfold cU dN;constructor
 .intro h
  exact⟨dK.1 (congrArg Prod.fst h),dK.1 (congrArg Prod.snd h)⟩
 .rintro⟨h1,h2⟩
  rw[h1,h2];rfl
theorem pP {l:List Nat} (h:l≠[]):dR l=(((l.headD 0:Nat):Int),((l.getLastD 0:Nat):Int)):=by
 cases l with
 |nil=>exact absurd rfl h
 |cons x l=>rfl
theorem bE {l:List Nat} (h:l≠[]):l.getLastD 0∈l:=by
 cases l with
 |nil=>exact absurd rfl h
 |cons x l=>
  rw[aeU];cases l with
  |nil=>simp
  |cons y l=>
   have:=List.getLast_mem (l:=y::l) (by simp);rw[aeU];rw[List.getLast_eq_getLastD] at this;exact aak _ this
theorem head_mem {l:List Nat} (h:l≠[]):l.headD 0∈l:=by
 cases l with
 |nil=>exact absurd rfl h
 |cons x l=>exact aai
def eH (like turn:List Int):List Nat->Prop
 |[]=>True
 |[x]=>g like x= -1/\g turn x=1
 |x::y::l=>(g like x=(y:Int)/\g turn x=1)/\eH like turn (y::l)
theorem eH.tail {like turn:List Int} {x:Nat}:∀{l:List Nat},eH like turn (x::l)->eH like turn l
 |[],_=>trivial
 |_::_,h=>h.2
theorem eH.gR {like turn:List Int}:∀{l:List Nat},eH like turn l->∀x∈l,g turn x=1
 |[],_,x,hx=>by simp at hx
 |[y],h,x,hx=>by rw[aan.1 hx];exact h.2
 |y::z::l,h,x,hx=>by
  rcases aaj.1 hx with rfl|hx
  .exact h.1.2
  .exact eH.gR h.2 x hx
theorem eH.last {like turn:List Int}:∀{l:List Nat},eH like turn l->l≠[]->g like (l.getLastD 0)= -1
 |[],_,h=>absurd rfl h
 |[x],h,_=>h.1
 |x::y::l,h,_=>by
  have:=eH.last h.2 (by simp);rw[aeU] at this ⊢;rw[aeU];exact this
theorem eH.other {like turn aC bz:List Int}:∀{l:List Nat},eH like turn l->(∀x∈l,g aC x=g like x/\g bz x=g turn x)->eH aC bz l
 |[],_,_=>trivial
 |[x],h,k=>by
  obtain⟨k1,k2⟩:=k x (by simp);exact⟨k1.trans h.1,k2.trans h.2⟩
 |x::y::l,h,k=>by
  obtain⟨k1,k2⟩:=k x (by simp);exact⟨⟨k1.trans h.1.1,k2.trans h.1.2⟩,eH.other h.2 fun z hz=>k z (aak _ hz)⟩
theorem eH.append {like turn:List Int} {b:Nat} {M:List Nat}:∀{l:List Nat},l≠[]->l.Nodup->(∀x∈l,x∉b::M)->l.getLastD 0<like.length->eH like turn l->eH like turn (b::M)->eH (like.set (l.getLastD 0) (b:Int)) turn (l++(b::M))
 |[],h,_,_,_,_,_=>absurd rfl h
 |[x],_,_,hd,hlt,h1,h2=>by
  refine⟨⟨fZ hlt,h1.2⟩,h2.other fun z hz=>⟨bG fun e=>hd x (by simp) (by rw[e] at hz;exact hz),rfl⟩⟩
 |x::y::l,_,hn,hd,hlt,h1,h2=>by
  have e1:(x::y::l).getLastD 0=(y::l).getLastD 0:=by simp
  rw[e1] at hlt ⊢;have hn2:=acr.1 hn;refine⟨⟨?_,h1.1.2⟩,eH.append (by simp) hn2.2 (fun z hz=>hd z (aak _ hz)) hlt h1.2 h2⟩;rw[bG]
  .exact h1.1.1
  .rintro rfl
   exact hn2.1 (bE (by simp))
def cF (s:List cO):List Nat:=s.flatMap fun p=>p.1++p.2
theorem aB (p:cO) (s:List cO):cF (p::s)=p.1++(p.2++cF s):=by simp[cF]
theorem bB {s:List cO} {x:Nat}:x∈cF s↔∃p∈s,x∈p.1\/x∈p.2:=by
 unfold cF;rw[adz];simp only[aam]
inductive jV (like:List Int):Nat->Nat->Nat->Prop
 |root {x:Nat}:g like x= -1->jV like 0 x x
 |step {d x y r:Nat}:g like x=(y:Int)->jV like d y r->jV like (d+1) x r
structure Lk (m:Nat) (like turn:List Int) (seen:Nat->Prop) (stk:List cO):Prop where
 ll:like.length=m
 lt:turn.length=m
 ch:∀p∈stk,eH like turn p.1/\eH like turn p.2
 nd:(cF stk).Nodup
 sn:∀x∈cF stk,seen x
 sm:∀x,seen x->x<m
 new:∀x,x<m->¬seen x->g like x= -1/\g turn x=1
 tn:∀x,x<m->g turn x=1\/g turn x= -1
 res:∀x,seen x->∃d r,jV like d x r
 cl:∀x:Nat,seen x->g like x= -1\/∃y:Nat,g like x=(y:Int)/\seen y
structure Sat (like turn:List Int) (seen:Nat->Prop) (stk:List cO) (sd:Nat->Bool):Prop where
 lk:∀x y:Nat,seen x->g like x=(y:Int)->sd x=(sd y ^^ decide (g turn x= -1))
 rt:∀x,seen x->g like x= -1->x∉cF stk->sd x=decide (g turn x=1)
 un:∀p∈stk,∀l∈p.1,∀r∈p.2,sd l≠sd r
section
variable {m:Nat} {like turn:List Int} {seen:Nat->Prop} {stk:List cO} {sd:Nat->Bool}
theorem Sat.one (h:Sat like turn seen stk sd):∀{l:List Nat},eH like turn l->(∀x∈l,seen x)->∀x∈l,sd x=sd (l.getLastD 0)
 |[],_,_,x,hx=>by simp at hx
 |[y],_,_,x,hx=>by rw[aan.1 hx];rfl
 |y::z::l,hc,hs,x,hx=>by
  have e1:(y::z::l).getLastD 0=(z::l).getLastD 0:=by simp
  have ih:=fun x hx=>Sat.one h hc.2 (fun x hx=>hs x (aak _ hx)) x hx
  rw[e1];rcases aaj.1 hx with rfl|hx
  .rw[h.lk x z (hs x aai) hc.1.1,hc.1.2]
   rw[ih z aai];simp
  .exact ih x hx
theorem Sat.alike (h:Sat like turn seen stk sd) {l:List Nat} (hc:eH like turn l) (hs:∀x∈l,seen x) {x y:Nat} (hx:x∈l) (hy:y∈l):sd x=sd y:=
 (h.one hc hs x hx).trans (h.one hc hs y hy).symm
theorem Lk.nU (h:Lk m like turn seen stk) {p:cO} (hp:p∈stk):(∀x∈p.1,seen x)/\∀x∈p.2,seen x:=
 ⟨fun x hx=>h.sn x (bB.2 ⟨p,hp,.inl hx⟩),fun x hx=>h.sn x (bB.2 ⟨p,hp,.inr hx⟩)⟩
theorem jV.set {d x r a b:Nat} (ha:a<like.length) (tQ:g like a= -1) (h:jV like d x r):(r≠a->jV (like.set a (b:Int)) d x r)/\(r=a->∀{d' r':Nat},jV (like.set a (b:Int)) d' b r'->∃d,jV (like.set a (b:Int)) d x r'):=by
 induction h with
 | @root x hx=>
   refine⟨fun hne=> .root (by rw[bG hne];exact hx),fun he d' r' hr=> ?_⟩;subst he;exact⟨_,.step (fZ ha) hr⟩
 | @step d x y r hx hr ih=>
   have mK:x≠a:=fun e=>by rw[e,tQ] at hx;omega
   refine⟨fun hne=> .step (by rw[bG mK];exact hx) (ih.1 hne),fun he d' r' hr'=> ?_⟩;obtain⟨d2,h2⟩:=ih.2 he hr';exact⟨_,.step (by rw[bG mK];exact hx) h2⟩
theorem eH.res:∀{l:List Nat},eH like turn l->∀x∈l,∃d,jV like d x (l.getLastD 0)
 |[],_,x,hx=>by simp at hx
 |[y],h,x,hx=>by
  rw[aan.1 hx];exact⟨0,.root h.1⟩
 |y::z::l,h,x,hx=>by
  have e1:(y::z::l).getLastD 0=(z::l).getLastD 0:=by simp
  rw[e1];rcases aaj.1 hx with rfl|hx
  .obtain⟨d,hd⟩:=eH.res h.2 z aai
   exact⟨_,.step h.1.1 hd⟩
  .exact eH.res h.2 x hx
theorem zJ {a b r d0:Nat} (ha:a<like.length) (tQ:g like a= -1) (hb:jV like d0 b r) (hr:r≠a) (h:∀x,seen x->∃d r,jV like d x r):∀x,seen x->∃d r,jV (like.set a (b:Int)) d x r:=fun x hx=>by
 obtain⟨d,r',h'⟩:=h x hx;by_cases e:r'=a
 .obtain⟨d2,h2⟩:=(h'.set (b:=b) ha tQ).2 e ((hb.set (b:=b) ha tQ).1 hr)
  exact⟨d2,r,h2⟩
 .exact⟨d,r',(h'.set ha tQ).1 e⟩
theorem Ex {a b:Nat} (ha:a<like.length) (hb:seen b) (h:∀x:Nat,seen x->g like x= -1\/∃y:Nat,g like x=(y:Int)/\seen y):∀x:Nat,seen x->g (like.set a (b:Int)) x= -1\/∃y:Nat,g (like.set a (b:Int)) x=(y:Int)/\seen y:=fun x hx=>by
 by_cases e:x=a
 .subst e
  exact .inr ⟨b,fZ ha,hb⟩
 .rw[bG e]
  exact h x hx
theorem Lk.push (h:Lk m like turn seen stk) {e:Nat} (he:e<m) (hs:¬seen e):Lk m like turn (fun x=>seen x\/x=e) (([],[e])::stk):=by
 have hn:=h.new e he hs;refine⟨h.ll,h.lt,fun p hp=> ?_,?_,fun x hx=> ?_,fun x hx=> ?_,fun x hx hx2=>h.new x hx fun k=>hx2 (.inl k),h.tn,fun x hx=> ?_,fun x hx=> ?_⟩
 .rcases aaj.1 hp with rfl|hp
  .exact⟨trivial,hn⟩
  .exact h.ch p hp
 .rw[aB]
  exact acr.2 ⟨fun k=>hs (h.sn e k),h.nd⟩
 .rw[aB] at hx
  rcases aaj.1 hx with rfl|hx
  .exact .inr rfl
  .exact .inl (h.sn x hx)
 .rcases hx with hx|rfl
  .exact h.sm x hx
  .exact he
 .rcases hx with hx|rfl
  .exact h.res x hx
  .exact⟨0,x,.root hn.1⟩
 .rcases hx with hx|rfl
  .rcases h.cl x hx with k|⟨y,k1,k2⟩
   .exact .inl k
   .exact .inr ⟨y,k1,.inl k2⟩
  .exact .inl hn.1
theorem Sat.push {e:Nat} (h:Sat like turn (fun x=>seen x\/x=e) (([],[e])::stk) sd) (hs:¬seen e):Sat like turn seen stk sd:=
 ⟨fun x y hx hl=>h.lk x y (.inl hx) hl,fun x hx hl hn=>h.rt x (.inl hx) hl (by
   rw[aB];intro k;rcases aaj.1 k with rfl|k
   .exact hs hx
   .exact hn k),fun p hp=>h.un p (aak _ hp)⟩
theorem Lk.hold (h:Lk m like turn seen stk):Lk m like turn seen (([],[])::stk):=
 ⟨h.ll,h.lt,fun p hp=>by
   rcases aaj.1 hp with rfl|hp
   .exact⟨trivial,trivial⟩
   .exact h.ch p hp,h.nd,h.sn,h.sm,h.new,h.tn,h.res,h.cl⟩
theorem Lk.xQ (h:Lk m like turn seen (([],[])::stk)):Lk m like turn seen stk:=
 ⟨h.ll,h.lt,fun p hp=>h.ch p (aak _ hp),h.nd,h.sn,h.sm,h.new,h.tn,h.res,h.cl⟩
theorem Sat.hold (h:Sat like turn seen stk sd):Sat like turn seen (([],[])::stk) sd:=
 ⟨h.lk,h.rt,fun p hp=>by
   rcases aaj.1 hp with rfl|hp
   .exact fun l hl=>by simp at hl
   .exact h.un p hp⟩
theorem Sat.xQ (h:Sat like turn seen (([],[])::stk) sd):Sat like turn seen stk sd:=
 ⟨h.lk,h.rt,fun p hp=>h.un p (aak _ hp)⟩
theorem NA {A B:List Nat} {L:List Nat} {x:Nat}:x∈A++(B++L)↔x∈B++(A++L):=by
 simp only[aam];constructor<;>rintro(h|h|h)<;>simp[h]
theorem Ij {A B L:List Nat} (h:(A++(B++L)).Nodup):(B++(A++L)).Nodup:=by
 simp only[acy,aam] at h ⊢;obtain⟨h1,⟨h2,h3,h4⟩,h5⟩:=h;exact⟨h2,⟨h1,h3,fun a ha b hb=>h5 a ha b (.inr hb)⟩,fun a ha b hb=>hb.elim (fun k=>(h5 b k a (.inl ha)).symm) (fun k=>h4 a ha b k)⟩
theorem Lk.tF {p:cO} {A B:List Nat} (h:Lk m like turn seen (p::(A,B)::stk)):Lk m like turn seen (p::(B,A)::stk):=by
 refine⟨h.ll,h.lt,fun q hq=> ?_,?_,fun x hx=>h.sn x ?_,h.sm,h.new,h.tn,h.res,h.cl⟩
 .rcases aaj.1 hq with rfl|hq
  .exact h.ch q aai
  .rcases aaj.1 hq with rfl|hq
   .exact(h.ch (A,B) (by simp)).symm
   .exact h.ch q (by simp[hq])
 .have:=h.nd
  rw[aB,aB] at this ⊢;rw[<-ace] at this ⊢;rw[acy] at this ⊢;exact⟨this.1,Ij this.2.1,fun a ha b hb=>this.2.2 a ha b (NA.1 hb)⟩
 .rw[aB,aB] at hx ⊢
  simp only[aam] at hx ⊢;rcases hx with k|k|k|k|k<;>simp[k]
theorem Sat.tF {p:cO} {A B:List Nat} (h:Sat like turn seen (p::(A,B)::stk) sd):Sat like turn seen (p::(B,A)::stk) sd:=by
 refine⟨h.lk,fun x hx hl hn=>h.rt x hx hl fun k=>hn ?_,fun q hq=> ?_⟩
 .rw[aB,aB] at k ⊢
  simp only[aam] at k ⊢;rcases k with k|k|k|k|k<;>simp[k]
 .rcases aaj.1 hq with rfl|hq
  .exact h.un q aai
  .rcases aaj.1 hq with rfl|hq
   .exact fun l hl r hr=>(h.un (A,B) (by simp) r hr l hl).symm
   .exact h.un q (by simp[hq])
theorem Lk.swap {A B:List Nat} (h:Lk m like turn seen ((A,B)::stk)):Lk m like turn seen ((B,A)::stk):=h.hold.tF.xQ
theorem Sat.swap {A B:List Nat} (h:Sat like turn seen ((A,B)::stk) sd):Sat like turn seen ((B,A)::stk) sd:=h.hold.tF.xQ
def jU (like:List Int) (A L:List Nat):List Int:=if A=[]\/L=[] then like else like.set (A.getLastD 0) ((L.headD 0:Nat):Int)
theorem yq (A L:List Nat):(jU like A L).length=like.length:=by
 unfold jU
 split
 .rfl
 .exact acJ
theorem rL {A L:List Nat} {x:Nat} (h:x∉A):g (jU like A L) x=g like x:=by
 unfold jU
 split
 .rfl
 .rename_i hne
  exact bG fun e=>h (by rw[e];exact bE fun k=>hne (.inl k))
theorem join_eq {A L:List Nat} (hA:∀x∈A,x<like.length):join like (dR A) (dR L)=some (jU like A L,dR (A++L)):=by
 unfold join jU;by_cases h1:A=[]
 .subst h1
  rw[if_pos (dK.2 rfl),if_pos (.inl rfl)];rfl
 .rw[if_neg (fun k=>h1 (dK.1 k))]
  by_cases h2:L=[]
  .subst h2
   rw[if_pos (dK.2 rfl),if_pos (.inr rfl),acH]
  .rw[if_neg (fun k=>h2 (dK.1 k)),if_neg (by simp[h1,h2]),pP h1,pP h2,pP (by simp[h1])]
   dsimp only;rw[nY (hA _ (bE h1))];dsimp only
   congr 3
   .cases A with
    |nil=>exact absurd rfl h1
    |cons a A=>rfl
   .cases L with
    |nil=>exact absurd rfl h2
    |cons b L=>
     rw[aee,aee];simp[List.getLast?_cons]
theorem Ks {A L:List Nat} (hn:A.Nodup) (hd:∀x∈A,x∉L) (hA:∀x∈A,x<like.length) (h1:eH like turn A) (h2:eH like turn L):eH (jU like A L) turn (A++L):=by
 unfold jU;by_cases e1:A=[]
 .rw[if_pos (.inl e1),e1]
  exact h2
 .by_cases e2:L=[]
  .rw[if_pos (.inr e2),e2,acH]
   exact h1
  .rw[if_neg (by simp[e1,e2])]
   cases L with
   |nil=>exact absurd rfl e2
   |cons b L=>exact eH.append e1 hn hd (hA _ (bE e1)) h1 h2
theorem Kr {A L:List Nat} (hd:∀x∈A,x∉L) (hA:∀x∈A,x<like.length) (hL:∀x∈L,seen x) (h1:eH like turn A) (h2:eH like turn L) (hr:∀x,seen x->∃d r,jV like d x r) (hc:∀x:Nat,seen x->g like x= -1\/∃y:Nat,g like x=(y:Int)/\seen y):
 (∀x,seen x->∃d r,jV (jU like A L) d x r)/\∀x:Nat,seen x->g (jU like A L) x= -1\/∃y:Nat,g (jU like A L) x=(y:Int)/\seen y:=by
 unfold jU;by_cases e1:A=[]
 .rw[if_pos (.inl e1)]
  exact⟨hr,hc⟩
 .by_cases e2:L=[]
  .rw[if_pos (.inr e2)]
   exact⟨hr,hc⟩
  .rw[if_neg (by simp[e1,e2])]
   obtain⟨d,hd'⟩:=h2.res _ (head_mem e2);exact⟨zJ (hA _ (bE e1)) (h1.last e1) hd' (fun e=>hd _ (bE e1) (by rw[<-e];exact bE e2)) hr,Ex (hA _ (bE e1)) (hL _ (head_mem e2)) hc⟩
theorem Qb {A L:List Nat} (h1:eH like turn A) {x y:Nat} (hx:g like x=(y:Int)):g (jU like A L) x=(y:Int):=by
 unfold jU
 split
 .exact hx
 .rename_i hne
  rw[bG]
  .exact hx
  .rintro rfl
   rw[h1.last fun k=>hne (.inl k)] at hx;omega
theorem Cc {A L:List Nat} {x:Nat} (hx:g like x= -1) (hn:x∉A):g (jU like A L) x= -1:=(rL hn).trans hx
theorem Lk.merge {A B L R:List Nat} (h:Lk m like turn seen ((A,B)::(L,R)::stk)):Lk m (jU (jU like A L) B R) turn seen ((A++L,B++R)::stk):=by
 have hnd:=h.nd;rw[aB,aB] at hnd;simp only[acy,aam] at hnd;obtain⟨nA,⟨nB,⟨nL,⟨nR,nS,dRS⟩,dL⟩,dB⟩,dA⟩:=hnd;obtain⟨sA,sB⟩:=h.nU (p:=(A,B)) (by simp);obtain⟨sL,sR⟩:=h.nU (p:=(L,R)) (by simp);obtain⟨cA,cB⟩:=h.ch (A,B) (by simp);obtain⟨cL,cR⟩:=h.ch (L,R) (by simp);have mA:∀x∈A,x<like.length:=fun x hx=>by rw[h.ll];exact h.sm x (sA x hx)
 have mB:∀x∈B,x<(jU like A L).length:=fun x hx=>by rw[yq,h.ll];exact h.sm x (sB x hx)
 have o1:∀{l:List Nat},eH like turn l->(∀x∈l,x∉A)->eH (jU like A L) turn l:=fun hc hd=>hc.other fun x hx=>⟨rL (hd x hx),rfl⟩
 have o2:∀{l:List Nat},eH (jU like A L) turn l->(∀x∈l,x∉B)->eH (jU (jU like A L) B R) turn l:=fun hc hd=>hc.other fun x hx=>⟨rL (hd x hx),rfl⟩
 have ZC:eH (jU like A L) turn B:=o1 cB fun x hx k=>dA x k x (.inl hx) rfl
 have cR1:eH (jU like A L) turn R:=o1 cR fun x hx k=>dA x k x (.inr (.inr (.inl hx))) rfl
 have r1:=Kr (fun x hx k=>dA x hx x (.inr (.inl k)) rfl) mA sL cA cL h.res h.cl;have r2:=Kr (fun x hx k=>dB x hx x (.inr (.inl k)) rfl) mB sR ZC cR1 r1.1 r1.2;refine⟨by rw[yq,yq];exact h.ll,h.lt,fun q hq=> ?_,?_,fun x hx=>h.sn x ?_,h.sm,fun x hx hs=> ?_,h.tn,r2.1,r2.2⟩
 .rcases aaj.1 hq with rfl|hq
  .refine⟨o2 (Ks nA (fun x hx k=>dA x hx x (.inr (.inl k)) rfl) mA cA cL) fun x hx k=> ?_,Ks nB (fun x hx k=>dB x hx x (.inr (.inl k)) rfl) mB ZC cR1⟩
   rcases aam.1 hx with hx|hx
   .exact dA x hx x (.inl k) rfl
   .exact dB x k x (.inl hx) rfl
  .have hc:=h.ch q (by simp[hq])
   have hin:∀x,x∈q.1\/x∈q.2->x∈cF stk:=fun x hx=>bB.2 ⟨q,hq,hx⟩
   have f1:∀x,x∈cF stk->x∉A:=fun x hx k=>dA x k x (.inr (.inr (.inr hx))) rfl
   have f2:∀x,x∈cF stk->x∉B:=fun x hx k=>dB x k x (.inr (.inr hx)) rfl
   exact⟨o2 (o1 hc.1 fun x hx=>f1 x (hin x (.inl hx))) fun x hx=>f2 x (hin x (.inl hx)),o2 (o1 hc.2 fun x hx=>f1 x (hin x (.inr hx))) fun x hx=>f2 x (hin x (.inr hx))⟩
 .rw[aB]
  simp only[acy,aam];refine⟨⟨nA,nL,fun a ha b hb=>dA a ha b (.inr (.inl hb))⟩,⟨⟨nB,nR,fun a ha b hb=>dB a ha b (.inr (.inl hb))⟩,nS,fun a ha b hb=> ?_⟩,fun a ha b hb=> ?_⟩
  .rcases ha with ha|ha
   .exact dB a ha b (.inr (.inr hb))
   .exact dRS a ha b hb
  .rcases ha with ha|ha<;>rcases hb with (hb|hb)|hb
   .exact dA a ha b (.inl hb)
   .exact dA a ha b (.inr (.inr (.inl hb)))
   .exact dA a ha b (.inr (.inr (.inr hb)))
   .exact(dB b hb a (.inl ha)).symm
   .exact dL a ha b (.inl hb)
   .exact dL a ha b (.inr hb)
 .rw[aB] at hx
  rw[aB,aB];simp only[aam] at hx ⊢;rcases hx with (k|k)|(k|k)|k<;>simp[k]
 .have:=h.new x hx hs
  exact⟨Cc (Cc this.1 fun k=>hs (sA x k)) fun k=>hs (sB x k),this.2⟩
theorem Sat.merge {A B L R:List Nat} (h0:Lk m like turn seen ((A,B)::(L,R)::stk)) (h:Sat (jU (jU like A L) B R) turn seen ((A++L,B++R)::stk) sd):Sat like turn seen ((A,B)::(L,R)::stk) sd:=by
 have hnd:=h0.nd;rw[aB,aB] at hnd;simp only[acy,aam] at hnd;obtain⟨nA,⟨nB,⟨nL,⟨nR,nS,dRS⟩,dL⟩,dB⟩,dA⟩:=hnd;obtain⟨cA,cB⟩:=h0.ch (A,B) (by simp);have ZC:eH (jU like A L) turn B:=cB.other fun x hx=>⟨rL fun k=>dA x k x (.inl hx) rfl,rfl⟩
 refine⟨fun x y hx hl=>h.lk x y hx (Qb ZC (Qb cA hl)),fun x hx hl hn=> ?_,fun q hq=> ?_⟩
 .rw[aB,aB] at hn
  simp only[aam,not_or] at hn;obtain⟨k1,k2,k3,k4,k5⟩:=hn;refine h.rt x hx (Cc (Cc hl k1) k2) ?_;rw[aB];simp only[aam,not_or];exact⟨⟨k1,k3⟩,⟨k2,k4⟩,k5⟩
 .have hu:=h.un (A++L,B++R) (by simp)
  rcases aaj.1 hq with rfl|hq
  .exact fun l hl r hr=>hu l (aci _ hl) r (aci _ hr)
  .rcases aaj.1 hq with rfl|hq
   .exact fun l hl r hr=>hu l (acd _ hl) r (acd _ hr)
   .exact h.un q (by simp[hq])
end
end Lt
end
section
namespace Lt
section
variable {m:Nat} {like turn:List Int} {seen:Nat->Prop} {stk:List cO} {sd:Nat->Bool}
theorem yg {P:Nat->Prop} (hlk:∀x y:Nat,P x->g like x=(y:Int)->sd x=(sd y ^^ decide (g turn x= -1))):∀{l:List Nat},eH like turn l->(∀x∈l,P x)->∀x∈l,sd x=sd (l.getLastD 0)
 |[],_,_,x,hx=>by simp at hx
 |[y],_,_,x,hx=>by rw[aan.1 hx];rfl
 |y::z::l,hc,hs,x,hx=>by
  have e1:(y::z::l).getLastD 0=(z::l).getLastD 0:=by simp
  have ih:=fun x hx=>yg hlk hc.2 (fun x hx=>hs x (aak _ hx)) x hx
  rw[e1];rcases aaj.1 hx with rfl|hx
  .rw[hlk x z (hs x aai) hc.1.1,hc.1.2,ih z aai]
   simp
  .exact ih x hx
theorem Lk.align {p:cO} {X:List Nat} {b:Nat} (h:Lk m like turn seen (p::([],X)::stk)) (hX:X≠[]) (hb:b∈cF stk):Lk m (like.set (X.getLastD 0) (b:Int)) turn seen (p::stk):=by
 have hnd:=h.nd;rw[aB,aB] at hnd;simp only[acs,acy,aam] at hnd;obtain⟨n1,⟨n2,⟨nX,nS,dX⟩,d2⟩,d1⟩:=hnd;obtain⟨_,sX⟩:=h.nU (p:=([],X)) (by simp);obtain⟨_,cX⟩:=h.ch ([],X) (by simp);have cq:=bE hX;have hlt:X.getLastD 0<like.length:=by rw[h.ll];exact h.sm _ (sX _ cq)
 have sS:∀x∈cF stk,seen x:=fun x hx=>h.sn x (by rw[aB,aB];simp[hx])
 obtain⟨q,hq,hbq⟩:=bB.1 hb;have hr:∃d r,jV like d b r/\r∈cF stk:=by
  obtain⟨c1,c2⟩:=h.ch q (by simp[hq]);rcases hbq with k|k
  .obtain⟨d,hd⟩:=c1.res b k
   exact⟨d,_,hd,bB.2 ⟨q,hq,.inl (bE (fun e=>by rw[e] at k;simp at k))⟩⟩
  .obtain⟨d,hd⟩:=c2.res b k
   exact⟨d,_,hd,bB.2 ⟨q,hq,.inr (bE (fun e=>by rw[e] at k;simp at k))⟩⟩
 obtain⟨d,r,hres,hrm⟩:=hr;refine⟨by rw[acJ];exact h.ll,h.lt,fun q hq=> ?_,?_,fun x hx=>h.sn x ?_,h.sm,fun x hx hs=> ?_,h.tn,zJ hlt (cX.last hX) hres (fun e=>dX _ cq r hrm e.symm) h.res,Ex hlt (sS b hb) h.cl⟩
 .have hc:eH like turn q.1/\eH like turn q.2:=h.ch q (by rcases aaj.1 hq with rfl|hq<;>simp_all)
  have hne:∀x,x∈q.1\/x∈q.2->x≠X.getLastD 0:=fun x hx e=>by
   rcases aaj.1 hq with rfl|hq
   .rcases hx with hx|hx
    .exact d1 x hx _ (.inr (.inl cq)) e
    .exact d2 x hx _ (.inl cq) e
   .exact dX _ cq x (bB.2 ⟨q,hq,hx⟩) e.symm
  exact⟨hc.1.other fun x hx=>⟨bG (hne x (.inl hx)),rfl⟩,hc.2.other fun x hx=>⟨bG (hne x (.inr hx)),rfl⟩⟩
 .rw[aB]
  simp only[acy,aam];exact⟨n1,⟨n2,nS,fun a ha b hb=>d2 a ha b (.inr hb)⟩,fun a ha b hb=>d1 a ha b (hb.elim .inl fun k=> .inr (.inr k))⟩
 .rw[aB] at hx
  rw[aB,aB];simp only[aam,acs] at hx ⊢;rcases hx with k|k|k<;>simp[k]
 .have:=h.new x hx hs
  rw[bG (fun e=>hs (by rw[e];exact sX _ cq))];exact this
theorem Sat.align {p:cO} {X:List Nat} {b:Nat} (h0:Lk m like turn seen (p::([],X)::stk)) (hX:X≠[]) (h:Sat (like.set (X.getLastD 0) (b:Int)) turn seen (p::stk) sd):Sat like turn seen (p::([],X)::stk) sd/\∀x∈X,sd x=sd b:=by
 obtain⟨_,sX⟩:=h0.nU (p:=([],X)) (by simp);obtain⟨_,cX⟩:=h0.ch ([],X) (by simp);have cq:=bE hX;have hlt:X.getLastD 0<like.length:=by rw[h0.ll];exact h0.sm _ (sX _ cq)
 have hS:Sat like turn seen (p::([],X)::stk) sd:=by
  refine⟨fun x y hx hl=>h.lk x y hx ?_,fun x hx hl hn=>h.rt x hx ?_ ?_,fun q hq=> ?_⟩
  .rw[bG]
   .exact hl
   .rintro rfl
    rw[cX.last hX] at hl;omega
  .rw[bG]
   .exact hl
   .rintro rfl
    exact hn (by rw[aB,aB];simp only[aam];exact .inr (.inr (.inr (.inl cq))))
  .intro k
   refine hn ?_;rw[aB] at k;rw[aB,aB];simp only[aam] at k ⊢;rcases k with k|k|k<;>simp[k]
  .rcases aaj.1 hq with rfl|hq
   .exact h.un q (by simp)
   .rcases aaj.1 hq with rfl|hq
    .exact fun l hl=>by simp at hl
    .exact h.un q (by simp[hq])
 refine⟨hS,fun x hx=> ?_⟩;rw[hS.one cX sX x hx,h.lk _ b (sX _ cq) (fZ hlt),cX.gR _ cq];simp
def zA (turn:List Int) (L:List Nat):List Int:=if L=[] then turn else turn.set (L.getLastD 0) (-1)
theorem TN (L:List Nat):(zA turn L).length=turn.length:=by
 unfold zA
 split
 .rfl
 .exact acJ
theorem nQ {L:List Nat} {x:Nat} (h:x∉L):g (zA turn L) x=g turn x:=by
 unfold zA
 split
 .rfl
 .rename_i hne
  exact bG fun e=>h (by rw[e];exact bE hne)
theorem CJ {L:List Nat} {x:Nat} (hl:∀x∈L,x<turn.length):g (zA turn L) x=g turn x\/(x=L.getLastD 0/\L≠[]/\g (zA turn L) x= -1):=by
 unfold zA
 split
 .exact .inl rfl
 .rename_i hne
  by_cases e:x=L.getLastD 0
  .exact .inr ⟨e,hne,by rw[e];exact fZ (hl _ (bE hne))⟩
  .exact .inl (bG e)
theorem Lk.pop {L R:List Nat} (h:Lk m like turn seen ((L,R)::stk)):Lk m like (zA turn L) seen stk:=by
 have hnd:=h.nd;rw[aB] at hnd;simp only[acy,aam] at hnd;obtain⟨n1,⟨n2,nS,d2⟩,d1⟩:=hnd;obtain⟨sL,sR⟩:=h.nU (p:=(L,R)) (by simp);have hml:∀x∈L,x<turn.length:=fun x hx=>by rw[h.lt];exact h.sm x (sL x hx)
 refine⟨h.ll,by rw[TN];exact h.lt,fun q hq=> ?_,nS,fun x hx=>h.sn x (by rw[aB];simp[hx]),h.sm,fun x hx hs=> ?_,fun x hx=> ?_,h.res,h.cl⟩
 .have hc:=h.ch q (by simp[hq])
  have hne:∀x,x∈q.1\/x∈q.2->x∉L:=fun x hx k=>d1 x k x (.inr (bB.2 ⟨q,hq,hx⟩)) rfl
  exact⟨hc.1.other fun x hx=>⟨rfl,nQ (hne x (.inl hx))⟩,hc.2.other fun x hx=>⟨rfl,nQ (hne x (.inr hx))⟩⟩
 .have:=h.new x hx hs
  exact⟨this.1,(nQ fun k=>hs (sL x k)).trans this.2⟩
 .rcases CJ (x:=x) hml with k|⟨_,_,k⟩
  .rw[k];exact h.tn x hx
  .exact .inr k
theorem Sat.pop {L R:List Nat} (h0:Lk m like turn seen ((L,R)::stk)) (h:Sat like (zA turn L) seen stk sd):Sat like turn seen ((L,R)::stk) sd:=by
 have hnd:=h0.nd;rw[aB] at hnd;simp only[acy,aam] at hnd;obtain⟨n1,⟨n2,nS,d2⟩,d1⟩:=hnd;obtain⟨sL,sR⟩:=h0.nU (p:=(L,R)) (by simp);obtain⟨cL,cR⟩:=h0.ch (L,R) (by simp);have hml:∀x∈L,x<turn.length:=fun x hx=>by rw[h0.lt];exact h0.sm x (sL x hx)
 have hlk:∀x y:Nat,seen x->g like x=(y:Int)->sd x=(sd y ^^ decide (g turn x= -1)):=fun x y hx hl=>by
  have:=h.lk x y hx hl;rcases CJ (x:=x) hml with k|⟨k1,k2,_⟩
  .rw[k] at this;exact this
  .rw[k1,cL.last k2] at hl
   omega
 refine⟨hlk,fun x hx hl hn=> ?_,fun q hq=> ?_⟩
 .rw[aB] at hn
  simp only[aam,not_or] at hn;rw[h.rt x hx hl hn.2.2,nQ hn.1]
 .rcases aaj.1 hq with rfl|hq
  .intro l hl r hr
   have eL:L≠[]:=fun e=>by simp[e] at hl
   have eR:R≠[]:=fun e=>by simp[e] at hr
   have l1:=bE eL;have r1:=bE eR;have k1:=yg hlk cL sL l hl;have k2:=yg hlk cR sR r hr;have k3:=h.rt _ (sL _ l1) (cL.last eL) (fun k=>d1 _ l1 _ (.inr k) rfl);have k4:=h.rt _ (sR _ r1) (cR.last eR) (fun k=>d2 _ r1 _ k rfl);rw[nQ (fun k=>d1 _ k _ (.inl r1) rfl),cR.gR _ r1] at k4;have k5:g (zA turn L) (L.getLastD 0)= -1:=by
    unfold zA;rw[if_neg eL];exact fZ (hml _ l1)
   rw[k5] at k3;rw[k1,k2,k3,k4];simp
  .exact h.un q hq
theorem eH.drop:∀{X1 X2:List Nat},eH like turn (X1++X2)->eH like turn X2
 |[],_,h=>h
 |_::_,_,h=>eH.drop h.tail
theorem vu {X1 X2:List Nat} (h:X2≠[]):(X1++X2).getLastD 0=X2.getLastD 0:=by
 cases X2 with
 |nil=>exact absurd rfl h
 |cons b L=>
  rw[aee,aee];simp[List.getLast?_cons]
theorem Lk.drop {X1 X2 Y:List Nat} (h:Lk m like turn seen ((X1++X2,Y)::stk)):Lk m like turn seen ((X2,Y)::stk):=by
 refine⟨h.ll,h.lt,fun q hq=> ?_,?_,fun x hx=>h.sn x ?_,h.sm,h.new,h.tn,h.res,h.cl⟩
 .rcases aaj.1 hq with rfl|hq
  .have:=h.ch (X1++X2,Y) (by simp)
   exact⟨this.1.drop,this.2⟩
  .exact h.ch q (by simp[hq])
 .have:=h.nd
  rw[aB,ace] at this;rw[aB];exact(acy.1 this).2.1
 .rw[aB] at hx ⊢
  simp only[aam] at hx ⊢;rcases hx with k|k|k<;>simp[k]
theorem Sat.drop {X1 X2 Y:List Nat} (h0:Lk m like turn seen ((X1++X2,Y)::stk)) (hX:X2≠[]) (h:Sat like turn seen ((X2,Y)::stk) sd):Sat like turn seen ((X1++X2,Y)::stk) sd:=by
 obtain⟨sX,sY⟩:=h0.nU (p:=(X1++X2,Y)) (by simp);obtain⟨cX,cY⟩:=h0.ch (X1++X2,Y) (by simp);refine⟨h.lk,fun x hx hl hn=>h.rt x hx hl fun k=>hn ?_,fun q hq=> ?_⟩
 .rw[aB] at k ⊢
  simp only[aam] at k ⊢;rcases k with k|k|k<;>simp[k]
 .rcases aaj.1 hq with rfl|hq
  .intro l hl r hr
   rw[h.one cX sX l hl,vu hX];exact h.un (X2,Y) (by simp) _ (bE hX) r hr
  .exact h.un q (by simp[hq])
theorem Lk.yN {X Y:List Nat} (h:Lk m like turn seen ((X,Y)::stk)) (hX:X≠[]) (hY:Y≠[]):Lk m (like.set (X.getLastD 0) ((Y.getLastD 0:Nat):Int)) (turn.set (X.getLastD 0) (-1)) seen (([],Y)::stk):=by
 have hnd:=h.nd;rw[aB] at hnd;simp only[acy,aam] at hnd;obtain⟨n1,⟨n2,nS,d2⟩,d1⟩:=hnd;obtain⟨sX,sY⟩:=h.nU (p:=(X,Y)) (by simp);obtain⟨cX,cY⟩:=h.ch (X,Y) (by simp);have cq:=bE hX;have hl2:=bE hY;have hlt:X.getLastD 0<like.length:=by rw[h.ll];exact h.sm _ (sX _ cq)
 have hlt2:X.getLastD 0<turn.length:=by rw[h.lt];exact h.sm _ (sX _ cq)
 have lB:∀{l:List Nat},eH like turn l->(∀x∈l,x≠X.getLastD 0)->eH (like.set (X.getLastD 0) ((Y.getLastD 0:Nat):Int)) (turn.set (X.getLastD 0) (-1)) l:=fun hc hd=>hc.other fun x hx=>⟨bG (hd x hx),bG (hd x hx)⟩
 refine⟨by rw[acJ];exact h.ll,by rw[acJ];exact h.lt,fun q hq=> ?_,?_,fun x hx=>h.sn x ?_,h.sm,fun x hx hs=> ?_,fun x hx=> ?_,zJ hlt (cX.last hX) (.root (cY.last hY)) (fun e=>d1 _ cq _ (.inl hl2) e.symm) h.res,Ex hlt (sY _ hl2) h.cl⟩
 .rcases aaj.1 hq with rfl|hq
  .exact⟨trivial,lB cY fun x hx e=>d1 _ cq x (.inl hx) e.symm⟩
  .have hc:=h.ch q (by simp[hq])
   have hne:∀x,x∈q.1\/x∈q.2->x≠X.getLastD 0:=fun x hx e=>d1 _ cq x (.inr (bB.2 ⟨q,hq,hx⟩)) e.symm
   exact⟨lB hc.1 fun x hx=>hne x (.inl hx),lB hc.2 fun x hx=>hne x (.inr hx)⟩
 .rw[aB]
  simp only[acs,acy];exact⟨n2,nS,d2⟩
 .rw[aB] at hx ⊢
  simp only[aam,acs] at hx ⊢;rcases hx with k|k<;>simp[k]
 .have:=h.new x hx hs
  have hne:x≠X.getLastD 0:=fun e=>hs (by rw[e];exact sX _ cq)
  rw[bG hne,bG hne];exact this
 .by_cases e:x=X.getLastD 0
  .rw[e,fZ hlt2];exact .inr rfl
  .rw[bG e];exact h.tn x hx
theorem Sat.yN {X Y:List Nat} (h0:Lk m like turn seen ((X,Y)::stk)) (hX:X≠[]) (hY:Y≠[]) (h:Sat (like.set (X.getLastD 0) ((Y.getLastD 0:Nat):Int)) (turn.set (X.getLastD 0) (-1)) seen (([],Y)::stk) sd):Sat like turn seen ((X,Y)::stk) sd:=by
 obtain⟨sX,sY⟩:=h0.nU (p:=(X,Y)) (by simp);obtain⟨cX,cY⟩:=h0.ch (X,Y) (by simp);have cq:=bE hX;have hl2:=bE hY;have hlt:X.getLastD 0<like.length:=by rw[h0.ll];exact h0.sm _ (sX _ cq)
 have hlt2:X.getLastD 0<turn.length:=by rw[h0.lt];exact h0.sm _ (sX _ cq)
 have hlk:∀x y:Nat,seen x->g like x=(y:Int)->sd x=(sd y ^^ decide (g turn x= -1)):=fun x y hx hl=>by
  have hne:x≠X.getLastD 0:=fun e=>by rw[e,cX.last hX] at hl;omega
  have:=h.lk x y hx (by rw[bG hne];exact hl);rw[bG hne] at this;exact this
 refine⟨hlk,fun x hx hl hn=> ?_,fun q hq=> ?_⟩
 .rw[aB] at hn
  simp only[aam,not_or] at hn;have hne:x≠X.getLastD 0:=fun e=>hn.1 (by rw[e];exact cq)
  rw[h.rt x hx (by rw[bG hne];exact hl) (by rw[aB];simp only[acs,aam,not_or];exact hn.2),bG hne]
 .rcases aaj.1 hq with rfl|hq
  .intro l hl r hr
   rw[yg hlk cX sX l hl,yg hlk cY sY r hr,h.lk _ _ (sX _ cq) (fZ hlt),fZ hlt2];simp
  .exact h.un q (by simp[hq])
end
end Lt
end
end Go.Proofs.YtbhdibflpjhpaaaGreat
