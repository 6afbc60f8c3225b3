import Derived.Test.YtbhdibflpjhpaaaGreatMg35
namespace Go.Proofs.YtbhdibflpjhpaaaGreat
section
namespace Lt
def BL:List Nat->Int
 |[]=> -1
 |x::_=>(x:Int)
theorem QA {l:List Nat}:BL l= -1↔l=[]:=by
 cases l with
 |nil=>simp[BL]
 |cons x l=>simp[BL]
theorem vH {l:List Nat} (h:l≠[]):dR l=(BL l,((l.getLastD 0:Nat):Int)):=by
 cases l with
 |nil=>exact absurd rfl h
 |cons x l=>rfl
def gM (lw:List Int) (h:Int) (x:Nat):Bool:=decide (g lw x=h)
def nh (lw:List Int) (l:List Nat):Prop:=List.Pairwise (fun x y=>g lw y<=g lw x) l
section
variable {m:Nat} {lw like turn:List Int} {seen:Nat->Prop} {stk:List cO} {sd:Nat->Bool} {h:Int}
theorem down_eq:∀(X:List Nat) (k:Nat),X.length<k->eH like turn X->(∀x∈X,x<lw.length/\x<like.length)->down lw like h k (BL X)=some (BL (X.dropWhile (gM lw h)))
 |X,0,hk,_,_=>absurd hk (Nat.not_lt_zero _)
 |[],k+1,_,_,_=>by
  unfold down;simp[BL]
 |x::X,k+1,hk,hc,hm=>by
  obtain⟨h1,h2⟩:=hm x aai;have ih:=down_eq X k (by simp at hk;omega) hc.tail (fun y hy=>hm y (aak _ hy));have jd:g like x=BL X:=by
   cases X with
   |nil=>exact hc.1
   |cons y X=>exact hc.1.1
  unfold down;have e0:¬BL (x::X)= -1:=fun e=>by simp[BL] at e
  rw[if_neg e0];show(match bF lw (x:Int) with|none=>none|some a=>if a=h then (match bF like (x:Int) with|none=>none|some y=>down lw like h k y) else some (x:Int))=_;rw[nw h1];dsimp only;by_cases e:g lw x=h
  .rw[if_pos e,nw h2]
   dsimp only;rw[jd,ih,adG (by simp[gM,e])]
  .rw[if_neg e,adx (by simp[gM,e])]
   rfl
theorem QI (o:Iv):cut lw h like turn (dR []) o=some (like,turn,dR []):=by
 unfold cut;rw[if_pos (dK.2 rfl)]
theorem vG {X:List Nat} (o:Iv) (hX:X.dropWhile (gM lw h)≠[]) (hn:X.Nodup) (hc:eH like turn X) (hm:∀x∈X,x<lw.length/\x<like.length):cut lw h like turn (dR X) o=some (like,turn,dR (X.dropWhile (gM lw h))):=by
 have xk:X≠[]:=fun e=>hX (by rw[e];rfl)
 have hlen:X.length<like.length+1:=Nat.lt_succ_of_le (jv hn fun x hx=>(hm x hx).2);have e1:(X.dropWhile (gM lw h)).getLastD 0=X.getLastD 0:=by
  have:=vu (X1:=X.takeWhile (gM lw h)) hX;rw[aeo] at this;exact this.symm
 unfold cut;rw[if_neg (fun k=>xk (dK.1 k)),vH xk];dsimp only;rw[down_eq X _ hlen hc hm];dsimp only;rw[if_neg (fun k=>hX (QA.1 k)),vH hX,e1]
theorem GI {X Y:List Nat} (xk:X≠[]) (hX:X.dropWhile (gM lw h)=[]) (hY:Y≠[]) (hn:X.Nodup) (hc:eH like turn X) (hm:∀x∈X,x<lw.length/\x<like.length) (hlt:like.length=turn.length):cut lw h like turn (dR X) (dR Y)=some (like.set (X.getLastD 0) ((Y.getLastD 0:Nat):Int),turn.set (X.getLastD 0) (-1),dR []):=by
 have hlen:X.length<like.length+1:=Nat.lt_succ_of_le (jv hn fun x hx=>(hm x hx).2);have hl:=(hm _ (bE xk)).2;unfold cut;rw[if_neg (fun k=>xk (dK.1 k)),vH xk,vH hY];dsimp only;rw[down_eq X _ hlen hc hm,hX];dsimp only;rw[if_pos (QA.2 rfl),nY hl,nY (by rw[<-hlt];exact hl)];rfl
def kg (lw:List Int) (h:Int) (p:cO):Bool:=p.1.all (gM lw h)&&p.2.all (gM lw h)
def dz (lw:List Int) (h:Int):List cO->List cO
 |[]=>[]
 |p::ps=>if kg lw h p=true then dz lw h ps else (p.1.dropWhile (gM lw h),p.2.dropWhile (gM lw h))::ps
theorem tN:∀{l:List Nat},nh lw l->∀x∈l,g lw (l.getLastD 0)<=g lw x
 |[],_,x,hx=>by simp at hx
 |[y],_,x,hx=>by rw[aan.1 hx];exact adA _
 |y::z::l,hs,x,hx=>by
  have e1:(y::z::l).getLastD 0=(z::l).getLastD 0:=by simp
  rw[e1];have h2:=acE.1 hs;rcases aaj.1 hx with rfl|hx
  .have:=h2.1 z aai
   have:=tN h2.2 z aai;omega
  .exact tN h2.2 x hx
theorem gH {l:List Nat}:l.all (gM lw h)=true↔∀x∈l,g lw x=h:=by
 simp[gM]
theorem NI {p:cO} (hne:¬(p.1=[]/\p.2=[])) (hm:∀x,x∈p.1\/x∈p.2->x<lw.length/\g lw x<=h) (h1:nh lw p.1) (h2:nh lw p.2):∃a,least lw (cU p)=some a/\(a=h↔kg lw h p=true):=by
 obtain⟨L,R⟩:=p;have side:∀{l:List Nat},l≠[]->nh lw l->(∀x∈l,x<lw.length/\g lw x<=h)->bF lw (dR l).2=some (g lw (l.getLastD 0))/\g lw (l.getLastD 0)<=h/\(g lw (l.getLastD 0)=h↔l.all (gM lw h)=true):=fun {l} hl hs hm=>by
  have k:=bE hl;rw[vH hl];refine⟨nw (hm _ k).1,(hm _ k).2,?_⟩;rw[gH];constructor
  .intro e x hx
   have:=tN hs x hx;have:=(hm x hx).2;omega
  .exact fun e=>e _ k
 unfold least cU kg;dsimp only at hne hm h1 h2 ⊢;by_cases e1:L=[]
 .have e2:R≠[]:=fun k=>hne ⟨e1,k⟩
  obtain⟨a1,_,a3⟩:=side e2 h2 fun x hx=>hm x (.inr hx)
  rw[if_pos (dK.2 e1),a1];refine⟨_,rfl,?_⟩;rw[a3,e1];simp
 .obtain⟨a1,a2,a3⟩:=side e1 h1 fun x hx=>hm x (.inl hx)
  rw[if_neg (fun k=>e1 (dK.1 k))];by_cases e2:R=[]
  .rw[if_pos (dK.2 e2),a1]
   refine⟨_,rfl,?_⟩;rw[a3,e2];simp
  .obtain⟨b1,b2,b3⟩:=side e2 h2 fun x hx=>hm x (.inr hx)
   rw[if_neg (fun k=>e2 (dK.1 k)),a1,b1];refine⟨_,rfl,?_⟩;rw[acv,<-a3,<-b3];omega
theorem FC (o9:lw.length=m):∀(stk:List cO) (turn:List Int),Lk m like turn seen stk->(∀p∈stk,¬(p.1=[]/\p.2=[]))->(∀x∈cF stk,g lw x<=h)->(∀p∈stk,nh lw p.1/\nh lw p.2)->
 ∃bz,jD lw h (stk.map cU) turn=some ((stk.dropWhile (kg lw h)).map cU,bz)/\Lk m like bz seen (stk.dropWhile (kg lw h))/\∀sd,Sat like bz seen (stk.dropWhile (kg lw h)) sd->Sat like turn seen stk sd
 |[],turn,hk,_,_,_=>⟨turn,rfl,hk,fun _ hs=>hs⟩
 |p::ps,turn,hk,hne,hle,hs=>by
  have hp:=hne p aai;have hin:∀x,x∈p.1\/x∈p.2->x∈cF (p::ps):=fun x hx=>bB.2 ⟨p,aai,hx⟩
  obtain⟨a,ha,hiff⟩:=NI (lw:=lw) (h:=h) hp (fun x hx=>⟨by rw[o9];exact hk.sm x (hk.sn x (hin x hx)),hle x (hin x hx)⟩) (hs p aai).1 (hs p aai).2;rw[ac6];unfold jD;rw[if_neg (fun k=>hp (yP.1 k)),ha];dsimp only;by_cases e:a=h
  .rw[if_pos e,adG (hiff.1 e)]
   obtain⟨bz,k1,k2,k3⟩:=FC o9 ps (zA turn p.1) hk.pop (fun q hq=>hne q (aak _ hq)) (fun x hx=>hle x (by rw[aB];simp[hx])) (fun q hq=>hs q (aak _ hq));refine⟨bz,?_,k2,fun sd aQ=>Sat.pop hk (k3 sd aQ)⟩;unfold zA at k1;by_cases e1:p.1=[]
   .rw[if_pos (show(cU p).1=aP from dK.2 e1)]
    rw[if_pos e1] at k1;exact k1
   .rw[if_neg (show ¬(cU p).1=aP from fun k=>e1 (dK.1 k))]
    rw[if_neg e1] at k1;have hl:=bE e1;have:fE turn (cU p).1.2 (-1)=some (turn.set (p.1.getLastD 0) (-1)):=by
     unfold cU;dsimp only;rw[vH e1];exact nY (by rw[hk.lt];exact hk.sm _ (hk.sn _ (hin _ (.inl hl))))
    rw[this];exact k1
  .rw[if_neg e,adx (fun k=>e (hiff.2 k))]
   exact⟨turn,rfl,hk,fun _ hs=>hs⟩
theorem GM:∀(stk:List cO),dz lw h stk=match stk.dropWhile (kg lw h) with|[]=>[]|p::ps=>(p.1.dropWhile (gM lw h),p.2.dropWhile (gM lw h))::ps
 |[]=>rfl
 |p::ps=>by
  unfold dz;by_cases e:kg lw h p=true
  .rw[if_pos e,adG e]
   exact GM ps
  .rw[if_neg e,adx e]
theorem Cj {l:List Nat}:l.dropWhile (gM lw h)=[]↔∀x∈l,g lw x=h:=by
 rw[<-gH]
 induction l with
 |nil=>simp
 |cons x l ih=>
  by_cases e:gM lw h x=true
  .rw[adG e,ih]
   simp[e]
  .rw[adx e]
   simp[e]
theorem TM (o9:lw.length=m) (st:TS) (hst:st.stk=stk.map cU) (hk:Lk m st.like st.turn seen stk) (hne:∀p∈stk,¬(p.1=[]/\p.2=[])) (hle:∀x∈cF stk,g lw x<=h) (hs:∀p∈stk,nh lw p.1/\nh lw p.2):
 ∃aC bz,trim lw h st=some { st with like:=aC,turn:=bz,stk:=(dz lw h stk).map cU }/\Lk m aC bz seen (dz lw h stk)/\∀sd,Sat aC bz seen (dz lw h stk) sd->Sat st.like st.turn seen stk sd:=by
 obtain⟨bz,k1,k2,k3⟩:=FC o9 stk st.turn hk hne hle hs;unfold trim;rw[hst,k1];have ea:=GM (lw:=lw) (h:=h) stk;cases hd:stk.dropWhile (kg lw h) with
 |nil=>
  rw[hd] at ea k2 k3;rw[ea];exact⟨st.like,bz,rfl,k2,k3⟩
 |cons p ps=>
  rw[hd] at ea k2 k3;have hsub:∀q∈p::ps,q∈stk:=fun q hq=>by
   have:=adZ (l:=stk) (kg lw h);rw[hd] at this;exact this.subset hq
  have hnot:¬kg lw h p=true:=by
   have:=List.head?_dropWhile_not (kg lw h) stk;rw[hd] at this;simpa using this
  have hp:=hne p (hsub p aai);obtain⟨L,R⟩:=p;rw[ea];dsimp only at hp ⊢;rw[ac6];dsimp only;rw[if_neg (fun k=>hp (yP.1 k))];have hnd:=k2.nd;rw[aB] at hnd;simp only[acy] at hnd;obtain⟨nL,⟨nR,-,-⟩,-⟩:=hnd;obtain⟨cL,cR⟩:=k2.ch (L,R) aai;obtain⟨sL,sR⟩:=k2.nU (p:=(L,R)) aai;have mL:∀x∈L,x<lw.length/\x<st.like.length:=fun x hx=>by rw[o9,k2.ll];exact⟨k2.sm x (sL x hx),k2.sm x (sL x hx)⟩
  have mR:∀x∈R,x<lw.length/\x<st.like.length:=fun x hx=>by rw[o9,k2.ll];exact⟨k2.sm x (sR x hx),k2.sm x (sR x hx)⟩
  have eO:st.like.length=bz.length:=by rw[k2.ll,k2.lt]
  have ac2:¬(L.dropWhile (gM lw h)=[]/\R.dropWhile (gM lw h)=[]):=fun k=>hnot (by
   unfold kg;rw[acv];exact⟨gH.2 (Cj.1 k.1),gH.2 (Cj.1 k.2)⟩)
  have tdL:L.takeWhile (gM lw h)++L.dropWhile (gM lw h)=L:=aeo;have M3:R.takeWhile (gM lw h)++R.dropWhile (gM lw h)=R:=aeo;show ∃ajS ajR,(match cut lw h st.like bz (dR L) (dR R) with|none=>none|some (fA,gR,l)=>match cut lw h fA gR (dR R) l with|none=>none|some (fy,wJ,r)=>some { st with stk:=(l,r)::ps.map cU,like:=fy,turn:=wJ })=_/\_;by_cases dl:L.dropWhile (gM lw h)=[]
  .have dr:R.dropWhile (gM lw h)≠[]:=fun k=>ac2 ⟨dl,k⟩
   have Lq:R≠[]:=fun e=>dr (by rw[e];rfl)
   by_cases Wl:L=[]
   .subst Wl
    rw[QI];dsimp only;rw[vG _ dr nR cR mR];rw[<-M3] at k2;refine⟨st.like,bz,rfl,k2.swap.drop.swap,fun sd aQ=>k3 sd ?_⟩;have:=Sat.drop k2.swap dr aQ.swap;rw[M3] at this;exact this.swap
   .rw[GI Wl dl Lq nL cL mL eO]
    dsimp only;have c1:=k2.yN Wl Lq;have cR':=(c1.ch ([],R) aai).2;rw[vG _ dr nR cR' (fun x hx=>by rw[acJ];exact mR x hx)];rw[dl];rw[<-M3] at c1;rw[vu dr] at c1;have e1:(R.dropWhile (gM lw h)).getLastD 0=R.getLastD 0:=by
     have:=vu (X1:=R.takeWhile (gM lw h)) dr;rw[M3] at this;exact this.symm
    rw[e1] at c1;refine⟨_,_,rfl,c1.swap.drop.swap,fun sd aQ=>k3 sd ?_⟩;have:=Sat.drop c1.swap dr aQ.swap;rw[M3] at this;exact Sat.yN k2 Wl Lq this.swap
  .rw[vG _ dl nL cL mL]
   dsimp only;have c1:Lk m st.like bz seen ((L.dropWhile (gM lw h),R)::ps):=by
    rw[<-tdL] at k2;exact k2.drop
   have b1:∀sd,Sat st.like bz seen ((L.dropWhile (gM lw h),R)::ps) sd->Sat st.like bz seen ((L,R)::ps) sd:=fun sd aQ=>by
    rw[<-tdL] at k2;have:=Sat.drop k2 dl aQ;rw[tdL] at this;exact this
   by_cases Lq:R=[]
   .subst Lq
    rw[QI];exact⟨st.like,bz,rfl,c1,fun sd aQ=>k3 sd (b1 sd aQ)⟩
   .by_cases dr:R.dropWhile (gM lw h)=[]
    .rw[GI Lq dr dl nR cR mR eO,dr]
     exact⟨_,_,rfl,(c1.swap.yN Lq dl).swap,fun sd aQ=>k3 sd (b1 sd (Sat.yN c1.swap Lq dl aQ.swap).swap)⟩
    .rw[vG _ dr nR cR mR]
     have c2:Lk m st.like bz seen ((R.takeWhile (gM lw h)++R.dropWhile (gM lw h),L.dropWhile (gM lw h))::ps):=by
      rw[M3];exact c1.swap
     refine⟨st.like,bz,rfl,c2.drop.swap,fun sd aQ=>k3 sd (b1 sd ?_)⟩;have:=Sat.drop c2 dr aQ.swap;rw[M3] at this;exact this.swap
end
end Lt
end
section
namespace Lt
section
variable {m:Nat} {lw like turn lowest:List Int} {seen:Nat->Prop} {sd:Nat->Bool}
theorem eE (a b:List cO):cF (a++b)=cF a++cF b:=by simp[cF]
theorem ZB {p q:cO} (hp:¬(p.1=[]/\p.2=[])) (hd:∀x,x∈p.1++p.2->x∉q.1++q.2):cU p≠cU q:=fun e=>by
 have e1:dR p.1=dR q.1:=congrArg Prod.fst e;have e2:dR p.2=dR q.2:=congrArg Prod.snd e;have key:∀{a b:List Nat},a≠[]->dR a=dR b->∃x,x∈a/\x∈b:=fun {a b} ha hab=>by
  have hb:b≠[]:=fun k=>ha (dK.1 (hab.trans (dK.2 k)))
  rw[pP ha,pP hb] at hab;have h1:=congrArg Prod.fst hab;have h2:a.headD 0=b.headD 0:=by
   dsimp only at h1;omega
  exact⟨a.headD 0,head_mem ha,by rw[h2];exact head_mem hb⟩
 by_cases h1:p.1=[]
 .have h2:p.2≠[]:=fun k=>hp ⟨h1,k⟩
  obtain⟨x,k1,k2⟩:=key h2 e2;exact hd x (by simp[k1]) (by simp[k2])
 .obtain⟨x,k1,k2⟩:=key h1 e1
  exact hd x (by simp[k1]) (by simp[k2])
theorem Yr {p:cO} {rest:List cO} (hp:¬(p.1=[]/\p.2=[])) (hd:∀x,x∈p.1++p.2->x∉cF rest):cU p≠top (rest.map cU):=by
 cases rest with
 |nil=>exact fun e=>hp (yP.1 e)
 |cons q rest=>exact ZB hp fun x hx k=>hd x hx (by rw[aB,<-ace];exact aci _ k)
def nr (lw:List Int) (h:Int) (s:List cO):List Nat:=s.flatMap fun p=>if g lw ((p.1++p.2).getLastD 0)=h then [] else p.1++p.2
theorem Dh (lw:List Int) (h:Int) (p:cO) (s:List cO):nr lw h (p::s)=(if g lw ((p.1++p.2).getLastD 0)=h then [] else p.1++p.2)++nr lw h s:=by simp[nr]
theorem YF (o9:lw.length=m) {above b0:Nat} (ha:above<m) (hl:bF lowest (above:Int)=some (b0:Int)) {rest:List cO} (hb0:b0∈cF rest):
 ∀(SG:List cO) (like:List Int) (O:List Nat),Lk m like turn seen (([],O)::(SG++rest))->(∀p∈SG,¬(p.1=[]/\p.2=[]))->
 (own lw lowest above (top (rest.map cU)) ((SG++rest).map cU) like (dR O)=some none/\∃p∈SG,p.1≠[]/\p.2≠[])\/
 ∃aC,own lw lowest above (top (rest.map cU)) ((SG++rest).map cU) like (dR O)=some (some (rest.map cU,aC,dR (O++nr lw (g lw above) SG)))/\Lk m aC turn seen (([],O++nr lw (g lw above) SG)::rest)/\
  (∀p∈SG,p.1=[]\/p.2=[])/\
  ∀sd,Sat aC turn seen (([],O++nr lw (g lw above) SG)::rest) sd->Sat like turn seen (([],O)::(SG++rest)) sd/\∀p∈SG,g lw ((p.1++p.2).getLastD 0)=g lw above->∀x∈p.1++p.2,sd x=sd b0:=by
 intro SG
 induction SG with
 |nil=>
  intro like O hk _;refine .inr ⟨like,?_,?_,fun p hp=>by simp at hp,fun sd aQ=>⟨?_,fun p hp=>by simp at hp⟩⟩
  .rw[acs,show nr lw (g lw above) []=[] from rfl,acH]
   cases rest with
   |nil=>simp[cF] at hb0
   |cons q rest=>
    rw[ac6];unfold own;rw[if_pos (show cU q=top (cU q::rest.map cU) from rfl)]
  .rw[show nr lw (g lw above) []=[] from rfl,acH]
   exact hk
  .rw[show nr lw (g lw above) []=[] from rfl,acH] at aQ
   exact aQ
 |cons p SG ih=>
  intro like O hk hne;have hp:=hne p aai;have hnd:=hk.nd;rw[aB,acZ,aB] at hnd;simp only[acs,eE] at hnd;have D9:∀x,x∈p.1++p.2->x∉cF rest:=fun x hx k=>by
   have h1:=(acy.1 hnd).2.1;rw[<-ace] at h1;exact(acy.1 h1).2.2 x hx x (acd _ k) rfl
  have Qn:=Yr hp D9;have hin:∀x,x∈p.1++p.2->x∈cF (([],O)::(p::SG++rest)):=fun x hx=>bB.2 ⟨p,by simp,aam.1 hx⟩
  rw[acZ,ac6];unfold own;rw[if_neg Qn];obtain⟨P1,P2⟩:=p;by_cases two:P1≠[]/\P2≠[]
  .refine .inl ⟨?_,⟨(P1,P2),aai,two⟩⟩
   have e1:¬(cU (P1,P2)).2=aP:=fun k=>two.2 (dK.1 k)
   have e2:¬(cU (P1,P2)).1=aP:=fun k=>two.1 (dK.1 k)
   rw[if_neg e1,if_pos e2]
  ·
   obtain⟨X,hX,xk,hsel,hno⟩:∃X,P1++P2=X/\X≠[]/\(if (cU (P1,P2)).2=aP then (cU (P1,P2)).1 else (cU (P1,P2)).2)=dR X/\¬(if (cU (P1,P2)).2=aP then (cU (P1,P2)).2 else (cU (P1,P2)).1)≠aP:=by
    by_cases e2:P2=[]
    .subst e2
     have e1:P1≠[]:=fun k=>hp ⟨k,rfl⟩
     refine⟨P1,by simp,e1,?_,?_⟩
     .rw[if_pos (show(cU (P1,[])).2=aP from rfl)]
      rfl
     .rw[if_pos (show(cU (P1,[])).2=aP from rfl)]
      exact fun k=>k rfl
    .have e1:P1=[]:=abO fun k=>two ⟨k,e2⟩
     subst e1;refine⟨P2,by simp,e2,?_,?_⟩
     .rw[if_neg (show ¬(cU ([],P2)).2=aP from fun k=>e2 (dK.1 k))]
      rfl
     .rw[if_neg (show ¬(cU ([],P2)).2=aP from fun k=>e2 (dK.1 k))]
      exact fun k=>k rfl
   have Oh:Lk m like turn seen (([],O)::([],X)::(SG++rest))/\∀sd,Sat like turn seen (([],O)::([],X)::(SG++rest)) sd->Sat like turn seen (([],O)::(P1,P2)::(SG++rest)) sd:=by
    by_cases e2:P2=[]
    .subst e2
     rw[acH] at hX;subst hX;exact⟨hk.tF,fun sd h=>h.tF⟩
    .have e1:P1=[]:=abO fun k=>two ⟨k,e2⟩
     subst e1;rw[acs] at hX;subst hX;exact⟨hk,fun sd h=>h⟩
   obtain⟨hk2,hs2⟩:=Oh;have cq:=bE xk;have hsX:∀x∈X,x<m:=fun x hx=>hk2.sm x (hk2.sn x (by rw[aB,aB];simp[hx]))
   rw[if_neg hno,hsel];have e3:bF lw (dR X).2=some (g lw (X.getLastD 0)):=by
    rw[pP xk];exact nw (by rw[o9];exact hsX _ cq)
   rw[e3,nw (by rw[o9];exact ha)];dsimp only;have hone:(P1:List Nat)=[]\/P2=[]:=by
    by_cases e1:P1=[]
    .exact .inl e1
    .exact .inr (abO fun k=>two ⟨e1,k⟩)
   by_cases ea:g lw (X.getLastD 0)=g lw above
   .rw[if_pos ea,hl]
    dsimp only;have e4:fE like (dR X).2 (b0:Int)=some (like.set (X.getLastD 0) (b0:Int)):=by
     rw[pP xk];exact nY (by rw[hk.ll];exact hsX _ cq)
    rw[e4];dsimp only;have hb:b0∈cF (SG++rest):=by rw[eE];exact acd _ hb0
    have hk3:=hk2.align xk hb;rcases ih _ O hk3 (fun q hq=>hne q (aak _ hq)) with ⟨k1,q,k2,k3⟩|⟨aC,k1,k2,k3,k4⟩
    .exact .inl ⟨k1,q,aak _ k2,k3⟩
    .have eo:nr lw (g lw above) ((P1,P2)::SG)=nr lw (g lw above) SG:=by
      rw[Dh];dsimp only;rw[hX,if_pos ea,acs]
     rw[eo];refine .inr ⟨aC,k1,k2,fun q hq=> ?_,fun sd aQ=> ?_⟩
     .rcases aaj.1 hq with rfl|hq
      .exact hone
      .exact k3 q hq
     .obtain⟨l1,l2⟩:=k4 sd aQ
      obtain⟨l3,l4⟩:=Sat.align hk2 xk l1;refine⟨hs2 sd l3,fun q hq Y3 x hx=> ?_⟩;rcases aaj.1 hq with rfl|hq
      .exact l4 x (by rw[<-hX];exact hx)
      .exact l2 q hq Y3 x hx
   .rw[if_neg ea]
    have hO:∀x∈O,x<like.length:=fun x hx=>by rw[hk.ll];exact hk.sm x (hk.sn x (by rw[aB];simp[hx]))
    rw[join_eq hO];dsimp only;have hk3:=hk2.merge;have ej:jU (jU like [] []) O X=jU like O X:=rfl;rw[ej] at hk3;rcases ih _ (O++X) hk3 (fun q hq=>hne q (aak _ hq)) with ⟨k1,q,k2,k3⟩|⟨aC,k1,k2,k3,k4⟩
    .exact .inl ⟨k1,q,aak _ k2,k3⟩
    .have eo:O++nr lw (g lw above) ((P1,P2)::SG)=O++X++nr lw (g lw above) SG:=by
      rw[Dh];dsimp only;rw[hX,if_neg ea,ace]
     rw[eo];refine .inr ⟨aC,k1,k2,fun q hq=> ?_,fun sd aQ=> ?_⟩
     .rcases aaj.1 hq with rfl|hq
      .exact hone
      .exact k3 q hq
     .obtain⟨l1,l2⟩:=k4 sd aQ
      refine⟨hs2 sd (Sat.merge hk2 (by rw[ej];exact l1)),fun q hq Y3 x hx=> ?_⟩;rcases aaj.1 hq with rfl|hq
      .exact absurd Y3 (by dsimp only;rw[hX];exact ea)
      .exact l2 q hq Y3 x hx
def gX (lw:List Int) (h:Int) (X:List Nat):Bool:= !X.isEmpty&&decide (h<g lw (X.headD 0))
theorem D5 {X:List Nat} {e:Nat} (he:e<lw.length) (hX:∀x∈X,x<lw.length):gW lw (dR X) (e:Int)=some (gX lw (g lw e) X):=by
 unfold gW gX;by_cases h:X=[]
 .subst h
  rw[if_pos (dK.2 rfl)];rfl
 .rw[if_neg (fun k=>h (dK.1 k)),pP h]
  dsimp only;rw[nw (hX _ (head_mem h)),nw he];dsimp only;have:X.isEmpty=false:=by
   cases X with
   |nil=>exact absurd rfl h
   |cons x X=>rfl
  rw[this];rfl
theorem kS {h:Int} {X:List Nat}:gX lw h X=true↔X≠[]/\h<g lw (X.headD 0):=by
 unfold gX;cases X<;>simp
def zY (lw:List Int) (h:Int) (s:List cO):List Nat:=s.flatMap fun q=>if gX lw h q.1=true then q.1 else q.2
def rK (lw:List Int) (h:Int) (s:List cO):List Nat:=s.flatMap fun q=>if gX lw h q.1=true then q.2 else q.1
theorem Gr (lw:List Int) (h:Int) (q:cO) (s:List cO):zY lw h (q::s)=(if gX lw h q.1=true then q.1 else q.2)++zY lw h s:=by simp[zY]
theorem F9 (lw:List Int) (h:Int) (q:cO) (s:List cO):rK lw h (q::s)=(if gX lw h q.1=true then q.2 else q.1)++rK lw h s:=by simp[rK]
theorem others_eq (o9:lw.length=m) {e:Nat} (he:e<m):
 ∀(QS:List cO) (like:List Int) (A B:List Nat),Lk m like turn seen ((A,B)::QS)->
 (others lw e (QS.map cU) like (dR A,dR B)=some none/\∃Q1 q Q2,QS=Q1++q::Q2/\(∀q'∈Q1,gX lw (g lw e) q'.1≠gX lw (g lw e) q'.2)/\gX lw (g lw e) q.1=true/\gX lw (g lw e) q.2=true)\/
 ∃aC Q1 Q2,QS=Q1++Q2/\others lw e (QS.map cU) like (dR A,dR B)=some (some (Q2.map cU,aC,(dR (A++zY lw (g lw e) Q1),dR (B++rK lw (g lw e) Q1))))/\Lk m aC turn seen ((A++zY lw (g lw e) Q1,B++rK lw (g lw e) Q1)::Q2)/\
  (∀q∈Q1,gX lw (g lw e) q.1≠gX lw (g lw e) q.2)/\(∀q,Q2.head? =some q->gX lw (g lw e) q.1=false/\gX lw (g lw e) q.2=false)/\
  ∀sd,Sat aC turn seen ((A++zY lw (g lw e) Q1,B++rK lw (g lw e) Q1)::Q2) sd->Sat like turn seen ((A,B)::QS) sd:=by
 intro QS
 induction QS with
 |nil=>
  intro like A B hk;have e1:A++zY lw (g lw e) []=A:=by simp[zY]
  have e2:B++rK lw (g lw e) []=B:=by simp[rK]
  refine .inr ⟨like,[],[],rfl,?_⟩;rw[e1,e2];exact⟨rfl,hk,fun q hq=>by simp at hq,fun q hq=>by simp at hq,fun _ h=>h⟩
 |cons q QS ih=>
  intro like A B hk;have hin:∀x,x∈q.1\/x∈q.2->x<lw.length:=fun x hx=>by rw[o9];exact hk.sm x (hk.sn x (bB.2 ⟨q,by simp,hx⟩))
  have h1:=D5 (X:=q.1) (e:=e) (by rw[o9];exact he) (fun x hx=>hin x (.inl hx));have h2:=D5 (X:=q.2) (e:=e) (by rw[o9];exact he) (fun x hx=>hin x (.inr hx));obtain⟨L,R⟩:=q;rw[ac6];unfold others;have h1':gW lw (cU (L,R)).1 (e:Int)=some (gX lw (g lw e) L):=h1;have h2':gW lw (cU (L,R)).2 (e:Int)=some (gX lw (g lw e) R):=h2;rw[h1',h2'];have hA:∀x∈A,x<like.length:=fun x hx=>by rw[hk.ll];exact hk.sm x (hk.sn x (bB.2 ⟨(A,B),by simp,.inl hx⟩))
  have hB:∀{M:List Nat},∀x∈B,x<(jU like A M).length:=fun x hx=>by rw[yq,hk.ll];exact hk.sm x (hk.sn x (bB.2 ⟨(A,B),by simp,.inr hx⟩))
  cases b1:gX lw (g lw e) L<;>cases b2:gX lw (g lw e) R
  .have e1:A++zY lw (g lw e) []=A:=by simp[zY]
   have e2:B++rK lw (g lw e) []=B:=by simp[rK]
   refine .inr ⟨like,[],(L,R)::QS,rfl,?_⟩;rw[e1,e2];exact⟨rfl,hk,fun q hq=>by simp at hq,fun q hq=>by cases hq;exact⟨b1,b2⟩,fun _ h=>h⟩
  .dsimp only
   have e0:(if false=true then cU (L,R) else turned (cU (L,R)))=(dR R,dR L):=rfl;rw[e0];dsimp only;rw[join_eq hA];dsimp only;rw[join_eq hB];dsimp only;have hk3:=hk.tF.merge;rcases ih _ _ _ hk3 with ⟨k1,Q1,q,Q2,k2,k3,k4⟩|⟨aC,Q1,Q2,k0,k1,k2,k3,k4,k5⟩
   .refine .inl ⟨k1,(L,R)::Q1,q,Q2,by rw[k2];rfl,fun q' hq'=> ?_,k4⟩
    rcases aaj.1 hq' with rfl|hq'
    .dsimp only;rw[b1,b2];simp
    .exact k3 q' hq'
   .refine .inr ⟨aC,(L,R)::Q1,Q2,by rw[k0];rfl,?_⟩
    rw[Gr,F9,<-ace,<-ace];dsimp only;rw[b1];refine⟨k1,k2,fun q hq=> ?_,k4,fun sd aQ=>(Sat.merge hk.tF (k5 sd aQ)).tF⟩;rcases aaj.1 hq with rfl|hq
    .dsimp only;rw[b1,b2];simp
    .exact k3 q hq
  .dsimp only
   have e0:(if true=true then cU (L,R) else turned (cU (L,R)))=(dR L,dR R):=rfl;rw[e0];dsimp only;rw[join_eq hA];dsimp only;rw[join_eq hB];dsimp only;have hk3:=hk.merge;rcases ih _ _ _ hk3 with ⟨k1,Q1,q,Q2,k2,k3,k4⟩|⟨aC,Q1,Q2,k0,k1,k2,k3,k4,k5⟩
   .refine .inl ⟨k1,(L,R)::Q1,q,Q2,by rw[k2];rfl,fun q' hq'=> ?_,k4⟩
    rcases aaj.1 hq' with rfl|hq'
    .dsimp only;rw[b1,b2];simp
    .exact k3 q' hq'
   .refine .inr ⟨aC,(L,R)::Q1,Q2,by rw[k0];rfl,?_⟩
    rw[Gr,F9,<-ace,<-ace];dsimp only;rw[b1];refine⟨k1,k2,fun q hq=> ?_,k4,fun sd aQ=>Sat.merge hk (k5 sd aQ)⟩;rcases aaj.1 hq with rfl|hq
    .dsimp only;rw[b1,b2];simp
    .exact k3 q hq
  .exact .inl ⟨rfl,[],(L,R),QS,rfl,fun q' hq'=>by simp at hq',b1,b2⟩
end
end Lt
end
end Go.Proofs.YtbhdibflpjhpaaaGreat
