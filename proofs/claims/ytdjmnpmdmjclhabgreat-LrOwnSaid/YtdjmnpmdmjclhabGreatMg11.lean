import Derived.Test.YtdjmnpmdmjclhabGreatMg10
namespace Go.Proofs.YtdjmnpmdmjclhabGreat
section
namespace Lt
open Pl
section
variable {n m:Nat} {T:DF n m} {lw:List Int} {S:(Nat→Bool)→Prop} {D:List Nat} {RG:List cJ} {h:Int}
theorem hangs {w v:Nat} (hw:w<n) (hv:v<n) (ha:T.bQ w v) (hne:w≠v):∃a,a<m∧T.tree a=true∧T.go a=v:=by
 have step:∀(d:Nat) (k:Nat),k<m→T.tree k=true→T.bQ (T.go k) v→T.az v≤T.az (T.go k)+d→∃e,e<m∧T.tree e=true∧T.go e=v:=by
  intro d
  induction d with
  |zero=>
   intro k hk tk ak hd
   by_cases e1:T.go k=v
   ·exact⟨k,hk,tk,e1⟩
   ·have:=T.up (T.lt k hk).2 hv ak e1
    omega
  |succ d ih=>
   intro k hk tk ak hd
   by_cases e1:T.go k=v
   ·exact⟨k,hk,tk,e1⟩
   ·obtain⟨k',hk',tk',fk',ak'⟩:=T.child (T.lt k hk).2 hv ak e1
    have e3:=(T.dN k' hk' tk').1
    rw[fk'] at e3
    exact ih k' hk' tk' ak' (by omega)
 obtain⟨k,hk,tk,fk,ak⟩:=T.child hw hv ha hne
 have:=T.low v hv
 have:=T.low _ (T.lt k hk).2
 exact step n k hk tk ak (by omega)
theorem Aq {e x:Nat} (he:e<m) (hr:T.aX e x):∃a,a<m∧T.tree a=true∧T.go a=T.fr e:=by
 have hlt:=hr.lt
 obtain⟨hx,tx,k⟩:=hr
 have hb:=T.back x hx tx
 rcases k with rfl|⟨te,ka,kh⟩
 ·exact hangs (T.lt e he).2 (T.lt e he).1 hb.1 hb.2
 ·have eP:=(T.dN e he te)
  have h1:=T.trans eP.2 ka
  have h2:=T.cmp (T.lt x hx).2 (T.lt e he).1 (T.lt x hx).1 hb.1 h1 (by omega)
  exact hangs (T.lt x hx).2 (T.lt e he).1 h2 (fun q=>by rw[q] at hlt;omega)
theorem wO {a x:Nat} (ha:a<m) (ta:T.tree a=true) (hr:T.aX a x):∃f,f<m∧T.fr f=T.go a∧T.aX f x:=by
 have hl:=DF.DR ta hr
 obtain⟨hx,tx,_⟩:=hr
 have eP:=(T.dN a ha ta).1
 by_cases e:T.go a=T.fr x
 ·exact⟨x,hx,e.symm,hx,tx,.inl rfl⟩
 ·obtain⟨k,hk,tk,fk,ak⟩:=T.child (T.lt a ha).2 (T.lt x hx).1 hl.1 e
  exact⟨k,hk,fk,hx,tx,.inr ⟨tk,ak,by rw[fk];omega⟩⟩
theorem EZ {a f x:Nat} (ha:a<m) (ta:T.tree a=true) (hf:f<m) (hfr:T.fr f=T.go a) (hr:T.aX f x) (hh:T.az (T.go x)<T.az (T.fr a)):T.aX a x:=by
 obtain⟨hx,tx,k⟩:=hr
 refine⟨hx,tx,.inr ⟨ta,?_,hh⟩⟩
 rcases k with rfl|⟨tf,kf,_⟩
 ·rw[hfr];exact T.refl _ (T.lt a ha).2
 ·rw[←hfr];exact T.trans (T.dN f hf tf).2 kf
theorem AU (hw:eI T lw) {a e1:Nat} (ha:a<m) (ta:T.tree a=true) (he:e1<m) (hfr:T.fr e1=T.go a) (hmin:∀f,f<m→T.fr f=T.go a→g lw e1≤g lw f) (hr:∃x,T.aX e1 x):g lw a=g lw e1:=by
 obtain⟨x,hx⟩:=hr
 obtain⟨b,hb,eb⟩:=hw.att he hx
 have eP:=(T.dN a ha ta).1
 have h1:=hw.lt hb
 rw[hfr,eP] at h1
 have h2:=hw.le a ha
 have h3:g lw a≤g lw e1:=by
  by_cases k:g lw b<T.az (T.fr a)
  ·have:=hw.low ha (EZ ha ta he hfr hb (by rw[←hw.back hb];exact k))
   omega
  ·omega
 have h4:g lw e1≤g lw a:=by
  by_cases k:g lw a<T.az (T.fr a)
  ·obtain⟨c,hc,ec⟩:=hw.ex a ha k
   obtain⟨f,hf,ff,rf⟩:=wO ha ta hc
   have:=hmin f hf ff
   have:=hw.low hf rf
   rw[hw.back rf] at this
   omega
  ·omega
 omega
theorem FM:∀{l:List Nat},lO lw l→(∀x∈l,g lw x≤h)→∀x,x∈l.dropWhile (fL lw h)↔x∈l∧g lw x≠h
 |[],_,_,x=>by simp
 |y::l,hs,hm,x=>by
  have hs':=aa4.1 hs
  by_cases e:g lw y=h
  ·rw[ab5 (by simp[fL,e]),FM hs'.2 (fun z hz=>hm z (aah _ hz)) x]
   constructor
   ·exact fun k=>⟨aah _ k.1,k.2⟩
   ·rintro⟨k1,k2⟩
    rcases aaj.1 k1 with rfl|k1
    ·exact absurd e k2
    ·exact⟨k1,k2⟩
  ·rw[abP (by simp[fL,e])]
   refine⟨fun k=>⟨k,?_⟩,fun k=>k.1⟩
   have:=hm y aag
   rcases aaj.1 k with rfl|k
   ·exact e
   ·have:=hs'.1 x k
    omega
theorem Qi {p:cJ} (hm:∀x∈p.1++p.2,g lw x≤h) (hn:¬jA lw h p=true):∃z∈p.1++p.2,g lw z<h:=abw fun k=>hn (by
 unfold jA
 rw[aaP]
 refine⟨gu.2 fun x hx=> ?_,gu.2 fun x hx=> ?_⟩
 ·have h1:=hm x (aaN _ hx)
  have h2:¬g lw x<h:=fun q=>k ⟨x,aaN _ hx,q⟩
  omega
 ·have h1:=hm x (aaz _ hx)
  have h2:¬g lw x<h:=fun q=>k ⟨x,aaz _ hx,q⟩
  omega)
theorem uo:∀{RG:List cJ},Ex lw RG→(∀p∈RG,lO lw p.1∧lO lw p.2)→(∀x∈cH RG,g lw x≤h)→∀x,x∈cH (cV lw h RG)↔x∈cH RG∧g lw x≠h
 |[],_,_,_,x=>by simp[cV,cH]
 |p::ps,hm,hs,hle,x=>by
  have hm':=aa4.1 hm
  unfold cV
  have hp:∀x∈p.1++p.2,g lw x≤h:=fun x hx=>hle x (by rw[aG,←aaH];exact aaN _ hx)
  by_cases e:jA lw h p=true
  ·rw[if_pos e,uo hm'.2 (fun q hq=>hs q (aah _ hq)) (fun x hx=>hle x (by rw[aG];simp[hx])) x]
   unfold jA at e
   rw[aaP] at e
   rw[aG]
   simp only[aal]
   constructor
   ·exact fun k=>⟨.inr (.inr k.1),k.2⟩
   ·rintro⟨k|k|k,k2⟩
    ·exact absurd (gu.1 e.1 x k) k2
    ·exact absurd (gu.1 e.2 x k) k2
    ·exact⟨k,k2⟩
  ·rw[if_neg e,aG,aG]
   dsimp only
   simp only[aal]
   rw[FM (hs p aag).1 (fun y hy=>hp y (by simp[hy])),FM (hs p aag).2 (fun y hy=>hp y (by simp[hy]))]
   obtain⟨z,hz,gz⟩:=Qi hp e
   have dH:∀y∈cH ps,g lw y≠h:=fun y hy=>by
    obtain⟨q,hq,KE⟩:=bk.1 hy
    have:=hm'.1 q hq z hz y (aal.2 KE)
    omega
   constructor
   ·rintro(k|k|k)
    ·exact⟨.inl k.1,k.2⟩
    ·exact⟨.inr (.inl k.1),k.2⟩
    ·exact⟨.inr (.inr k),dH x k⟩
   ·rintro⟨k|k|k,k2⟩
    ·exact .inl ⟨k,k2⟩
    ·exact .inr (.inl ⟨k,k2⟩)
    ·exact .inr (.inr k)
theorem uk:∀{RG:List cJ},(∀x∈cH RG,g lw x≤h)→∀q∈cV lw h RG,∃p∈RG,List.Sublist q.1 p.1∧List.Sublist q.2 p.2
 |[],_,q,hq=>by simp[cV] at hq
 |p::ps,hle,q,hq=>by
  unfold cV at hq
  split at hq
  ·obtain⟨p',k1,k2⟩:=uk (fun x hx=>hle x (by rw[aG];simp[hx])) q hq
   exact⟨p',aah _ k1,k2⟩
  ·rcases aaj.1 hq with rfl|hq
   ·exact⟨p,aag,ack _,ack _⟩
   ·exact⟨q,aah _ hq,List.Sublist.refl _,List.Sublist.refl _⟩
theorem Eu:∀{RG:List cJ},(∀p∈RG,¬(p.1=[]∧p.2=[]))→∀q∈cV lw h RG,¬(q.1=[]∧q.2=[])
 |[],_,q,hq=>by simp[cV] at hq
 |p::ps,hne,q,hq=>by
  unfold cV at hq
  split at hq
  ·exact Eu (fun p hp=>hne p (aah _ hp)) q hq
  ·rename_i hn
   rcases aaj.1 hq with rfl|hq
   ·rintro⟨k1,k2⟩
    dsimp only at k1 k2
    refine hn ?_
    unfold jA
    rw[aaP]
    exact⟨gu.2 (zR.1 k1),gu.2 (zR.1 k2)⟩
   ·exact hne q (aah _ hq)
theorem yL:∀{RG:List cJ},Ex lw RG→Ex lw (cV lw h RG)
 |[],_=>List.Pairwise.nil
 |p::ps,hm=>by
  have hm':=aa4.1 hm
  unfold cV
  split
  ·exact yL hm'.2
  ·refine aa4.2 ⟨fun q hq x hx y hy=>hm'.1 q hq x ?_ y hy,hm'.2⟩
   dsimp only at hx
   rcases aal.1 hx with k|k
   ·exact aaN _ ((ack _).subset k)
   ·exact aaz _ ((ack _).subset k)
theorem p7 {rest:List cJ} (hr:∀p∈rest,¬(p.1=[]∧p.2=[])) (hl:∀x∈cH rest,g lw x<h):∀(RG:List cJ),cV lw h (RG++rest)=cV lw h RG++rest
 |[]=>by
  cases rest with
  |nil=>rfl
  |cons p ps=>
   have hp:∀x,x∈p.1∨x∈p.2→g lw x<h:=fun x hx=>hl x (bk.2 ⟨p,aag,hx⟩)
   have keep:∀{l:List Nat},(∀x∈l,g lw x<h)→l.dropWhile (fL lw h)=l:=fun {l} hk=>by
    cases l with
    |nil=>rfl
    |cons x l=>
     have:=hk x aag
     rw[abP (by simp[fL];omega)]
   have hn:¬jA lw h p=true:=fun k=>by
    unfold jA at k
    rw[aaP] at k
    refine hr p aag ⟨?_,?_⟩
    ·cases h1:p.1 with
     |nil=>rfl
     |cons x l=>
      have:=gu.1 k.1 x (by rw[h1];simp)
      have:=hp x (.inl (by rw[h1];simp))
      omega
    ·cases h1:p.2 with
     |nil=>rfl
     |cons x l=>
      have:=gu.1 k.2 x (by rw[h1];simp)
      have:=hp x (.inr (by rw[h1];simp))
      omega
   show cV lw h (p::ps)=p::ps
   unfold cV
   rw[if_neg hn,keep (fun x hx=>hp x (.inl hx)),keep (fun x hx=>hp x (.inr hx))]
 |p::RG=>by
  rw[abi]
  unfold cV
  split
  ·exact p7 hr hl RG
  ·rfl
theorem jR.trim (hw:eI T lw) (hD:jR T lw S D RG) {a:Nat} (ha:a<m) (ta:T.tree a=true) (hmem:∀f,f∈D↔f<m∧T.fr f=T.go a) (hmin:∀e1,D.head? =some e1→∀f∈D,g lw e1≤g lw f):
 jR T lw S [a] (cV lw (T.az (T.fr a)) RG)∧(∀x∈cH RG,g lw x≤T.az (T.fr a))∧∀b0,(cV lw (T.az (T.fr a)) RG).getLast? =some ([],[b0])→RG.getLast? =some ([],[b0]):=by
 have eP:=(T.dN a ha ta).1
 have hle:∀x∈cH RG,g lw x≤T.az (T.fr a):=fun x hx=>by
  obtain⟨f,hf,rf⟩:=hD.mem x hx
  have:=hw.lt rf
  rw[((hmem f).1 hf).2,eP] at this
  omega
 have hmm:=uo hD.mono hD.pg hle
 have g8:∀y,y∈cH (cV lw (T.az (T.fr a)) RG)→T.aX a y:=fun y hy=>by
  obtain⟨k1,k2⟩:=(hmm y).1 hy
  obtain⟨f,hf,rf⟩:=hD.mem y k1
  have:=hle y k1
  exact EZ ha ta ((hmem f).1 hf).1 ((hmem f).1 hf).2 rf (by rw[←hw.back rf];omega)
 have Eg:(∃x,T.aX a x)→∃fA b0,RG=fA++[([],[b0])]∧T.aX a b0∧g lw b0=g lw a∧(∀y∈cH fA,g lw a<g lw y)∧g lw b0<T.az (T.fr a):=fun ⟨x,hx⟩=>by
  obtain⟨f,hf,ff,rf⟩:=wO ha ta hx
  have hfD:=(hmem f).2 ⟨hf,ff⟩
  obtain⟨e1,h1⟩:∃e1,D.head? =some e1:=by
   cases D with
   |nil=>simp at hfD
   |cons d D=>exact⟨d,rfl⟩
  have aA:e1∈D:=ada (by rw[h1];rfl)
  obtain⟨e1m,e1f⟩:=(hmem e1).1 aA
  have hmn:=hmin e1 h1
  have r1:∃x,T.aX e1 x:=by
   have h2:=hw.low hf rf
   have h3:=hw.lt rf
   have h4:=hmn f hfD
   obtain⟨b,hb,_⟩:=hw.ex e1 e1m (by rw[e1f,←ff];omega)
   exact⟨b,hb⟩
  have hla:=AU hw ha ta e1m e1f (fun f hf ff=>hmn f ((hmem f).2 ⟨hf,ff⟩)) r1
  obtain⟨fA,b0,k1,k2,k3,k4⟩:=hD.bot e1 h1 r1
  have h5:=hw.low ha hx
  have h6:=hw.lt hx
  have h7:g lw b0<T.az (T.fr a):=by omega
  exact⟨fA,b0,k1,EZ ha ta e1m e1f k2 (by rw[←hw.back k2];exact h7),by omega,fun y hy=>by have:=k4 y hy;omega,h7⟩
 refine⟨⟨fun y hy=>⟨a,by simp,g8 y hy⟩,fun f hf x hx=> ?_,yL hD.mono,fun q hq=> ?_,Eu hD.ne,fun sd aM q hq=> ?_,fun e1 h1 hx=> ?_⟩,hle,fun b0 hb=> ?_⟩
 ·rw[aao.1 hf] at hx
  obtain⟨f',hf',ff',ZJ⟩:=wO ha ta hx
  obtain⟨y,k1,k2,k3⟩:=hD.rep f' ((hmem f').2 ⟨hf',ff'⟩) x ZJ
  have:=hw.lt hx
  exact⟨y,(hmm y).2 ⟨k1,by omega⟩,k2,k3⟩
 ·obtain⟨p,hp,k1,k2⟩:=uk hle q hq
  exact⟨(hD.pg p hp).1.sublist k1,(hD.pg p hp).2.sublist k2⟩
 ·obtain⟨p,hp,k1,k2⟩:=uk hle q hq
  obtain⟨f1,f2,f3⟩:=hD.FC sd aM p hp
  exact⟨fun x hx y hy=>f1 x (k1.subset hx) y (k1.subset hy),fun x hx y hy=>f2 x (k2.subset hx) y (k2.subset hy),fun x hx y hy=>f3 x (k1.subset hx) y (k2.subset hy)⟩
 ·obtain rfl:a=e1:=by simpa using h1
  obtain⟨fA,b0,rfl,k2,k3,k4,k5⟩:=Eg hx
  have e9:=p7 (lw:=lw) (h:=T.az (T.fr a)) (rest:=[([],[b0])]) (fun p hp=>by rw[aao.1 hp];simp) (fun x hx=>by
   have:x=b0:=by simpa[cH] using hx
   rw[this];exact k5) fA
  refine⟨cV lw (T.az (T.fr a)) fA,b0,e9,k2,k3,fun y hy=>k4 y ?_⟩
  have hm2:=(abN.1 hD.mono).1
  exact((uo hm2 (fun p hp=>hD.pg p (by simp[hp])) (fun x hx=>hle x (by rw[ey];simp[hx])) y).1 hy).1
 ·have hin:b0∈cH (cV lw (T.az (T.fr a)) RG):=bk.2 ⟨([],[b0]),List.mem_of_getLast? hb,.inr (by simp)⟩
  obtain⟨fA,b1,rfl,k2,k3,k4,k5⟩:=Eg ⟨b0,g8 b0 hin⟩
  have e9:=p7 (lw:=lw) (h:=T.az (T.fr a)) (rest:=[([],[b1])]) (fun p hp=>by rw[aao.1 hp];simp) (fun x hx=>by
   have:x=b1:=by simpa[cH] using hx
   rw[this];exact k5) fA
  rw[e9] at hb
  simpa using hb
theorem jR.S8 (hw:eI T lw) {a:Nat} (ha:a<m) (h:jR T lw S [a] RG) {b c:Nat} (hb:T.cG b a) (hc:T.cG c a):∀sd,S sd→sd b=sd c:=by
 obtain⟨fA,b0,rfl,k2,k3,k4⟩:=h.bot a rfl ⟨b,hb.1⟩
 have key:∀{x:Nat},T.cG x a→∀sd,S sd→sd x=sd b0:=fun {x} hx sd aM=>by
  have e1:g lw x=g lw a:=by
   obtain⟨z,rz,ez⟩:=hw.att ha hx.1
   have h1:=hx.2 z rz
   rw[←hw.back hx.1,←hw.back rz] at h1
   have:=hw.low ha hx.1
   omega
  obtain⟨y,m1,m2,m3⟩:=h.rep a (by simp) x hx.1
  rw[ey] at m1
  rcases aal.1 m1 with m1|m1
  ·have:=k4 y m1
   omega
  ·have:y=b0:=by simpa[cH] using m1
   rw[m3 sd aM,this]
 exact fun sd aM=>(key hb sd aM).trans (key hc sd aM).symm
end
end Lt
end
section
namespace Lt
open Pl
structure dM {n m:Nat} (T:DF n m) (E:Env) (oe:Nat→List Nat) (hf:Nat→Int):Prop where
 lw:eI T E.lw
 h0:∀e,e<m→0≤hf e
 h2:∀e,e<m→(hf e).tdiv 2=(e:Int)
 «to» :∀e,e<m→NA E (hf e)=some (T.go e:Int)
 fr:∀e,e<m→Lh E (hf e)=some (T.fr e:Int)
 outs:∀v,v<n→E.outs[v]? =some ((oe v).map hf)
 mem:∀v e,e∈oe v↔e<m∧T.fr e=v
 nd:∀v,(oe v).Nodup
 CR:∀v,List.Pairwise (FX T E.lw) (oe v)
 az:∀v,v<n→bz E.az (v:Int)=some (T.az v)
 par:∀v,v<n→(∃a,a<m∧T.tree a=true∧T.go a=v∧bz E.par (v:Int)=some (hf a))∨((∀a,a<m→T.tree a=true→T.go a≠v)∧bz E.par (v:Int)=some (-1))
section
variable {n m:Nat} {T:DF n m} {E:Env} {oe:Nat→List Nat} {hf:Nat→Int} {seen:Nat→Prop} {RG:List cJ}
theorem dM.inj (h:dM T E oe hf) {e f:Nat} (he:e<m) (hf':f<m) (k:hf e=hf f):e=f:=by
 have h1:=h.h2 e he
 have h2:=h.h2 f hf'
 rw[k,h2] at h1
 omega
theorem dM.P9 (h:dM T E oe hf) {a:Nat} (ha:a<m) (ta:T.tree a=true):bz E.par (T.go a:Int)=some (hf a):=by
 rcases h.par (T.go a) (T.lt a ha).2 with ⟨b,k1,k2,k3,k4⟩|⟨k1,_⟩
 ·obtain rfl:=T.one b a k1 ha k2 ta k3
  exact k4
 ·exact absurd rfl (k1 a ha ta)
theorem dM.back (h:dM T E oe hf) {e:Nat} (he:e<m):back? E (hf e)=some (!T.tree e):=by
 unfold back?
 rw[h.to e he]
 show(bz E.par (T.go e:Int)).map _=_
 rcases h.par (T.go e) (T.lt e he).2 with ⟨b,k1,k2,k3,k4⟩|⟨k1,k2⟩
 ·rw[k4]
  show some (decide (hf b≠hf e))=_
  cases te:T.tree e with
  |true=>
   obtain rfl:=T.one b e k1 he k2 te k3
   simp
  |false=>
   have:hf b≠hf e:=fun k=>by
    obtain rfl:=h.inj k1 he k
    rw[te] at k2;cases k2
   simp[this]
 ·rw[k2]
  show some (decide (-1≠hf e))=_
  have:=h.h0 e he
  cases te:T.tree e with
  |true=>exact absurd rfl (k1 e he te)
  |false=>
   have:(-1:Int)≠hf e:=by omega
   simp[this]
theorem dM.beg (h:dM T E oe hf) {e:Nat} (he:e<m):yI E (hf e)=some (T.az (T.fr e)):=by
 unfold yI
 rw[h.fr e he]
 exact h.az _ (T.lt e he).1
theorem take_succ {l:List Nat} {k e:Nat} (h:l[k]? =some e):l.take (k+1)=l.take k++[e]:=by
 rw[abL,h]
 rfl
theorem wG {l:List Nat} {k e:Nat} (hn:l.Nodup) (h:l[k]? =some e):e∉l.take k:=fun hm=>by
 obtain⟨h1,h2⟩:=aas.1 h
 rw[←acR k l,abJ h1,h2] at hn
 exact(aa5.1 hn).2.2 e hm e aag rfl
structure Tc (T:DF n m) (E:Env) (D:List Nat) (v e:Nat) (st:TS) (seen:Nat→Prop) (S:(Nat→Bool)→Prop) (rest:List cJ) (aH fH:List Int) (fA:List cJ):Prop where
 lk:Lk m aH st.turn seen (fA++rest)
 sat:∀sd,Sat aH st.turn seen (fA++rest) sd→S sd
 nk:jR T E.lw (Sat aH st.turn seen (fA++rest)) (D++[e]) fA
 len:fH.length=m
 NY:∀x,¬(T.tree x=true∧T.go x=v)→g fH x=g st.lowest x
 lw:∀a,a<m→T.tree a=true→T.go a=v→∀b0,fA.getLast? =some ([],[b0])→g fH a=(b0:Int)
 Al:∀f∈D,∀sd,Sat aH st.turn seen (fA++rest) sd→LN T f e sd
theorem Ai (hE:dM T E oe hf) {st:TS} {v k e:Nat} {ws:List jC} {SG rest:List cJ} (xq:(oe v)[k]? =some e)
 (hst:st.stk=(SG++(RG++rest)).map cM) {vis:jC} (bB:st.way=vis::ws) (Eg:vis.2.2=top ((RG++rest).map cM)) (hk:Lk m st.like st.turn seen (SG++(RG++rest)))
 (hD:jR T E.lw (Sat st.like st.turn seen (SG++(RG++rest))) ((oe v).take k) RG) (he:jR T E.lw (Sat st.like st.turn seen (SG++(RG++rest))) [e] SG) (eK:st.lowest.length=m)
 (hlD:∀a,a<m→T.tree a=true→T.go a=v→∀b0,RG.getLast? =some ([],[b0])→g st.lowest a=(b0:Int)) (hle:∀b0,SG.getLast? =some ([],[b0])→g st.lowest e=(b0:Int)):
 (settle E st (hf e)=some none∧∀sd,¬T.LR sd)∨
 ∃aH fH fA,settle E st (hf e)=some (some { st with like:=aH,lowest:=fH,stk:=(fA++rest).map cM })∧Tc T E ((oe v).take k) v e st seen (Sat st.like st.turn seen (SG++(RG++rest))) rest aH fH fA:=by
 obtain⟨hem,pV⟩:=(hE.mem v e).1 (aaG xq)
 have dh:v<n:=by rw[←pV];exact(T.lt e hem).1
 have hw:=hE.lw
 have zy:∀f∈(oe v).take k,f<m∧T.fr f=v:=fun f hf=>(hE.mem v f).1 (ab9 hf)
 unfold settle
 rw[hE.h2 e hem,lW (by rw[hw.len];exact hem),hE.beg hem,pV]
 dsimp only
 by_cases hr:g E.lw e<T.az v
 ·rw[if_pos hr]
  have g8:∃x,T.aX e x:=by
   obtain⟨x,hx,_⟩:=hw.ex e hem (by rw[pV];exact hr)
   exact⟨x,hx⟩
  obtain⟨x,hx⟩:=g8
  obtain⟨a,lK,ta,ga⟩:=Aq hem hx
  rw[pV] at ga
  rw[hE.fr e hem,pV]
  have e1:(some (v:Int)).bind (bz E.par)=some (hf a):=by
   show bz E.par (v:Int)=_
   rw[←ga]
   exact hE.P9 lK ta
  have e2:((some (v:Int)).bind fun v=>E.outs[v.toNat]?.bind fun l=>l[0]?)=((oe v).map hf)[0]? :=by
   show(E.outs[((v:Int)).toNat]?.bind fun l=>l[0]?)=_
   rw[show((v:Int)).toNat=v from by simp,hE.outs v dh]
   rfl
  rw[e1,e2,aay]
  cases k with
  |zero=>
   rw[xq]
   show(_∨_)
   dsimp only[Option.map]
   rw[if_pos rfl,lW (by rw[eK];exact hem),hE.h2 a lK]
   dsimp only
   rw[mI (by rw[eK];exact lK)]
   have hRG:RG=[]:=hD.empty fun f hf=>by simp at hf
   subst hRG
   rw[aaE] at hst hk hD he ⊢
   refine .inr ⟨st.like,st.lowest.set a (g st.lowest e),SG,?_,hk,fun sd h=>h,?_,by rw[aaT];exact eK,fun x hx=>aU fun q=>hx (by rw[q];exact⟨ta,ga⟩),fun a' ha' Ac Lf b0 hb=> ?_,fun f hf=>by simp at hf⟩
   ·rw[←hst]
   ·simpa using he
   ·obtain rfl:=T.one a' a ha' lK Ac ta (Lf.trans ga.symm)
    rw[dW (by rw[eK];exact lK)]
    exact hle b0 hb
  |succ k=>
   obtain⟨d,hd⟩:∃d,(oe v)[0]? =some d:=⟨_,aac (by
    have:=(aas.1 xq).1
    omega)⟩
   rw[hd]
   dsimp only[Option.map]
   have RR:=(hE.mem v d).1 (aaG hd)
   have hlen:=(aas.1 xq).1
   have hnd:d≠e:=fun q=>by
    refine wG (hE.nd v) xq ?_
    rw[←q]
    refine ada ?_
    rw[List.head?_take,if_neg (by omega),List.head?_eq_getElem?,hd]
    rfl
   rw[if_neg (fun q=>hnd (hE.inj RR.1 hem q)),hE.h2 a lK]
   have aaK:((oe v).take (k+1)).head? =some d:=by
    rw[List.head?_take,if_neg (by omega),List.head?_eq_getElem?]
    exact hd
   have ae1:∀f∈(oe v).take (k+1),FX T E.lw f e:=fun f hf=>by
    have h1:=hE.CR v
    rw[←acR (k+1) (oe v)] at h1
    refine(abN.1 h1).2.2 f hf e ?_
    rw[abJ hlen,(aas.1 xq).2]
    exact aag
   have hmin:∀f∈oe v,g E.lw d≤g E.lw f:=fun f hf=>by
    have h1:=hE.CR v
    cases Bh:oe v with
    |nil=>rw[Bh] at hf;simp at hf
    |cons d' l=>
     rw[Bh] at hd h1 hf
     obtain rfl:d'=d:=by simpa using hd
     rcases aaj.1 hf with rfl|hf
     ·exact abE _
     ·exact((aa4.1 h1).1 f hf).1
   have hrd:∃x,T.aX d x:=by
    have h1:=hmin e (aaG xq)
    obtain⟨b,hb,_⟩:=hw.ex d RR.1 (by rw[RR.2];omega)
    exact⟨b,hb⟩
   have hla:=AU hw lK ta RR.1 (RR.2.trans ga.symm) (fun f hf ff=>hmin f ((hE.mem v f).2 ⟨hf,ff.trans ga⟩)) hrd
   rcases Dm (a:=a) (e1:=d) hw hst bB Eg hk (fun sd=>Iff.rfl) hD he hem (fun f hf=>(zy f hf).1) ⟨x,hx⟩ (fun f hf=>⟨(zy f hf).2.trans pV.symm,fun q=>wG (hE.nd v) xq (by rw[←q];exact hf)⟩) aaK ae1 lK hla (fun b0 hb=>by rw[lW (by rw[eK];exact lK),hlD a lK ta ga b0 hb]) (fun f hf=>hmin f (ab9 hf)) with h|⟨aH,fA,h1,h2,h3,h4,h5,h6⟩
   ·exact .inl h
   ·exact .inr ⟨aH,st.lowest,fA,h1,h2,h3,h4,eK,fun x _=>rfl,fun a' ha' Ac Lf b0 hb=>hlD a' ha' Ac Lf b0 (h5 b0 hb),h6⟩
 ·rw[if_neg hr]
  have hno:∀x,¬T.aX e x:=fun x hx=>by
   have h1:=hw.low hem hx
   have h2:=hw.lt hx
   rw[pV] at h2
   omega
  have hSG:SG=[]:=he.empty fun f hf=>by rw[aao.1 hf];exact hno
  subst hSG
  rw[aaE] at hst hk hD he ⊢
  refine .inr ⟨st.like,st.lowest,RG,by rw[←hst],hk,fun sd h=>h,hD.none hno,eK,fun x _=>rfl,hlD,fun f hf sd _=>⟨fun b c _ _ ⟨x,hx,_⟩=>absurd hx (hno x),fun b c hb=>absurd hb (hno b),fun b c _ ⟨x,hx,_⟩=>absurd hx (hno x)⟩⟩
end
end Lt
end
section
namespace Lt
open Pl
section
variable {n m:Nat} {T:DF n m} {lw:List Int} {sd:Nat→Bool}
def m7 (T:DF n m) (sd:Nat→Bool) (s:Bool) (e:Nat) (x:Int):Prop:=
 (x= -1∧∀b,T.aX e b→sd b≠s)∨∃b,T.aX e b∧sd b=s∧T.az (T.go b)=x∧∀c,T.aX e c→sd c=s→T.az (T.go c)≤x
theorem m7.gt {s:Bool} {e:Nat} {x k:Int} (h:m7 T sd s e x) (hk:0≤k):k<x↔∃b,T.aX e b∧sd b=s∧k<T.az (T.go b):=by
 rcases h with ⟨h1,h2⟩|⟨b,h1,h2,h3,h4⟩
 ·constructor
  ·intro q;omega
  ·rintro⟨b,q1,q2,_⟩
   exact absurd q2 (h2 b q1)
 ·constructor
  ·intro q
   exact⟨b,h1,h2,by omega⟩
  ·rintro⟨c,q1,q2,q3⟩
   have:=h4 c q1 q2
   omega
theorem m7.at {s:Bool} {e:Nat} {x k:Int} (h:m7 T sd s e x) (hk:0≤k) (hx:k<x):∃b,T.aX e b∧sd b=s∧T.az (T.go b)=x:=by
 rcases h with ⟨h1,h2⟩|⟨b,h1,h2,h3,h4⟩
 ·omega
 ·exact⟨b,h1,h2,h3⟩
theorem AL (hL:eI T lw) {e:Nat} (he:e<m):0≤g lw e:=by
 by_cases h:g lw e<T.az (T.fr e)
 ·obtain⟨b,hb,e1⟩:=hL.ex e he h
  rw[←e1]
  exact(T.low _ (T.lt b hb.1).2).1
 ·have:=(T.low _ (T.lt e he).1).1
  omega
theorem Hf (hL:eI T lw) {b:Nat} (hb:b<m) (tb:T.tree b=false):g lw b=T.az (T.go b):=by
 have hr:T.aX b b:=⟨hb,tb,.inl rfl⟩
 obtain⟨c,hc,e1⟩:=hL.ex b hb (by have:=hL.ret b b hb hr;have:=hr.lt;omega)
 obtain⟨_,_,q|⟨q,_⟩⟩:=hc
 ·rw[q]
  rw[←q]
  rw[←q] at e1
  exact e1.symm
 ·rw[tb] at q;cases q
theorem kZ (hL:eI T lw) {e f b:Nat} (hf:f<m) (hfr:T.fr e=T.fr f) (hb:T.aX e b):T.lN b f↔g lw f<T.az (T.go b):=by
 constructor
 ·rintro⟨c,hc,hlt⟩
  have:=hL.ret f c hf hc
  omega
 ·intro h
  have:=hb.lt
  rw[hfr] at this
  obtain⟨c,hc,e1⟩:=hL.ex f hf (by omega)
  exact⟨c,hc,by omega⟩
variable {L R:Nat→Int}
structure yM (T:DF n m) (sd:Nat→Bool) (L R:Nat→Int):Prop where
 l:∀e,e<m→m7 T sd false e (L e)
 r:∀e,e<m→m7 T sd true e (R e)
def sg (L R:Nat→Int) (e:Nat):Bool:= !decide (R e<L e)
theorem yM.any (h:yM T sd L R) {e:Nat} (he:e<m) {k:Int} (hk:0≤k) {b:Nat} (hb:T.aX e b) (hkb:k<T.az (T.go b)):k<max (L e) (R e):=by
 cases hs:sd b with
 |false=>
  have:=((h.l e he).gt hk).2 ⟨b,hb,hs,hkb⟩
  omega
 |true=>
  have:=((h.r e he).gt hk).2 ⟨b,hb,hs,hkb⟩
  omega
theorem yM.at (h:yM T sd L R) {e:Nat} (he:e<m) {k:Int} (hk:0≤k) (hx:k<max (L e) (R e)):∃b,T.aX e b∧sd b=sg L R e∧k<T.az (T.go b):=by
 unfold sg
 by_cases q:R e<L e
 ·obtain⟨b,h1,h2,h3⟩:=(h.l e he).at hk (by omega)
  exact⟨b,h1,by rw[h2];simp[q],by omega⟩
 ·obtain⟨b,h1,h2,h3⟩:=(h.r e he).at hk (by omega)
  exact⟨b,h1,by rw[h2];simp[q],by omega⟩
theorem DK (hL:eI T lw) (h:yM T sd L R) {e f:Nat} (he:e<m) (hf:f<m) (hfr:T.fr e=T.fr f):min (L e) (R e)≤g lw f↔∀b c,T.aX e b→T.aX e c→T.lN b f→T.lN c f→sd b=sd c:=by
 have h0:=AL hL hf
 constructor
 ·intro hm b c hb hc ab ac
  rw[kZ hL hf hfr hb] at ab
  rw[kZ hL hf hfr hc] at ac
  have k1:=(h.l e he).gt h0
  have k2:=(h.r e he).gt h0
  cases hsb:sd b<;>cases hsc:sd c
  ·rfl
  ·have:=k1.2 ⟨b,hb,hsb,ab⟩
   have:=k2.2 ⟨c,hc,hsc,ac⟩
   omega
  ·have:=k1.2 ⟨c,hc,hsc,ac⟩
   have:=k2.2 ⟨b,hb,hsb,ab⟩
   omega
  ·rfl
 ·intro hs
  refine Int.not_lt.1 fun hlt=> ?_
  obtain⟨b,b1,b2,b3⟩:=((h.l e he).gt h0).1 (by omega)
  obtain⟨c,c1,c2,c3⟩:=((h.r e he).gt h0).1 (by omega)
  have:=hs b c b1 c1 ((kZ hL hf hfr b1).2 b3) ((kZ hL hf hfr c1).2 c3)
  rw[b2,c2] at this
  cases this
theorem GK (hL:eI T lw) (h:yM T sd L R) {e f b:Nat} (he:e<m) (hf:f<m) (hm:min (L e) (R e)≤g lw f) (hb:T.aX e b) (hlt:g lw f<T.az (T.go b)):sd b=sg L R e:=by
 have h0:=AL hL hf
 unfold sg
 cases hs:sd b with
 |false=>
  have:=((h.l e he).gt h0).2 ⟨b,hb,hs,hlt⟩
  have q:R e<L e:=by omega
  simp[q]
 |true=>
  have:=((h.r e he).gt h0).2 ⟨b,hb,hs,hlt⟩
  have q:¬R e<L e:=by omega
  simp[q]
theorem qB (hL:eI T lw) (h:yM T sd L R) {e f:Nat} (he:e<m) (hf:f<m) (hfr:T.fr e=T.fr f) (h1:min (L e) (R e)≤g lw f) (h2:min (L f) (R f)≤g lw e) (hn:FX T lw e f):
 (sg L R e=sg L R f→max (L e) (R e)≤g lw f)↔∀b c,T.aX e b→T.lN b f→T.aX f c→T.lN c e→sd b≠sd c:=by
 have e0:=AL hL he
 have f0:=AL hL hf
 constructor
 ·intro hs b c hb ab hc ac hbc
  rw[kZ hL hf hfr hb] at ab
  rw[kZ hL he hfr.symm hc] at ac
  have k1:=GK hL h he hf h1 hb ab
  have k2:=GK hL h hf he h2 hc ac
  have:=hs (by rw[←k1,←k2,hbc])
  have:=h.any he f0 hb ab
  omega
 ·intro hu hs
  refine Int.not_lt.1 fun hlt=> ?_
  obtain⟨b,b1,b2,b3⟩:=h.at he f0 hlt
  have hx:g lw e<max (L f) (R f):=by
   have hlf:g lw f<T.az (T.fr f):=by
    have:=b1.lt
    rw[hfr] at this
    omega
   obtain⟨c0,c1,c2⟩:=hL.ex f hf hlf
   rcases Int.lt_or_eq_of_le hn.1 with q|q
   ·exact h.any hf e0 c1 (by omega)
   ·obtain⟨x,x1,x2⟩:=hn.2 q ⟨b,b1,by rw[Hf hL b1.1 b1.2.1];omega⟩
    rw[Hf hL x1.1 x1.2.1] at x2
    exact h.any hf e0 x1 (by omega)
  obtain⟨c,c1,c2,c3⟩:=h.at hf e0 hx
  exact hu b c b1 ((kZ hL hf hfr b1).2 b3) c1 ((kZ hL he hfr.symm c1).2 c3) (by rw[b2,c2,hs])
def ES (L R:Nat→Int):List Nat→Int×Int
 |[]=>(-1,-1)
 |e::l=>if R e<L e then (max (L e) (R e),(ES L R l).2) else ((ES L R l).1,max (L e) (R e))
def cur (L R:Nat→Int) (l:List Nat) (s:Bool):Int:=if s=true then (ES L R l).2 else (ES L R l).1
def wR (lw:Nat→Int) (L R:Nat→Int):List Nat→Prop
 |[]=>True
 |e::l=>cur L R l (sg L R e)≤lw e∧wR lw L R l
theorem OQ {e:Nat} {l:List Nat} {s:Bool}:cur L R (e::l) s=if sg L R e=s then max (L e) (R e) else cur L R l s:=by
 by_cases q:R e<L e<;>cases s<;>simp[cur,sg,ES,q]
theorem Eo {v:Nat→Int}:∀{l:List Nat},List.Pairwise (fun e f=>sg L R e=sg L R f→max (L f) (R f)≤v e) l→∀s,(cur L R l s= -1∧∀x∈l,sg L R x≠s)∨∃y∈l,sg L R y=s∧cur L R l s=max (L y) (R y)∧∀x∈l,sg L R x=s→x=y∨max (L x) (R x)≤v y:=by
 intro l
 induction l with
 |nil=>intro _ s;exact .inl ⟨by unfold cur ES;cases s<;>rfl,by simp⟩
 |cons e l ih=>
  intro hp s
  obtain⟨p1,p2⟩:=aa4.1 hp
  rw[OQ]
  by_cases q:sg L R e=s
  ·rw[if_pos q]
   refine .inr ⟨e,aag,q,rfl,fun x hx hs=> ?_⟩
   rcases aaj.1 hx with k|k
   ·exact .inl k
   ·exact .inr (p1 x k (by rw[q,hs]))
  ·rw[if_neg q]
   rcases ih p2 s with ⟨k1,k2⟩|⟨y,k1,k2,k3,k4⟩
   ·refine .inl ⟨k1,fun x hx=> ?_⟩
    rcases aaj.1 hx with k|k
    ·rw[k];exact q
    ·exact k2 x k
   ·refine .inr ⟨y,aah _ k1,k2,k3,fun x hx hs=> ?_⟩
    rcases aaj.1 hx with k|k
    ·rw[k] at hs;exact absurd hs q
    ·exact k4 x k hs
theorem Qg {v:Nat→Int}:∀{l:List Nat},(∀e∈l,0≤v e)→List.Pairwise (fun e f=>v f≤v e) l→(wR v L R l↔List.Pairwise (fun e f=>sg L R e=sg L R f→max (L f) (R f)≤v e) l):=by
 intro l
 induction l with
 |nil=>intro _ _;unfold wR;simp
 |cons e l ih=>
  intro h0 hs
  obtain⟨s1,s2⟩:=aa4.1 hs
  have h1:=ih (fun x hx=>h0 x (aah _ hx)) s2
  unfold wR
  rw[aa4,h1]
  constructor
  ·rintro⟨k1,k2⟩
   refine⟨fun f hf hsf=> ?_,k2⟩
   rcases Eo k2 (sg L R e) with ⟨q1,q2⟩|⟨y,q1,q2,q3,q4⟩
   ·exact absurd hsf.symm (q2 f hf)
   ·rw[q3] at k1
    rcases q4 f hf hsf.symm with z|z
    ·rw[z];exact k1
    ·exact adg z (s1 y q1)
  ·rintro⟨k1,k2⟩
   refine⟨?_,k2⟩
   rcases Eo k2 (sg L R e) with ⟨q1,q2⟩|⟨y,q1,q2,q3,q4⟩
   ·rw[q1]
    have:=h0 e aag
    omega
   ·rw[q3]
    exact k1 y q1 q2.symm
theorem Ms {l:List Nat} (h:l.Nodup) {i j:Nat} (hi:i<l.length) (hj:j<l.length) (e:l[i]=l[j]):i=j:=by
 rcases adw i j with q|q|q
 ·exact absurd e (abh.1 h i j hi hj q)
 ·exact q
 ·exact absurd e.symm (abh.1 h j i hj hi q)
def gj (v:Nat→Int) (l:List Nat) (i:Nat):Int:=v (if i=0 then l[1]?.getD 0 else l[0]?.getD 0)
def Az (v L R:Nat→Int) (l:List Nat) (i:Nat):Prop:=1<l.length→min (L (l[i]?.getD 0)) (R (l[i]?.getD 0))≤gj v l i
theorem Qh {v:Nat→Int} {l:List Nat} (hnd:l.Nodup) (hs:List.Pairwise (fun e f=>v e≤v f) l):(∀i,i<l.length→Az v L R l i)↔∀e∈l,∀f∈l,e≠f→min (L e) (R e)≤v f:=by
 have hle:∀i j (hi:i<l.length) (hj:j<l.length),i≤j→v l[i]≤v l[j]:=fun i j hi hj hij=>by
  rcases Nat.lt_or_eq_of_le hij with q|q
  ·exact abh.1 hs i j hi hj q
  ·subst q;exact abE _
 constructor
 ·intro h e he f hf hne
  obtain⟨i,hi,rfl⟩:=acd.1 he
  obtain⟨j,hj,rfl⟩:=acd.1 hf
  have hij:i≠j:=fun q=>hne (by subst q;rfl)
  have h1:=h i hi (by omega)
  unfold gj at h1
  rw[aac hi,aa8] at h1
  by_cases q:i=0
  ·rw[if_pos q,aac (by omega:1<l.length),aa8] at h1
   exact adg h1 (hle 1 j (by omega) hj (by omega))
  ·rw[if_neg q,aac (by omega:0<l.length),aa8] at h1
   exact adg h1 (hle 0 j (by omega) hj (by omega))
 ·intro h i hi hl
  unfold gj
  rw[aac hi,aa8]
  have hne:∀{j:Nat} (hj:j<l.length),i≠j→l[i]≠l[j]:=fun {j} hj q e=>q (Ms hnd hi hj e)
  by_cases q:i=0
  ·rw[if_pos q,aac (by omega:1<l.length),aa8]
   exact h _ (aaX hi) _ (aaX _) (hne _ (by omega))
  ·rw[if_neg q,aac (by omega:0<l.length),aa8]
   exact h _ (aaX hi) _ (aaX _) (hne _ (by omega))
def eE (v L R:Nat→Int) (l:List Nat):Prop:=(∀i,i<l.length→Az v L R l i)∧wR v L R l.reverse
theorem U3 (hL:eI T lw) (h:yM T sd L R) {oe:Nat→List Nat} (hm:∀v e,e∈oe v↔e<m∧T.fr e=v) (hnd:∀v,(oe v).Nodup) (hn:∀v,List.Pairwise (FX T lw) (oe v)):
 (∀v,v<n→eE (g lw) L R (oe v))↔T.LR sd:=by
 have hA:∀v,(∀i,i<(oe v).length→Az (g lw) L R (oe v) i)↔∀e∈oe v,∀f∈oe v,e≠f→min (L e) (R e)≤g lw f:=fun v=>Qh (hnd v) ((hn v).imp fun q=>q.1)
 have hB:∀v,wR (g lw) L R (oe v).reverse↔List.Pairwise (fun e f=>sg L R e=sg L R f→max (L e) (R e)≤g lw f) (oe v):=fun v=>by
  rw[Qg (fun e he=>AL hL ((hm v e).1 (List.mem_reverse.1 he)).1) (List.pairwise_reverse.2 ((hn v).imp fun q=>q.1)),List.pairwise_reverse]
  constructor
  ·exact fun q=>q.imp fun k hs=>k hs.symm
  ·exact fun q=>q.imp fun k hs=>k hs.symm
 constructor
 ·intro ha
  have key:∀{e f:Nat},e<m→f<m→e≠f→T.fr e=T.fr f→min (L e) (R e)≤g lw f:=fun {e f} he hf hne hfr=>
   (hA (T.fr e)).1 (ha _ (T.lt e he).1).1 e ((hm _ _).2 ⟨he,rfl⟩) f ((hm _ _).2 ⟨hf,hfr.symm⟩) hne
  refine⟨fun {e f b c} he hf hne hfr hb hc ab ac=>(DK hL h he hf hfr).1 (key he hf hne hfr) b c hb hc ab ac,fun {e f b c} he hf hne hfr hb ab hc ac=> ?_⟩
  have hp:=(hB (T.fr e)).1 (ha _ (T.lt e he).1).2
  have e1:e∈oe (T.fr e):=(hm _ _).2 ⟨he,rfl⟩
  have f1:f∈oe (T.fr e):=(hm _ _).2 ⟨hf,hfr.symm⟩
  have iQ:=hp.and (hn (T.fr e))
  obtain⟨i,hi,ei⟩:=acd.1 e1
  obtain⟨j,hj,ej⟩:=acd.1 f1
  rcases adw i j with q|q|q
  ·have:=abh.1 iQ i j hi hj q
   rw[ei,ej] at this
   exact(qB hL h he hf hfr (key he hf hne hfr) (key hf he (aaR hne) hfr.symm) this.2).1 this.1 b c hb ab hc ac
  ·subst q
   exact absurd (ei.symm.trans ej) hne
  ·have:=abh.1 iQ j i hj hi q
   rw[ei,ej] at this
   exact((qB hL h hf he hfr.symm (key hf he (aaR hne) hfr.symm) (key he hf hne hfr) this.2).1 this.1 c b hc ac hb ab).symm
 ·intro hlr v hv
  have key:∀e∈oe v,∀f∈oe v,e≠f→min (L e) (R e)≤g lw f:=fun e he f hf hne=>by
   obtain⟨e1,e2⟩:=(hm v e).1 he
   obtain⟨f1,f2⟩:=(hm v f).1 hf
   exact(DK hL h e1 f1 (by rw[e2,f2])).2 fun b c hb hc ab ac=>hlr.same e1 f1 hne (by rw[e2,f2]) hb hc ab ac
  refine⟨(hA v).2 key,(hB v).2 ?_⟩
  rw[abh]
  intro i j hi hj hij
  have hN:=abh.1 (hn v) i j hi hj hij
  have ie:=aaX hi
  have je:=aaX hj
  obtain⟨e1,e2⟩:=(hm v _).1 ie
  obtain⟨f1,f2⟩:=(hm v _).1 je
  have hne:(oe v)[i]≠(oe v)[j]:=fun q=>by
   have:=Ms (hnd v) hi hj q
   omega
  exact(qB hL h e1 f1 (by rw[e2,f2]) (key _ ie _ je hne) (key _ je _ ie (aaR hne)) hN).2 fun b c hb ab hc ac=>hlr.EM e1 f1 hne (by rw[e2,f2]) hb ab hc ac
end
end Lt
end
section
namespace Lt
open Pl
structure Lv where
 v:Nat
 k:Nat
 RG:List cJ
def flat (ls:List Lv):List cJ:=ls.flatMap Lv.RG
theorem bN (l:Lv) (ls:List Lv):flat (l::ls)=l.RG++flat ls:=by simp[flat]
def cC {n m:Nat} (T:DF n m) (G:List Nat) (x:Nat):Prop:=x∈G∧T.tree x=false
structure Jl {n m:Nat} (T:DF n m) (E:Env) (oe:Nat→List Nat) (lowest:List Int) (S:(Nat→Bool)→Prop) (l:Lv) (k:Nat):Prop where
 lt:l.v<n
 nk:jR T E.lw S ((oe l.v).take k) l.RG
 lw:∀a,a<m→T.tree a=true→T.go a=l.v→∀b0,l.RG.getLast? =some ([],[b0])→g lowest a=(b0:Int)
 Al:∀e∈(oe l.v).take k,∀f∈(oe l.v).take k,e≠f→∀sd,S sd→LN T e f sd
def zK {n m:Nat} (T:DF n m) (E:Env) (oe:Nat→List Nat) (lowest:List Int) (S:(Nat→Bool)→Prop):List Lv→List jC→Nat→Prop
 |[],[],v=>∀a,a<m→T.tree a=true→T.go a≠v
 |l::ls,w::ws,v=>(∃c k,l.k=k+1∧(oe l.v)[k]? =some c∧T.tree c=true∧T.go c=v∧Jl T E oe lowest S l k)∧w=((l.v:Int),(l.k:Int),top ((l.RG++flat ls).map cM))∧zK T E oe lowest S ls ws l.v
 |_,_,_=>False
def Way {n m:Nat} (T:DF n m) (E:Env) (oe:Nat→List Nat) (lowest:List Int) (S:(Nat→Bool)→Prop):List Lv→List jC→Prop
 |[],[]=>True
 |l::ls,w::ws=>(w.1=(l.v:Int)∧w.2.1=(l.k:Int))∧l.k≤(oe l.v).length∧Jl T E oe lowest S l l.k∧zK T E oe lowest S ls ws l.v
 |_,_=>False
structure Inv {n m:Nat} (T:DF n m) (E:Env) (oe:Nat→List Nat) (st:TS) (fin:Nat→Prop) (G:List Nat) (ls:List Lv):Prop where
 lk:Lk m st.like st.turn (cC T G) (flat ls)
 stk:st.stk=(flat ls).map cM
 len:st.lowest.length=m
 way:Way T E oe st.lowest (Sat st.like st.turn (cC T G) (flat ls)) ls st.way
 I0:G.Nodup
 gi:∀e,e∈G↔e<m∧(fin (T.fr e)∨∃l∈ls,l.v=T.fr e∧e∈(oe l.v).take l.k)
 vi:∀v,(fin v∨∃l∈ls,l.v=v)→∀e,e<m→T.tree e=true→T.go e=v→e∈G
 ln:(ls.map Lv.v).Nodup
 lf:∀l∈ls,¬fin l.v
 ti:∀e∈G,T.tree e=true→fin (T.go e)∨∃l∈ls,l.v=T.go e
 r1:∀v,fin v→∀e f,e<m→f<m→T.fr e=v→T.fr f=v→e≠f→∀sd,Sat st.like st.turn (cC T G) (flat ls) sd→LN T e f sd
 r2:∀a,a<m→T.tree a=true→fin (T.go a)→∀sd,Sat st.like st.turn (cC T G) (flat ls) sd→∀b c,T.cG b a→T.cG c a→sd b=sd c
section
variable {n m:Nat} {T:DF n m} {E:Env} {oe:Nat→List Nat} {hf:Nat→Int} {lowest fH:List Int} {S S':(Nat→Bool)→Prop} {l:Lv} {ls:List Lv} {ws:List jC} {v k:Nat}
theorem Jl.more (h:Jl T E oe lowest S l k) (hS:∀sd,S' sd→S sd) (hl:∀x,T.tree x=true→T.go x=l.v→g fH x=g lowest x):Jl T E oe fH S' l k:=
 ⟨h.lt,h.nk.more hS,fun a ha ta ga b0 hb=>by rw[hl a ta ga];exact h.lw a ha ta ga b0 hb,fun e he f hf hne sd aM=>h.Al e he f hf hne sd (hS sd aM)⟩
theorem zK.more (hS:∀sd,S' sd→S sd):∀{ls:List Lv} {ws:List jC} {v:Nat},zK T E oe lowest S ls ws v→(∀l∈ls,∀x,T.tree x=true→T.go x=l.v→g fH x=g lowest x)→zK T E oe fH S' ls ws v
 |[],[],_,h,_=>h
 |l::ls,w::ws,_,h,hl=>by
  obtain⟨⟨c,k,h1,h2,h3,h4,h5⟩,h6,h7⟩:=h
  exact⟨⟨c,k,h1,h2,h3,h4,h5.more hS (hl l aag)⟩,h6,zK.more hS h7 fun l' hl'=>hl l' (aah _ hl')⟩
 |[],_::_,_,h,_=>h.elim
 |_::_,[],_,h,_=>h.elim
theorem zK.low (hE:dM T E oe hf):∀{ls:List Lv} {ws:List jC} {v:Nat},zK T E oe lowest S ls ws v→v<n→(∀x∈cH (flat ls),g E.lw x+1<T.az v)∧(∀p∈flat ls,¬(p.1=[]∧p.2=[]))∧∀p∈flat ls,lO E.lw p.1∧lO E.lw p.2
 |[],[],_,_,_=>⟨fun x hx=>by simp[flat,cH] at hx,fun p hp=>by simp[flat] at hp,fun p hp=>by simp[flat] at hp⟩
 |l::ls,w::ws,v,h,hv=>by
  obtain⟨⟨c,k,h1,h2,h3,h4,h5⟩,h6,h7⟩:=h
  obtain⟨cm,cf⟩:=(hE.mem l.v c).1 (aaG h2)
  have eP:=(T.dN c cm h3).1
  rw[h4,cf] at eP
  obtain⟨i1,i2,i3⟩:=zK.low hE h7 h5.lt
  rw[bN]
  refine⟨fun x hx=> ?_,fun p hp=> ?_,fun p hp=> ?_⟩
  ·rw[ey] at hx
   rcases aal.1 hx with k1|k1
   ·obtain⟨f,hf',rf⟩:=h5.nk.mem x k1
    have:=hE.lw.lt rf
    rw[((hE.mem l.v f).1 (ab9 hf')).2] at this
    omega
   ·have:=i1 x k1
    omega
  ·rcases aal.1 hp with k1|k1
   ·exact h5.nk.ne p k1
   ·exact i2 p k1
  ·rcases aal.1 hp with k1|k1
   ·exact h5.nk.pg p k1
   ·exact i3 p k1
 |[],_::_,_,h,_=>h.elim
 |_::_,[],_,h,_=>h.elim
theorem pq {G:List Nat} {e:Nat} (te:T.tree e=true):cC T (e::G)=cC T G:=funext fun x=>propext ⟨fun ⟨h1,h2⟩=>⟨(aaj.1 h1).elim (fun q=>by rw[q,te] at h2;cases h2) id,h2⟩,fun ⟨h1,h2⟩=>⟨aah _ h1,h2⟩⟩
theorem Ak {G:List Nat} {e:Nat} (te:T.tree e=false):(fun x=>cC T G x∨x=e)=cC T (e::G):=funext fun x=>propext ⟨fun h=>h.elim (fun h=>⟨aah _ h.1,h.2⟩) (fun h=>by rw[h];exact⟨aag,te⟩),fun ⟨h1,h2⟩=>(aaj.1 h1).elim .inr fun h1=> .inl ⟨h1,h2⟩⟩
theorem Inv.fresh {st:TS} {fin:Nat→Prop} {G:List Nat} {e:Nat} (hE:dM T E oe hf) (h:Inv T E oe st fin G (l::ls)) (hk:(oe l.v)[l.k]? =some e):e∉G:=fun hG=>by
 obtain⟨em,ef⟩:=(hE.mem l.v e).1 (aaG hk)
 rcases((h.gi e).1 hG).2 with k|⟨l',h1,h2,h3⟩
 ·rw[ef] at k
  exact h.lf l aag k
 ·rcases aaj.1 h1 with rfl|h1
  ·exact wG (hE.nd _) hk h3
  ·have:=(aa0.1 h.ln).1
   exact this (aa2.2 ⟨l',h1,h2.trans ef⟩)
theorem gi_step {fin:Nat→Prop} {G:List Nat} {e:Nat} {RG fA:List cJ} (hE:dM T E oe hf) (hk:(oe v)[k]? =some e) (h:∀x,x∈G↔x<m∧(fin (T.fr x)∨∃l∈(⟨v,k,RG⟩::ls:List Lv),l.v=T.fr x∧x∈(oe l.v).take l.k)):∀x,x∈e::G↔x<m∧(fin (T.fr x)∨∃l∈(⟨v,k+1,fA⟩::ls:List Lv),l.v=T.fr x∧x∈(oe l.v).take l.k):=fun x=>by
 obtain⟨em,ef⟩:=(hE.mem v e).1 (aaG hk)
 rw[aaj,h x]
 constructor
 ·rintro(rfl|⟨h1,h2⟩)
  ·refine⟨em,.inr ⟨_,aag,ef.symm,?_⟩⟩
   dsimp only
   rw[take_succ hk]
   simp
  ·refine⟨h1,h2.imp id ?_⟩
   rintro⟨l,k1,k2,k3⟩
   rcases aaj.1 k1 with rfl|k1
   ·refine⟨_,aag,k2,?_⟩
    dsimp only at k3 ⊢
    rw[take_succ hk]
    exact aaN _ k3
   ·exact⟨l,aah _ k1,k2,k3⟩
 ·rintro⟨h1,h2⟩
  rcases h2 with h2|⟨l,k1,k2,k3⟩
  ·exact .inr ⟨h1,.inl h2⟩
  ·rcases aaj.1 k1 with rfl|k1
   ·dsimp only at k2 k3
    rw[take_succ hk] at k3
    rcases aal.1 k3 with k3|k3
    ·exact .inr ⟨h1,.inr ⟨_,aag,k2,k3⟩⟩
    ·exact .inl (aao.1 k3)
   ·exact .inr ⟨h1,.inr ⟨l,aah _ k1,k2,k3⟩⟩
def Next (T:DF n m) (E:Env) (oe:Nat→List Nat) (fin:Nat→Prop) (G:List Nat) (ls:List Lv) (r:Option (Option TS)):Prop:=
 (r=some none∧∀sd,¬T.LR sd)∨∃st' fin' G' ls',r=some (some st')∧Inv T E oe st' fin' G' ls'∧2*(m-G'.length)+ls'.length<2*(m-G.length)+ls.length∧(∀v,fin v→fin' v)∧(∀l∈ls,fin' l.v∨∃l'∈ls',l'.v=l.v)∧∀x,(fin' x∨∃l'∈ls',l'.v=x)→fin x∨(∃l∈ls,l.v=x)∨∃a,a<m∧T.tree a=true∧T.go a=x
theorem YM {fin:Nat→Prop} {G:List Nat} {st:TS} (h:Inv T E oe st fin G ls):G.length≤m:=fG h.I0 fun x hx=>((h.gi x).1 hx).1
theorem JY (hE:dM T E oe hf) {st:TS} {fin:Nat→Prop} {G:List Nat} {e:Nat} {RG:List cJ} {w:jC} (h:Inv T E oe st fin G (⟨v,k,RG⟩::ls)) (hw:st.way=w::ws) (hk:(oe v)[k]? =some e) (te:T.tree e=false):
 Next T E oe fin G (⟨v,k,RG⟩::ls) (yF E { st with way:=((v:Int),(k:Int)+1,top st.stk)::ws } (hf e)):=by
 obtain⟨em,ef⟩:=(hE.mem v e).1 (aaG hk)
 have KU:=h.fresh hE (e:=e) hk
 have bB:=h.way
 rw[hw] at bB
 obtain⟨-,cU,hlv,dg⟩:=bB
 unfold yF
 rw[hE.back em,te]
 dsimp only
 rw[hE.h2 e em,mI (by rw[h.len];exact em)]
 dsimp only
 have Fl:¬cC T G e:=fun q=>KU q.1
 have hlk:=h.lk.push em Fl
 rw[Ak te,bN] at hlk
 have aeB:Lk m st.like st.turn (cC T (e::G)) ([([],[e])]++(RG++flat ls)):=hlk
 have XL:∀sd,Sat st.like st.turn (cC T (e::G)) ([([],[e])]++(RG++flat ls)) sd→Sat st.like st.turn (cC T G) (flat (⟨v,k,RG⟩::ls)) sd:=fun sd aM=>by
  rw[bN]
  refine Sat.push (e:=e) ?_ Fl
  rw[Ak te]
  exact aM
 have MC:∀x,T.tree x=true→g (st.lowest.set e (e:Int)) x=g st.lowest x:=fun x tx=>aU fun q=>by rw[q,te] at tx;cases tx
 rcases Ai hE (v:=v) (k:=k) (e:=e) (RG:=RG) (rest:=flat ls) (SG:=[([],[e])]) (ws:=ws) (seen:=cC T (e::G)) (st:={ st with lowest:=st.lowest.set e (e:Int),stk:=(aO,((e:Int),(e:Int)))::st.stk,way:=((v:Int),(k:Int)+1,top st.stk)::ws }) hk
  (by
    show _::st.stk=_
    rw[h.stk,bN]
    rfl) rfl (by rw[h.stk,bN]) aeB (hlv.nk.more XL) (jR.back em te) (by show(st.lowest.set e (e:Int)).length=m;rw[aaT];exact h.len)
  (fun a ha ta ga b0 hb=>by rw[MC a ta];exact hlv.lw a ha ta ga b0 hb) (fun b0 hb=>by
    have hb':e=b0:=by simpa using hb
    rw[←hb']
    exact dW (by rw[h.len];exact em)) with ⟨k1,k2⟩|⟨aH,fH,fA,k1,k2⟩
 ·exact .inl ⟨k1,k2⟩
 ·refine .inr ⟨_,fin,e::G,⟨v,k+1,fA⟩::ls,k1,?_,?_,fun _ q=>q,fun l hl=> ?_,fun x hx=> ?_⟩
  ·have Lc:∀sd,Sat aH st.turn (cC T (e::G)) (flat (⟨v,k+1,fA⟩::ls)) sd→Sat st.like st.turn (cC T G) (flat (⟨v,k,RG⟩::ls)) sd:=fun sd aM=>by
    rw[bN] at aM
    exact XL sd (k2.sat sd aM)
   refine⟨?_,?_,k2.len,?_,aa0.2 ⟨KU,h.I0⟩,gi_step hE hk h.gi,fun x hx y ym ty gy=>aah _ (h.vi x ?_ y ym ty gy),h.ln,fun l hl=> ?_,fun x hx tx=> ?_,fun x hx y z ym zm yf zf hne sd aM=>h.r1 x hx y z ym zm yf zf hne sd (Lc sd aM),fun a am ta fa sd aM=>h.r2 a am ta fa sd (Lc sd aM)⟩
   ·rw[bN];exact k2.lk
   ·rw[bN]
   ·refine⟨⟨rfl,by simp⟩,?_,⟨hlv.lt,?_,k2.lw,?_⟩,?_⟩
    ·have:=(aas.1 hk).1
     exact this
    ·dsimp only
     rw[take_succ hk,bN]
     exact k2.nk
    ·intro x hx y hy hne sd aM
     dsimp only at hx hy
     rw[take_succ hk] at hx hy
     have QI:=Lc sd aM
     rw[bN] at aM
     rcases aal.1 hx with hx|hx<;>rcases aal.1 hy with hy|hy
     ·exact hlv.Al x hx y hy hne sd QI
     ·rw[aao.1 hy]
      exact k2.Al x hx sd aM
     ·rw[aao.1 hx]
      exact(k2.Al y hy sd aM).symm
     ·exact absurd ((aao.1 hx).trans (aao.1 hy).symm) hne
    ·refine dg.more Lc fun l hl x tx gx=> ?_
     rw[k2.NY x fun q=> ?_]
     ·exact MC x tx
     ·have:=(aa0.1 h.ln).1
      exact this (aa2.2 ⟨l,hl,gx.symm.trans q.2⟩)
   ·rcases hx with hx|⟨l,hl,hx⟩
    ·exact .inl hx
    ·rcases aaj.1 hl with rfl|hl
     ·exact .inr ⟨_,aag,hx⟩
     ·exact .inr ⟨l,aah _ hl,hx⟩
   ·rcases aaj.1 hl with rfl|hl
    ·exact h.lf ⟨v,k,RG⟩ aag
    ·exact h.lf l (aah _ hl)
   ·rcases aaj.1 hx with rfl|hx
    ·rw[te] at tx;cases tx
    ·rcases h.ti x hx tx with q|⟨l,hl,q⟩
     ·exact .inl q
     ·rcases aaj.1 hl with rfl|hl
      ·exact .inr ⟨_,aag,q⟩
      ·exact .inr ⟨l,aah _ hl,q⟩
  ·have h1:=YM h
   have h2:(e::G).length≤m:=fG (aa0.2 ⟨KU,h.I0⟩) fun x hx=>by
    rcases aaj.1 hx with rfl|hx
    ·exact em
    ·exact((h.gi x).1 hx).1
   simp only[aar] at h2 ⊢
   omega
  ·rcases aaj.1 hl with rfl|hl
   ·exact .inr ⟨_,aag,rfl⟩
   ·exact .inr ⟨l,aah _ hl,rfl⟩
  ·rcases hx with hx|⟨l,hl,hx⟩
   ·exact .inl hx
   ·rcases aaj.1 hl with rfl|hl
    ·exact .inr (.inl ⟨_,aag,hx⟩)
    ·exact .inr (.inl ⟨l,aah _ hl,hx⟩)
end
end Lt
end
end Go.Proofs.YtdjmnpmdmjclhabGreat
