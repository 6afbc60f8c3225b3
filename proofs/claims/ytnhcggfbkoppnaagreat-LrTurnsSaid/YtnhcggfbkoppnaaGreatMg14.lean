import Derived.Test.YtnhcggfbkoppnaaGreatMg13
namespace Go.Proofs.YtnhcggfbkoppnaaGreat
section
namespace Lt
open Pl
section
variable {n m:Nat} {T:DF n m} {lw:List Int} {S:(Nat→Bool)→Prop} {D:List Nat} {RG:List cI} {h:Int}
theorem hangs {w v:Nat} (hw:w<n) (hv:v<n) (ha:T.bP w v) (hne:w≠v):∃a,a<m∧T.tree a=true∧T.go a=v:=by
 have step:∀(d:Nat) (k:Nat),k<m→T.tree k=true→T.bP (T.go k) v→T.ay v≤T.ay (T.go k)+d→∃e,e<m∧T.tree e=true∧T.go e=v:=by
  intro d
  induction d with
  |zero=>
   intro k hk tk ak hd
   by_cases e1:T.go k=v
   ·exact⟨k,hk,tk,e1⟩
   ·have:=T.up (T.lt k hk).2 hv ak e1
    omega
  |succ d ih=>
   intro k hk tk ak hd
   by_cases e1:T.go k=v
   ·exact⟨k,hk,tk,e1⟩
   ·obtain⟨k',hk',tk',fk',ak'⟩:=T.child (T.lt k hk).2 hv ak e1
    have e3:=(T.dP k' hk' tk').1
    rw[fk'] at e3
    exact ih k' hk' tk' ak' (by omega)
 obtain⟨k,hk,tk,fk,ak⟩:=T.child hw hv ha hne
 have:=T.low v hv
 have:=T.low _ (T.lt k hk).2
 exact step n k hk tk ak (by omega)
theorem zW {e x:Nat} (he:e<m) (hr:T.aY e x):∃a,a<m∧T.tree a=true∧T.go a=T.fr e:=by
 have hlt:=hr.lt
 obtain⟨hx,tx,k⟩:=hr
 have hb:=T.back x hx tx
 rcases k with rfl|⟨te,ka,kh⟩
 ·exact hangs (T.lt e he).2 (T.lt e he).1 hb.1 hb.2
 ·have eP:=(T.dP e he te)
  have h1:=T.trans eP.2 ka
  have h2:=T.cmp (T.lt x hx).2 (T.lt e he).1 (T.lt x hx).1 hb.1 h1 (by omega)
  exact hangs (T.lt x hx).2 (T.lt e he).1 h2 (fun q=>by rw[q] at hlt;omega)
theorem wz {a x:Nat} (ha:a<m) (ta:T.tree a=true) (hr:T.aY a x):∃f,f<m∧T.fr f=T.go a∧T.aY f x:=by
 have hl:=DF.Dm ta hr
 obtain⟨hx,tx,_⟩:=hr
 have eP:=(T.dP a ha ta).1
 by_cases e:T.go a=T.fr x
 ·exact⟨x,hx,e.symm,hx,tx,.inl rfl⟩
 ·obtain⟨k,hk,tk,fk,ak⟩:=T.child (T.lt a ha).2 (T.lt x hx).1 hl.1 e
  exact⟨k,hk,fk,hx,tx,.inr ⟨tk,ak,by rw[fk];omega⟩⟩
theorem EC {a f x:Nat} (ha:a<m) (ta:T.tree a=true) (hf:f<m) (hfr:T.fr f=T.go a) (hr:T.aY f x) (hh:T.ay (T.go x)<T.ay (T.fr a)):T.aY a x:=by
 obtain⟨hx,tx,k⟩:=hr
 refine⟨hx,tx,.inr ⟨ta,?_,hh⟩⟩
 rcases k with rfl|⟨tf,kf,_⟩
 ·rw[hfr];exact T.refl _ (T.lt a ha).2
 ·rw[←hfr];exact T.trans (T.dP f hf tf).2 kf
theorem Ao (hw:eI T lw) {a e1:Nat} (ha:a<m) (ta:T.tree a=true) (he:e1<m) (hfr:T.fr e1=T.go a) (hmin:∀f,f<m→T.fr f=T.go a→g lw e1≤g lw f) (hr:∃x,T.aY e1 x):g lw a=g lw e1:=by
 obtain⟨x,hx⟩:=hr
 obtain⟨b,hb,eb⟩:=hw.att he hx
 have eP:=(T.dP a ha ta).1
 have h1:=hw.lt hb
 rw[hfr,eP] at h1
 have h2:=hw.le a ha
 have h3:g lw a≤g lw e1:=by
  by_cases k:g lw b<T.ay (T.fr a)
  ·have:=hw.low ha (EC ha ta he hfr hb (by rw[←hw.back hb];exact k))
   omega
  ·omega
 have h4:g lw e1≤g lw a:=by
  by_cases k:g lw a<T.ay (T.fr a)
  ·obtain⟨c,hc,ec⟩:=hw.ex a ha k
   obtain⟨f,hf,ff,rf⟩:=wz ha ta hc
   have:=hmin f hf ff
   have:=hw.low hf rf
   rw[hw.back rf] at this
   omega
  ·omega
 omega
theorem Fk:∀{l:List Nat},lB lw l→(∀x∈l,g lw x≤h)→∀x,x∈l.dropWhile (fM lw h)↔x∈l∧g lw x≠h
 |[],_,_,x=>by simp
 |y::l,hs,hm,x=>by
  have hs':=List.pairwise_cons.1 hs
  by_cases e:g lw y=h
  ·rw[List.dropWhile_cons_of_pos (by simp[fM,e]),Fk hs'.2 (fun z hz=>hm z (List.mem_cons_of_mem _ hz)) x]
   constructor
   ·exact fun k=>⟨List.mem_cons_of_mem _ k.1,k.2⟩
   ·rintro⟨k1,k2⟩
    rcases List.mem_cons.1 k1 with rfl|k1
    ·exact absurd e k2
    ·exact⟨k1,k2⟩
  ·rw[List.dropWhile_cons_of_neg (by simp[fM,e])]
   refine⟨fun k=>⟨k,?_⟩,fun k=>k.1⟩
   have:=hm y List.mem_cons_self
   rcases List.mem_cons.1 k with rfl|k
   ·exact e
   ·have:=hs'.1 x k
    omega
theorem Pu {p:cI} (hm:∀x∈p.1++p.2,g lw x≤h) (hn:¬ju lw h p=true):∃z∈p.1++p.2,g lw z<h:=Classical.byContradiction fun k=>hn (by
 unfold ju
 rw[Bool.and_eq_true]
 refine⟨gC.2 fun x hx=> ?_,gC.2 fun x hx=> ?_⟩
 ·have h1:=hm x (List.mem_append_left _ hx)
  have h2:¬g lw x<h:=fun q=>k ⟨x,List.mem_append_left _ hx,q⟩
  omega
 ·have h1:=hm x (List.mem_append_right _ hx)
  have h2:¬g lw x<h:=fun q=>k ⟨x,List.mem_append_right _ hx,q⟩
  omega)
theorem tU:∀{RG:List cI},Ec lw RG→(∀p∈RG,lB lw p.1∧lB lw p.2)→(∀x∈cG RG,g lw x≤h)→∀x,x∈cG (cV lw h RG)↔x∈cG RG∧g lw x≠h
 |[],_,_,_,x=>by simp[cV,cG]
 |p::ps,hm,hs,hle,x=>by
  have hm':=List.pairwise_cons.1 hm
  unfold cV
  have hp:∀x∈p.1++p.2,g lw x≤h:=fun x hx=>hle x (by rw[aG,←List.append_assoc];exact List.mem_append_left _ hx)
  by_cases e:ju lw h p=true
  ·rw[if_pos e,tU hm'.2 (fun q hq=>hs q (List.mem_cons_of_mem _ hq)) (fun x hx=>hle x (by rw[aG];simp[hx])) x]
   unfold ju at e
   rw[Bool.and_eq_true] at e
   rw[aG]
   simp only[List.mem_append]
   constructor
   ·exact fun k=>⟨.inr (.inr k.1),k.2⟩
   ·rintro⟨k|k|k,k2⟩
    ·exact absurd (gC.1 e.1 x k) k2
    ·exact absurd (gC.1 e.2 x k) k2
    ·exact⟨k,k2⟩
  ·rw[if_neg e,aG,aG]
   dsimp only
   simp only[List.mem_append]
   rw[Fk (hs p List.mem_cons_self).1 (fun y hy=>hp y (by simp[hy])),Fk (hs p List.mem_cons_self).2 (fun y hy=>hp y (by simp[hy]))]
   obtain⟨z,hz,gz⟩:=Pu hp e
   have dZ:∀y∈cG ps,g lw y≠h:=fun y hy=>by
    obtain⟨q,hq,J5⟩:=bk.1 hy
    have:=hm'.1 q hq z hz y (List.mem_append.2 J5)
    omega
   constructor
   ·rintro(k|k|k)
    ·exact⟨.inl k.1,k.2⟩
    ·exact⟨.inr (.inl k.1),k.2⟩
    ·exact⟨.inr (.inr k),dZ x k⟩
   ·rintro⟨k|k|k,k2⟩
    ·exact .inl ⟨k,k2⟩
    ·exact .inr (.inl ⟨k,k2⟩)
    ·exact .inr (.inr k)
theorem tT:∀{RG:List cI},(∀x∈cG RG,g lw x≤h)→∀q∈cV lw h RG,∃p∈RG,List.Sublist q.1 p.1∧List.Sublist q.2 p.2
 |[],_,q,hq=>by simp[cV] at hq
 |p::ps,hle,q,hq=>by
  unfold cV at hq
  split at hq
  ·obtain⟨p',k1,k2⟩:=tT (fun x hx=>hle x (by rw[aG];simp[hx])) q hq
   exact⟨p',List.mem_cons_of_mem _ k1,k2⟩
  ·rcases List.mem_cons.1 hq with rfl|hq
   ·exact⟨p,List.mem_cons_self,List.dropWhile_sublist _,List.dropWhile_sublist _⟩
   ·exact⟨q,List.mem_cons_of_mem _ hq,List.Sublist.refl _,List.Sublist.refl _⟩
theorem D9:∀{RG:List cI},(∀p∈RG,¬(p.1=[]∧p.2=[]))→∀q∈cV lw h RG,¬(q.1=[]∧q.2=[])
 |[],_,q,hq=>by simp[cV] at hq
 |p::ps,hne,q,hq=>by
  unfold cV at hq
  split at hq
  ·exact D9 (fun p hp=>hne p (List.mem_cons_of_mem _ hp)) q hq
  ·rename_i hn
   rcases List.mem_cons.1 hq with rfl|hq
   ·rintro⟨k1,k2⟩
    dsimp only at k1 k2
    refine hn ?_
    unfold ju
    rw[Bool.and_eq_true]
    exact⟨gC.2 (zn.1 k1),gC.2 (zn.1 k2)⟩
   ·exact hne q (List.mem_cons_of_mem _ hq)
theorem yg:∀{RG:List cI},Ec lw RG→Ec lw (cV lw h RG)
 |[],_=>List.Pairwise.nil
 |p::ps,hm=>by
  have hm':=List.pairwise_cons.1 hm
  unfold cV
  split
  ·exact yg hm'.2
  ·refine List.pairwise_cons.2 ⟨fun q hq x hx y hy=>hm'.1 q hq x ?_ y hy,hm'.2⟩
   dsimp only at hx
   rcases List.mem_append.1 hx with k|k
   ·exact List.mem_append_left _ ((List.dropWhile_sublist _).subset k)
   ·exact List.mem_append_right _ ((List.dropWhile_sublist _).subset k)
theorem pX {rest:List cI} (hr:∀p∈rest,¬(p.1=[]∧p.2=[])) (hl:∀x∈cG rest,g lw x<h):∀(RG:List cI),cV lw h (RG++rest)=cV lw h RG++rest
 |[]=>by
  cases rest with
  |nil=>rfl
  |cons p ps=>
   have hp:∀x,x∈p.1∨x∈p.2→g lw x<h:=fun x hx=>hl x (bk.2 ⟨p,List.mem_cons_self,hx⟩)
   have keep:∀{l:List Nat},(∀x∈l,g lw x<h)→l.dropWhile (fM lw h)=l:=fun {l} hk=>by
    cases l with
    |nil=>rfl
    |cons x l=>
     have:=hk x List.mem_cons_self
     rw[List.dropWhile_cons_of_neg (by simp[fM];omega)]
   have hn:¬ju lw h p=true:=fun k=>by
    unfold ju at k
    rw[Bool.and_eq_true] at k
    refine hr p List.mem_cons_self ⟨?_,?_⟩
    ·cases h1:p.1 with
     |nil=>rfl
     |cons x l=>
      have:=gC.1 k.1 x (by rw[h1];simp)
      have:=hp x (.inl (by rw[h1];simp))
      omega
    ·cases h1:p.2 with
     |nil=>rfl
     |cons x l=>
      have:=gC.1 k.2 x (by rw[h1];simp)
      have:=hp x (.inr (by rw[h1];simp))
      omega
   show cV lw h (p::ps)=p::ps
   unfold cV
   rw[if_neg hn,keep (fun x hx=>hp x (.inl hx)),keep (fun x hx=>hp x (.inr hx))]
 |p::RG=>by
  rw[List.cons_append]
  unfold cV
  split
  ·exact pX hr hl RG
  ·rfl
theorem jJ.trim (hw:eI T lw) (hD:jJ T lw S D RG) {a:Nat} (ha:a<m) (ta:T.tree a=true) (hmem:∀f,f∈D↔f<m∧T.fr f=T.go a) (hmin:∀e1,D.head? =some e1→∀f∈D,g lw e1≤g lw f):
 jJ T lw S [a] (cV lw (T.ay (T.fr a)) RG)∧(∀x∈cG RG,g lw x≤T.ay (T.fr a))∧∀b0,(cV lw (T.ay (T.fr a)) RG).getLast? =some ([],[b0])→RG.getLast? =some ([],[b0]):=by
 have eP:=(T.dP a ha ta).1
 have hle:∀x∈cG RG,g lw x≤T.ay (T.fr a):=fun x hx=>by
  obtain⟨f,hf,rf⟩:=hD.mem x hx
  have:=hw.lt rf
  rw[((hmem f).1 hf).2,eP] at this
  omega
 have hmm:=tU hD.mono hD.o7 hle
 have gY:∀y,y∈cG (cV lw (T.ay (T.fr a)) RG)→T.aY a y:=fun y hy=>by
  obtain⟨k1,k2⟩:=(hmm y).1 hy
  obtain⟨f,hf,rf⟩:=hD.mem y k1
  have:=hle y k1
  exact EC ha ta ((hmem f).1 hf).1 ((hmem f).1 hf).2 rf (by rw[←hw.back rf];omega)
 have DM:(∃x,T.aY a x)→∃fA b0,RG=fA++[([],[b0])]∧T.aY a b0∧g lw b0=g lw a∧(∀y∈cG fA,g lw a<g lw y)∧g lw b0<T.ay (T.fr a):=fun ⟨x,hx⟩=>by
  obtain⟨f,hf,ff,rf⟩:=wz ha ta hx
  have hfD:=(hmem f).2 ⟨hf,ff⟩
  obtain⟨e1,h1⟩:∃e1,D.head? =some e1:=by
   cases D with
   |nil=>simp at hfD
   |cons d D=>exact⟨d,rfl⟩
  have aA:e1∈D:=List.mem_of_mem_head? (by rw[h1];rfl)
  obtain⟨e1m,e1f⟩:=(hmem e1).1 aA
  have hmn:=hmin e1 h1
  have r1:∃x,T.aY e1 x:=by
   have h2:=hw.low hf rf
   have h3:=hw.lt rf
   have h4:=hmn f hfD
   obtain⟨b,hb,_⟩:=hw.ex e1 e1m (by rw[e1f,←ff];omega)
   exact⟨b,hb⟩
  have hla:=Ao hw ha ta e1m e1f (fun f hf ff=>hmn f ((hmem f).2 ⟨hf,ff⟩)) r1
  obtain⟨fA,b0,k1,k2,k3,k4⟩:=hD.bot e1 h1 r1
  have h5:=hw.low ha hx
  have h6:=hw.lt hx
  have h7:g lw b0<T.ay (T.fr a):=by omega
  exact⟨fA,b0,k1,EC ha ta e1m e1f k2 (by rw[←hw.back k2];exact h7),by omega,fun y hy=>by have:=k4 y hy;omega,h7⟩
 refine⟨⟨fun y hy=>⟨a,by simp,gY y hy⟩,fun f hf x hx=> ?_,yg hD.mono,fun q hq=> ?_,D9 hD.ne,fun sd aN q hq=> ?_,fun e1 h1 hx=> ?_⟩,hle,fun b0 hb=> ?_⟩
 ·rw[List.mem_singleton.1 hf] at hx
  obtain⟨f',hf',ff',YF⟩:=wz ha ta hx
  obtain⟨y,k1,k2,k3⟩:=hD.rep f' ((hmem f').2 ⟨hf',ff'⟩) x YF
  have:=hw.lt hx
  exact⟨y,(hmm y).2 ⟨k1,by omega⟩,k2,k3⟩
 ·obtain⟨p,hp,k1,k2⟩:=tT hle q hq
  exact⟨(hD.o7 p hp).1.sublist k1,(hD.o7 p hp).2.sublist k2⟩
 ·obtain⟨p,hp,k1,k2⟩:=tT hle q hq
  obtain⟨f1,f2,f3⟩:=hD.Fc sd aN p hp
  exact⟨fun x hx y hy=>f1 x (k1.subset hx) y (k1.subset hy),fun x hx y hy=>f2 x (k2.subset hx) y (k2.subset hy),fun x hx y hy=>f3 x (k1.subset hx) y (k2.subset hy)⟩
 ·obtain rfl:a=e1:=by simpa using h1
  obtain⟨fA,b0,rfl,k2,k3,k4,k5⟩:=DM hx
  have e9:=pX (lw:=lw) (h:=T.ay (T.fr a)) (rest:=[([],[b0])]) (fun p hp=>by rw[List.mem_singleton.1 hp];simp) (fun x hx=>by
   have:x=b0:=by simpa[cG] using hx
   rw[this];exact k5) fA
  refine⟨cV lw (T.ay (T.fr a)) fA,b0,e9,k2,k3,fun y hy=>k4 y ?_⟩
  have hm2:=(List.pairwise_append.1 hD.mono).1
  exact((tU hm2 (fun p hp=>hD.o7 p (by simp[hp])) (fun x hx=>hle x (by rw[ey];simp[hx])) y).1 hy).1
 ·have hin:b0∈cG (cV lw (T.ay (T.fr a)) RG):=bk.2 ⟨([],[b0]),List.mem_of_getLast? hb,.inr (by simp)⟩
  obtain⟨fA,b1,rfl,k2,k3,k4,k5⟩:=DM ⟨b0,gY b0 hin⟩
  have e9:=pX (lw:=lw) (h:=T.ay (T.fr a)) (rest:=[([],[b1])]) (fun p hp=>by rw[List.mem_singleton.1 hp];simp) (fun x hx=>by
   have:x=b1:=by simpa[cG] using hx
   rw[this];exact k5) fA
  rw[e9] at hb
  simpa using hb
theorem jJ.R9 (hw:eI T lw) {a:Nat} (ha:a<m) (h:jJ T lw S [a] RG) {b c:Nat} (hb:T.ct b a) (hc:T.ct c a):∀sd,S sd→sd b=sd c:=by
 obtain⟨fA,b0,rfl,k2,k3,k4⟩:=h.bot a rfl ⟨b,hb.1⟩
 have key:∀{x:Nat},T.ct x a→∀sd,S sd→sd x=sd b0:=fun {x} hx sd aN=>by
  have e1:g lw x=g lw a:=by
   obtain⟨z,rz,ez⟩:=hw.att ha hx.1
   have h1:=hx.2 z rz
   rw[←hw.back hx.1,←hw.back rz] at h1
   have:=hw.low ha hx.1
   omega
  obtain⟨y,m1,m2,m3⟩:=h.rep a (by simp) x hx.1
  rw[ey] at m1
  rcases List.mem_append.1 m1 with m1|m1
  ·have:=k4 y m1
   omega
  ·have:y=b0:=by simpa[cG] using m1
   rw[m3 sd aN,this]
 exact fun sd aN=>(key hb sd aN).trans (key hc sd aN).symm
end
end Lt
end
section
namespace Lt
open Pl
structure dN {n m:Nat} (T:DF n m) (E:Env) (oe:Nat→List Nat) (hf:Nat→Int):Prop where
 lw:eI T E.lw
 h0:∀e,e<m→0≤hf e
 h2:∀e,e<m→(hf e).tdiv 2=(e:Int)
 «to»:∀e,e<m→MU E (hf e)=some (T.go e:Int)
 fr:∀e,e<m→KI E (hf e)=some (T.fr e:Int)
 outs:∀v,v<n→E.outs[v]? =some ((oe v).map hf)
 mem:∀v e,e∈oe v↔e<m∧T.fr e=v
 nd:∀v,(oe v).Nodup
 Cq:∀v,List.Pairwise (Fx T E.lw) (oe v)
 ay:∀v,v<n→bz E.ay (v:Int)=some (T.ay v)
 par:∀v,v<n→(∃a,a<m∧T.tree a=true∧T.go a=v∧bz E.par (v:Int)=some (hf a))∨((∀a,a<m→T.tree a=true→T.go a≠v)∧bz E.par (v:Int)=some (-1))
section
variable {n m:Nat} {T:DF n m} {E:Env} {oe:Nat→List Nat} {hf:Nat→Int} {seen:Nat→Prop} {RG:List cI}
theorem dN.inj (h:dN T E oe hf) {e f:Nat} (he:e<m) (hf':f<m) (k:hf e=hf f):e=f:=by
 have h1:=h.h2 e he
 have h2:=h.h2 f hf'
 rw[k,h2] at h1
 omega
theorem dN.Pe (h:dN T E oe hf) {a:Nat} (ha:a<m) (ta:T.tree a=true):bz E.par (T.go a:Int)=some (hf a):=by
 rcases h.par (T.go a) (T.lt a ha).2 with ⟨b,k1,k2,k3,k4⟩|⟨k1,_⟩
 ·obtain rfl:=T.one b a k1 ha k2 ta k3
  exact k4
 ·exact absurd rfl (k1 a ha ta)
theorem dN.back (h:dN T E oe hf) {e:Nat} (he:e<m):back? E (hf e)=some (!T.tree e):=by
 unfold back?
 rw[h.to e he]
 show(bz E.par (T.go e:Int)).map _=_
 rcases h.par (T.go e) (T.lt e he).2 with ⟨b,k1,k2,k3,k4⟩|⟨k1,k2⟩
 ·rw[k4]
  show some (decide (hf b≠hf e))=_
  cases te:T.tree e with
  |true=>
   obtain rfl:=T.one b e k1 he k2 te k3
   simp
  |false=>
   have:hf b≠hf e:=fun k=>by
    obtain rfl:=h.inj k1 he k
    rw[te] at k2;cases k2
   simp[this]
 ·rw[k2]
  show some (decide (-1≠hf e))=_
  have:=h.h0 e he
  cases te:T.tree e with
  |true=>exact absurd rfl (k1 e he te)
  |false=>
   have:(-1:Int)≠hf e:=by omega
   simp[this]
theorem dN.beg (h:dN T E oe hf) {e:Nat} (he:e<m):ya E (hf e)=some (T.ay (T.fr e)):=by
 unfold ya
 rw[h.fr e he]
 exact h.ay _ (T.lt e he).1
theorem take_succ {l:List Nat} {k e:Nat} (h:l[k]? =some e):l.take (k+1)=l.take k++[e]:=by
 rw[List.take_add_one,h]
 rfl
theorem vW {l:List Nat} {k e:Nat} (hn:l.Nodup) (h:l[k]? =some e):e∉l.take k:=fun hm=>by
 obtain⟨h1,h2⟩:=List.getElem?_eq_some_iff.1 h
 rw[←List.take_append_drop k l,List.drop_eq_getElem_cons h1,h2] at hn
 exact(List.nodup_append.1 hn).2.2 e hm e List.mem_cons_self rfl
structure Sd (T:DF n m) (E:Env) (D:List Nat) (v e:Nat) (st:TS) (seen:Nat→Prop) (S:(Nat→Bool)→Prop) (rest:List cI) (aH fJ:List Int) (fA:List cI):Prop where
 lk:Lk m aH st.turn seen (fA++rest)
 sat:∀sd,Sat aH st.turn seen (fA++rest) sd→S sd
 mZ:jJ T E.lw (Sat aH st.turn seen (fA++rest)) (D++[e]) fA
 len:fJ.length=m
 Nh:∀x,¬(T.tree x=true∧T.go x=v)→g fJ x=g st.lowest x
 lw:∀a,a<m→T.tree a=true→T.go a=v→∀b0,fA.getLast? =some ([],[b0])→g fJ a=(b0:Int)
 zR:∀f∈D,∀sd,Sat aH st.turn seen (fA++rest) sd→K6 T f e sd
theorem zO (hE:dN T E oe hf) {st:TS} {v k e:Nat} {ws:List jw} {SG rest:List cI} (wN:(oe v)[k]? =some e)
 (hst:st.stk=(SG++(RG++rest)).map cJ) {vis:jw} (bB:st.way=vis::ws) (DM:vis.2.2=top ((RG++rest).map cJ)) (hk:Lk m st.like st.turn seen (SG++(RG++rest)))
 (hD:jJ T E.lw (Sat st.like st.turn seen (SG++(RG++rest))) ((oe v).take k) RG) (he:jJ T E.lw (Sat st.like st.turn seen (SG++(RG++rest))) [e] SG) (eH:st.lowest.length=m)
 (Zx:∀a,a<m→T.tree a=true→T.go a=v→∀b0,RG.getLast? =some ([],[b0])→g st.lowest a=(b0:Int)) (hle:∀b0,SG.getLast? =some ([],[b0])→g st.lowest e=(b0:Int)):
 (settle E st (hf e)=some none∧∀sd,¬T.LR sd)∨
 ∃aH fJ fA,settle E st (hf e)=some (some { st with like:=aH,lowest:=fJ,stk:=(fA++rest).map cJ })∧Sd T E ((oe v).take k) v e st seen (Sat st.like st.turn seen (SG++(RG++rest))) rest aH fJ fA:=by
 obtain⟨hem,pQ⟩:=(hE.mem v e).1 (List.mem_of_getElem? wN)
 have dh:v<n:=by rw[←pQ];exact(T.lt e hem).1
 have hw:=hE.lw
 have yF:∀f∈(oe v).take k,f<m∧T.fr f=v:=fun f hf=>(hE.mem v f).1 (List.mem_of_mem_take hf)
 unfold settle
 rw[hE.h2 e hem,lJ (by rw[hw.len];exact hem),hE.beg hem,pQ]
 dsimp only
 by_cases hr:g E.lw e<T.ay v
 ·rw[if_pos hr]
  have gY:∃x,T.aY e x:=by
   obtain⟨x,hx,_⟩:=hw.ex e hem (by rw[pQ];exact hr)
   exact⟨x,hx⟩
  obtain⟨x,hx⟩:=gY
  obtain⟨a,k7,ta,ga⟩:=zW hem hx
  rw[pQ] at ga
  rw[hE.fr e hem,pQ]
  have e1:(some (v:Int)).bind (bz E.par)=some (hf a):=by
   show bz E.par (v:Int)=_
   rw[←ga]
   exact hE.Pe k7 ta
  have e2:((some (v:Int)).bind fun v=>E.outs[v.toNat]?.bind fun l=>l[0]?)=((oe v).map hf)[0]? :=by
   show(E.outs[((v:Int)).toNat]?.bind fun l=>l[0]?)=_
   rw[show((v:Int)).toNat=v from by simp,hE.outs v dh]
   rfl
  rw[e1,e2,List.getElem?_map]
  cases k with
  |zero=>
   rw[wN]
   show(_∨_)
   dsimp only[Option.map]
   rw[if_pos rfl,lJ (by rw[eH];exact hem),hE.h2 a k7]
   dsimp only
   rw[mq (by rw[eH];exact k7)]
   have ZZ:RG=[]:=hD.empty fun f hf=>by simp at hf
   subst ZZ
   rw[List.nil_append] at hst hk hD he ⊢
   refine .inr ⟨st.like,st.lowest.set a (g st.lowest e),SG,?_,hk,fun sd h=>h,?_,by rw[List.length_set];exact eH,fun x hx=>aU fun q=>hx (by rw[q];exact⟨ta,ga⟩),fun a' ha' zI KG b0 hb=> ?_,fun f hf=>by simp at hf⟩
   ·rw[←hst]
   ·simpa using he
   ·obtain rfl:=T.one a' a ha' k7 zI ta (KG.trans ga.symm)
    rw[dW (by rw[eH];exact k7)]
    exact hle b0 hb
  |succ k=>
   obtain⟨d,hd⟩:∃d,(oe v)[0]? =some d:=⟨_,List.getElem?_eq_getElem (by
    have:=(List.getElem?_eq_some_iff.1 wN).1
    omega)⟩
   rw[hd]
   dsimp only[Option.map]
   have Q3:=(hE.mem v d).1 (List.mem_of_getElem? hd)
   have hlen:=(List.getElem?_eq_some_iff.1 wN).1
   have hnd:d≠e:=fun q=>by
    refine vW (hE.nd v) wN ?_
    rw[←q]
    refine List.mem_of_mem_head? ?_
    rw[List.head?_take,if_neg (by omega),List.head?_eq_getElem?,hd]
    rfl
   rw[if_neg (fun q=>hnd (hE.inj Q3.1 hem q)),hE.h2 a k7]
   have Zz:((oe v).take (k+1)).head? =some d:=by
    rw[List.head?_take,if_neg (by omega),List.head?_eq_getElem?]
    exact hd
   have adL:∀f∈(oe v).take (k+1),Fx T E.lw f e:=fun f hf=>by
    have h1:=hE.Cq v
    rw[←List.take_append_drop (k+1) (oe v)] at h1
    refine(List.pairwise_append.1 h1).2.2 f hf e ?_
    rw[List.drop_eq_getElem_cons hlen,(List.getElem?_eq_some_iff.1 wN).2]
    exact List.mem_cons_self
   have hmin:∀f∈oe v,g E.lw d≤g E.lw f:=fun f hf=>by
    have h1:=hE.Cq v
    cases AU:oe v with
    |nil=>rw[AU] at hf;simp at hf
    |cons d' l=>
     rw[AU] at hd h1 hf
     obtain rfl:d'=d:=by simpa using hd
     rcases List.mem_cons.1 hf with rfl|hf
     ·exact Int.le_refl _
     ·exact((List.pairwise_cons.1 h1).1 f hf).1
   have hrd:∃x,T.aY d x:=by
    have h1:=hmin e (List.mem_of_getElem? wN)
    obtain⟨b,hb,_⟩:=hw.ex d Q3.1 (by rw[Q3.2];omega)
    exact⟨b,hb⟩
   have hla:=Ao hw k7 ta Q3.1 (Q3.2.trans ga.symm) (fun f hf ff=>hmin f ((hE.mem v f).2 ⟨hf,ff.trans ga⟩)) hrd
   rcases CT (a:=a) (e1:=d) hw hst bB DM hk (fun sd=>Iff.rfl) hD he hem (fun f hf=>(yF f hf).1) ⟨x,hx⟩ (fun f hf=>⟨(yF f hf).2.trans pQ.symm,fun q=>vW (hE.nd v) wN (by rw[←q];exact hf)⟩) Zz adL k7 hla (fun b0 hb=>by rw[lJ (by rw[eH];exact k7),Zx a k7 ta ga b0 hb]) (fun f hf=>hmin f (List.mem_of_mem_take hf)) with h|⟨aH,fA,h1,h2,h3,h4,h5,h6⟩
   ·exact .inl h
   ·exact .inr ⟨aH,st.lowest,fA,h1,h2,h3,h4,eH,fun x _=>rfl,fun a' ha' zI KG b0 hb=>Zx a' ha' zI KG b0 (h5 b0 hb),h6⟩
 ·rw[if_neg hr]
  have hno:∀x,¬T.aY e x:=fun x hx=>by
   have h1:=hw.low hem hx
   have h2:=hw.lt hx
   rw[pQ] at h2
   omega
  have ZY:SG=[]:=he.empty fun f hf=>by rw[List.mem_singleton.1 hf];exact hno
  subst ZY
  rw[List.nil_append] at hst hk hD he ⊢
  refine .inr ⟨st.like,st.lowest,RG,by rw[←hst],hk,fun sd h=>h,hD.none hno,eH,fun x _=>rfl,Zx,fun f hf sd _=>⟨fun b c _ _ ⟨x,hx,_⟩=>absurd hx (hno x),fun b c hb=>absurd hb (hno b),fun b c _ ⟨x,hx,_⟩=>absurd hx (hno x)⟩⟩
end
end Lt
end
section
namespace Lt
open Pl
section
variable {n m:Nat} {T:DF n m} {lw:List Int} {sd:Nat→Bool}
def mU (T:DF n m) (sd:Nat→Bool) (s:Bool) (e:Nat) (x:Int):Prop:=
 (x= -1∧∀b,T.aY e b→sd b≠s)∨∃b,T.aY e b∧sd b=s∧T.ay (T.go b)=x∧∀c,T.aY e c→sd c=s→T.ay (T.go c)≤x
theorem mU.gt {s:Bool} {e:Nat} {x k:Int} (h:mU T sd s e x) (hk:0≤k):k<x↔∃b,T.aY e b∧sd b=s∧k<T.ay (T.go b):=by
 rcases h with ⟨h1,h2⟩|⟨b,h1,h2,h3,h4⟩
 ·constructor
  ·intro q;omega
  ·rintro⟨b,q1,q2,_⟩
   exact absurd q2 (h2 b q1)
 ·constructor
  ·intro q
   exact⟨b,h1,h2,by omega⟩
  ·rintro⟨c,q1,q2,q3⟩
   have:=h4 c q1 q2
   omega
theorem mU.at {s:Bool} {e:Nat} {x k:Int} (h:mU T sd s e x) (hk:0≤k) (hx:k<x):∃b,T.aY e b∧sd b=s∧T.ay (T.go b)=x:=by
 rcases h with ⟨h1,h2⟩|⟨b,h1,h2,h3,h4⟩
 ·omega
 ·exact⟨b,h1,h2,h3⟩
theorem Ah (hL:eI T lw) {e:Nat} (he:e<m):0≤g lw e:=by
 by_cases h:g lw e<T.ay (T.fr e)
 ·obtain⟨b,hb,e1⟩:=hL.ex e he h
  rw[←e1]
  exact(T.low _ (T.lt b hb.1).2).1
 ·have:=(T.low _ (T.lt e he).1).1
  omega
theorem Gw (hL:eI T lw) {b:Nat} (hb:b<m) (tb:T.tree b=false):g lw b=T.ay (T.go b):=by
 have hr:T.aY b b:=⟨hb,tb,.inl rfl⟩
 obtain⟨c,hc,e1⟩:=hL.ex b hb (by have:=hL.ret b b hb hr;have:=hr.lt;omega)
 obtain⟨_,_,q|⟨q,_⟩⟩:=hc
 ·rw[q]
  rw[←q]
  rw[←q] at e1
  exact e1.symm
 ·rw[tb] at q;cases q
theorem kQ (hL:eI T lw) {e f b:Nat} (hf:f<m) (hfr:T.fr e=T.fr f) (hb:T.aY e b):T.lA b f↔g lw f<T.ay (T.go b):=by
 constructor
 ·rintro⟨c,hc,hlt⟩
  have:=hL.ret f c hf hc
  omega
 ·intro h
  have:=hb.lt
  rw[hfr] at this
  obtain⟨c,hc,e1⟩:=hL.ex f hf (by omega)
  exact⟨c,hc,by omega⟩
variable {L R:Nat→Int}
structure yh (T:DF n m) (sd:Nat→Bool) (L R:Nat→Int):Prop where
 l:∀e,e<m→mU T sd false e (L e)
 r:∀e,e<m→mU T sd true e (R e)
def sg (L R:Nat→Int) (e:Nat):Bool:= !decide (R e<L e)
theorem yh.any (h:yh T sd L R) {e:Nat} (he:e<m) {k:Int} (hk:0≤k) {b:Nat} (hb:T.aY e b) (hkb:k<T.ay (T.go b)):k<max (L e) (R e):=by
 cases hs:sd b with
 |false=>
  have:=((h.l e he).gt hk).2 ⟨b,hb,hs,hkb⟩
  omega
 |true=>
  have:=((h.r e he).gt hk).2 ⟨b,hb,hs,hkb⟩
  omega
theorem yh.at (h:yh T sd L R) {e:Nat} (he:e<m) {k:Int} (hk:0≤k) (hx:k<max (L e) (R e)):∃b,T.aY e b∧sd b=sg L R e∧k<T.ay (T.go b):=by
 unfold sg
 by_cases q:R e<L e
 ·obtain⟨b,h1,h2,h3⟩:=(h.l e he).at hk (by omega)
  exact⟨b,h1,by rw[h2];simp[q],by omega⟩
 ·obtain⟨b,h1,h2,h3⟩:=(h.r e he).at hk (by omega)
  exact⟨b,h1,by rw[h2];simp[q],by omega⟩
theorem Di (hL:eI T lw) (h:yh T sd L R) {e f:Nat} (he:e<m) (hf:f<m) (hfr:T.fr e=T.fr f):min (L e) (R e)≤g lw f↔∀b c,T.aY e b→T.aY e c→T.lA b f→T.lA c f→sd b=sd c:=by
 have h0:=Ah hL hf
 constructor
 ·intro hm b c hb hc ab ac
  rw[kQ hL hf hfr hb] at ab
  rw[kQ hL hf hfr hc] at ac
  have k1:=(h.l e he).gt h0
  have k2:=(h.r e he).gt h0
  cases hsb:sd b<;>cases hsc:sd c
  ·rfl
  ·have:=k1.2 ⟨b,hb,hsb,ab⟩
   have:=k2.2 ⟨c,hc,hsc,ac⟩
   omega
  ·have:=k1.2 ⟨c,hc,hsc,ac⟩
   have:=k2.2 ⟨b,hb,hsb,ab⟩
   omega
  ·rfl
 ·intro hs
  refine Int.not_lt.1 fun hlt=> ?_
  obtain⟨b,b1,b2,b3⟩:=((h.l e he).gt h0).1 (by omega)
  obtain⟨c,c1,c2,c3⟩:=((h.r e he).gt h0).1 (by omega)
  have:=hs b c b1 c1 ((kQ hL hf hfr b1).2 b3) ((kQ hL hf hfr c1).2 c3)
  rw[b2,c2] at this
  cases this
theorem F9 (hL:eI T lw) (h:yh T sd L R) {e f b:Nat} (he:e<m) (hf:f<m) (hm:min (L e) (R e)≤g lw f) (hb:T.aY e b) (hlt:g lw f<T.ay (T.go b)):sd b=sg L R e:=by
 have h0:=Ah hL hf
 unfold sg
 cases hs:sd b with
 |false=>
  have:=((h.l e he).gt h0).2 ⟨b,hb,hs,hlt⟩
  have q:R e<L e:=by omega
  simp[q]
 |true=>
  have:=((h.r e he).gt h0).2 ⟨b,hb,hs,hlt⟩
  have q:¬R e<L e:=by omega
  simp[q]
theorem qq (hL:eI T lw) (h:yh T sd L R) {e f:Nat} (he:e<m) (hf:f<m) (hfr:T.fr e=T.fr f) (h1:min (L e) (R e)≤g lw f) (h2:min (L f) (R f)≤g lw e) (hn:Fx T lw e f):
 (sg L R e=sg L R f→max (L e) (R e)≤g lw f)↔∀b c,T.aY e b→T.lA b f→T.aY f c→T.lA c e→sd b≠sd c:=by
 have e0:=Ah hL he
 have f0:=Ah hL hf
 constructor
 ·intro hs b c hb ab hc ac hbc
  rw[kQ hL hf hfr hb] at ab
  rw[kQ hL he hfr.symm hc] at ac
  have k1:=F9 hL h he hf h1 hb ab
  have k2:=F9 hL h hf he h2 hc ac
  have:=hs (by rw[←k1,←k2,hbc])
  have:=h.any he f0 hb ab
  omega
 ·intro hu hs
  refine Int.not_lt.1 fun hlt=> ?_
  obtain⟨b,b1,b2,b3⟩:=h.at he f0 hlt
  have hx:g lw e<max (L f) (R f):=by
   have hlf:g lw f<T.ay (T.fr f):=by
    have:=b1.lt
    rw[hfr] at this
    omega
   obtain⟨c0,c1,c2⟩:=hL.ex f hf hlf
   rcases Int.lt_or_eq_of_le hn.1 with q|q
   ·exact h.any hf e0 c1 (by omega)
   ·obtain⟨x,x1,x2⟩:=hn.2 q ⟨b,b1,by rw[Gw hL b1.1 b1.2.1];omega⟩
    rw[Gw hL x1.1 x1.2.1] at x2
    exact h.any hf e0 x1 (by omega)
  obtain⟨c,c1,c2,c3⟩:=h.at hf e0 hx
  exact hu b c b1 ((kQ hL hf hfr b1).2 b3) c1 ((kQ hL he hfr.symm c1).2 c3) (by rw[b2,c2,hs])
def Ew (L R:Nat→Int):List Nat→Int×Int
 |[]=>(-1,-1)
 |e::l=>if R e<L e then (max (L e) (R e),(Ew L R l).2) else ((Ew L R l).1,max (L e) (R e))
def cur (L R:Nat→Int) (l:List Nat) (s:Bool):Int:=if s=true then (Ew L R l).2 else (Ew L R l).1
def wC (lw:Nat→Int) (L R:Nat→Int):List Nat→Prop
 |[]=>True
 |e::l=>cur L R l (sg L R e)≤lw e∧wC lw L R l
theorem N6 {e:Nat} {l:List Nat} {s:Bool}:cur L R (e::l) s=if sg L R e=s then max (L e) (R e) else cur L R l s:=by
 by_cases q:R e<L e<;>cases s<;>simp[cur,sg,Ew,q]
theorem DY {v:Nat→Int}:∀{l:List Nat},List.Pairwise (fun e f=>sg L R e=sg L R f→max (L f) (R f)≤v e) l→∀s,(cur L R l s= -1∧∀x∈l,sg L R x≠s)∨∃y∈l,sg L R y=s∧cur L R l s=max (L y) (R y)∧∀x∈l,sg L R x=s→x=y∨max (L x) (R x)≤v y:=by
 intro l
 induction l with
 |nil=>intro _ s;exact .inl ⟨by unfold cur Ew;cases s<;>rfl,by simp⟩
 |cons e l ih=>
  intro hp s
  obtain⟨p1,p2⟩:=List.pairwise_cons.1 hp
  rw[N6]
  by_cases q:sg L R e=s
  ·rw[if_pos q]
   refine .inr ⟨e,List.mem_cons_self,q,rfl,fun x hx hs=> ?_⟩
   rcases List.mem_cons.1 hx with k|k
   ·exact .inl k
   ·exact .inr (p1 x k (by rw[q,hs]))
  ·rw[if_neg q]
   rcases ih p2 s with ⟨k1,k2⟩|⟨y,k1,k2,k3,k4⟩
   ·refine .inl ⟨k1,fun x hx=> ?_⟩
    rcases List.mem_cons.1 hx with k|k
    ·rw[k];exact q
    ·exact k2 x k
   ·refine .inr ⟨y,List.mem_cons_of_mem _ k1,k2,k3,fun x hx hs=> ?_⟩
    rcases List.mem_cons.1 hx with k|k
    ·rw[k] at hs;exact absurd hs q
    ·exact k4 x k hs
theorem Pq {v:Nat→Int}:∀{l:List Nat},(∀e∈l,0≤v e)→List.Pairwise (fun e f=>v f≤v e) l→(wC v L R l↔List.Pairwise (fun e f=>sg L R e=sg L R f→max (L f) (R f)≤v e) l):=by
 intro l
 induction l with
 |nil=>intro _ _;unfold wC;simp
 |cons e l ih=>
  intro h0 hs
  obtain⟨s1,s2⟩:=List.pairwise_cons.1 hs
  have h1:=ih (fun x hx=>h0 x (List.mem_cons_of_mem _ hx)) s2
  unfold wC
  rw[List.pairwise_cons,h1]
  constructor
  ·rintro⟨k1,k2⟩
   refine⟨fun f hf hsf=> ?_,k2⟩
   rcases DY k2 (sg L R e) with ⟨q1,q2⟩|⟨y,q1,q2,q3,q4⟩
   ·exact absurd hsf.symm (q2 f hf)
   ·rw[q3] at k1
    rcases q4 f hf hsf.symm with z|z
    ·rw[z];exact k1
    ·exact Int.le_trans z (s1 y q1)
  ·rintro⟨k1,k2⟩
   refine⟨?_,k2⟩
   rcases DY k2 (sg L R e) with ⟨q1,q2⟩|⟨y,q1,q2,q3,q4⟩
   ·rw[q1]
    have:=h0 e List.mem_cons_self
    omega
   ·rw[q3]
    exact k1 y q1 q2.symm
theorem LP {l:List Nat} (h:l.Nodup) {i j:Nat} (hi:i<l.length) (hj:j<l.length) (e:l[i]=l[j]):i=j:=by
 rcases Nat.lt_trichotomy i j with q|q|q
 ·exact absurd e (List.pairwise_iff_getElem.1 h i j hi hj q)
 ·exact q
 ·exact absurd e.symm (List.pairwise_iff_getElem.1 h j i hj hi q)
def gu (v:Nat→Int) (l:List Nat) (i:Nat):Int:=v (if i=0 then l[1]?.getD 0 else l[0]?.getD 0)
def Aa (v L R:Nat→Int) (l:List Nat) (i:Nat):Prop:=1<l.length→min (L (l[i]?.getD 0)) (R (l[i]?.getD 0))≤gu v l i
theorem Pt {v:Nat→Int} {l:List Nat} (hnd:l.Nodup) (hs:List.Pairwise (fun e f=>v e≤v f) l):(∀i,i<l.length→Aa v L R l i)↔∀e∈l,∀f∈l,e≠f→min (L e) (R e)≤v f:=by
 have hle:∀i j (hi:i<l.length) (hj:j<l.length),i≤j→v l[i]≤v l[j]:=fun i j hi hj hij=>by
  rcases Nat.lt_or_eq_of_le hij with q|q
  ·exact List.pairwise_iff_getElem.1 hs i j hi hj q
  ·subst q;exact Int.le_refl _
 constructor
 ·intro h e he f hf hne
  obtain⟨i,hi,rfl⟩:=List.mem_iff_getElem.1 he
  obtain⟨j,hj,rfl⟩:=List.mem_iff_getElem.1 hf
  have hij:i≠j:=fun q=>hne (by subst q;rfl)
  have h1:=h i hi (by omega)
  unfold gu at h1
  rw[List.getElem?_eq_getElem hi,Option.getD_some] at h1
  by_cases q:i=0
  ·rw[if_pos q,List.getElem?_eq_getElem (by omega:1<l.length),Option.getD_some] at h1
   exact Int.le_trans h1 (hle 1 j (by omega) hj (by omega))
  ·rw[if_neg q,List.getElem?_eq_getElem (by omega:0<l.length),Option.getD_some] at h1
   exact Int.le_trans h1 (hle 0 j (by omega) hj (by omega))
 ·intro h i hi hl
  unfold gu
  rw[List.getElem?_eq_getElem hi,Option.getD_some]
  have hne:∀{j:Nat} (hj:j<l.length),i≠j→l[i]≠l[j]:=fun {j} hj q e=>q (LP hnd hi hj e)
  by_cases q:i=0
  ·rw[if_pos q,List.getElem?_eq_getElem (by omega:1<l.length),Option.getD_some]
   exact h _ (List.getElem_mem hi) _ (List.getElem_mem _) (hne _ (by omega))
  ·rw[if_neg q,List.getElem?_eq_getElem (by omega:0<l.length),Option.getD_some]
   exact h _ (List.getElem_mem hi) _ (List.getElem_mem _) (hne _ (by omega))
def eE (v L R:Nat→Int) (l:List Nat):Prop:=(∀i,i<l.length→Aa v L R l i)∧wC v L R l.reverse
theorem Ub (hL:eI T lw) (h:yh T sd L R) {oe:Nat→List Nat} (hm:∀v e,e∈oe v↔e<m∧T.fr e=v) (hnd:∀v,(oe v).Nodup) (hn:∀v,List.Pairwise (Fx T lw) (oe v)):
 (∀v,v<n→eE (g lw) L R (oe v))↔T.LR sd:=by
 have hA:∀v,(∀i,i<(oe v).length→Aa (g lw) L R (oe v) i)↔∀e∈oe v,∀f∈oe v,e≠f→min (L e) (R e)≤g lw f:=fun v=>Pt (hnd v) ((hn v).imp fun q=>q.1)
 have hB:∀v,wC (g lw) L R (oe v).reverse↔List.Pairwise (fun e f=>sg L R e=sg L R f→max (L e) (R e)≤g lw f) (oe v):=fun v=>by
  rw[Pq (fun e he=>Ah hL ((hm v e).1 (List.mem_reverse.1 he)).1) (List.pairwise_reverse.2 ((hn v).imp fun q=>q.1)),List.pairwise_reverse]
  constructor
  ·exact fun q=>q.imp fun k hs=>k hs.symm
  ·exact fun q=>q.imp fun k hs=>k hs.symm
 constructor
 ·intro ha
  have key:∀{e f:Nat},e<m→f<m→e≠f→T.fr e=T.fr f→min (L e) (R e)≤g lw f:=fun {e f} he hf hne hfr=>
   (hA (T.fr e)).1 (ha _ (T.lt e he).1).1 e ((hm _ _).2 ⟨he,rfl⟩) f ((hm _ _).2 ⟨hf,hfr.symm⟩) hne
  refine⟨fun {e f b c} he hf hne hfr hb hc ab ac=>(Di hL h he hf hfr).1 (key he hf hne hfr) b c hb hc ab ac,fun {e f b c} he hf hne hfr hb ab hc ac=> ?_⟩
  have hp:=(hB (T.fr e)).1 (ha _ (T.lt e he).1).2
  have e1:e∈oe (T.fr e):=(hm _ _).2 ⟨he,rfl⟩
  have f1:f∈oe (T.fr e):=(hm _ _).2 ⟨hf,hfr.symm⟩
  have iM:=hp.and (hn (T.fr e))
  obtain⟨i,hi,ei⟩:=List.mem_iff_getElem.1 e1
  obtain⟨j,hj,ej⟩:=List.mem_iff_getElem.1 f1
  rcases Nat.lt_trichotomy i j with q|q|q
  ·have:=List.pairwise_iff_getElem.1 iM i j hi hj q
   rw[ei,ej] at this
   exact(qq hL h he hf hfr (key he hf hne hfr) (key hf he (Ne.symm hne) hfr.symm) this.2).1 this.1 b c hb ab hc ac
  ·subst q
   exact absurd (ei.symm.trans ej) hne
  ·have:=List.pairwise_iff_getElem.1 iM j i hj hi q
   rw[ei,ej] at this
   exact((qq hL h hf he hfr.symm (key hf he (Ne.symm hne) hfr.symm) (key he hf hne hfr) this.2).1 this.1 c b hc ac hb ab).symm
 ·intro hlr v hv
  have key:∀e∈oe v,∀f∈oe v,e≠f→min (L e) (R e)≤g lw f:=fun e he f hf hne=>by
   obtain⟨e1,e2⟩:=(hm v e).1 he
   obtain⟨f1,f2⟩:=(hm v f).1 hf
   exact(Di hL h e1 f1 (by rw[e2,f2])).2 fun b c hb hc ab ac=>hlr.same e1 f1 hne (by rw[e2,f2]) hb hc ab ac
  refine⟨(hA v).2 key,(hB v).2 ?_⟩
  rw[List.pairwise_iff_getElem]
  intro i j hi hj hij
  have hN:=List.pairwise_iff_getElem.1 (hn v) i j hi hj hij
  have ie:=List.getElem_mem hi
  have je:=List.getElem_mem hj
  obtain⟨e1,e2⟩:=(hm v _).1 ie
  obtain⟨f1,f2⟩:=(hm v _).1 je
  have hne:(oe v)[i]≠(oe v)[j]:=fun q=>by
   have:=LP (hnd v) hi hj q
   omega
  exact(qq hL h e1 f1 (by rw[e2,f2]) (key _ ie _ je hne) (key _ je _ ie (Ne.symm hne)) hN).2 fun b c hb ab hc ac=>hlr.yY e1 f1 hne (by rw[e2,f2]) hb ab hc ac
end
end Lt
end
end Go.Proofs.YtnhcggfbkoppnaaGreat
