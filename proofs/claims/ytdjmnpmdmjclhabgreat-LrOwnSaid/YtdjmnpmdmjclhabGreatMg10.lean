import Derived.Test.YtdjmnpmdmjclhabGreatMg09
import Derived.Test.YtdjmnpmdmjclhabGreatMg08
namespace Go.Proofs.YtdjmnpmdmjclhabGreat
section
namespace Lt
section
variable {m:Nat} {lw like turn lowest:List Int} {seen:Nat→Prop} {sd:Nat→Bool}
theorem ey (a b:List cJ):cH (a++b)=cH a++cH b:=by simp[cH]
theorem VY {p q:cJ} (hp:¬(p.1=[]∧p.2=[])) (hd:∀x,x∈p.1++p.2→x∉q.1++q.2):cM p≠cM q:=fun e=>by
 have e1:dJ p.1=dJ q.1:=congrArg Prod.fst e
 have e2:dJ p.2=dJ q.2:=congrArg Prod.snd e
 have key:∀{a b:List Nat},a≠[]→dJ a=dJ b→∃x,x∈a∧x∈b:=fun {a b} ha hab=>by
  have hb:b≠[]:=fun k=>ha (dD.1 (hab.trans (dD.2 k)))
  rw[nI ha,nI hb] at hab
  have h1:=congrArg Prod.fst hab
  have h2:a.headD 0=b.headD 0:=by
   dsimp only at h1
   omega
  exact⟨a.headD 0,head_mem ha,by rw[h2];exact head_mem hb⟩
 by_cases h1:p.1=[]
 ·have h2:p.2≠[]:=fun k=>hp ⟨h1,k⟩
  obtain⟨x,k1,k2⟩:=key h2 e2
  exact hd x (by simp[k1]) (by simp[k2])
 ·obtain⟨x,k1,k2⟩:=key h1 e1
  exact hd x (by simp[k1]) (by simp[k2])
theorem UL {p:cJ} {rest:List cJ} (hp:¬(p.1=[]∧p.2=[])) (hd:∀x,x∈p.1++p.2→x∉cH rest):cM p≠top (rest.map cM):=by
 cases rest with
 |nil=>exact fun e=>hp (vG.1 e)
 |cons q rest=>exact VY hp fun x hx k=>hd x hx (by rw[aG,←aaH];exact aaN _ k)
def lR (lw:List Int) (h:Int) (s:List cJ):List Nat:=s.flatMap fun p=>if g lw ((p.1++p.2).getLastD 0)=h then [] else p.1++p.2
theorem Aw (lw:List Int) (h:Int) (p:cJ) (s:List cJ):lR lw h (p::s)=(if g lw ((p.1++p.2).getLastD 0)=h then [] else p.1++p.2)++lR lw h s:=by simp[lR]
theorem UU (mg:lw.length=m) {above b0:Nat} (ha:above<m) (hl:bz lowest (above:Int)=some (b0:Int)) {rest:List cJ} (hb0:b0∈cH rest):
 ∀(SG:List cJ) (like:List Int) (O:List Nat),Lk m like turn seen (([],O)::(SG++rest))→(∀p∈SG,¬(p.1=[]∧p.2=[]))→
 (own lw lowest above (top (rest.map cM)) ((SG++rest).map cM) like (dJ O)=some none∧∃p∈SG,p.1≠[]∧p.2≠[])∨
 ∃aH,own lw lowest above (top (rest.map cM)) ((SG++rest).map cM) like (dJ O)=some (some (rest.map cM,aH,dJ (O++lR lw (g lw above) SG)))∧Lk m aH turn seen (([],O++lR lw (g lw above) SG)::rest)∧
  (∀p∈SG,p.1=[]∨p.2=[])∧
  ∀sd,Sat aH turn seen (([],O++lR lw (g lw above) SG)::rest) sd→Sat like turn seen (([],O)::(SG++rest)) sd∧∀p∈SG,g lw ((p.1++p.2).getLastD 0)=g lw above→∀x∈p.1++p.2,sd x=sd b0:=by
 intro SG
 induction SG with
 |nil=>
  intro like O hk _
  refine .inr ⟨like,?_,?_,fun p hp=>by simp at hp,fun sd aM=>⟨?_,fun p hp=>by simp at hp⟩⟩
  ·rw[aaE,show lR lw (g lw above) []=[] from rfl,abf]
   cases rest with
   |nil=>simp[cH] at hb0
   |cons q rest=>
    rw[ace]
    unfold own
    rw[if_pos (show cM q=top (cM q::rest.map cM) from rfl)]
  ·rw[show lR lw (g lw above) []=[] from rfl,abf]
   exact hk
  ·rw[show lR lw (g lw above) []=[] from rfl,abf] at aM
   exact aM
 |cons p SG ih=>
  intro like O hk hne
  have hp:=hne p aag
  have hnd:=hk.nd
  rw[aG,abi,aG] at hnd
  simp only[aaE,ey] at hnd
  have Ed:∀x,x∈p.1++p.2→x∉cH rest:=fun x hx k=>by
   have h1:=(aa5.1 hnd).2.1
   rw[←aaH] at h1
   exact(aa5.1 h1).2.2 x hx x (aaz _ k) rfl
  have yy:=UL hp Ed
  have hin:∀x,x∈p.1++p.2→x∈cH (([],O)::(p::SG++rest)):=fun x hx=>bk.2 ⟨p,by simp,aal.1 hx⟩
  rw[abi,ace]
  unfold own
  rw[if_neg yy]
  obtain⟨P1,P2⟩:=p
  by_cases two:P1≠[]∧P2≠[]
  ·refine .inl ⟨?_,⟨(P1,P2),aag,two⟩⟩
   have e1:¬(cM (P1,P2)).2=aO:=fun k=>two.2 (dD.1 k)
   have e2:¬(cM (P1,P2)).1=aO:=fun k=>two.1 (dD.1 k)
   rw[if_neg e1,if_pos e2]
  ·
   obtain⟨X,hX,kD,hsel,hno⟩:∃X,P1++P2=X∧X≠[]∧(if (cM (P1,P2)).2=aO then (cM (P1,P2)).1 else (cM (P1,P2)).2)=dJ X∧¬(if (cM (P1,P2)).2=aO then (cM (P1,P2)).2 else (cM (P1,P2)).1)≠aO:=by
    by_cases e2:P2=[]
    ·subst e2
     have e1:P1≠[]:=fun k=>hp ⟨k,rfl⟩
     refine⟨P1,by simp,e1,?_,?_⟩
     ·rw[if_pos (show(cM (P1,[])).2=aO from rfl)]
      rfl
     ·rw[if_pos (show(cM (P1,[])).2=aO from rfl)]
      exact fun k=>k rfl
    ·have e1:P1=[]:=abw fun k=>two ⟨k,e2⟩
     subst e1
     refine⟨P2,by simp,e2,?_,?_⟩
     ·rw[if_neg (show ¬(cM ([],P2)).2=aO from fun k=>e2 (dD.1 k))]
      rfl
     ·rw[if_neg (show ¬(cM ([],P2)).2=aO from fun k=>e2 (dD.1 k))]
      exact fun k=>k rfl
   have tR:Lk m like turn seen (([],O)::([],X)::(SG++rest))∧∀sd,Sat like turn seen (([],O)::([],X)::(SG++rest)) sd→Sat like turn seen (([],O)::(P1,P2)::(SG++rest)) sd:=by
    by_cases e2:P2=[]
    ·subst e2
     rw[abf] at hX
     subst hX
     exact⟨hk.qD,fun sd h=>h.qD⟩
    ·have e1:P1=[]:=abw fun k=>two ⟨k,e2⟩
     subst e1
     rw[aaE] at hX
     subst hX
     exact⟨hk,fun sd h=>h⟩
   obtain⟨hk2,hs2⟩:=tR
   have dz:=bD kD
   have QK:∀x∈X,x<m:=fun x hx=>hk2.sm x (hk2.sn x (by rw[aG,aG];simp[hx]))
   rw[if_neg hno,hsel]
   have e3:bz lw (dJ X).2=some (g lw (X.getLastD 0)):=by
    rw[nI kD]
    exact lW (by rw[mg];exact QK _ dz)
   rw[e3,lW (by rw[mg];exact ha)]
   dsimp only
   have hone:(P1:List Nat)=[]∨P2=[]:=by
    by_cases e1:P1=[]
    ·exact .inl e1
    ·exact .inr (abw fun k=>two ⟨e1,k⟩)
   by_cases ea:g lw (X.getLastD 0)=g lw above
   ·rw[if_pos ea,hl]
    dsimp only
    have e4:eT like (dJ X).2 (b0:Int)=some (like.set (X.getLastD 0) (b0:Int)):=by
     rw[nI kD]
     exact mI (by rw[hk.ll];exact QK _ dz)
    rw[e4]
    dsimp only
    have hb:b0∈cH (SG++rest):=by rw[ey];exact aaz _ hb0
    have hk3:=hk2.align kD hb
    rcases ih _ O hk3 (fun q hq=>hne q (aah _ hq)) with ⟨k1,q,k2,k3⟩|⟨aH,k1,k2,k3,k4⟩
    ·exact .inl ⟨k1,q,aah _ k2,k3⟩
    ·have eo:lR lw (g lw above) ((P1,P2)::SG)=lR lw (g lw above) SG:=by
      rw[Aw]
      dsimp only
      rw[hX,if_pos ea,aaE]
     rw[eo]
     refine .inr ⟨aH,k1,k2,fun q hq=> ?_,fun sd aM=> ?_⟩
     ·rcases aaj.1 hq with rfl|hq
      ·exact hone
      ·exact k3 q hq
     ·obtain⟨l1,l2⟩:=k4 sd aM
      obtain⟨l3,l4⟩:=Sat.align hk2 kD l1
      refine⟨hs2 sd l3,fun q hq Vj x hx=> ?_⟩
      rcases aaj.1 hq with rfl|hq
      ·exact l4 x (by rw[←hX];exact hx)
      ·exact l2 q hq Vj x hx
   ·rw[if_neg ea]
    have hO:∀x∈O,x<like.length:=fun x hx=>by rw[hk.ll];exact hk.sm x (hk.sn x (by rw[aG];simp[hx]))
    rw[join_eq hO]
    dsimp only
    have hk3:=hk2.merge
    have ej:jk (jk like [] []) O X=jk like O X:=rfl
    rw[ej] at hk3
    rcases ih _ (O++X) hk3 (fun q hq=>hne q (aah _ hq)) with ⟨k1,q,k2,k3⟩|⟨aH,k1,k2,k3,k4⟩
    ·exact .inl ⟨k1,q,aah _ k2,k3⟩
    ·have eo:O++lR lw (g lw above) ((P1,P2)::SG)=O++X++lR lw (g lw above) SG:=by
      rw[Aw]
      dsimp only
      rw[hX,if_neg ea,aaH]
     rw[eo]
     refine .inr ⟨aH,k1,k2,fun q hq=> ?_,fun sd aM=> ?_⟩
     ·rcases aaj.1 hq with rfl|hq
      ·exact hone
      ·exact k3 q hq
     ·obtain⟨l1,l2⟩:=k4 sd aM
      refine⟨hs2 sd (Sat.merge hk2 (by rw[ej];exact l1)),fun q hq Vj x hx=> ?_⟩
      rcases aaj.1 hq with rfl|hq
      ·exact absurd Vj (by dsimp only;rw[hX];exact ea)
      ·exact l2 q hq Vj x hx
def fU (lw:List Int) (h:Int) (X:List Nat):Bool:= !X.isEmpty&&decide (h<g lw (X.headD 0))
theorem Bq {X:List Nat} {e:Nat} (he:e<lw.length) (hX:∀x∈X,x<lw.length):fT lw (dJ X) (e:Int)=some (fU lw (g lw e) X):=by
 unfold fT fU
 by_cases h:X=[]
 ·subst h
  rw[if_pos (dD.2 rfl)]
  rfl
 ·rw[if_neg (fun k=>h (dD.1 k)),nI h]
  dsimp only
  rw[lW (hX _ (head_mem h)),lW he]
  dsimp only
  have:X.isEmpty=false:=by
   cases X with
   |nil=>exact absurd rfl h
   |cons x X=>rfl
  rw[this]
  rfl
theorem jK {h:Int} {X:List Nat}:fU lw h X=true↔X≠[]∧h<g lw (X.headD 0):=by
 unfold fU
 cases X<;>simp
def xp (lw:List Int) (h:Int) (s:List cJ):List Nat:=s.flatMap fun q=>if fU lw h q.1=true then q.1 else q.2
def pO (lw:List Int) (h:Int) (s:List cJ):List Nat:=s.flatMap fun q=>if fU lw h q.1=true then q.2 else q.1
theorem Eb (lw:List Int) (h:Int) (q:cJ) (s:List cJ):xp lw h (q::s)=(if fU lw h q.1=true then q.1 else q.2)++xp lw h s:=by simp[xp]
theorem DY (lw:List Int) (h:Int) (q:cJ) (s:List cJ):pO lw h (q::s)=(if fU lw h q.1=true then q.2 else q.1)++pO lw h s:=by simp[pO]
theorem others_eq (mg:lw.length=m) {e:Nat} (he:e<m):
 ∀(QS:List cJ) (like:List Int) (A B:List Nat),Lk m like turn seen ((A,B)::QS)→
 (others lw e (QS.map cM) like (dJ A,dJ B)=some none∧∃Q1 q Q2,QS=Q1++q::Q2∧(∀q'∈Q1,fU lw (g lw e) q'.1≠fU lw (g lw e) q'.2)∧fU lw (g lw e) q.1=true∧fU lw (g lw e) q.2=true)∨
 ∃aH Q1 Q2,QS=Q1++Q2∧others lw e (QS.map cM) like (dJ A,dJ B)=some (some (Q2.map cM,aH,(dJ (A++xp lw (g lw e) Q1),dJ (B++pO lw (g lw e) Q1))))∧Lk m aH turn seen ((A++xp lw (g lw e) Q1,B++pO lw (g lw e) Q1)::Q2)∧
  (∀q∈Q1,fU lw (g lw e) q.1≠fU lw (g lw e) q.2)∧(∀q,Q2.head? =some q→fU lw (g lw e) q.1=false∧fU lw (g lw e) q.2=false)∧
  ∀sd,Sat aH turn seen ((A++xp lw (g lw e) Q1,B++pO lw (g lw e) Q1)::Q2) sd→Sat like turn seen ((A,B)::QS) sd:=by
 intro QS
 induction QS with
 |nil=>
  intro like A B hk
  have e1:A++xp lw (g lw e) []=A:=by simp[xp]
  have e2:B++pO lw (g lw e) []=B:=by simp[pO]
  refine .inr ⟨like,[],[],rfl,?_⟩
  rw[e1,e2]
  exact⟨rfl,hk,fun q hq=>by simp at hq,fun q hq=>by simp at hq,fun _ h=>h⟩
 |cons q QS ih=>
  intro like A B hk
  have hin:∀x,x∈q.1∨x∈q.2→x<lw.length:=fun x hx=>by rw[mg];exact hk.sm x (hk.sn x (bk.2 ⟨q,by simp,hx⟩))
  have h1:=Bq (X:=q.1) (e:=e) (by rw[mg];exact he) (fun x hx=>hin x (.inl hx))
  have h2:=Bq (X:=q.2) (e:=e) (by rw[mg];exact he) (fun x hx=>hin x (.inr hx))
  obtain⟨L,R⟩:=q
  rw[ace]
  unfold others
  have h1':fT lw (cM (L,R)).1 (e:Int)=some (fU lw (g lw e) L):=h1
  have h2':fT lw (cM (L,R)).2 (e:Int)=some (fU lw (g lw e) R):=h2
  rw[h1',h2']
  have hA:∀x∈A,x<like.length:=fun x hx=>by rw[hk.ll];exact hk.sm x (hk.sn x (bk.2 ⟨(A,B),by simp,.inl hx⟩))
  have hB:∀{M:List Nat},∀x∈B,x<(jk like A M).length:=fun x hx=>by rw[uV,hk.ll];exact hk.sm x (hk.sn x (bk.2 ⟨(A,B),by simp,.inr hx⟩))
  cases b1:fU lw (g lw e) L<;>cases b2:fU lw (g lw e) R
  ·have e1:A++xp lw (g lw e) []=A:=by simp[xp]
   have e2:B++pO lw (g lw e) []=B:=by simp[pO]
   refine .inr ⟨like,[],(L,R)::QS,rfl,?_⟩
   rw[e1,e2]
   exact⟨rfl,hk,fun q hq=>by simp at hq,fun q hq=>by cases hq;exact⟨b1,b2⟩,fun _ h=>h⟩
  ·dsimp only
   have e0:(if false=true then cM (L,R) else turned (cM (L,R)))=(dJ R,dJ L):=rfl
   rw[e0]
   dsimp only
   rw[join_eq hA]
   dsimp only
   rw[join_eq hB]
   dsimp only
   have hk3:=hk.qD.merge
   rcases ih _ _ _ hk3 with ⟨k1,Q1,q,Q2,k2,k3,k4⟩|⟨aH,Q1,Q2,k0,k1,k2,k3,k4,k5⟩
   ·refine .inl ⟨k1,(L,R)::Q1,q,Q2,by rw[k2];rfl,fun q' hq'=> ?_,k4⟩
    rcases aaj.1 hq' with rfl|hq'
    ·dsimp only;rw[b1,b2];simp
    ·exact k3 q' hq'
   ·refine .inr ⟨aH,(L,R)::Q1,Q2,by rw[k0];rfl,?_⟩
    rw[Eb,DY,←aaH,←aaH]
    dsimp only
    rw[b1]
    refine⟨k1,k2,fun q hq=> ?_,k4,fun sd aM=>(Sat.merge hk.qD (k5 sd aM)).qD⟩
    rcases aaj.1 hq with rfl|hq
    ·dsimp only;rw[b1,b2];simp
    ·exact k3 q hq
  ·dsimp only
   have e0:(if true=true then cM (L,R) else turned (cM (L,R)))=(dJ L,dJ R):=rfl
   rw[e0]
   dsimp only
   rw[join_eq hA]
   dsimp only
   rw[join_eq hB]
   dsimp only
   have hk3:=hk.merge
   rcases ih _ _ _ hk3 with ⟨k1,Q1,q,Q2,k2,k3,k4⟩|⟨aH,Q1,Q2,k0,k1,k2,k3,k4,k5⟩
   ·refine .inl ⟨k1,(L,R)::Q1,q,Q2,by rw[k2];rfl,fun q' hq'=> ?_,k4⟩
    rcases aaj.1 hq' with rfl|hq'
    ·dsimp only;rw[b1,b2];simp
    ·exact k3 q' hq'
   ·refine .inr ⟨aH,(L,R)::Q1,Q2,by rw[k0];rfl,?_⟩
    rw[Eb,DY,←aaH,←aaH]
    dsimp only
    rw[b1]
    refine⟨k1,k2,fun q hq=> ?_,k4,fun sd aM=>Sat.merge hk (k5 sd aM)⟩
    rcases aaj.1 hq with rfl|hq
    ·dsimp only;rw[b1,b2];simp
    ·exact k3 q hq
  ·exact .inl ⟨rfl,[],(L,R),QS,rfl,fun q' hq'=>by simp at hq',b1,b2⟩
end
end Lt
end
section
namespace Lt
open Pl
structure eI {n m:Nat} (T:DF n m) (lw:List Int):Prop where
 len:lw.length=m
 le:∀e,e<m→g lw e≤T.az (T.fr e)
 ret:∀e b,e<m→T.aX e b→g lw e≤T.az (T.go b)
 ex:∀e,e<m→g lw e<T.az (T.fr e)→∃b,T.aX e b∧T.az (T.go b)=g lw e
def LN {n m:Nat} (T:DF n m) (e f:Nat) (sd:Nat→Bool):Prop:=
 (∀b c,T.aX e b→T.aX e c→T.lN b f→T.lN c f→sd b=sd c)∧(∀b c,T.aX f b→T.aX f c→T.lN b e→T.lN c e→sd b=sd c)∧(∀b c,T.aX e b→T.lN b f→T.aX f c→T.lN c e→sd b≠sd c)
theorem LN.symm {n m:Nat} {T:DF n m} {e f:Nat} {sd:Nat→Bool} (h:LN T e f sd):LN T f e sd:=⟨h.2.1,h.1,fun b c hb ab hc ac=>(h.2.2 c b hc ac hb ab).symm⟩
def Ex (lw:List Int) (s:List cJ):Prop:=List.Pairwise (fun p q:cJ=>∀x∈p.1++p.2,∀y∈q.1++q.2,g lw y≤g lw x) s
structure jR {n m:Nat} (T:DF n m) (lw:List Int) (S:(Nat→Bool)→Prop) (D:List Nat) (RG:List cJ):Prop where
 mem:∀y∈cH RG,∃e∈D,T.aX e y
 rep:∀e∈D,∀x,T.aX e x→∃y∈cH RG,g lw y=g lw x∧∀sd,S sd→sd x=sd y
 mono:Ex lw RG
 pg:∀p∈RG,lO lw p.1∧lO lw p.2
 ne:∀p∈RG,¬(p.1=[]∧p.2=[])
 FC:∀sd,T.LR sd→∀p∈RG,(∀x∈p.1,∀y∈p.1,sd x=sd y)∧(∀x∈p.2,∀y∈p.2,sd x=sd y)∧∀x∈p.1,∀y∈p.2,sd x≠sd y
 bot:∀e1,D.head? =some e1→(∃x,T.aX e1 x)→∃fA b0,RG=fA++[([],[b0])]∧T.aX e1 b0∧g lw b0=g lw e1∧∀y∈cH fA,g lw e1<g lw y
def FX {n m:Nat} (T:DF n m) (lw:List Int) (e f:Nat):Prop:=g lw e≤g lw f∧(g lw e=g lw f→(∃x,T.aX e x∧g lw e<g lw x)→∃x,T.aX f x∧g lw f<g lw x)
section
variable {n m:Nat} {T:DF n m} {lw like turn lowest:List Int} {seen:Nat→Prop} {S S':(Nat→Bool)→Prop} {D:List Nat} {RG:List cJ}
theorem jR.more (h:jR T lw S D RG) (hS:∀sd,S' sd→S sd):jR T lw S' D RG:=
 ⟨h.mem,fun e he x hx=>by
   obtain⟨y,k1,k2,k3⟩:=h.rep e he x hx
   exact⟨y,k1,k2,fun sd aM=>k3 sd (hS sd aM)⟩,h.mono,h.pg,h.ne,h.FC,h.bot⟩
theorem eI.back (h:eI T lw) {e b:Nat} (hr:T.aX e b):g lw b=T.az (T.go b):=by
 obtain⟨hb,tb,_⟩:=hr
 have h1:=h.ret b b hb ⟨hb,tb,.inl rfl⟩
 have h2:=T.back b hb tb
 have h3:=T.up (T.lt b hb).2 (T.lt b hb).1 h2.1 h2.2
 obtain⟨c,hc,e1⟩:=h.ex b hb (by omega)
 obtain⟨_,_,k|⟨k,_⟩⟩:=hc
 ·rw[k];rw[k] at e1;exact e1.symm
 ·rw[tb] at k;cases k
theorem eI.low (h:eI T lw) {e b:Nat} (he:e<m) (hr:T.aX e b):g lw e≤g lw b:=by
 rw[h.back hr];exact h.ret e b he hr
theorem eI.lt (h:eI T lw) {e b:Nat} (hr:T.aX e b):g lw b<T.az (T.fr e):=by
 rw[h.back hr];exact hr.lt
theorem eI.att (h:eI T lw) {e b:Nat} (he:e<m) (hr:T.aX e b):∃c,T.aX e c∧g lw c=g lw e:=by
 have:=h.low he hr
 have:=h.lt hr
 obtain⟨c,k1,k2⟩:=h.ex e he (by omega)
 exact⟨c,k1,by rw[h.back k1];exact k2⟩
theorem eI.lN (h:eI T lw) {e f b c:Nat} (he:e<m) (hr:T.aX e b) (hc:T.aX f c):T.lN c e↔g lw e<g lw c:=by
 constructor
 ·rintro⟨b',k1,k2⟩
  have:=h.low he k1
  rw[h.back hc]
  rw[h.back k1] at this
  omega
 ·intro k
  obtain⟨b',k1,k2⟩:=h.att he hr
  refine⟨b',k1,?_⟩
  rw[←h.back k1,←h.back hc]
  omega
theorem eI.oM (h:eI T lw) {e c f:Nat} (he:e<m) (hc:T.aX f c) (ha:T.lN c e):g lw e<g lw c∧∃x,T.aX e x:=by
 have ha':=ha
 obtain⟨b',k1,_⟩:=ha'
 exact⟨(h.lN he k1 hc).1 ha,b',k1⟩
theorem jR.none (h:jR T lw S D RG) {e:Nat} (he:∀x,¬T.aX e x):jR T lw S (D++[e]) RG:=by
 refine⟨fun y hy=> ?_,fun e' he' x hx=> ?_,h.mono,h.pg,h.ne,h.FC,fun e1 h1 hx=> ?_⟩
 ·obtain⟨f,k1,k2⟩:=h.mem y hy
  exact⟨f,aaN _ k1,k2⟩
 ·rcases aal.1 he' with k|k
  ·exact h.rep e' k x hx
  ·rw[aao.1 k] at hx
   exact absurd hx (he x)
 ·cases D with
  |nil=>
   obtain rfl:e=e1:=by simpa using h1
   obtain⟨x,hx⟩:=hx
   exact absurd hx (he x)
  |cons d D=>exact h.bot e1 (by simpa using h1) hx
theorem jR.nil:jR T lw S [] []:=⟨fun y hy=>by simp[cH] at hy,fun e he=>by simp at he,List.Pairwise.nil,fun p hp=>by simp at hp,fun p hp=>by simp at hp,fun sd _ p hp=>by simp at hp,fun e1 h1=>by simp at h1⟩
theorem jR.empty (h:jR T lw S D RG) (hD:∀e∈D,∀x,¬T.aX e x):RG=[]:=by
 cases RG with
 |nil=>rfl
 |cons p RG=>
  exfalso
  have hp:=h.ne p aag
  have:∃y,y∈p.1++p.2:=by
   cases h1:p.1 with
   |nil=>
    cases h2:p.2 with
    |nil=>exact absurd ⟨h1,h2⟩ hp
    |cons y l=>exact⟨y,by simp⟩
   |cons y l=>exact⟨y,by simp⟩
  obtain⟨y,hy⟩:=this
  obtain⟨e,he,k⟩:=h.mem y (bk.2 ⟨p,aag,aal.1 hy⟩)
  exact hD e he y k
theorem jR.back {e:Nat} (he:e<m) (te:T.tree e=false):jR T lw S [e] [([],[e])]:=by
 have hr:T.aX e e:=⟨he,te,.inl rfl⟩
 refine⟨fun y hy=>⟨e,by simp,?_⟩,fun f hf x hx=> ?_,ac3 _ _,fun p hp=> ?_,fun p hp k=> ?_,fun sd _ p hp=> ?_,fun e1 h1 _=> ?_⟩
 ·obtain rfl:y=e:=by simpa[cH] using hy
  exact hr
 ·obtain rfl:=aao.1 hf
  obtain⟨_,_,k|⟨k,_⟩⟩:=hx
  ·exact⟨f,by simp[cH],by rw[k],fun sd _=>by rw[k]⟩
  ·rw[te] at k;cases k
 ·rw[aao.1 hp]
  exact⟨List.Pairwise.nil,ac3 _ _⟩
 ·rw[aao.1 hp] at k
  simp at k
 ·rw[aao.1 hp]
  refine⟨fun x hx=>by simp at hx,fun x hx y hy=> ?_,fun x hx=>by simp at hx⟩
  rw[aao.1 hx,aao.1 hy]
 ·obtain rfl:e=e1:=by simpa using h1
  exact⟨[],e,rfl,hr,rfl,fun y hy=>by simp[cH] at hy⟩
theorem K3 {l:List Nat} (h:lO lw l):∀x∈l,g lw x≤g lw (l.headD 0):=fun x hx=>by
 cases l with
 |nil=>simp at hx
 |cons y l=>
  rcases aaj.1 hx with rfl|hx
  ·exact abE _
  ·exact(aa4.1 h).1 x hx
theorem zN {h:Int} {X:List Nat} (hs:lO lw X) (hn:fU lw h X=false):∀x∈X,g lw x≤h:=fun x hx=>by
 have h1:=K3 hs x hx
 have h2:¬(X≠[]∧h<g lw (X.headD 0)):=fun k=>by rw[jK.2 k] at hn;cases hn
 have h3:X≠[]:=fun k=>by rw[k] at hx;simp at hx
 have h4:¬h<g lw (X.headD 0):=fun k=>h2 ⟨h3,k⟩
 omega
theorem GD {A B:List Nat} (hA:lO lw A) (hB:lO lw B) (h:∀x∈A,∀y∈B,g lw y≤g lw x):lO lw (A++B):=abN.2 ⟨hA,hB,h⟩
theorem rS {f:cJ→List Nat}:∀{s:List cJ},Ex lw s→(∀p∈s,lO lw (f p)∧∀x∈f p,x∈p.1++p.2)→lO lw (s.flatMap f)
 |[],_,_=>List.Pairwise.nil
 |p::s,hm,h=>by
  rw[adz]
  have hm':=aa4.1 hm
  refine GD (h p aag).1 (rS hm'.2 fun q hq=>h q (aah _ hq)) fun x hx y hy=> ?_
  obtain⟨q,hq,KE⟩:=abY.1 hy
  exact hm'.1 q hq x ((h p aag).2 x hx) y ((h q (aah _ hq)).2 y KE)
theorem Dm {E:Env} {st:TS} {e e1 a:Nat} {SG rest:List cJ} {v:jC} {way:List jC} (hw:eI T E.lw) (hst:st.stk=(SG++(RG++rest)).map cM) (bB:st.way=v::way) (Eg:v.2.2=top ((RG++rest).map cM))
 (hk:Lk m st.like st.turn seen (SG++(RG++rest))) (hS:∀sd,S sd↔Sat st.like st.turn seen (SG++(RG++rest)) sd)
 (hD:jR T E.lw S D RG) (he:jR T E.lw S [e] SG) (hem:e<m) (zy:∀f∈D,f<m) (g8:∃x,T.aX e x) (hfr:∀f∈D,T.fr f=T.fr e∧f≠e) (h1:D.head? =some e1) (hn:∀f∈D,FX T E.lw f e)
 (lK:a<m) (ha:g E.lw a=g E.lw e1) (hl:∀b0,RG.getLast? =some ([],[b0])→bz st.lowest a=some (b0:Int)) (hn1:∀f∈D,g E.lw e1≤g E.lw f):
 (kG E st e a=some none∧∀sd,¬T.LR sd)∨
 ∃aH fA,kG E st e a=some (some { st with like:=aH,stk:=(fA++rest).map cM })∧Lk m aH st.turn seen (fA++rest)∧(∀sd,Sat aH st.turn seen (fA++rest) sd→S sd)∧
  jR T E.lw (Sat aH st.turn seen (fA++rest)) (D++[e]) fA∧(∀b0,fA.getLast? =some ([],[b0])→RG.getLast? =some ([],[b0]))∧∀f∈D,∀sd,Sat aH st.turn seen (fA++rest) sd→LN T f e sd:=by
 have aA:e1∈D:=ada (by rw[h1];rfl)
 have hle:g E.lw e1≤g E.lw e:=(hn e1 aA).1
 have hr1:∃x,T.aX e1 x:=by
  obtain⟨x,hx⟩:=g8
  have h2:=hw.low hem hx
  have h3:=hw.lt hx
  obtain⟨b,hb,_⟩:=hw.ex e1 (zy e1 aA) (by rw[(hfr e1 aA).1];omega)
  exact⟨b,hb⟩
 obtain⟨zE,b0,rfl,ZK,gb0,Ou⟩:=hD.bot e1 h1 hr1
 obtain⟨SG0,bs,hSG,rbs,gbs,his⟩:=he.bot e rfl g8
 have hl':=hl b0 (by simp)
 have hb0:b0∈cH (zE++[([],[b0])]++rest):=by
  rw[ey,ey]
  simp[cH]
 have SX:∀sd,T.LR sd→∀x y,T.aX e x→T.aX e y→g E.lw e1<g E.lw x→g E.lw e1<g E.lw y→sd x=sd y:=fun sd aM x y rx ry gx gy=>
  aM.same hem (zy e1 aA) (aaR (hfr e1 aA).2) (hfr e1 aA).1.symm rx ry ((hw.lN (zy e1 aA) ZK rx).2 gx) ((hw.lN (zy e1 aA) ZK ry).2 gy)
 have SV:∀f∈D,∀l,T.aX f l→g E.lw e<g E.lw l→∃x,T.aX e x∧g E.lw e1<g E.lw x∧∀sd,T.LR sd→sd l≠sd x:=fun f hf l rl gl=>by
  have hx:∃x,T.aX e x∧g E.lw f<g E.lw x:=by
   obtain⟨k1,k2⟩:=hn f hf
   by_cases e2:g E.lw f=g E.lw e
   ·obtain⟨x,k3,k4⟩:=k2 e2 ⟨l,rl,by omega⟩
    exact⟨x,k3,by omega⟩
   ·obtain⟨x,hx⟩:=g8
    exact⟨x,hx,by have:=hw.low hem hx;omega⟩
  obtain⟨x,rx,gx⟩:=hx
  have:=hn1 f hf
  exact⟨x,rx,by omega,fun sd aM=>aM.EM (zy f hf) hem (hfr f hf).2 (hfr f hf).1 rl ((hw.lN hem rx rl).2 gl) rx ((hw.lN (zy f hf) rl rx).2 gx)⟩
 have iD:∀p∈SG,p≠([],[bs])→∀x∈p.1++p.2,g E.lw e1<g E.lw x:=fun p hp hne x hx=>by
  rw[hSG] at hp
  rcases aal.1 hp with k|k
  ·have:=his x (bk.2 ⟨p,k,aal.1 hx⟩)
   omega
  ·exact absurd (aao.1 k) hne
 have G8:∀x∈cH SG,T.aX e x:=fun x hx=>by
  obtain⟨f,k1,k2⟩:=he.mem x hx
  rw[aao.1 k1] at k2
  exact k2
 unfold kG
 rw[bB]
 dsimp only
 rw[Eg,hst]
 rcases UU (lowest:=st.lowest) hw.len lK hl' (rest:=zE++[([],[b0])]++rest) hb0 SG st.like [] hk.hold he.ne with ⟨k1,p,kp,k2,k3⟩|⟨eX,k1,k2,k3,k4⟩
 ·
  have Qq:own E.lw st.lowest a (top ((zE++[([],[b0])]++rest).map cM)) ((SG++(zE++[([],[b0])]++rest)).map cM) st.like aO=some none:=k1
  rw[Qq]
  refine .inl ⟨rfl,fun sd aM=> ?_⟩
  have hne:p≠([],[bs]):=fun k=>k2 (by rw[k])
  obtain⟨l,hl2⟩:∃l,l∈p.1:=⟨_,head_mem k2⟩
  obtain⟨r,hr2⟩:∃r,r∈p.2:=⟨_,head_mem k3⟩
  have rl:=G8 l (bk.2 ⟨p,kp,.inl hl2⟩)
  have rr:=G8 r (bk.2 ⟨p,kp,.inr hr2⟩)
  exact(he.FC sd aM p kp).2.2 l hl2 r hr2 (SX sd aM l r rl rr (iD p kp hne l (by simp[hl2])) (iD p kp hne r (by simp[hr2])))
 have Qq:own E.lw st.lowest a (top ((zE++[([],[b0])]++rest).map cM)) ((SG++(zE++[([],[b0])]++rest)).map cM) st.like aO=some (some ((zE++[([],[b0])]++rest).map cM,eX,dJ (lR E.lw (g E.lw a) SG))):=k1
 rw[Qq]
 dsimp only
 rw[ha,aaE] at k2
 rw[ha,aaE] at k4
 rw[ha]
 obtain⟨O,hO⟩:∃O,lR E.lw (g E.lw e1) SG=O:=⟨_,rfl⟩
 rw[hO] at k2 k4 ⊢
 have Mt:∀x,x∈O↔x∈cH SG∧g E.lw e1<g E.lw x:=fun x=>by
  rw[←hO]
  unfold lR
  rw[abY,bk]
  constructor
  ·rintro⟨p,hp,hx⟩
   split at hx
   ·simp at hx
   ·rename_i hne
    refine⟨⟨p,hp,aal.1 hx⟩,?_⟩
    by_cases k:p=([],[bs])
    ·subst k
     simp at hx hne
     subst hx
     omega
    ·exact iD p hp k x hx
  ·rintro⟨⟨p,hp,hx⟩,gx⟩
   refine⟨p,hp,?_⟩
   rw[if_neg]
   ·exact aal.2 hx
   ·intro k
    by_cases kb:p=([],[bs])
    ·subst kb
     simp at hx k
     subst hx
     omega
    ·have hpn:=he.ne p hp
     have hne:p.1++p.2≠[]:=fun q=>hpn (List.append_eq_nil_iff.1 q)
     have:=iD p hp kb _ (bD hne)
     omega
 have DT:∀x∈O,T.aX e x∧g E.lw e1<g E.lw x:=fun x hx=>⟨G8 x ((Mt x).1 hx).1,((Mt x).1 hx).2⟩
 have acW:lO E.lw O:=by
  rw[←hO]
  refine rS he.mono fun p hp=> ?_
  split
  ·exact⟨List.Pairwise.nil,fun x hx=>by simp at hx⟩
  ·refine⟨?_,fun x hx=>hx⟩
   rcases k3 p hp with k|k
   ·rw[k];exact(he.pg p hp).2
   ·rw[k,abf];exact(he.pg p hp).1
 have Vz:fU E.lw (g E.lw e) [b0]=false:=by
  cases hq:fU E.lw (g E.lw e) [b0] with
  |false=>rfl
  |true=>
   have:=(jK.1 hq).2
   simp at this
   omega
 have Xt:∀Q1 Q2,zE++[([],[b0])]++rest=Q1++Q2→(∀q∈Q1,fU E.lw (g E.lw e) q.1≠fU E.lw (g E.lw e) q.2)→∃t,zE=Q1++t∧Q2=t++[([],[b0])]++rest:=fun Q1 Q2 hQ hq=>by
  have hb:(([],[b0]):cJ)∉Q1:=fun k=>by
   have:=hq _ k
   dsimp only at this
   rw[Vz] at this
   exact this rfl
  rw[aaH] at hQ
  rcases List.append_eq_append_iff.1 hQ with ⟨t,k1,k2⟩|⟨t,k1,k2⟩
  ·cases t with
   |nil=>
    rw[abf] at k1
    exact⟨[],by rw[k1];simp,by rw[aaE] at k2;rw[←k2];simp⟩
   |cons p t=>
    exfalso
    rw[abi,aaE,abi] at k2
    have:=(List.cons.inj k2).1
    exact hb (by rw[k1,←this];simp)
  ·exact⟨t,k1,by rw[k2];simp⟩
 rcases others_eq hw.len hem (zE++[([],[b0])]++rest) eX [] O k2 with ⟨l1,Q1,q,Q2,l2,l3,l4,l5⟩|⟨eW,Q1,Q2,l0,l1,l2,l3,l4,l5⟩
 ·have Kw:others E.lw (e:Int) ((zE++[([],[b0])]++rest).map cM) eX (aO,dJ O)=some none:=l1
  rw[Kw]
  refine .inl ⟨rfl,fun sd aM=> ?_⟩
  obtain⟨t,t1,t2⟩:=Xt Q1 (q::Q2) l2 l3
  have hq:q∈zE++[([],[b0])]:=by
   cases t with
   |nil=>
    rw[aaE,abi] at t2
    have:=(List.cons.inj t2).1
    rw[this]
    simp
   |cons p t=>
    have:=(List.cons.inj t2).1
    rw[t1,this]
    simp
  obtain⟨n1,g1⟩:=jK.1 l4
  obtain⟨n2,g2⟩:=jK.1 l5
  obtain⟨f,hf,rf⟩:=hD.mem _ (bk.2 ⟨q,hq,.inl (head_mem n1)⟩)
  obtain⟨f',hf',ZJ⟩:=hD.mem _ (bk.2 ⟨q,hq,.inr (head_mem n2)⟩)
  obtain⟨x,rx,gx,ux⟩:=SV f hf _ rf g1
  obtain⟨x',rx',gx',ux'⟩:=SV f' hf' _ ZJ g2
  have h3:=SX sd aM x x' rx rx' gx gx'
  have h4:=ux sd aM
  have h5:=ux' sd aM
  have h6:=(hD.FC sd aM q hq).2.2 _ (head_mem n1) _ (head_mem n2)
  revert h3 h4 h5 h6
  cases sd x<;>cases sd x'<;>cases sd (q.1.headD 0)<;>cases sd (q.2.headD 0)<;>simp
 ·obtain⟨t,t1,t2⟩:=Xt Q1 Q2 l0 l3
  subst t1
  subst t2
  have Kw:others E.lw (e:Int) ((Q1++t++[([],[b0])]++rest).map cM) eX (aO,dJ O)=some (some ((t++[([],[b0])]++rest).map cM,eW,(dJ (xp E.lw (g E.lw e) Q1),dJ (O++pO E.lw (g E.lw e) Q1)))):=l1
  rw[Kw]
  dsimp only
  rw[aaE] at l2 l5
  obtain⟨A,hA⟩:∃A,xp E.lw (g E.lw e) Q1=A:=⟨_,rfl⟩
  obtain⟨B,hB⟩:∃B,O++pO E.lw (g E.lw e) Q1=B:=⟨_,rfl⟩
  rw[hA,hB] at l2 l5 ⊢
  have tL:=abN.1 hD.mono
  rw[aaH] at hD
  have tL:=abN.1 hD.mono
  have Mu:∀x∈A,∃q∈Q1,(x∈q.1∧fU E.lw (g E.lw e) q.1=true∧fU E.lw (g E.lw e) q.2=false)∨(x∈q.2∧fU E.lw (g E.lw e) q.2=true∧fU E.lw (g E.lw e) q.1=false):=fun x hx=>by
   rw[←hA] at hx
   obtain⟨q,hq,Qw⟩:=abY.1 hx
   have:=l3 q hq
   refine⟨q,hq,?_⟩
   cases b1:fU E.lw (g E.lw e) q.1<;>cases b2:fU E.lw (g E.lw e) q.2<;>rw[b1,b2] at this<;>simp[b1] at Qw ⊢ <;>simp at this<;>exact Qw
  have G9:∀x∈pO E.lw (g E.lw e) Q1,∃q∈Q1,(x∈q.2∧fU E.lw (g E.lw e) q.1=true∧fU E.lw (g E.lw e) q.2=false)∨(x∈q.1∧fU E.lw (g E.lw e) q.2=true∧fU E.lw (g E.lw e) q.1=false):=fun x hx=>by
   obtain⟨q,hq,Qw⟩:=abY.1 hx
   have:=l3 q hq
   refine⟨q,hq,?_⟩
   cases b1:fU E.lw (g E.lw e) q.1<;>cases b2:fU E.lw (g E.lw e) q.2<;>rw[b1,b2] at this<;>simp[b1] at Qw ⊢ <;>simp at this<;>exact Qw
  have AG:∀x,x∈B↔x∈O∨x∈pO E.lw (g E.lw e) Q1:=fun x=>by rw[←hB];exact aal
  have inQ:∀x q,q∈Q1→x∈q.1∨x∈q.2→x∈A∨x∈pO E.lw (g E.lw e) Q1:=fun x q hq hx=>by
   rw[←hA]
   unfold xp pO
   rw[abY,abY]
   cases b1:fU E.lw (g E.lw e) q.1<;>rcases hx with hx|hx
   ·exact .inr ⟨q,hq,by rw[b1];exact hx⟩
   ·exact .inl ⟨q,hq,by rw[b1];exact hx⟩
   ·exact .inl ⟨q,hq,by rw[b1];exact hx⟩
   ·exact .inr ⟨q,hq,by rw[b1];exact hx⟩
  have qR:∀q∈Q1,q∈Q1++(t++[([],[b0])]):=fun q hq=>aaN _ hq
  have Xs:∀x∈pO E.lw (g E.lw e) Q1,g E.lw x≤g E.lw e:=fun x hx=>by
   obtain⟨q,hq,⟨k1,_,k2⟩|⟨k1,_,k2⟩⟩:=G9 x hx
   ·exact zN (hD.pg q (qR q hq)).2 k2 x k1
   ·exact zN (hD.pg q (qR q hq)).1 k2 x k1
  have Xr:∀x∈cH (t++[([],[b0])]),g E.lw x≤g E.lw e:=fun x hx=>by
   cases ht:t with
   |nil=>
    rw[ht] at hx
    have:x=b0:=by simpa[cH] using hx
    rw[this]
    omega
   |cons q t'=>
    rw[ht] at hx l4 hD tL
    obtain⟨b1,b2⟩:=l4 q rfl
    have Ok:q∈Q1++(q::t'++[([],[b0])]):=by simp
    have QX:∀z∈q.1++q.2,g E.lw z≤g E.lw e:=fun z hz=>by
     rcases aal.1 hz with k|k
     ·exact zN (hD.pg q Ok).1 b1 z k
     ·exact zN (hD.pg q Ok).2 b2 z k
    obtain⟨p,hp,hxp⟩:=bk.1 hx
    rcases aaj.1 (show p∈q::(t'++[([],[b0])]) from hp) with rfl|hp
    ·exact QX x (aal.2 hxp)
    ·have hne:=hD.ne q Ok
     have X6:q.1++q.2≠[]:=fun k=>hne (List.append_eq_nil_iff.1 k)
     have:=(aa4.1 (show Ex E.lw (q::(t'++[([],[b0])])) from tL.2.1)).1 p hp _ (bD X6) x (aal.2 hxp)
     have:=QX _ (bD X6)
     omega
  have hiA:∀x∈A,g E.lw e1<g E.lw x:=fun x hx=>by
   obtain⟨q,hq,k⟩:=Mu x hx
   exact Ou x (bk.2 ⟨q,aaN _ hq,k.elim (fun k=> .inl k.1) fun k=> .inr k.1⟩)
  have hiL:∀x∈pO E.lw (g E.lw e) Q1,g E.lw e1<g E.lw x:=fun x hx=>by
   obtain⟨q,hq,k⟩:=G9 x hx
   exact Ou x (bk.2 ⟨q,aaN _ hq,k.elim (fun k=> .inr k.1) fun k=> .inl k.1⟩)
  have aeM:∀x,x∈A∨x∈B→g E.lw e1<g E.lw x:=fun x hx=>by
   rcases hx with hx|hx
   ·exact hiA x hx
   ·rcases(AG x).1 hx with hx|hx
    ·exact(DT x hx).2
    ·exact hiL x hx
  have back:∀sd,Sat eW st.turn seen ((A,B)::(t++[([],[b0])]++rest)) sd→S sd∧∀p∈SG,g E.lw ((p.1++p.2).getLastD 0)=g E.lw e1→∀x∈p.1++p.2,sd x=sd b0:=fun sd aM=>by
   obtain⟨j1,j2⟩:=k4 sd (l5 sd aM)
   exact⟨(hS sd).2 j1.uK,j2⟩
  have mj:∀sd,Sat eW st.turn seen ((A,B)::(t++[([],[b0])]++rest)) sd→∀y∈cH SG,¬g E.lw e1<g E.lw y→sd y=sd b0∧g E.lw y=g E.lw e1:=fun sd aM y hy hg=>by
   have e5:g E.lw y=g E.lw e1:=by have:=hw.low hem (G8 y hy);omega
   obtain⟨p,hp,hyp⟩:=bk.1 hy
   have hpb:p=([],[bs]):=abw fun k=>by
    have:=iD p hp k y (aal.2 hyp)
    omega
   refine⟨(back sd aM).2 p hp ?_ y (aal.2 hyp),e5⟩
   subst hpb
   have:y=bs:=by simpa using hyp
   rw[←this]
   simpa using e5
  have Xj:∀x,x∈A∨x∈pO E.lw (g E.lw e) Q1→∃f∈D,T.aX f x:=fun x hx=>by
   rcases hx with hx|hx
   ·obtain⟨q,hq,k⟩:=Mu x hx
    exact hD.mem x (bk.2 ⟨q,qR q hq,k.elim (fun k=> .inl k.1) fun k=> .inr k.1⟩)
   ·obtain⟨q,hq,k⟩:=G9 x hx
    exact hD.mem x (bk.2 ⟨q,qR q hq,k.elim (fun k=> .inr k.1) fun k=> .inl k.1⟩)
  have abr:∀sd,T.LR sd→(∀x∈A,∀y∈A,sd x=sd y)∧(∀x∈B,∀y∈B,sd x=sd y)∧∀x∈A,∀y∈B,sd x≠sd y:=fun sd aM=>by
   have key:∃c:Bool,(∀x,T.aX e x→g E.lw e1<g E.lw x→sd x=c):=by
    by_cases hx:∃x,T.aX e x∧g E.lw e1<g E.lw x
    ·obtain⟨x,rx,gx⟩:=hx
     exact⟨sd x,fun y ry gy=>SX sd aM y x ry rx gy gx⟩
    ·exact⟨true,fun x rx gx=>absurd ⟨x,rx,gx⟩ hx⟩
   obtain⟨c,hc⟩:=key
   have top:∀q∈Q1,∀{X:List Nat},(X=q.1∨X=q.2)→fU E.lw (g E.lw e) X=true→∀x∈X,sd x≠c:=fun q hq X hX hb x hx=>by
    obtain⟨n1,g1⟩:=jK.1 hb
    have hqf:=hD.FC sd aM q (qR q hq)
    obtain⟨f,hf,rf⟩:=hD.mem (X.headD 0) (bk.2 ⟨q,qR q hq,by rcases hX with k|k<;>rw[←k]<;>simp only[head_mem n1,true_or,or_true]⟩)
    obtain⟨z,rz,gz,uz⟩:=SV f hf _ rf g1
    have e6:sd x=sd (X.headD 0):=by
     rcases hX with k|k
     ·rw[k] at hx ⊢;rw[k] at n1;exact hqf.1 x hx _ (head_mem n1)
     ·rw[k] at hx ⊢;rw[k] at n1;exact hqf.2.1 x hx _ (head_mem n1)
    rw[e6,←hc z rz gz]
    exact uz sd aM
   have sA:∀x∈A,sd x≠c:=fun x hx=>by
    obtain⟨q,hq,⟨k1,k2,_⟩|⟨k1,k2,_⟩⟩:=Mu x hx
    ·exact top q hq (.inl rfl) k2 x k1
    ·exact top q hq (.inr rfl) k2 x k1
   have sB:∀x∈B,sd x=c:=fun x hx=>by
    rcases(AG x).1 hx with hx|hx
    ·exact hc x (DT x hx).1 (DT x hx).2
    ·obtain⟨q,hq,⟨k1,k2,_⟩|⟨k1,k2,_⟩⟩:=G9 x hx
     ·have h3:=top q hq (.inl rfl) k2 _ (head_mem (jK.1 k2).1)
      have h4:=(hD.FC sd aM q (qR q hq)).2.2 _ (head_mem (jK.1 k2).1) x k1
      revert h3 h4
      cases sd x<;>cases c<;>cases sd (q.1.headD 0)<;>simp
     ·have h3:=top q hq (.inr rfl) k2 _ (head_mem (jK.1 k2).1)
      have h4:=(hD.FC sd aM q (qR q hq)).2.2 x k1 _ (head_mem (jK.1 k2).1)
      revert h3 h4
      cases sd x<;>cases c<;>cases sd (q.2.headD 0)<;>simp
   refine⟨fun x hx y hy=> ?_,fun x hx y hy=>by rw[sB x hx,sB y hy],fun x hx y hy=>by rw[sB y hy];exact sA x hx⟩
   have h3:=sA x hx
   have h4:=sA y hy
   revert h3 h4
   cases sd x<;>cases sd y<;>cases c<;>simp
  have acY:lO E.lw A:=by
   rw[←hA]
   refine rS tL.1 fun q hq=> ?_
   split
   ·exact⟨(hD.pg q (qR q hq)).1,fun x hx=>aaN _ hx⟩
   ·exact⟨(hD.pg q (qR q hq)).2,fun x hx=>aaz _ hx⟩
  have acX:lO E.lw B:=by
   rw[←hB]
   refine GD acW (rS tL.1 fun q hq=> ?_) fun x hx y hy=> ?_
   ·split
    ·exact⟨(hD.pg q (qR q hq)).2,fun x hx=>aaz _ hx⟩
    ·exact⟨(hD.pg q (qR q hq)).1,fun x hx=>aaN _ hx⟩
   ·have:=Xs y hy
    have:=hw.low hem (DT x hx).1
    omega
  obtain⟨PN,hPN,SH,abd,su,afm⟩:∃PN:List cJ,(if (dJ A,dJ B)=dG then (t++[([],[b0])]++rest).map cM else (dJ A,dJ B)::(t++[([],[b0])]++rest).map cM)=(PN++(t++[([],[b0])]++rest)).map cM∧(PN=[(A,B)]∧¬(A=[]∧B=[])∨PN=[]∧A=[]∧B=[])∧Lk m eW st.turn seen (PN++(t++[([],[b0])]++rest))∧(∀sd,Sat eW st.turn seen (PN++(t++[([],[b0])]++rest)) sd→Sat eW st.turn seen ((A,B)::(t++[([],[b0])]++rest)) sd)∧True:=by
   by_cases hab:A=[]∧B=[]
   ·refine⟨[],?_,.inr ⟨rfl,hab⟩,?_,fun sd aM=> ?_,trivial⟩
    ·rw[if_pos (show(dJ A,dJ B)=dG from vG (p:=(A,B)) |>.2 hab)]
     rfl
    ·obtain⟨e6,e7⟩:=hab
     rw[e6,e7] at l2
     exact l2.uK
    ·obtain⟨e6,e7⟩:=hab
     rw[e6,e7]
     exact aM.hold
   ·refine⟨[(A,B)],?_,.inl ⟨rfl,hab⟩,l2,fun sd aM=>aM,trivial⟩
    rw[if_neg (show ¬(dJ A,dJ B)=dG from fun k=>hab ((vG (p:=(A,B))).1 k))]
    rfl
  have FL:∀x,x∈cH PN↔x∈A∨x∈B:=fun x=>by
   rcases SH with ⟨k,_⟩|⟨k,k1,k2⟩
   ·rw[k];simp[cH]
   ·rw[k,k1,k2];simp[cH]
  have Qa:∀p∈PN,p=(A,B)∧¬(A=[]∧B=[]):=fun p hp=>by
   rcases SH with ⟨k,k1⟩|⟨k,_⟩
   ·rw[k] at hp;exact⟨aao.1 hp,k1⟩
   ·rw[k] at hp;simp at hp
  refine .inr ⟨eW,PN++(t++[([],[b0])]),?_,?_,?_,?_,?_,?_⟩
  ·rw[hPN,aaH PN]
  ·rw[aaH];exact abd
  ·intro sd aM
   rw[aaH] at aM
   exact(back sd (su sd aM)).1
  ·rw[aaH PN]
   refine⟨fun y hy=> ?_,fun f hf x hx=> ?_,?_,fun p hp=> ?_,fun p hp=> ?_,fun sd aM p hp=> ?_,fun e2 h2 hx2=> ?_⟩
   ·rw[ey] at hy
    rcases aal.1 hy with k|k
    ·rcases(FL y).1 k with k|k
     ·obtain⟨f,k1,k2⟩:=Xj y (.inl k)
      exact⟨f,aaN _ k1,k2⟩
     ·rcases(AG y).1 k with k|k
      ·exact⟨e,by simp,(DT y k).1⟩
      ·obtain⟨f,k1,k2⟩:=Xj y (.inr k)
       exact⟨f,aaN _ k1,k2⟩
    ·obtain⟨f,k1,k2⟩:=hD.mem y (by rw[ey];exact aaz _ k)
     exact⟨f,aaN _ k1,k2⟩
   ·rcases aal.1 hf with hf|hf
    ·obtain⟨y,k1,k2,k3⟩:=hD.rep f hf x hx
     refine⟨y,?_,k2,fun sd aM=>k3 sd (back sd (su sd aM)).1⟩
     rw[ey] at k1 ⊢
     rcases aal.1 k1 with k1|k1
     ·obtain⟨q,hq,KE⟩:=bk.1 k1
      refine aaN _ ((FL y).2 ?_)
      rcases inQ y q hq KE with k|k
      ·exact .inl k
      ·exact .inr ((AG y).2 (.inr k))
     ·exact aaz _ k1
    ·rw[aao.1 hf] at hx
     obtain⟨y,k1,k2,k3⟩:=he.rep e (by simp) x hx
     by_cases hy:g E.lw e1<g E.lw y
     ·refine⟨y,?_,k2,fun sd aM=>k3 sd (back sd (su sd aM)).1⟩
      rw[ey]
      exact aaN _ ((FL y).2 (.inr ((AG y).2 (.inl ((Mt y).2 ⟨k1,hy⟩)))))
     ·refine⟨b0,?_,?_,fun sd aM=>(k3 sd (back sd (su sd aM)).1).trans (mj sd (su sd aM) y k1 hy).1⟩
      ·rw[ey,ey];simp[cH]
      ·have e5:g E.lw y=g E.lw e1:=by have:=hw.low hem (G8 y k1);omega
       omega
   ·refine abN.2 ⟨?_,tL.2.1,fun p hp q hq x hx y hy=> ?_⟩
    ·rcases SH with ⟨k,_⟩|⟨k,_⟩<;>rw[k]
     ·exact ac3 _ _
     ·exact List.Pairwise.nil
    ·rw[(Qa p hp).1] at hx
     have hyT:y∈cH (t++[([],[b0])]):=bk.2 ⟨q,hq,aal.1 hy⟩
     have old:∀z,(∃q'∈Q1,z∈q'.1∨z∈q'.2)→g E.lw y≤g E.lw z:=fun z ⟨q',hq',hz⟩=>tL.2.2 q' hq' q hq z (aal.2 hz) y hy
     rcases aal.1 hx with hx|hx
     ·obtain⟨q',hq',k⟩:=Mu x hx
      exact old x ⟨q',hq',k.elim (fun k=> .inl k.1) fun k=> .inr k.1⟩
     ·rcases(AG x).1 hx with hx|hx
      ·have:=Xr y hyT
       have:=hw.low hem (DT x hx).1
       omega
      ·obtain⟨q',hq',k⟩:=G9 x hx
       exact old x ⟨q',hq',k.elim (fun k=> .inr k.1) fun k=> .inl k.1⟩
   ·rcases aal.1 hp with k|k
    ·rw[(Qa p k).1];exact⟨acY,acX⟩
    ·exact hD.pg p (aaz _ k)
   ·rcases aal.1 hp with k|k
    ·rw[(Qa p k).1];exact(Qa p k).2
    ·exact hD.ne p (aaz _ k)
   ·rcases aal.1 hp with k|k
    ·rw[(Qa p k).1];exact abr sd aM
    ·exact hD.FC sd aM p (aaz _ k)
   ·obtain rfl:e1=e2:=by
     cases D with
     |nil=>simp at h1
     |cons d D=>simp at h1 h2;rw[←h1,h2]
    refine⟨PN++t,b0,by rw[aaH],ZK,gb0,fun y hy=> ?_⟩
    rw[ey] at hy
    rcases aal.1 hy with k|k
    ·exact aeM y ((FL y).1 k)
    ·exact Ou y (by rw[ey];exact aaz _ k)
  ·intro b hb
   rw[←aaH] at hb
   simpa using hb
  ·intro f hf sd aM
   rw[aaH] at aM
   have hs1:=su sd aM
   have hs0:=(back sd hs1).1
   have hch:=l2.ch (A,B) (by simp)
   obtain⟨sA,sB⟩:=l2.mG (p:=(A,B)) (by simp)
   have inA:∀y,T.aX f y→g E.lw e<g E.lw y→∃y'∈A,sd y=sd y':=fun y ry gy=>by
    obtain⟨y',k1,k2,k3⟩:=hD.rep f hf y ry
    refine⟨y',?_,k3 sd hs0⟩
    rw[ey] at k1
    rcases aal.1 k1 with k1|k1
    ·obtain⟨q,hq,KE⟩:=bk.1 k1
     rcases inQ y' q hq KE with k|k
     ·exact k
     ·have:=Xs y' k
      omega
    ·have:=Xr y' k1
     omega
   have inB:∀x,T.aX e x→g E.lw f<g E.lw x→∃x'∈B,sd x=sd x':=fun x rx gx=>by
    obtain⟨x',k1,k2,k3⟩:=he.rep e (by simp) x rx
    have:=hn1 f hf
    exact⟨x',(AG x').2 (.inl ((Mt x').2 ⟨k1,by omega⟩)),k3 sd hs0⟩
   refine⟨fun b c rb rc ab ac=> ?_,fun b c rb rc ab ac=> ?_,fun b c rb ab rc ac=> ?_⟩
   ·obtain⟨y,k1,k2⟩:=inA b rb (hw.oM hem rb ab).1
    obtain⟨y',k3,k4⟩:=inA c rc (hw.oM hem rc ac).1
    rw[k2,k4]
    exact hs1.alike hch.1 sA k1 k3
   ·obtain⟨y,k1,k2⟩:=inB b rb (hw.oM (zy f hf) rb ab).1
    obtain⟨y',k3,k4⟩:=inB c rc (hw.oM (zy f hf) rc ac).1
    rw[k2,k4]
    exact hs1.alike hch.2 sB k1 k3
   ·obtain⟨y,k1,k2⟩:=inA b rb (hw.oM hem rb ab).1
    obtain⟨y',k3,k4⟩:=inB c rc (hw.oM (zy f hf) rc ac).1
    rw[k2,k4]
    exact hs1.un (A,B) (by simp) y k1 y' k3
end
end Lt
end
end Go.Proofs.YtdjmnpmdmjclhabGreat
