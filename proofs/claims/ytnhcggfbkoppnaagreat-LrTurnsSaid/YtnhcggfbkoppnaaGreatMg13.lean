import Derived.Test.YtnhcggfbkoppnaaGreatMg12
import Derived.Test.YtnhcggfbkoppnaaGreatMg11
namespace Go.Proofs.YtnhcggfbkoppnaaGreat
section
namespace Lt
section
variable {m:Nat} {lw like turn lowest:List Int} {seen:Nat→Prop} {sd:Nat→Bool}
theorem ey (a b:List cI):cG (a++b)=cG a++cG b:=by simp[cG]
theorem U7 {p q:cI} (hp:¬(p.1=[]∧p.2=[])) (hd:∀x,x∈p.1++p.2→x∉q.1++q.2):cJ p≠cJ q:=fun e=>by
 have e1:dJ p.1=dJ q.1:=congrArg Prod.fst e
 have e2:dJ p.2=dJ q.2:=congrArg Prod.snd e
 have key:∀{a b:List Nat},a≠[]→dJ a=dJ b→∃x,x∈a∧x∈b:=fun {a b} ha hab=>by
  have hb:b≠[]:=fun k=>ha (dD.1 (hab.trans (dD.2 k)))
  rw[nx ha,nx hb] at hab
  have h1:=congrArg Prod.fst hab
  have h2:a.headD 0=b.headD 0:=by
   dsimp only at h1
   omega
  exact⟨a.headD 0,head_mem ha,by rw[h2];exact head_mem hb⟩
 by_cases h1:p.1=[]
 ·have h2:p.2≠[]:=fun k=>hp ⟨h1,k⟩
  obtain⟨x,k1,k2⟩:=key h2 e2
  exact hd x (by simp[k1]) (by simp[k2])
 ·obtain⟨x,k1,k2⟩:=key h1 e1
  exact hd x (by simp[k1]) (by simp[k2])
theorem TN {p:cI} {rest:List cI} (hp:¬(p.1=[]∧p.2=[])) (hd:∀x,x∈p.1++p.2→x∉cG rest):cJ p≠top (rest.map cJ):=by
 cases rest with
 |nil=>exact fun e=>hp (vk.1 e)
 |cons q rest=>exact U7 hp fun x hx k=>hd x hx (by rw[aG,←List.append_assoc];exact List.mem_append_left _ k)
def lG (lw:List Int) (h:Int) (s:List cI):List Nat:=s.flatMap fun p=>if g lw ((p.1++p.2).getLastD 0)=h then [] else p.1++p.2
theorem z7 (lw:List Int) (h:Int) (p:cI) (s:List cI):lG lw h (p::s)=(if g lw ((p.1++p.2).getLastD 0)=h then [] else p.1++p.2)++lG lw h s:=by simp[lG]
theorem TZ (lW:lw.length=m) {above b0:Nat} (ha:above<m) (hl:bz lowest (above:Int)=some (b0:Int)) {rest:List cI} (hb0:b0∈cG rest):
 ∀(SG:List cI) (like:List Int) (O:List Nat),Lk m like turn seen (([],O)::(SG++rest))→(∀p∈SG,¬(p.1=[]∧p.2=[]))→
 (own lw lowest above (top (rest.map cJ)) ((SG++rest).map cJ) like (dJ O)=some none∧∃p∈SG,p.1≠[]∧p.2≠[])∨
 ∃aH,own lw lowest above (top (rest.map cJ)) ((SG++rest).map cJ) like (dJ O)=some (some (rest.map cJ,aH,dJ (O++lG lw (g lw above) SG)))∧Lk m aH turn seen (([],O++lG lw (g lw above) SG)::rest)∧
  (∀p∈SG,p.1=[]∨p.2=[])∧
  ∀sd,Sat aH turn seen (([],O++lG lw (g lw above) SG)::rest) sd→Sat like turn seen (([],O)::(SG++rest)) sd∧∀p∈SG,g lw ((p.1++p.2).getLastD 0)=g lw above→∀x∈p.1++p.2,sd x=sd b0:=by
 intro SG
 induction SG with
 |nil=>
  intro like O hk _
  refine .inr ⟨like,?_,?_,fun p hp=>by simp at hp,fun sd aN=>⟨?_,fun p hp=>by simp at hp⟩⟩
  ·rw[List.nil_append,show lG lw (g lw above) []=[] from rfl,List.append_nil]
   cases rest with
   |nil=>simp[cG] at hb0
   |cons q rest=>
    rw[List.map_cons]
    unfold own
    rw[if_pos (show cJ q=top (cJ q::rest.map cJ) from rfl)]
  ·rw[show lG lw (g lw above) []=[] from rfl,List.append_nil]
   exact hk
  ·rw[show lG lw (g lw above) []=[] from rfl,List.append_nil] at aN
   exact aN
 |cons p SG ih=>
  intro like O hk hne
  have hp:=hne p List.mem_cons_self
  have hnd:=hk.nd
  rw[aG,List.cons_append,aG] at hnd
  simp only[List.nil_append,ey] at hnd
  have DJ:∀x,x∈p.1++p.2→x∉cG rest:=fun x hx k=>by
   have h1:=(List.nodup_append.1 hnd).2.1
   rw[←List.append_assoc] at h1
   exact(List.nodup_append.1 h1).2.2 x hx x (List.mem_append_right _ k) rfl
  have xR:=TN hp DJ
  have hin:∀x,x∈p.1++p.2→x∈cG (([],O)::(p::SG++rest)):=fun x hx=>bk.2 ⟨p,by simp,List.mem_append.1 hx⟩
  rw[List.cons_append,List.map_cons]
  unfold own
  rw[if_neg xR]
  obtain⟨P1,P2⟩:=p
  by_cases two:P1≠[]∧P2≠[]
  ·refine .inl ⟨?_,⟨(P1,P2),List.mem_cons_self,two⟩⟩
   have e1:¬(cJ (P1,P2)).2=aP:=fun k=>two.2 (dD.1 k)
   have e2:¬(cJ (P1,P2)).1=aP:=fun k=>two.1 (dD.1 k)
   rw[if_neg e1,if_pos e2]
  ·
   obtain⟨X,hX,j6,hsel,hno⟩:∃X,P1++P2=X∧X≠[]∧(if (cJ (P1,P2)).2=aP then (cJ (P1,P2)).1 else (cJ (P1,P2)).2)=dJ X∧¬(if (cJ (P1,P2)).2=aP then (cJ (P1,P2)).2 else (cJ (P1,P2)).1)≠aP:=by
    by_cases e2:P2=[]
    ·subst e2
     have e1:P1≠[]:=fun k=>hp ⟨k,rfl⟩
     refine⟨P1,by simp,e1,?_,?_⟩
     ·rw[if_pos (show(cJ (P1,[])).2=aP from rfl)]
      rfl
     ·rw[if_pos (show(cJ (P1,[])).2=aP from rfl)]
      exact fun k=>k rfl
    ·have e1:P1=[]:=Classical.byContradiction fun k=>two ⟨k,e2⟩
     subst e1
     refine⟨P2,by simp,e2,?_,?_⟩
     ·rw[if_neg (show ¬(cJ ([],P2)).2=aP from fun k=>e2 (dD.1 k))]
      rfl
     ·rw[if_neg (show ¬(cJ ([],P2)).2=aP from fun k=>e2 (dD.1 k))]
      exact fun k=>k rfl
   have tG:Lk m like turn seen (([],O)::([],X)::(SG++rest))∧∀sd,Sat like turn seen (([],O)::([],X)::(SG++rest)) sd→Sat like turn seen (([],O)::(P1,P2)::(SG++rest)) sd:=by
    by_cases e2:P2=[]
    ·subst e2
     rw[List.append_nil] at hX
     subst hX
     exact⟨hk.qx,fun sd h=>h.qx⟩
    ·have e1:P1=[]:=Classical.byContradiction fun k=>two ⟨k,e2⟩
     subst e1
     rw[List.nil_append] at hX
     subst hX
     exact⟨hk,fun sd h=>h⟩
   obtain⟨hk2,hs2⟩:=tG
   have dz:=bD j6
   have Uj:∀x∈X,x<m:=fun x hx=>hk2.sm x (hk2.sn x (by rw[aG,aG];simp[hx]))
   rw[if_neg hno,hsel]
   have e3:bz lw (dJ X).2=some (g lw (X.getLastD 0)):=by
    rw[nx j6]
    exact lJ (by rw[lW];exact Uj _ dz)
   rw[e3,lJ (by rw[lW];exact ha)]
   dsimp only
   have hone:(P1:List Nat)=[]∨P2=[]:=by
    by_cases e1:P1=[]
    ·exact .inl e1
    ·exact .inr (Classical.byContradiction fun k=>two ⟨e1,k⟩)
   by_cases ea:g lw (X.getLastD 0)=g lw above
   ·rw[if_pos ea,hl]
    dsimp only
    have e4:eT like (dJ X).2 (b0:Int)=some (like.set (X.getLastD 0) (b0:Int)):=by
     rw[nx j6]
     exact mq (by rw[hk.ll];exact Uj _ dz)
    rw[e4]
    dsimp only
    have hb:b0∈cG (SG++rest):=by rw[ey];exact List.mem_append_right _ hb0
    have hk3:=hk2.align j6 hb
    rcases ih _ O hk3 (fun q hq=>hne q (List.mem_cons_of_mem _ hq)) with ⟨k1,q,k2,k3⟩|⟨aH,k1,k2,k3,k4⟩
    ·exact .inl ⟨k1,q,List.mem_cons_of_mem _ k2,k3⟩
    ·have eo:lG lw (g lw above) ((P1,P2)::SG)=lG lw (g lw above) SG:=by
      rw[z7]
      dsimp only
      rw[hX,if_pos ea,List.nil_append]
     rw[eo]
     refine .inr ⟨aH,k1,k2,fun q hq=> ?_,fun sd aN=> ?_⟩
     ·rcases List.mem_cons.1 hq with rfl|hq
      ·exact hone
      ·exact k3 q hq
     ·obtain⟨l1,l2⟩:=k4 sd aN
      obtain⟨l3,l4⟩:=Sat.align hk2 j6 l1
      refine⟨hs2 sd l3,fun q hq Ur x hx=> ?_⟩
      rcases List.mem_cons.1 hq with rfl|hq
      ·exact l4 x (by rw[←hX];exact hx)
      ·exact l2 q hq Ur x hx
   ·rw[if_neg ea]
    have hO:∀x∈O,x<like.length:=fun x hx=>by rw[hk.ll];exact hk.sm x (hk.sn x (by rw[aG];simp[hx]))
    rw[join_eq hO]
    dsimp only
    have hk3:=hk2.merge
    have ej:jc (jc like [] []) O X=jc like O X:=rfl
    rw[ej] at hk3
    rcases ih _ (O++X) hk3 (fun q hq=>hne q (List.mem_cons_of_mem _ hq)) with ⟨k1,q,k2,k3⟩|⟨aH,k1,k2,k3,k4⟩
    ·exact .inl ⟨k1,q,List.mem_cons_of_mem _ k2,k3⟩
    ·have eo:O++lG lw (g lw above) ((P1,P2)::SG)=O++X++lG lw (g lw above) SG:=by
      rw[z7]
      dsimp only
      rw[hX,if_neg ea,List.append_assoc]
     rw[eo]
     refine .inr ⟨aH,k1,k2,fun q hq=> ?_,fun sd aN=> ?_⟩
     ·rcases List.mem_cons.1 hq with rfl|hq
      ·exact hone
      ·exact k3 q hq
     ·obtain⟨l1,l2⟩:=k4 sd aN
      refine⟨hs2 sd (Sat.merge hk2 (by rw[ej];exact l1)),fun q hq Ur x hx=> ?_⟩
      rcases List.mem_cons.1 hq with rfl|hq
      ·exact absurd Ur (by dsimp only;rw[hX];exact ea)
      ·exact l2 q hq Ur x hx
def fV (lw:List Int) (h:Int) (X:List Nat):Bool:= !X.isEmpty&&decide (h<g lw (X.headD 0))
theorem AZ {X:List Nat} {e:Nat} (he:e<lw.length) (hX:∀x∈X,x<lw.length):fU lw (dJ X) (e:Int)=some (fV lw (g lw e) X):=by
 unfold fU fV
 by_cases h:X=[]
 ·subst h
  rw[if_pos (dD.2 rfl)]
  rfl
 ·rw[if_neg (fun k=>h (dD.1 k)),nx h]
  dsimp only
  rw[lJ (hX _ (head_mem h)),lJ he]
  dsimp only
  have:X.isEmpty=false:=by
   cases X with
   |nil=>exact absurd rfl h
   |cons x X=>rfl
  rw[this]
  rfl
theorem jD {h:Int} {X:List Nat}:fV lw h X=true↔X≠[]∧h<g lw (X.headD 0):=by
 unfold fV
 cases X<;>simp
def wM (lw:List Int) (h:Int) (s:List cI):List Nat:=s.flatMap fun q=>if fV lw h q.1=true then q.1 else q.2
def pJ (lw:List Int) (h:Int) (s:List cI):List Nat:=s.flatMap fun q=>if fV lw h q.1=true then q.2 else q.1
theorem DG (lw:List Int) (h:Int) (q:cI) (s:List cI):wM lw h (q::s)=(if fV lw h q.1=true then q.1 else q.2)++wM lw h s:=by simp[wM]
theorem Dt (lw:List Int) (h:Int) (q:cI) (s:List cI):pJ lw h (q::s)=(if fV lw h q.1=true then q.2 else q.1)++pJ lw h s:=by simp[pJ]
theorem others_eq (lW:lw.length=m) {e:Nat} (he:e<m):
 ∀(QS:List cI) (like:List Int) (A B:List Nat),Lk m like turn seen ((A,B)::QS)→
 (others lw e (QS.map cJ) like (dJ A,dJ B)=some none∧∃Q1 q Q2,QS=Q1++q::Q2∧(∀q'∈Q1,fV lw (g lw e) q'.1≠fV lw (g lw e) q'.2)∧fV lw (g lw e) q.1=true∧fV lw (g lw e) q.2=true)∨
 ∃aH Q1 Q2,QS=Q1++Q2∧others lw e (QS.map cJ) like (dJ A,dJ B)=some (some (Q2.map cJ,aH,(dJ (A++wM lw (g lw e) Q1),dJ (B++pJ lw (g lw e) Q1))))∧Lk m aH turn seen ((A++wM lw (g lw e) Q1,B++pJ lw (g lw e) Q1)::Q2)∧
  (∀q∈Q1,fV lw (g lw e) q.1≠fV lw (g lw e) q.2)∧(∀q,Q2.head? =some q→fV lw (g lw e) q.1=false∧fV lw (g lw e) q.2=false)∧
  ∀sd,Sat aH turn seen ((A++wM lw (g lw e) Q1,B++pJ lw (g lw e) Q1)::Q2) sd→Sat like turn seen ((A,B)::QS) sd:=by
 intro QS
 induction QS with
 |nil=>
  intro like A B hk
  have e1:A++wM lw (g lw e) []=A:=by simp[wM]
  have e2:B++pJ lw (g lw e) []=B:=by simp[pJ]
  refine .inr ⟨like,[],[],rfl,?_⟩
  rw[e1,e2]
  exact⟨rfl,hk,fun q hq=>by simp at hq,fun q hq=>by simp at hq,fun _ h=>h⟩
 |cons q QS ih=>
  intro like A B hk
  have hin:∀x,x∈q.1∨x∈q.2→x<lw.length:=fun x hx=>by rw[lW];exact hk.sm x (hk.sn x (bk.2 ⟨q,by simp,hx⟩))
  have h1:=AZ (X:=q.1) (e:=e) (by rw[lW];exact he) (fun x hx=>hin x (.inl hx))
  have h2:=AZ (X:=q.2) (e:=e) (by rw[lW];exact he) (fun x hx=>hin x (.inr hx))
  obtain⟨L,R⟩:=q
  rw[List.map_cons]
  unfold others
  have h1':fU lw (cJ (L,R)).1 (e:Int)=some (fV lw (g lw e) L):=h1
  have h2':fU lw (cJ (L,R)).2 (e:Int)=some (fV lw (g lw e) R):=h2
  rw[h1',h2']
  have hA:∀x∈A,x<like.length:=fun x hx=>by rw[hk.ll];exact hk.sm x (hk.sn x (bk.2 ⟨(A,B),by simp,.inl hx⟩))
  have hB:∀{M:List Nat},∀x∈B,x<(jc like A M).length:=fun x hx=>by rw[uM,hk.ll];exact hk.sm x (hk.sn x (bk.2 ⟨(A,B),by simp,.inr hx⟩))
  cases b1:fV lw (g lw e) L<;>cases b2:fV lw (g lw e) R
  ·have e1:A++wM lw (g lw e) []=A:=by simp[wM]
   have e2:B++pJ lw (g lw e) []=B:=by simp[pJ]
   refine .inr ⟨like,[],(L,R)::QS,rfl,?_⟩
   rw[e1,e2]
   exact⟨rfl,hk,fun q hq=>by simp at hq,fun q hq=>by cases hq;exact⟨b1,b2⟩,fun _ h=>h⟩
  ·dsimp only
   have e0:(if false=true then cJ (L,R) else turned (cJ (L,R)))=(dJ R,dJ L):=rfl
   rw[e0]
   dsimp only
   rw[join_eq hA]
   dsimp only
   rw[join_eq hB]
   dsimp only
   have hk3:=hk.qx.merge
   rcases ih _ _ _ hk3 with ⟨k1,Q1,q,Q2,k2,k3,k4⟩|⟨aH,Q1,Q2,k0,k1,k2,k3,k4,k5⟩
   ·refine .inl ⟨k1,(L,R)::Q1,q,Q2,by rw[k2];rfl,fun q' hq'=> ?_,k4⟩
    rcases List.mem_cons.1 hq' with rfl|hq'
    ·dsimp only;rw[b1,b2];simp
    ·exact k3 q' hq'
   ·refine .inr ⟨aH,(L,R)::Q1,Q2,by rw[k0];rfl,?_⟩
    rw[DG,Dt,←List.append_assoc,←List.append_assoc]
    dsimp only
    rw[b1]
    refine⟨k1,k2,fun q hq=> ?_,k4,fun sd aN=>(Sat.merge hk.qx (k5 sd aN)).qx⟩
    rcases List.mem_cons.1 hq with rfl|hq
    ·dsimp only;rw[b1,b2];simp
    ·exact k3 q hq
  ·dsimp only
   have e0:(if true=true then cJ (L,R) else turned (cJ (L,R)))=(dJ L,dJ R):=rfl
   rw[e0]
   dsimp only
   rw[join_eq hA]
   dsimp only
   rw[join_eq hB]
   dsimp only
   have hk3:=hk.merge
   rcases ih _ _ _ hk3 with ⟨k1,Q1,q,Q2,k2,k3,k4⟩|⟨aH,Q1,Q2,k0,k1,k2,k3,k4,k5⟩
   ·refine .inl ⟨k1,(L,R)::Q1,q,Q2,by rw[k2];rfl,fun q' hq'=> ?_,k4⟩
    rcases List.mem_cons.1 hq' with rfl|hq'
    ·dsimp only;rw[b1,b2];simp
    ·exact k3 q' hq'
   ·refine .inr ⟨aH,(L,R)::Q1,Q2,by rw[k0];rfl,?_⟩
    rw[DG,Dt,←List.append_assoc,←List.append_assoc]
    dsimp only
    rw[b1]
    refine⟨k1,k2,fun q hq=> ?_,k4,fun sd aN=>Sat.merge hk (k5 sd aN)⟩
    rcases List.mem_cons.1 hq with rfl|hq
    ·dsimp only;rw[b1,b2];simp
    ·exact k3 q hq
  ·exact .inl ⟨rfl,[],(L,R),QS,rfl,fun q' hq'=>by simp at hq',b1,b2⟩
end
end Lt
end
section
namespace Lt
open Pl
structure eI {n m:Nat} (T:DF n m) (lw:List Int):Prop where
 len:lw.length=m
 le:∀e,e<m→g lw e≤T.ay (T.fr e)
 ret:∀e b,e<m→T.aY e b→g lw e≤T.ay (T.go b)
 ex:∀e,e<m→g lw e<T.ay (T.fr e)→∃b,T.aY e b∧T.ay (T.go b)=g lw e
def K6 {n m:Nat} (T:DF n m) (e f:Nat) (sd:Nat→Bool):Prop:=
 (∀b c,T.aY e b→T.aY e c→T.lA b f→T.lA c f→sd b=sd c)∧(∀b c,T.aY f b→T.aY f c→T.lA b e→T.lA c e→sd b=sd c)∧(∀b c,T.aY e b→T.lA b f→T.aY f c→T.lA c e→sd b≠sd c)
theorem K6.symm {n m:Nat} {T:DF n m} {e f:Nat} {sd:Nat→Bool} (h:K6 T e f sd):K6 T f e sd:=⟨h.2.1,h.1,fun b c hb ab hc ac=>(h.2.2 c b hc ac hb ab).symm⟩
def Ec (lw:List Int) (s:List cI):Prop:=List.Pairwise (fun p q:cI=>∀x∈p.1++p.2,∀y∈q.1++q.2,g lw y≤g lw x) s
structure jJ {n m:Nat} (T:DF n m) (lw:List Int) (S:(Nat→Bool)→Prop) (D:List Nat) (RG:List cI):Prop where
 mem:∀y∈cG RG,∃e∈D,T.aY e y
 rep:∀e∈D,∀x,T.aY e x→∃y∈cG RG,g lw y=g lw x∧∀sd,S sd→sd x=sd y
 mono:Ec lw RG
 o7:∀p∈RG,lB lw p.1∧lB lw p.2
 ne:∀p∈RG,¬(p.1=[]∧p.2=[])
 Fc:∀sd,T.LR sd→∀p∈RG,(∀x∈p.1,∀y∈p.1,sd x=sd y)∧(∀x∈p.2,∀y∈p.2,sd x=sd y)∧∀x∈p.1,∀y∈p.2,sd x≠sd y
 bot:∀e1,D.head? =some e1→(∃x,T.aY e1 x)→∃fA b0,RG=fA++[([],[b0])]∧T.aY e1 b0∧g lw b0=g lw e1∧∀y∈cG fA,g lw e1<g lw y
def Fx {n m:Nat} (T:DF n m) (lw:List Int) (e f:Nat):Prop:=g lw e≤g lw f∧(g lw e=g lw f→(∃x,T.aY e x∧g lw e<g lw x)→∃x,T.aY f x∧g lw f<g lw x)
section
variable {n m:Nat} {T:DF n m} {lw like turn lowest:List Int} {seen:Nat→Prop} {S S':(Nat→Bool)→Prop} {D:List Nat} {RG:List cI}
theorem jJ.more (h:jJ T lw S D RG) (hS:∀sd,S' sd→S sd):jJ T lw S' D RG:=
 ⟨h.mem,fun e he x hx=>by
   obtain⟨y,k1,k2,k3⟩:=h.rep e he x hx
   exact⟨y,k1,k2,fun sd aN=>k3 sd (hS sd aN)⟩,h.mono,h.o7,h.ne,h.Fc,h.bot⟩
theorem eI.back (h:eI T lw) {e b:Nat} (hr:T.aY e b):g lw b=T.ay (T.go b):=by
 obtain⟨hb,tb,_⟩:=hr
 have h1:=h.ret b b hb ⟨hb,tb,.inl rfl⟩
 have h2:=T.back b hb tb
 have h3:=T.up (T.lt b hb).2 (T.lt b hb).1 h2.1 h2.2
 obtain⟨c,hc,e1⟩:=h.ex b hb (by omega)
 obtain⟨_,_,k|⟨k,_⟩⟩:=hc
 ·rw[k];rw[k] at e1;exact e1.symm
 ·rw[tb] at k;cases k
theorem eI.low (h:eI T lw) {e b:Nat} (he:e<m) (hr:T.aY e b):g lw e≤g lw b:=by
 rw[h.back hr];exact h.ret e b he hr
theorem eI.lt (h:eI T lw) {e b:Nat} (hr:T.aY e b):g lw b<T.ay (T.fr e):=by
 rw[h.back hr];exact hr.lt
theorem eI.att (h:eI T lw) {e b:Nat} (he:e<m) (hr:T.aY e b):∃c,T.aY e c∧g lw c=g lw e:=by
 have:=h.low he hr
 have:=h.lt hr
 obtain⟨c,k1,k2⟩:=h.ex e he (by omega)
 exact⟨c,k1,by rw[h.back k1];exact k2⟩
theorem eI.lA (h:eI T lw) {e f b c:Nat} (he:e<m) (hr:T.aY e b) (hc:T.aY f c):T.lA c e↔g lw e<g lw c:=by
 constructor
 ·rintro⟨b',k1,k2⟩
  have:=h.low he k1
  rw[h.back hc]
  rw[h.back k1] at this
  omega
 ·intro k
  obtain⟨b',k1,k2⟩:=h.att he hr
  refine⟨b',k1,?_⟩
  rw[←h.back k1,←h.back hc]
  omega
theorem eI.oJ (h:eI T lw) {e c f:Nat} (he:e<m) (hc:T.aY f c) (ha:T.lA c e):g lw e<g lw c∧∃x,T.aY e x:=by
 have ha':=ha
 obtain⟨b',k1,_⟩:=ha'
 exact⟨(h.lA he k1 hc).1 ha,b',k1⟩
theorem jJ.none (h:jJ T lw S D RG) {e:Nat} (he:∀x,¬T.aY e x):jJ T lw S (D++[e]) RG:=by
 refine⟨fun y hy=> ?_,fun e' he' x hx=> ?_,h.mono,h.o7,h.ne,h.Fc,fun e1 h1 hx=> ?_⟩
 ·obtain⟨f,k1,k2⟩:=h.mem y hy
  exact⟨f,List.mem_append_left _ k1,k2⟩
 ·rcases List.mem_append.1 he' with k|k
  ·exact h.rep e' k x hx
  ·rw[List.mem_singleton.1 k] at hx
   exact absurd hx (he x)
 ·cases D with
  |nil=>
   obtain rfl:e=e1:=by simpa using h1
   obtain⟨x,hx⟩:=hx
   exact absurd hx (he x)
  |cons d D=>exact h.bot e1 (by simpa using h1) hx
theorem jJ.nil:jJ T lw S [] []:=⟨fun y hy=>by simp[cG] at hy,fun e he=>by simp at he,List.Pairwise.nil,fun p hp=>by simp at hp,fun p hp=>by simp at hp,fun sd _ p hp=>by simp at hp,fun e1 h1=>by simp at h1⟩
theorem jJ.empty (h:jJ T lw S D RG) (hD:∀e∈D,∀x,¬T.aY e x):RG=[]:=by
 cases RG with
 |nil=>rfl
 |cons p RG=>
  exfalso
  have hp:=h.ne p List.mem_cons_self
  have:∃y,y∈p.1++p.2:=by
   cases h1:p.1 with
   |nil=>
    cases h2:p.2 with
    |nil=>exact absurd ⟨h1,h2⟩ hp
    |cons y l=>exact⟨y,by simp⟩
   |cons y l=>exact⟨y,by simp⟩
  obtain⟨y,hy⟩:=this
  obtain⟨e,he,k⟩:=h.mem y (bk.2 ⟨p,List.mem_cons_self,List.mem_append.1 hy⟩)
  exact hD e he y k
theorem jJ.back {e:Nat} (he:e<m) (te:T.tree e=false):jJ T lw S [e] [([],[e])]:=by
 have hr:T.aY e e:=⟨he,te,.inl rfl⟩
 refine⟨fun y hy=>⟨e,by simp,?_⟩,fun f hf x hx=> ?_,List.pairwise_singleton _ _,fun p hp=> ?_,fun p hp k=> ?_,fun sd _ p hp=> ?_,fun e1 h1 _=> ?_⟩
 ·obtain rfl:y=e:=by simpa[cG] using hy
  exact hr
 ·obtain rfl:=List.mem_singleton.1 hf
  obtain⟨_,_,k|⟨k,_⟩⟩:=hx
  ·exact⟨f,by simp[cG],by rw[k],fun sd _=>by rw[k]⟩
  ·rw[te] at k;cases k
 ·rw[List.mem_singleton.1 hp]
  exact⟨List.Pairwise.nil,List.pairwise_singleton _ _⟩
 ·rw[List.mem_singleton.1 hp] at k
  simp at k
 ·rw[List.mem_singleton.1 hp]
  refine⟨fun x hx=>by simp at hx,fun x hx y hy=> ?_,fun x hx=>by simp at hx⟩
  rw[List.mem_singleton.1 hx,List.mem_singleton.1 hy]
 ·obtain rfl:e=e1:=by simpa using h1
  exact⟨[],e,rfl,hr,rfl,fun y hy=>by simp[cG] at hy⟩
theorem Kt {l:List Nat} (h:lB lw l):∀x∈l,g lw x≤g lw (l.headD 0):=fun x hx=>by
 cases l with
 |nil=>simp at hx
 |cons y l=>
  rcases List.mem_cons.1 hx with rfl|hx
  ·exact Int.le_refl _
  ·exact(List.pairwise_cons.1 h).1 x hx
theorem zg {h:Int} {X:List Nat} (hs:lB lw X) (hn:fV lw h X=false):∀x∈X,g lw x≤h:=fun x hx=>by
 have h1:=Kt hs x hx
 have h2:¬(X≠[]∧h<g lw (X.headD 0)):=fun k=>by rw[jD.2 k] at hn;cases hn
 have h3:X≠[]:=fun k=>by rw[k] at hx;simp at hx
 have h4:¬h<g lw (X.headD 0):=fun k=>h2 ⟨h3,k⟩
 omega
theorem FZ {A B:List Nat} (hA:lB lw A) (hB:lB lw B) (h:∀x∈A,∀y∈B,g lw y≤g lw x):lB lw (A++B):=List.pairwise_append.2 ⟨hA,hB,h⟩
theorem rI {f:cI→List Nat}:∀{s:List cI},Ec lw s→(∀p∈s,lB lw (f p)∧∀x∈f p,x∈p.1++p.2)→lB lw (s.flatMap f)
 |[],_,_=>List.Pairwise.nil
 |p::s,hm,h=>by
  rw[List.flatMap_cons]
  have hm':=List.pairwise_cons.1 hm
  refine FZ (h p List.mem_cons_self).1 (rI hm'.2 fun q hq=>h q (List.mem_cons_of_mem _ hq)) fun x hx y hy=> ?_
  obtain⟨q,hq,J5⟩:=List.mem_flatMap.1 hy
  exact hm'.1 q hq x ((h p List.mem_cons_self).2 x hx) y ((h q (List.mem_cons_of_mem _ hq)).2 y J5)
theorem CT {E:Env} {st:TS} {e e1 a:Nat} {SG rest:List cI} {v:jw} {way:List jw} (hw:eI T E.lw) (hst:st.stk=(SG++(RG++rest)).map cJ) (bB:st.way=v::way) (DM:v.2.2=top ((RG++rest).map cJ))
 (hk:Lk m st.like st.turn seen (SG++(RG++rest))) (hS:∀sd,S sd↔Sat st.like st.turn seen (SG++(RG++rest)) sd)
 (hD:jJ T E.lw S D RG) (he:jJ T E.lw S [e] SG) (hem:e<m) (yF:∀f∈D,f<m) (gY:∃x,T.aY e x) (hfr:∀f∈D,T.fr f=T.fr e∧f≠e) (h1:D.head? =some e1) (hn:∀f∈D,Fx T E.lw f e)
 (k7:a<m) (ha:g E.lw a=g E.lw e1) (hl:∀b0,RG.getLast? =some ([],[b0])→bz st.lowest a=some (b0:Int)) (hn1:∀f∈D,g E.lw e1≤g E.lw f):
 (j9 E st e a=some none∧∀sd,¬T.LR sd)∨
 ∃aH fA,j9 E st e a=some (some { st with like:=aH,stk:=(fA++rest).map cJ })∧Lk m aH st.turn seen (fA++rest)∧(∀sd,Sat aH st.turn seen (fA++rest) sd→S sd)∧
  jJ T E.lw (Sat aH st.turn seen (fA++rest)) (D++[e]) fA∧(∀b0,fA.getLast? =some ([],[b0])→RG.getLast? =some ([],[b0]))∧∀f∈D,∀sd,Sat aH st.turn seen (fA++rest) sd→K6 T f e sd:=by
 have aA:e1∈D:=List.mem_of_mem_head? (by rw[h1];rfl)
 have hle:g E.lw e1≤g E.lw e:=(hn e1 aA).1
 have hr1:∃x,T.aY e1 x:=by
  obtain⟨x,hx⟩:=gY
  have h2:=hw.low hem hx
  have h3:=hw.lt hx
  obtain⟨b,hb,_⟩:=hw.ex e1 (yF e1 aA) (by rw[(hfr e1 aA).1];omega)
  exact⟨b,hb⟩
 obtain⟨yK,b0,rfl,YG,gb0,NN⟩:=hD.bot e1 h1 hr1
 obtain⟨SG0,bs,ZY,rbs,gbs,his⟩:=he.bot e rfl gY
 have hl':=hl b0 (by simp)
 have hb0:b0∈cG (yK++[([],[b0])]++rest):=by
  rw[ey,ey]
  simp[cG]
 have RQ:∀sd,T.LR sd→∀x y,T.aY e x→T.aY e y→g E.lw e1<g E.lw x→g E.lw e1<g E.lw y→sd x=sd y:=fun sd aN x y rx ry gx gy=>
  aN.same hem (yF e1 aA) (Ne.symm (hfr e1 aA).2) (hfr e1 aA).1.symm rx ry ((hw.lA (yF e1 aA) YG rx).2 gx) ((hw.lA (yF e1 aA) YG ry).2 gy)
 have RP:∀f∈D,∀l,T.aY f l→g E.lw e<g E.lw l→∃x,T.aY e x∧g E.lw e1<g E.lw x∧∀sd,T.LR sd→sd l≠sd x:=fun f hf l rl gl=>by
  have hx:∃x,T.aY e x∧g E.lw f<g E.lw x:=by
   obtain⟨k1,k2⟩:=hn f hf
   by_cases e2:g E.lw f=g E.lw e
   ·obtain⟨x,k3,k4⟩:=k2 e2 ⟨l,rl,by omega⟩
    exact⟨x,k3,by omega⟩
   ·obtain⟨x,hx⟩:=gY
    exact⟨x,hx,by have:=hw.low hem hx;omega⟩
  obtain⟨x,rx,gx⟩:=hx
  have:=hn1 f hf
  exact⟨x,rx,by omega,fun sd aN=>aN.yY (yF f hf) hem (hfr f hf).2 (hfr f hf).1 rl ((hw.lA hem rx rl).2 gl) rx ((hw.lA (yF f hf) rl rx).2 gx)⟩
 have iB:∀p∈SG,p≠([],[bs])→∀x∈p.1++p.2,g E.lw e1<g E.lw x:=fun p hp hne x hx=>by
  rw[ZY] at hp
  rcases List.mem_append.1 hp with k|k
  ·have:=his x (bk.2 ⟨p,k,List.mem_append.1 hx⟩)
   omega
  ·exact absurd (List.mem_singleton.1 k) hne
 have Gt:∀x∈cG SG,T.aY e x:=fun x hx=>by
  obtain⟨f,k1,k2⟩:=he.mem x hx
  rw[List.mem_singleton.1 k1] at k2
  exact k2
 unfold j9
 rw[bB]
 dsimp only
 rw[DM,hst]
 rcases TZ (lowest:=st.lowest) hw.len k7 hl' (rest:=yK++[([],[b0])]++rest) hb0 SG st.like [] hk.hold he.ne with ⟨k1,p,kp,k2,k3⟩|⟨eX,k1,k2,k3,k4⟩
 ·
  have PE:own E.lw st.lowest a (top ((yK++[([],[b0])]++rest).map cJ)) ((SG++(yK++[([],[b0])]++rest)).map cJ) st.like aP=some none:=k1
  rw[PE]
  refine .inl ⟨rfl,fun sd aN=> ?_⟩
  have hne:p≠([],[bs]):=fun k=>k2 (by rw[k])
  obtain⟨l,hl2⟩:∃l,l∈p.1:=⟨_,head_mem k2⟩
  obtain⟨r,hr2⟩:∃r,r∈p.2:=⟨_,head_mem k3⟩
  have rl:=Gt l (bk.2 ⟨p,kp,.inl hl2⟩)
  have rr:=Gt r (bk.2 ⟨p,kp,.inr hr2⟩)
  exact(he.Fc sd aN p kp).2.2 l hl2 r hr2 (RQ sd aN l r rl rr (iB p kp hne l (by simp[hl2])) (iB p kp hne r (by simp[hr2])))
 have PE:own E.lw st.lowest a (top ((yK++[([],[b0])]++rest).map cJ)) ((SG++(yK++[([],[b0])]++rest)).map cJ) st.like aP=some (some ((yK++[([],[b0])]++rest).map cJ,eX,dJ (lG E.lw (g E.lw a) SG))):=k1
 rw[PE]
 dsimp only
 rw[ha,List.nil_append] at k2
 rw[ha,List.nil_append] at k4
 rw[ha]
 obtain⟨O,hO⟩:∃O,lG E.lw (g E.lw e1) SG=O:=⟨_,rfl⟩
 rw[hO] at k2 k4 ⊢
 have LS:∀x,x∈O↔x∈cG SG∧g E.lw e1<g E.lw x:=fun x=>by
  rw[←hO]
  unfold lG
  rw[List.mem_flatMap,bk]
  constructor
  ·rintro⟨p,hp,hx⟩
   split at hx
   ·simp at hx
   ·rename_i hne
    refine⟨⟨p,hp,List.mem_append.1 hx⟩,?_⟩
    by_cases k:p=([],[bs])
    ·subst k
     simp at hx hne
     subst hx
     omega
    ·exact iB p hp k x hx
  ·rintro⟨⟨p,hp,hx⟩,gx⟩
   refine⟨p,hp,?_⟩
   rw[if_neg]
   ·exact List.mem_append.2 hx
   ·intro k
    by_cases kb:p=([],[bs])
    ·subst kb
     simp at hx k
     subst hx
     omega
    ·have hpn:=he.ne p hp
     have hne:p.1++p.2≠[]:=fun q=>hpn (List.append_eq_nil_iff.1 q)
     have:=iB p hp kb _ (bD hne)
     omega
 have Dn:∀x∈O,T.aY e x∧g E.lw e1<g E.lw x:=fun x hx=>⟨Gt x ((LS x).1 hx).1,((LS x).1 hx).2⟩
 have abC:lB E.lw O:=by
  rw[←hO]
  refine rI he.mono fun p hp=> ?_
  split
  ·exact⟨List.Pairwise.nil,fun x hx=>by simp at hx⟩
  ·refine⟨?_,fun x hx=>hx⟩
   rcases k3 p hp with k|k
   ·rw[k];exact(he.o7 p hp).2
   ·rw[k,List.append_nil];exact(he.o7 p hp).1
 have UH:fV E.lw (g E.lw e) [b0]=false:=by
  cases hq:fV E.lw (g E.lw e) [b0] with
  |false=>rfl
  |true=>
   have:=(jD.1 hq).2
   simp at this
   omega
 have Wi:∀Q1 Q2,yK++[([],[b0])]++rest=Q1++Q2→(∀q∈Q1,fV E.lw (g E.lw e) q.1≠fV E.lw (g E.lw e) q.2)→∃t,yK=Q1++t∧Q2=t++[([],[b0])]++rest:=fun Q1 Q2 hQ hq=>by
  have hb:(([],[b0]):cI)∉Q1:=fun k=>by
   have:=hq _ k
   dsimp only at this
   rw[UH] at this
   exact this rfl
  rw[List.append_assoc] at hQ
  rcases List.append_eq_append_iff.1 hQ with ⟨t,k1,k2⟩|⟨t,k1,k2⟩
  ·cases t with
   |nil=>
    rw[List.append_nil] at k1
    exact⟨[],by rw[k1];simp,by rw[List.nil_append] at k2;rw[←k2];simp⟩
   |cons p t=>
    exfalso
    rw[List.cons_append,List.nil_append,List.cons_append] at k2
    have:=(List.cons.inj k2).1
    exact hb (by rw[k1,←this];simp)
  ·exact⟨t,k1,by rw[k2];simp⟩
 rcases others_eq hw.len hem (yK++[([],[b0])]++rest) eX [] O k2 with ⟨l1,Q1,q,Q2,l2,l3,l4,l5⟩|⟨eW,Q1,Q2,l0,l1,l2,l3,l4,l5⟩
 ·have JY:others E.lw (e:Int) ((yK++[([],[b0])]++rest).map cJ) eX (aP,dJ O)=some none:=l1
  rw[JY]
  refine .inl ⟨rfl,fun sd aN=> ?_⟩
  obtain⟨t,t1,t2⟩:=Wi Q1 (q::Q2) l2 l3
  have hq:q∈yK++[([],[b0])]:=by
   cases t with
   |nil=>
    rw[List.nil_append,List.cons_append] at t2
    have:=(List.cons.inj t2).1
    rw[this]
    simp
   |cons p t=>
    have:=(List.cons.inj t2).1
    rw[t1,this]
    simp
  obtain⟨n1,g1⟩:=jD.1 l4
  obtain⟨n2,g2⟩:=jD.1 l5
  obtain⟨f,hf,rf⟩:=hD.mem _ (bk.2 ⟨q,hq,.inl (head_mem n1)⟩)
  obtain⟨f',hf',YF⟩:=hD.mem _ (bk.2 ⟨q,hq,.inr (head_mem n2)⟩)
  obtain⟨x,rx,gx,ux⟩:=RP f hf _ rf g1
  obtain⟨x',rx',gx',ux'⟩:=RP f' hf' _ YF g2
  have h3:=RQ sd aN x x' rx rx' gx gx'
  have h4:=ux sd aN
  have h5:=ux' sd aN
  have h6:=(hD.Fc sd aN q hq).2.2 _ (head_mem n1) _ (head_mem n2)
  revert h3 h4 h5 h6
  cases sd x<;>cases sd x'<;>cases sd (q.1.headD 0)<;>cases sd (q.2.headD 0)<;>simp
 ·obtain⟨t,t1,t2⟩:=Wi Q1 Q2 l0 l3
  subst t1
  subst t2
  have JY:others E.lw (e:Int) ((Q1++t++[([],[b0])]++rest).map cJ) eX (aP,dJ O)=some (some ((t++[([],[b0])]++rest).map cJ,eW,(dJ (wM E.lw (g E.lw e) Q1),dJ (O++pJ E.lw (g E.lw e) Q1)))):=l1
  rw[JY]
  dsimp only
  rw[List.nil_append] at l2 l5
  obtain⟨A,hA⟩:∃A,wM E.lw (g E.lw e) Q1=A:=⟨_,rfl⟩
  obtain⟨B,hB⟩:∃B,O++pJ E.lw (g E.lw e) Q1=B:=⟨_,rfl⟩
  rw[hA,hB] at l2 l5 ⊢
  have tu:=List.pairwise_append.1 hD.mono
  rw[List.append_assoc] at hD
  have tu:=List.pairwise_append.1 hD.mono
  have LU:∀x∈A,∃q∈Q1,(x∈q.1∧fV E.lw (g E.lw e) q.1=true∧fV E.lw (g E.lw e) q.2=false)∨(x∈q.2∧fV E.lw (g E.lw e) q.2=true∧fV E.lw (g E.lw e) q.1=false):=fun x hx=>by
   rw[←hA] at hx
   obtain⟨q,hq,PL⟩:=List.mem_flatMap.1 hx
   have:=l3 q hq
   refine⟨q,hq,?_⟩
   cases b1:fV E.lw (g E.lw e) q.1<;>cases b2:fV E.lw (g E.lw e) q.2<;>rw[b1,b2] at this<;>simp[b1] at PL ⊢ <;>simp at this<;>exact PL
  have Gu:∀x∈pJ E.lw (g E.lw e) Q1,∃q∈Q1,(x∈q.2∧fV E.lw (g E.lw e) q.1=true∧fV E.lw (g E.lw e) q.2=false)∨(x∈q.1∧fV E.lw (g E.lw e) q.2=true∧fV E.lw (g E.lw e) q.1=false):=fun x hx=>by
   obtain⟨q,hq,PL⟩:=List.mem_flatMap.1 hx
   have:=l3 q hq
   refine⟨q,hq,?_⟩
   cases b1:fV E.lw (g E.lw e) q.1<;>cases b2:fV E.lw (g E.lw e) q.2<;>rw[b1,b2] at this<;>simp[b1] at PL ⊢ <;>simp at this<;>exact PL
  have Af:∀x,x∈B↔x∈O∨x∈pJ E.lw (g E.lw e) Q1:=fun x=>by rw[←hB];exact List.mem_append
  have inQ:∀x q,q∈Q1→x∈q.1∨x∈q.2→x∈A∨x∈pJ E.lw (g E.lw e) Q1:=fun x q hq hx=>by
   rw[←hA]
   unfold wM pJ
   rw[List.mem_flatMap,List.mem_flatMap]
   cases b1:fV E.lw (g E.lw e) q.1<;>rcases hx with hx|hx
   ·exact .inr ⟨q,hq,by rw[b1];exact hx⟩
   ·exact .inl ⟨q,hq,by rw[b1];exact hx⟩
   ·exact .inl ⟨q,hq,by rw[b1];exact hx⟩
   ·exact .inr ⟨q,hq,by rw[b1];exact hx⟩
  have qR:∀q∈Q1,q∈Q1++(t++[([],[b0])]):=fun q hq=>List.mem_append_left _ hq
  have Wh:∀x∈pJ E.lw (g E.lw e) Q1,g E.lw x≤g E.lw e:=fun x hx=>by
   obtain⟨q,hq,⟨k1,_,k2⟩|⟨k1,_,k2⟩⟩:=Gu x hx
   ·exact zg (hD.o7 q (qR q hq)).2 k2 x k1
   ·exact zg (hD.o7 q (qR q hq)).1 k2 x k1
  have We:∀x∈cG (t++[([],[b0])]),g E.lw x≤g E.lw e:=fun x hx=>by
   cases ht:t with
   |nil=>
    rw[ht] at hx
    have:x=b0:=by simpa[cG] using hx
    rw[this]
    omega
   |cons q t'=>
    rw[ht] at hx l4 hD tu
    obtain⟨b1,b2⟩:=l4 q rfl
    have NG:q∈Q1++(q::t'++[([],[b0])]):=by simp
    have Qf:∀z∈q.1++q.2,g E.lw z≤g E.lw e:=fun z hz=>by
     rcases List.mem_append.1 hz with k|k
     ·exact zg (hD.o7 q NG).1 b1 z k
     ·exact zg (hD.o7 q NG).2 b2 z k
    obtain⟨p,hp,hxp⟩:=bk.1 hx
    rcases List.mem_cons.1 (show p∈q::(t'++[([],[b0])]) from hp) with rfl|hp
    ·exact Qf x (List.mem_append.2 hxp)
    ·have hne:=hD.ne q NG
     have WU:q.1++q.2≠[]:=fun k=>hne (List.append_eq_nil_iff.1 k)
     have:=(List.pairwise_cons.1 (show Ec E.lw (q::(t'++[([],[b0])])) from tu.2.1)).1 p hp _ (bD WU) x (List.mem_append.2 hxp)
     have:=Qf _ (bD WU)
     omega
  have hiA:∀x∈A,g E.lw e1<g E.lw x:=fun x hx=>by
   obtain⟨q,hq,k⟩:=LU x hx
   exact NN x (bk.2 ⟨q,List.mem_append_left _ hq,k.elim (fun k=> .inl k.1) fun k=> .inr k.1⟩)
  have hiL:∀x∈pJ E.lw (g E.lw e) Q1,g E.lw e1<g E.lw x:=fun x hx=>by
   obtain⟨q,hq,k⟩:=Gu x hx
   exact NN x (bk.2 ⟨q,List.mem_append_left _ hq,k.elim (fun k=> .inr k.1) fun k=> .inl k.1⟩)
  have adv:∀x,x∈A∨x∈B→g E.lw e1<g E.lw x:=fun x hx=>by
   rcases hx with hx|hx
   ·exact hiA x hx
   ·rcases(Af x).1 hx with hx|hx
    ·exact(Dn x hx).2
    ·exact hiL x hx
  have back:∀sd,Sat eW st.turn seen ((A,B)::(t++[([],[b0])]++rest)) sd→S sd∧∀p∈SG,g E.lw ((p.1++p.2).getLastD 0)=g E.lw e1→∀x∈p.1++p.2,sd x=sd b0:=fun sd aN=>by
   obtain⟨j1,j2⟩:=k4 sd (l5 sd aN)
   exact⟨(hS sd).2 j1.uy,j2⟩
  have kP:∀sd,Sat eW st.turn seen ((A,B)::(t++[([],[b0])]++rest)) sd→∀y∈cG SG,¬g E.lw e1<g E.lw y→sd y=sd b0∧g E.lw y=g E.lw e1:=fun sd aN y hy hg=>by
   have e5:g E.lw y=g E.lw e1:=by have:=hw.low hem (Gt y hy);omega
   obtain⟨p,hp,hyp⟩:=bk.1 hy
   have hpb:p=([],[bs]):=Classical.byContradiction fun k=>by
    have:=iB p hp k y (List.mem_append.2 hyp)
    omega
   refine⟨(back sd aN).2 p hp ?_ y (List.mem_append.2 hyp),e5⟩
   subst hpb
   have:y=bs:=by simpa using hyp
   rw[←this]
   simpa using e5
  have VX:∀x,x∈A∨x∈pJ E.lw (g E.lw e) Q1→∃f∈D,T.aY f x:=fun x hx=>by
   rcases hx with hx|hx
   ·obtain⟨q,hq,k⟩:=LU x hx
    exact hD.mem x (bk.2 ⟨q,qR q hq,k.elim (fun k=> .inl k.1) fun k=> .inr k.1⟩)
   ·obtain⟨q,hq,k⟩:=Gu x hx
    exact hD.mem x (bk.2 ⟨q,qR q hq,k.elim (fun k=> .inr k.1) fun k=> .inl k.1⟩)
  have aak:∀sd,T.LR sd→(∀x∈A,∀y∈A,sd x=sd y)∧(∀x∈B,∀y∈B,sd x=sd y)∧∀x∈A,∀y∈B,sd x≠sd y:=fun sd aN=>by
   have key:∃c:Bool,(∀x,T.aY e x→g E.lw e1<g E.lw x→sd x=c):=by
    by_cases hx:∃x,T.aY e x∧g E.lw e1<g E.lw x
    ·obtain⟨x,rx,gx⟩:=hx
     exact⟨sd x,fun y ry gy=>RQ sd aN y x ry rx gy gx⟩
    ·exact⟨true,fun x rx gx=>absurd ⟨x,rx,gx⟩ hx⟩
   obtain⟨c,hc⟩:=key
   have top:∀q∈Q1,∀{X:List Nat},(X=q.1∨X=q.2)→fV E.lw (g E.lw e) X=true→∀x∈X,sd x≠c:=fun q hq X hX hb x hx=>by
    obtain⟨n1,g1⟩:=jD.1 hb
    have hqf:=hD.Fc sd aN q (qR q hq)
    obtain⟨f,hf,rf⟩:=hD.mem (X.headD 0) (bk.2 ⟨q,qR q hq,by rcases hX with k|k<;>rw[←k]<;>simp only[head_mem n1,true_or,or_true]⟩)
    obtain⟨z,rz,gz,uz⟩:=RP f hf _ rf g1
    have e6:sd x=sd (X.headD 0):=by
     rcases hX with k|k
     ·rw[k] at hx ⊢;rw[k] at n1;exact hqf.1 x hx _ (head_mem n1)
     ·rw[k] at hx ⊢;rw[k] at n1;exact hqf.2.1 x hx _ (head_mem n1)
    rw[e6,←hc z rz gz]
    exact uz sd aN
   have sA:∀x∈A,sd x≠c:=fun x hx=>by
    obtain⟨q,hq,⟨k1,k2,_⟩|⟨k1,k2,_⟩⟩:=LU x hx
    ·exact top q hq (.inl rfl) k2 x k1
    ·exact top q hq (.inr rfl) k2 x k1
   have sB:∀x∈B,sd x=c:=fun x hx=>by
    rcases(Af x).1 hx with hx|hx
    ·exact hc x (Dn x hx).1 (Dn x hx).2
    ·obtain⟨q,hq,⟨k1,k2,_⟩|⟨k1,k2,_⟩⟩:=Gu x hx
     ·have h3:=top q hq (.inl rfl) k2 _ (head_mem (jD.1 k2).1)
      have h4:=(hD.Fc sd aN q (qR q hq)).2.2 _ (head_mem (jD.1 k2).1) x k1
      revert h3 h4
      cases sd x<;>cases c<;>cases sd (q.1.headD 0)<;>simp
     ·have h3:=top q hq (.inr rfl) k2 _ (head_mem (jD.1 k2).1)
      have h4:=(hD.Fc sd aN q (qR q hq)).2.2 x k1 _ (head_mem (jD.1 k2).1)
      revert h3 h4
      cases sd x<;>cases c<;>cases sd (q.2.headD 0)<;>simp
   refine⟨fun x hx y hy=> ?_,fun x hx y hy=>by rw[sB x hx,sB y hy],fun x hx y hy=>by rw[sB y hy];exact sA x hx⟩
   have h3:=sA x hx
   have h4:=sA y hy
   revert h3 h4
   cases sd x<;>cases sd y<;>cases c<;>simp
  have abE:lB E.lw A:=by
   rw[←hA]
   refine rI tu.1 fun q hq=> ?_
   split
   ·exact⟨(hD.o7 q (qR q hq)).1,fun x hx=>List.mem_append_left _ hx⟩
   ·exact⟨(hD.o7 q (qR q hq)).2,fun x hx=>List.mem_append_right _ hx⟩
  have abD:lB E.lw B:=by
   rw[←hB]
   refine FZ abC (rI tu.1 fun q hq=> ?_) fun x hx y hy=> ?_
   ·split
    ·exact⟨(hD.o7 q (qR q hq)).2,fun x hx=>List.mem_append_right _ hx⟩
    ·exact⟨(hD.o7 q (qR q hq)).1,fun x hx=>List.mem_append_left _ hx⟩
   ·have:=Wh y hy
    have:=hw.low hem (Dn x hx).1
    omega
  obtain⟨PN,hPN,Ry,Z4,rW,ad6⟩:∃PN:List cI,(if (dJ A,dJ B)=dI then (t++[([],[b0])]++rest).map cJ else (dJ A,dJ B)::(t++[([],[b0])]++rest).map cJ)=(PN++(t++[([],[b0])]++rest)).map cJ∧(PN=[(A,B)]∧¬(A=[]∧B=[])∨PN=[]∧A=[]∧B=[])∧Lk m eW st.turn seen (PN++(t++[([],[b0])]++rest))∧(∀sd,Sat eW st.turn seen (PN++(t++[([],[b0])]++rest)) sd→Sat eW st.turn seen ((A,B)::(t++[([],[b0])]++rest)) sd)∧True:=by
   by_cases hab:A=[]∧B=[]
   ·refine⟨[],?_,.inr ⟨rfl,hab⟩,?_,fun sd aN=> ?_,trivial⟩
    ·rw[if_pos (show(dJ A,dJ B)=dI from vk (p:=(A,B)) |>.2 hab)]
     rfl
    ·obtain⟨e6,e7⟩:=hab
     rw[e6,e7] at l2
     exact l2.uy
    ·obtain⟨e6,e7⟩:=hab
     rw[e6,e7]
     exact aN.hold
   ·refine⟨[(A,B)],?_,.inl ⟨rfl,hab⟩,l2,fun sd aN=>aN,trivial⟩
    rw[if_neg (show ¬(dJ A,dJ B)=dI from fun k=>hab ((vk (p:=(A,B))).1 k))]
    rfl
  have Fj:∀x,x∈cG PN↔x∈A∨x∈B:=fun x=>by
   rcases Ry with ⟨k,_⟩|⟨k,k1,k2⟩
   ·rw[k];simp[cG]
   ·rw[k,k1,k2];simp[cG]
  have Pg:∀p∈PN,p=(A,B)∧¬(A=[]∧B=[]):=fun p hp=>by
   rcases Ry with ⟨k,k1⟩|⟨k,_⟩
   ·rw[k] at hp;exact⟨List.mem_singleton.1 hp,k1⟩
   ·rw[k] at hp;simp at hp
  refine .inr ⟨eW,PN++(t++[([],[b0])]),?_,?_,?_,?_,?_,?_⟩
  ·rw[hPN,List.append_assoc PN]
  ·rw[List.append_assoc];exact Z4
  ·intro sd aN
   rw[List.append_assoc] at aN
   exact(back sd (rW sd aN)).1
  ·rw[List.append_assoc PN]
   refine⟨fun y hy=> ?_,fun f hf x hx=> ?_,?_,fun p hp=> ?_,fun p hp=> ?_,fun sd aN p hp=> ?_,fun e2 h2 hx2=> ?_⟩
   ·rw[ey] at hy
    rcases List.mem_append.1 hy with k|k
    ·rcases(Fj y).1 k with k|k
     ·obtain⟨f,k1,k2⟩:=VX y (.inl k)
      exact⟨f,List.mem_append_left _ k1,k2⟩
     ·rcases(Af y).1 k with k|k
      ·exact⟨e,by simp,(Dn y k).1⟩
      ·obtain⟨f,k1,k2⟩:=VX y (.inr k)
       exact⟨f,List.mem_append_left _ k1,k2⟩
    ·obtain⟨f,k1,k2⟩:=hD.mem y (by rw[ey];exact List.mem_append_right _ k)
     exact⟨f,List.mem_append_left _ k1,k2⟩
   ·rcases List.mem_append.1 hf with hf|hf
    ·obtain⟨y,k1,k2,k3⟩:=hD.rep f hf x hx
     refine⟨y,?_,k2,fun sd aN=>k3 sd (back sd (rW sd aN)).1⟩
     rw[ey] at k1 ⊢
     rcases List.mem_append.1 k1 with k1|k1
     ·obtain⟨q,hq,J5⟩:=bk.1 k1
      refine List.mem_append_left _ ((Fj y).2 ?_)
      rcases inQ y q hq J5 with k|k
      ·exact .inl k
      ·exact .inr ((Af y).2 (.inr k))
     ·exact List.mem_append_right _ k1
    ·rw[List.mem_singleton.1 hf] at hx
     obtain⟨y,k1,k2,k3⟩:=he.rep e (by simp) x hx
     by_cases hy:g E.lw e1<g E.lw y
     ·refine⟨y,?_,k2,fun sd aN=>k3 sd (back sd (rW sd aN)).1⟩
      rw[ey]
      exact List.mem_append_left _ ((Fj y).2 (.inr ((Af y).2 (.inl ((LS y).2 ⟨k1,hy⟩)))))
     ·refine⟨b0,?_,?_,fun sd aN=>(k3 sd (back sd (rW sd aN)).1).trans (kP sd (rW sd aN) y k1 hy).1⟩
      ·rw[ey,ey];simp[cG]
      ·have e5:g E.lw y=g E.lw e1:=by have:=hw.low hem (Gt y k1);omega
       omega
   ·refine List.pairwise_append.2 ⟨?_,tu.2.1,fun p hp q hq x hx y hy=> ?_⟩
    ·rcases Ry with ⟨k,_⟩|⟨k,_⟩<;>rw[k]
     ·exact List.pairwise_singleton _ _
     ·exact List.Pairwise.nil
    ·rw[(Pg p hp).1] at hx
     have hyT:y∈cG (t++[([],[b0])]):=bk.2 ⟨q,hq,List.mem_append.1 hy⟩
     have old:∀z,(∃q'∈Q1,z∈q'.1∨z∈q'.2)→g E.lw y≤g E.lw z:=fun z ⟨q',hq',hz⟩=>tu.2.2 q' hq' q hq z (List.mem_append.2 hz) y hy
     rcases List.mem_append.1 hx with hx|hx
     ·obtain⟨q',hq',k⟩:=LU x hx
      exact old x ⟨q',hq',k.elim (fun k=> .inl k.1) fun k=> .inr k.1⟩
     ·rcases(Af x).1 hx with hx|hx
      ·have:=We y hyT
       have:=hw.low hem (Dn x hx).1
       omega
      ·obtain⟨q',hq',k⟩:=Gu x hx
       exact old x ⟨q',hq',k.elim (fun k=> .inr k.1) fun k=> .inl k.1⟩
   ·rcases List.mem_append.1 hp with k|k
    ·rw[(Pg p k).1];exact⟨abE,abD⟩
    ·exact hD.o7 p (List.mem_append_right _ k)
   ·rcases List.mem_append.1 hp with k|k
    ·rw[(Pg p k).1];exact(Pg p k).2
    ·exact hD.ne p (List.mem_append_right _ k)
   ·rcases List.mem_append.1 hp with k|k
    ·rw[(Pg p k).1];exact aak sd aN
    ·exact hD.Fc sd aN p (List.mem_append_right _ k)
   ·obtain rfl:e1=e2:=by
     cases D with
     |nil=>simp at h1
     |cons d D=>simp at h1 h2;rw[←h1,h2]
    refine⟨PN++t,b0,by rw[List.append_assoc],YG,gb0,fun y hy=> ?_⟩
    rw[ey] at hy
    rcases List.mem_append.1 hy with k|k
    ·exact adv y ((Fj y).1 k)
    ·exact NN y (by rw[ey];exact List.mem_append_right _ k)
  ·intro b hb
   rw[←List.append_assoc] at hb
   simpa using hb
  ·intro f hf sd aN
   rw[List.append_assoc] at aN
   have hs1:=rW sd aN
   have hs0:=(back sd hs1).1
   have hch:=l2.ch (A,B) (by simp)
   obtain⟨sA,sB⟩:=l2.mm (p:=(A,B)) (by simp)
   have Y8:∀y,T.aY f y→g E.lw e<g E.lw y→∃y'∈A,sd y=sd y':=fun y ry gy=>by
    obtain⟨y',k1,k2,k3⟩:=hD.rep f hf y ry
    refine⟨y',?_,k3 sd hs0⟩
    rw[ey] at k1
    rcases List.mem_append.1 k1 with k1|k1
    ·obtain⟨q,hq,J5⟩:=bk.1 k1
     rcases inQ y' q hq J5 with k|k
     ·exact k
     ·have:=Wh y' k
      omega
    ·have:=We y' k1
     omega
   have Y7:∀x,T.aY e x→g E.lw f<g E.lw x→∃x'∈B,sd x=sd x':=fun x rx gx=>by
    obtain⟨x',k1,k2,k3⟩:=he.rep e (by simp) x rx
    have:=hn1 f hf
    exact⟨x',(Af x').2 (.inl ((LS x').2 ⟨k1,by omega⟩)),k3 sd hs0⟩
   refine⟨fun b c rb rc ab ac=> ?_,fun b c rb rc ab ac=> ?_,fun b c rb ab rc ac=> ?_⟩
   ·obtain⟨y,k1,k2⟩:=Y8 b rb (hw.oJ hem rb ab).1
    obtain⟨y',k3,k4⟩:=Y8 c rc (hw.oJ hem rc ac).1
    rw[k2,k4]
    exact hs1.alike hch.1 sA k1 k3
   ·obtain⟨y,k1,k2⟩:=Y7 b rb (hw.oJ (yF f hf) rb ab).1
    obtain⟨y',k3,k4⟩:=Y7 c rc (hw.oJ (yF f hf) rc ac).1
    rw[k2,k4]
    exact hs1.alike hch.2 sB k1 k3
   ·obtain⟨y,k1,k2⟩:=Y8 b rb (hw.oJ hem rb ab).1
    obtain⟨y',k3,k4⟩:=Y7 c rc (hw.oJ (yF f hf) rc ac).1
    rw[k2,k4]
    exact hs1.un (A,B) (by simp) y k1 y' k3
end
end Lt
end
end Go.Proofs.YtnhcggfbkoppnaaGreat
