import Derived.Test.YtnhcggfbkoppnaaGreatMg14
namespace Go.Proofs.YtnhcggfbkoppnaaGreat
section
namespace Lt
open Pl
structure Lv where
 v:Nat
 k:Nat
 RG:List cI
def flat (ls:List Lv):List cI:=ls.flatMap Lv.RG
theorem bN (l:Lv) (ls:List Lv):flat (l::ls)=l.RG++flat ls:=by simp[flat]
def cC {n m:Nat} (T:DF n m) (G:List Nat) (x:Nat):Prop:=x∈G∧T.tree x=false
structure IJ {n m:Nat} (T:DF n m) (E:Env) (oe:Nat→List Nat) (lowest:List Int) (S:(Nat→Bool)→Prop) (l:Lv) (k:Nat):Prop where
 lt:l.v<n
 mZ:jJ T E.lw S ((oe l.v).take k) l.RG
 lw:∀a,a<m→T.tree a=true→T.go a=l.v→∀b0,l.RG.getLast? =some ([],[b0])→g lowest a=(b0:Int)
 zR:∀e∈(oe l.v).take k,∀f∈(oe l.v).take k,e≠f→∀sd,S sd→K6 T e f sd
def yV {n m:Nat} (T:DF n m) (E:Env) (oe:Nat→List Nat) (lowest:List Int) (S:(Nat→Bool)→Prop):List Lv→List jw→Nat→Prop
 |[],[],v=>∀a,a<m→T.tree a=true→T.go a≠v
 |l::ls,w::ws,v=>(∃c k,l.k=k+1∧(oe l.v)[k]? =some c∧T.tree c=true∧T.go c=v∧IJ T E oe lowest S l k)∧w=((l.v:Int),(l.k:Int),top ((l.RG++flat ls).map cJ))∧yV T E oe lowest S ls ws l.v
 |_,_,_=>False
def Way {n m:Nat} (T:DF n m) (E:Env) (oe:Nat→List Nat) (lowest:List Int) (S:(Nat→Bool)→Prop):List Lv→List jw→Prop
 |[],[]=>True
 |l::ls,w::ws=>(w.1=(l.v:Int)∧w.2.1=(l.k:Int))∧l.k≤(oe l.v).length∧IJ T E oe lowest S l l.k∧yV T E oe lowest S ls ws l.v
 |_,_=>False
structure Inv {n m:Nat} (T:DF n m) (E:Env) (oe:Nat→List Nat) (st:TS) (fin:Nat→Prop) (G:List Nat) (ls:List Lv):Prop where
 lk:Lk m st.like st.turn (cC T G) (flat ls)
 stk:st.stk=(flat ls).map cJ
 len:st.lowest.length=m
 way:Way T E oe st.lowest (Sat st.like st.turn (cC T G) (flat ls)) ls st.way
 Ii:G.Nodup
 gi:∀e,e∈G↔e<m∧(fin (T.fr e)∨∃l∈ls,l.v=T.fr e∧e∈(oe l.v).take l.k)
 vi:∀v,(fin v∨∃l∈ls,l.v=v)→∀e,e<m→T.tree e=true→T.go e=v→e∈G
 ln:(ls.map Lv.v).Nodup
 lf:∀l∈ls,¬fin l.v
 ti:∀e∈G,T.tree e=true→fin (T.go e)∨∃l∈ls,l.v=T.go e
 r1:∀v,fin v→∀e f,e<m→f<m→T.fr e=v→T.fr f=v→e≠f→∀sd,Sat st.like st.turn (cC T G) (flat ls) sd→K6 T e f sd
 r2:∀a,a<m→T.tree a=true→fin (T.go a)→∀sd,Sat st.like st.turn (cC T G) (flat ls) sd→∀b c,T.ct b a→T.ct c a→sd b=sd c
section
variable {n m:Nat} {T:DF n m} {E:Env} {oe:Nat→List Nat} {hf:Nat→Int} {lowest fJ:List Int} {S S':(Nat→Bool)→Prop} {l:Lv} {ls:List Lv} {ws:List jw} {v k:Nat}
theorem IJ.more (h:IJ T E oe lowest S l k) (hS:∀sd,S' sd→S sd) (hl:∀x,T.tree x=true→T.go x=l.v→g fJ x=g lowest x):IJ T E oe fJ S' l k:=
 ⟨h.lt,h.mZ.more hS,fun a ha ta ga b0 hb=>by rw[hl a ta ga];exact h.lw a ha ta ga b0 hb,fun e he f hf hne sd aN=>h.zR e he f hf hne sd (hS sd aN)⟩
theorem yV.more (hS:∀sd,S' sd→S sd):∀{ls:List Lv} {ws:List jw} {v:Nat},yV T E oe lowest S ls ws v→(∀l∈ls,∀x,T.tree x=true→T.go x=l.v→g fJ x=g lowest x)→yV T E oe fJ S' ls ws v
 |[],[],_,h,_=>h
 |l::ls,w::ws,_,h,hl=>by
  obtain⟨⟨c,k,h1,h2,h3,h4,h5⟩,h6,h7⟩:=h
  exact⟨⟨c,k,h1,h2,h3,h4,h5.more hS (hl l List.mem_cons_self)⟩,h6,yV.more hS h7 fun l' hl'=>hl l' (List.mem_cons_of_mem _ hl')⟩
 |[],_::_,_,h,_=>h.elim
 |_::_,[],_,h,_=>h.elim
theorem yV.low (hE:dN T E oe hf):∀{ls:List Lv} {ws:List jw} {v:Nat},yV T E oe lowest S ls ws v→v<n→(∀x∈cG (flat ls),g E.lw x+1<T.ay v)∧(∀p∈flat ls,¬(p.1=[]∧p.2=[]))∧∀p∈flat ls,lB E.lw p.1∧lB E.lw p.2
 |[],[],_,_,_=>⟨fun x hx=>by simp[flat,cG] at hx,fun p hp=>by simp[flat] at hp,fun p hp=>by simp[flat] at hp⟩
 |l::ls,w::ws,v,h,hv=>by
  obtain⟨⟨c,k,h1,h2,h3,h4,h5⟩,h6,h7⟩:=h
  obtain⟨cm,cf⟩:=(hE.mem l.v c).1 (List.mem_of_getElem? h2)
  have eP:=(T.dP c cm h3).1
  rw[h4,cf] at eP
  obtain⟨i1,i2,i3⟩:=yV.low hE h7 h5.lt
  rw[bN]
  refine⟨fun x hx=> ?_,fun p hp=> ?_,fun p hp=> ?_⟩
  ·rw[ey] at hx
   rcases List.mem_append.1 hx with k1|k1
   ·obtain⟨f,hf',rf⟩:=h5.mZ.mem x k1
    have:=hE.lw.lt rf
    rw[((hE.mem l.v f).1 (List.mem_of_mem_take hf')).2] at this
    omega
   ·have:=i1 x k1
    omega
  ·rcases List.mem_append.1 hp with k1|k1
   ·exact h5.mZ.ne p k1
   ·exact i2 p k1
  ·rcases List.mem_append.1 hp with k1|k1
   ·exact h5.mZ.o7 p k1
   ·exact i3 p k1
 |[],_::_,_,h,_=>h.elim
 |_::_,[],_,h,_=>h.elim
theorem o8 {G:List Nat} {e:Nat} (te:T.tree e=true):cC T (e::G)=cC T G:=funext fun x=>propext ⟨fun ⟨h1,h2⟩=>⟨(List.mem_cons.1 h1).elim (fun q=>by rw[q,te] at h2;cases h2) id,h2⟩,fun ⟨h1,h2⟩=>⟨List.mem_cons_of_mem _ h1,h2⟩⟩
theorem zQ {G:List Nat} {e:Nat} (te:T.tree e=false):(fun x=>cC T G x∨x=e)=cC T (e::G):=funext fun x=>propext ⟨fun h=>h.elim (fun h=>⟨List.mem_cons_of_mem _ h.1,h.2⟩) (fun h=>by rw[h];exact⟨List.mem_cons_self,te⟩),fun ⟨h1,h2⟩=>(List.mem_cons.1 h1).elim .inr fun h1=> .inl ⟨h1,h2⟩⟩
theorem Inv.fresh {st:TS} {fin:Nat→Prop} {G:List Nat} {e:Nat} (hE:dN T E oe hf) (h:Inv T E oe st fin G (l::ls)) (hk:(oe l.v)[l.k]? =some e):e∉G:=fun hG=>by
 obtain⟨em,ef⟩:=(hE.mem l.v e).1 (List.mem_of_getElem? hk)
 rcases((h.gi e).1 hG).2 with k|⟨l',h1,h2,h3⟩
 ·rw[ef] at k
  exact h.lf l List.mem_cons_self k
 ·rcases List.mem_cons.1 h1 with rfl|h1
  ·exact vW (hE.nd _) hk h3
  ·have:=(List.nodup_cons.1 h.ln).1
   exact this (List.mem_map.2 ⟨l',h1,h2.trans ef⟩)
theorem gi_step {fin:Nat→Prop} {G:List Nat} {e:Nat} {RG fA:List cI} (hE:dN T E oe hf) (hk:(oe v)[k]? =some e) (h:∀x,x∈G↔x<m∧(fin (T.fr x)∨∃l∈(⟨v,k,RG⟩::ls:List Lv),l.v=T.fr x∧x∈(oe l.v).take l.k)):∀x,x∈e::G↔x<m∧(fin (T.fr x)∨∃l∈(⟨v,k+1,fA⟩::ls:List Lv),l.v=T.fr x∧x∈(oe l.v).take l.k):=fun x=>by
 obtain⟨em,ef⟩:=(hE.mem v e).1 (List.mem_of_getElem? hk)
 rw[List.mem_cons,h x]
 constructor
 ·rintro(rfl|⟨h1,h2⟩)
  ·refine⟨em,.inr ⟨_,List.mem_cons_self,ef.symm,?_⟩⟩
   dsimp only
   rw[take_succ hk]
   simp
  ·refine⟨h1,h2.imp id ?_⟩
   rintro⟨l,k1,k2,k3⟩
   rcases List.mem_cons.1 k1 with rfl|k1
   ·refine⟨_,List.mem_cons_self,k2,?_⟩
    dsimp only at k3 ⊢
    rw[take_succ hk]
    exact List.mem_append_left _ k3
   ·exact⟨l,List.mem_cons_of_mem _ k1,k2,k3⟩
 ·rintro⟨h1,h2⟩
  rcases h2 with h2|⟨l,k1,k2,k3⟩
  ·exact .inr ⟨h1,.inl h2⟩
  ·rcases List.mem_cons.1 k1 with rfl|k1
   ·dsimp only at k2 k3
    rw[take_succ hk] at k3
    rcases List.mem_append.1 k3 with k3|k3
    ·exact .inr ⟨h1,.inr ⟨_,List.mem_cons_self,k2,k3⟩⟩
    ·exact .inl (List.mem_singleton.1 k3)
   ·exact .inr ⟨h1,.inr ⟨l,List.mem_cons_of_mem _ k1,k2,k3⟩⟩
def Next (T:DF n m) (E:Env) (oe:Nat→List Nat) (fin:Nat→Prop) (G:List Nat) (ls:List Lv) (r:Option (Option TS)):Prop:=
 (r=some none∧∀sd,¬T.LR sd)∨∃st' fin' G' ls',r=some (some st')∧Inv T E oe st' fin' G' ls'∧2*(m-G'.length)+ls'.length<2*(m-G.length)+ls.length∧(∀v,fin v→fin' v)∧(∀l∈ls,fin' l.v∨∃l'∈ls',l'.v=l.v)∧∀x,(fin' x∨∃l'∈ls',l'.v=x)→fin x∨(∃l∈ls,l.v=x)∨∃a,a<m∧T.tree a=true∧T.go a=x
theorem XF {fin:Nat→Prop} {G:List Nat} {st:TS} (h:Inv T E oe st fin G ls):G.length≤m:=fH h.Ii fun x hx=>((h.gi x).1 hx).1
theorem Jr (hE:dN T E oe hf) {st:TS} {fin:Nat→Prop} {G:List Nat} {e:Nat} {RG:List cI} {w:jw} (h:Inv T E oe st fin G (⟨v,k,RG⟩::ls)) (hw:st.way=w::ws) (hk:(oe v)[k]? =some e) (te:T.tree e=false):
 Next T E oe fin G (⟨v,k,RG⟩::ls) (xZ E { st with way:=((v:Int),(k:Int)+1,top st.stk)::ws } (hf e)):=by
 obtain⟨em,ef⟩:=(hE.mem v e).1 (List.mem_of_getElem? hk)
 have Kk:=h.fresh hE (e:=e) hk
 have bB:=h.way
 rw[hw] at bB
 obtain⟨-,cT,hlv,dg⟩:=bB
 unfold xZ
 rw[hE.back em,te]
 dsimp only
 rw[hE.h2 e em,mq (by rw[h.len];exact em)]
 dsimp only
 have EX:¬cC T G e:=fun q=>Kk q.1
 have hlk:=h.lk.push em EX
 rw[zQ te,bN] at hlk
 have adi:Lk m st.like st.turn (cC T (e::G)) ([([],[e])]++(RG++flat ls)):=hlk
 have WG:∀sd,Sat st.like st.turn (cC T (e::G)) ([([],[e])]++(RG++flat ls)) sd→Sat st.like st.turn (cC T G) (flat (⟨v,k,RG⟩::ls)) sd:=fun sd aN=>by
  rw[bN]
  refine Sat.push (e:=e) ?_ EX
  rw[zQ te]
  exact aN
 have L9:∀x,T.tree x=true→g (st.lowest.set e (e:Int)) x=g st.lowest x:=fun x tx=>aU fun q=>by rw[q,te] at tx;cases tx
 rcases zO hE (v:=v) (k:=k) (e:=e) (RG:=RG) (rest:=flat ls) (SG:=[([],[e])]) (ws:=ws) (seen:=cC T (e::G)) (st:={ st with lowest:=st.lowest.set e (e:Int),stk:=(aP,((e:Int),(e:Int)))::st.stk,way:=((v:Int),(k:Int)+1,top st.stk)::ws }) hk
  (by
    show _::st.stk=_
    rw[h.stk,bN]
    rfl) rfl (by rw[h.stk,bN]) adi (hlv.mZ.more WG) (jJ.back em te) (by show(st.lowest.set e (e:Int)).length=m;rw[List.length_set];exact h.len)
  (fun a ha ta ga b0 hb=>by rw[L9 a ta];exact hlv.lw a ha ta ga b0 hb) (fun b0 hb=>by
    have hb':e=b0:=by simpa using hb
    rw[←hb']
    exact dW (by rw[h.len];exact em)) with ⟨k1,k2⟩|⟨aH,fJ,fA,k1,k2⟩
 ·exact .inl ⟨k1,k2⟩
 ·refine .inr ⟨_,fin,e::G,⟨v,k+1,fA⟩::ls,k1,?_,?_,fun _ q=>q,fun l hl=> ?_,fun x hx=> ?_⟩
  ·have KC:∀sd,Sat aH st.turn (cC T (e::G)) (flat (⟨v,k+1,fA⟩::ls)) sd→Sat st.like st.turn (cC T G) (flat (⟨v,k,RG⟩::ls)) sd:=fun sd aN=>by
    rw[bN] at aN
    exact WG sd (k2.sat sd aN)
   refine⟨?_,?_,k2.len,?_,List.nodup_cons.2 ⟨Kk,h.Ii⟩,gi_step hE hk h.gi,fun x hx y ym ty gy=>List.mem_cons_of_mem _ (h.vi x ?_ y ym ty gy),h.ln,fun l hl=> ?_,fun x hx tx=> ?_,fun x hx y z ym zm yf zf hne sd aN=>h.r1 x hx y z ym zm yf zf hne sd (KC sd aN),fun a am ta fa sd aN=>h.r2 a am ta fa sd (KC sd aN)⟩
   ·rw[bN];exact k2.lk
   ·rw[bN]
   ·refine⟨⟨rfl,by simp⟩,?_,⟨hlv.lt,?_,k2.lw,?_⟩,?_⟩
    ·have:=(List.getElem?_eq_some_iff.1 hk).1
     exact this
    ·dsimp only
     rw[take_succ hk,bN]
     exact k2.mZ
    ·intro x hx y hy hne sd aN
     dsimp only at hx hy
     rw[take_succ hk] at hx hy
     have P5:=KC sd aN
     rw[bN] at aN
     rcases List.mem_append.1 hx with hx|hx<;>rcases List.mem_append.1 hy with hy|hy
     ·exact hlv.zR x hx y hy hne sd P5
     ·rw[List.mem_singleton.1 hy]
      exact k2.zR x hx sd aN
     ·rw[List.mem_singleton.1 hx]
      exact(k2.zR y hy sd aN).symm
     ·exact absurd ((List.mem_singleton.1 hx).trans (List.mem_singleton.1 hy).symm) hne
    ·refine dg.more KC fun l hl x tx gx=> ?_
     rw[k2.Nh x fun q=> ?_]
     ·exact L9 x tx
     ·have:=(List.nodup_cons.1 h.ln).1
      exact this (List.mem_map.2 ⟨l,hl,gx.symm.trans q.2⟩)
   ·rcases hx with hx|⟨l,hl,hx⟩
    ·exact .inl hx
    ·rcases List.mem_cons.1 hl with rfl|hl
     ·exact .inr ⟨_,List.mem_cons_self,hx⟩
     ·exact .inr ⟨l,List.mem_cons_of_mem _ hl,hx⟩
   ·rcases List.mem_cons.1 hl with rfl|hl
    ·exact h.lf ⟨v,k,RG⟩ List.mem_cons_self
    ·exact h.lf l (List.mem_cons_of_mem _ hl)
   ·rcases List.mem_cons.1 hx with rfl|hx
    ·rw[te] at tx;cases tx
    ·rcases h.ti x hx tx with q|⟨l,hl,q⟩
     ·exact .inl q
     ·rcases List.mem_cons.1 hl with rfl|hl
      ·exact .inr ⟨_,List.mem_cons_self,q⟩
      ·exact .inr ⟨l,List.mem_cons_of_mem _ hl,q⟩
  ·have h1:=XF h
   have h2:(e::G).length≤m:=fH (List.nodup_cons.2 ⟨Kk,h.Ii⟩) fun x hx=>by
    rcases List.mem_cons.1 hx with rfl|hx
    ·exact em
    ·exact((h.gi x).1 hx).1
   simp only[List.length_cons] at h2 ⊢
   omega
  ·rcases List.mem_cons.1 hl with rfl|hl
   ·exact .inr ⟨_,List.mem_cons_self,rfl⟩
   ·exact .inr ⟨l,List.mem_cons_of_mem _ hl,rfl⟩
  ·rcases hx with hx|⟨l,hl,hx⟩
   ·exact .inl hx
   ·rcases List.mem_cons.1 hl with rfl|hl
    ·exact .inr (.inl ⟨_,List.mem_cons_self,hx⟩)
    ·exact .inr (.inl ⟨l,List.mem_cons_of_mem _ hl,hx⟩)
end
end Lt
end
section
namespace Lt
open Pl
section
variable {n m:Nat} {T:DF n m} {E:Env} {oe:Nat→List Nat} {hf:Nat→Int} {l:Lv} {ls:List Lv} {ws:List jw} {v k:Nat}
theorem Jq (hE:dN T E oe hf) {st:TS} {fin:Nat→Prop} {G:List Nat} {e:Nat} {RG:List cI} {w:jw} (h:Inv T E oe st fin G (⟨v,k,RG⟩::ls)) (hw:st.way=w::ws) (hk:(oe v)[k]? =some e) (te:T.tree e=true):
 Next T E oe fin G (⟨v,k,RG⟩::ls) (xZ E { st with way:=((v:Int),(k:Int)+1,top st.stk)::ws } (hf e)):=by
 obtain⟨em,ef⟩:=(hE.mem v e).1 (List.mem_of_getElem? hk)
 have Kk:=h.fresh hE (e:=e) hk
 have bB:=h.way
 rw[hw] at bB
 obtain⟨-,cT,hlv,dg⟩:=bB
 have hnew:¬(fin (T.go e)∨∃l∈(⟨v,k,RG⟩::ls:List Lv),l.v=T.go e):=fun q=>Kk (h.vi _ q e em te rfl)
 unfold xZ
 rw[hE.back em,te]
 dsimp only[Bool.not_true]
 rw[hE.to e em]
 have hfl:flat (⟨T.go e,0,[]⟩::⟨v,k+1,RG⟩::ls)=flat (⟨v,k,RG⟩::ls):=by simp[flat]
 refine .inr ⟨_,fin,e::G,⟨T.go e,0,[]⟩::⟨v,k+1,RG⟩::ls,rfl,⟨?_,?_,h.len,?_,List.nodup_cons.2 ⟨Kk,h.Ii⟩,fun x=> ?_,fun x hx y ym ty gy=> ?_,?_,fun l hl=> ?_,fun x hx tx=> ?_,fun x hx y z ym zm yf zf hne sd aN=>h.r1 x hx y z ym zm yf zf hne sd ?_,fun a am ta fa sd aN=>h.r2 a am ta fa sd ?_⟩,?_,fun _ q=>q,fun l hl=> ?_,fun x hx=> ?_⟩
 ·rw[hfl,o8 te]
  exact h.lk
 ·rw[hfl]
  exact h.stk
 ·rw[hfl,o8 te]
  refine⟨⟨rfl,rfl⟩,Nat.zero_le _,⟨(T.lt e em).2,?_,fun a _ _ _ b0 hb=>by simp at hb,fun x hx=>by simp at hx⟩,⟨e,k,rfl,hk,te,rfl,⟨hlv.lt,hlv.mZ,hlv.lw,hlv.zR⟩⟩,?_,dg⟩
  ·show jJ T E.lw _ ((oe (T.go e)).take 0) []
   rw[List.take_zero]
   exact jJ.nil
  ·rw[h.stk,bN]
   simp
 ·rw[gi_step (fA:=RG) hE hk h.gi x]
  refine and_congr Iff.rfl (or_congr Iff.rfl ⟨fun ⟨l,h1,h2⟩=>⟨l,List.mem_cons_of_mem _ h1,h2⟩,fun ⟨l,h1,h2⟩=> ?_⟩)
  rcases List.mem_cons.1 h1 with rfl|h1
  ·have:=h2.2
   simp at this
  ·exact⟨l,h1,h2⟩
 ·rcases hx with hx|⟨l,hl,hx⟩
  ·exact List.mem_cons_of_mem _ (h.vi x (.inl hx) y ym ty gy)
  ·rcases List.mem_cons.1 hl with rfl|hl
   ·dsimp only at hx
    obtain rfl:=T.one y e ym em ty te (gy.trans hx.symm)
    exact List.mem_cons_self
   ·refine List.mem_cons_of_mem _ (h.vi x (.inr ?_) y ym ty gy)
    rcases List.mem_cons.1 hl with rfl|hl
    ·exact⟨⟨v,k,RG⟩,List.mem_cons_self,hx⟩
    ·exact⟨l,List.mem_cons_of_mem _ hl,hx⟩
 ·show(T.go e::v::ls.map Lv.v).Nodup
  refine List.nodup_cons.2 ⟨fun q=>hnew (.inr ?_),h.ln⟩
  rcases List.mem_cons.1 q with q|q
  ·exact⟨⟨v,k,RG⟩,List.mem_cons_self,q.symm⟩
  ·obtain⟨l,hl,q⟩:=List.mem_map.1 q
   exact⟨l,List.mem_cons_of_mem _ hl,q⟩
 ·rcases List.mem_cons.1 hl with rfl|hl
  ·exact fun q=>hnew (.inl q)
  ·rcases List.mem_cons.1 hl with rfl|hl
   ·exact h.lf ⟨v,k,RG⟩ List.mem_cons_self
   ·exact h.lf l (List.mem_cons_of_mem _ hl)
 ·rcases List.mem_cons.1 hx with rfl|hx
  ·exact .inr ⟨⟨T.go x,0,[]⟩,List.mem_cons_self,rfl⟩
  ·rcases h.ti x hx tx with q|⟨l,hl,q⟩
   ·exact .inl q
   ·rcases List.mem_cons.1 hl with rfl|hl
    ·exact .inr ⟨⟨v,k+1,RG⟩,by simp,q⟩
    ·exact .inr ⟨l,by simp[hl],q⟩
 ·rw[hfl,o8 te] at aN
  exact aN
 ·rw[hfl,o8 te] at aN
  exact aN
 ·have h1:=XF h
  have h2:(e::G).length≤m:=fH (List.nodup_cons.2 ⟨Kk,h.Ii⟩) fun x hx=>by
   rcases List.mem_cons.1 hx with rfl|hx
   ·exact em
   ·exact((h.gi x).1 hx).1
  simp only[List.length_cons] at h2 ⊢
  omega
 ·rcases List.mem_cons.1 hl with rfl|hl
  ·exact .inr ⟨⟨v,k+1,RG⟩,by simp,rfl⟩
  ·exact .inr ⟨l,by simp[hl],rfl⟩
 ·rcases hx with hx|⟨l,hl,hx⟩
  ·exact .inl hx
  ·rcases List.mem_cons.1 hl with rfl|hl
   ·exact .inr (.inr ⟨e,em,te,hx⟩)
   ·rcases List.mem_cons.1 hl with rfl|hl
    ·exact .inr (.inl ⟨⟨v,k,RG⟩,List.mem_cons_self,hx⟩)
    ·exact .inr (.inl ⟨l,List.mem_cons_of_mem _ hl,hx⟩)
theorem j7 (hE:dN T E oe hf) {v x:Nat}:x∈(oe v).take (oe v).length↔x<m∧T.fr x=v:=by
 rw[List.take_length]
 exact hE.mem v x
theorem GK (hE:dN T E oe hf) {st:TS} {fin:Nat→Prop} {G:List Nat} {RG:List cI} {w:jw} (h:Inv T E oe st fin G (⟨v,k,RG⟩::ls)) (hw:st.way=w::ws) (hk:k=(oe v).length) (hr:∀a,a<m→T.tree a=true→T.go a≠v):
 Next T E oe fin G (⟨v,k,RG⟩::ls) (leave E st):=by
 have bB:=h.way
 rw[hw] at bB
 obtain⟨⟨w1,-⟩,-,hlv,dg⟩:=bB
 have dh:v<n:=hlv.lt
 dsimp only at w1 dg
 have hls:ls=[]∧ws=[]:=by
  cases ls with
  |nil=>
   cases ws with
   |nil=>exact⟨rfl,rfl⟩
   |cons _ _=>exact dg.elim
  |cons l ls=>
   cases ws with
   |nil=>exact dg.elim
   |cons w' ws=>
    obtain⟨⟨c,k',-,h2,h3,h4,-⟩,-⟩:=dg
    exact absurd h4 (hr c ((hE.mem l.v c).1 (List.mem_of_getElem? h2)).1 h3)
 obtain⟨rfl,rfl⟩:=hls
 have hpar:bz E.par w.1=some (-1):=by
  rw[w1]
  rcases hE.par v dh with ⟨a,k1,k2,k3,_⟩|⟨_,k4⟩
  ·exact absurd k3 (hr a k1 k2)
  ·exact k4
 unfold leave
 rw[hw]
 dsimp only
 rw[hpar]
 dsimp only
 rw[if_pos rfl]
 have ZZ:RG=[]:=hlv.mZ.empty fun f hf' x hx=>by
  obtain⟨fm,ff⟩:=(hE.mem v f).1 (List.mem_of_mem_take hf')
  obtain⟨a,k1,k2,k3⟩:=zW fm hx
  exact hr a k1 k2 (k3.trans ff)
 subst ZZ
 have hfl:flat ([⟨v,k,[]⟩]:List Lv)=flat []:=by simp[flat]
 have hlk:=h.lk
 have G0:=h.stk
 have hr1:=h.r1
 have hr2:=h.r2
 have WH:=hlv.zR
 rw[hfl] at hlk G0 hr1 hr2 WH
 refine .inr ⟨_,fun x=>fin x∨x=v,G,[],rfl,⟨hlk,G0,h.len,trivial,h.Ii,fun x=> ?_,fun x hx y ym ty gy=> ?_,List.nodup_nil,fun l hl=>by simp at hl,fun x hx tx=> ?_,fun x hx y z ym zm yf zf hne sd aN=> ?_,fun a am ta fa sd aN=> ?_⟩,by simp,fun x hx=> .inl hx,fun l hl=> ?_,fun x hx=> ?_⟩
 ·rw[h.gi x]
  refine and_congr_right fun xm=>⟨?_,?_⟩
  ·rintro(q|⟨l,h1,h2,h3⟩)
   ·exact .inl (.inl q)
   ·rw[List.mem_singleton.1 h1] at h2
    exact .inl (.inr h2.symm)
  ·rintro((q|q)|⟨l,h1,_⟩)
   ·exact .inl q
   ·refine .inr ⟨⟨v,k,[]⟩,List.mem_cons_self,q.symm,?_⟩
    dsimp only
    rw[hk]
    exact(j7 hE).2 ⟨xm,q⟩
   ·simp at h1
 ·rcases hx with (q|q)|⟨l,h1,_⟩
  ·exact h.vi x (.inl q) y ym ty gy
  ·exact h.vi x (.inr ⟨⟨v,k,[]⟩,List.mem_cons_self,q.symm⟩) y ym ty gy
  ·simp at h1
 ·rcases h.ti x hx tx with q|⟨l,h1,h2⟩
  ·exact .inl (.inl q)
  ·rw[List.mem_singleton.1 h1] at h2
   exact .inl (.inr h2.symm)
 ·rcases hx with hx|hx
  ·exact hr1 x hx y z ym zm yf zf hne sd aN
  ·refine WH y ?_ z ?_ hne sd aN
   ·dsimp only;rw[hk];exact(j7 hE).2 ⟨ym,yf.trans hx⟩
   ·dsimp only;rw[hk];exact(j7 hE).2 ⟨zm,zf.trans hx⟩
 ·rcases fa with fa|fa
  ·exact hr2 a am ta fa sd aN
  ·exact absurd fa (hr a am ta)
 ·rw[List.mem_singleton.1 hl]
  exact .inl (.inr rfl)
 ·rcases hx with (hx|hx)|⟨l,hl,_⟩
  ·exact .inl hx
  ·exact .inr (.inl ⟨⟨v,k,[]⟩,List.mem_cons_self,hx.symm⟩)
  ·simp at hl
theorem GH (hE:dN T E oe hf) {st:TS} {fin:Nat→Prop} {G:List Nat} {RG:List cI} {w:jw} {a:Nat} (h:Inv T E oe st fin G (⟨v,k,RG⟩::ls)) (hw:st.way=w::ws) (hk:k=(oe v).length) (k7:a<m) (ta:T.tree a=true) (ga:T.go a=v):
 Next T E oe fin G (⟨v,k,RG⟩::ls) (leave E st):=by
 have bB:=h.way
 rw[hw] at bB
 obtain⟨⟨w1,-⟩,-,hlv,dg⟩:=bB
 have dh:v<n:=hlv.lt
 dsimp only at w1 dg
 obtain⟨dZ,hne,acO⟩:=dg.low hE dh
 cases ls with
 |nil=>
  cases ws with
  |nil=>exact absurd ga (dg a k7 ta)
  |cons _ _=>exact dg.elim
 |cons l ls=>
  cases ws with
  |nil=>exact dg.elim
  |cons w' ws=>
   obtain⟨⟨c,k',h1,h2,h3,h4,h5⟩,h6,h7⟩:=dg
   obtain⟨cm,cf⟩:=(hE.mem l.v c).1 (List.mem_of_getElem? h2)
   obtain rfl:=T.one a c k7 cm ta h3 (ga.trans h4.symm)
   have eP:=(T.dP a k7 ta).1
   rw[ga,cf] at eP
   unfold leave
   rw[hw]
   dsimp only
   rw[w1,←ga,hE.Pe k7 ta]
   dsimp only
   have hf0:=hE.h0 a k7
   rw[if_neg (by omega),hE.beg k7,cf]
   dsimp only
   have hmem:∀f,f∈(oe v).take k↔f<m∧T.fr f=T.go a:=fun f=>by rw[hk,ga];exact j7 hE
   have hmin:∀e1,((oe v).take k).head? =some e1→∀f∈(oe v).take k,g E.lw e1≤g E.lw f:=fun e1 aA f hf'=>by
    have q:=hE.Cq v
    rw[hk,List.take_length] at aA hf'
    cases AU:oe v with
    |nil=>rw[AU] at hf';simp at hf'
    |cons d l=>
     rw[AU] at aA hf' q
     obtain rfl:d=e1:=by simpa using aA
     rcases List.mem_cons.1 hf' with rfl|hf'
     ·exact Int.le_refl _
     ·exact((List.pairwise_cons.1 q).1 f hf').1
   obtain⟨t1,t2,t3⟩:=hlv.mZ.trim hE.lw k7 ta hmem hmin
   dsimp only at t1 t2 t3
   rw[cf] at t1 t2 t3
   have Qy:∀x∈cG (flat (l::ls)),g E.lw x<T.ay l.v:=fun x hx=>by have:=dZ x hx;omega
   have hfl:flat (⟨v,k,RG⟩::l::ls)=RG++flat (l::ls):=bN _ _
   have hlk:=h.lk
   have G0:=h.stk
   rw[hfl] at hlk G0
   obtain⟨eX,fS,q1,q2,q3⟩:=OV (lw:=E.lw) (h:=T.ay l.v) (stk:=RG++flat (l::ls)) (seen:=cC T G) hE.lw.len { st with way:=w'::ws } G0 hlk
    (fun p hp=>(List.mem_append.1 hp).elim (hlv.mZ.ne p) (hne p)) (fun x hx=>by
      rw[ey] at hx
      rcases List.mem_append.1 hx with k1|k1
      ·exact t2 x k1
      ·have:=Qy x k1
       omega) (fun p hp=>(List.mem_append.1 hp).elim (hlv.mZ.o7 p) (acO p))
   rw[pX hne Qy,bN] at q1 q2 q3
   rw[q1]
   dsimp only
   have Kb:∀sd,Sat eX fS (cC T G) (cV E.lw (T.ay l.v) RG++(l.RG++flat ls)) sd→Sat st.like st.turn (cC T G) (flat (⟨v,k,RG⟩::l::ls)) sd:=fun sd aN=>by
    rw[bN,bN]
    exact q3 sd aN
   have kP:=t1.more Kb
   rcases zO hE (v:=l.v) (k:=k') (e:=a) (RG:=l.RG) (rest:=flat ls) (SG:=cV E.lw (T.ay l.v) RG) (ws:=ws) (vis:=w') (seen:=cC T G) (st:={ st with way:=w'::ws,like:=eX,turn:=fS,stk:=(cV E.lw (T.ay l.v) RG++(l.RG++flat ls)).map cJ }) h2 rfl rfl
    (by rw[h6]) q2 (h5.mZ.more Kb) kP h.len (fun a' ha' zI KG b0 hb=>h5.lw a' ha' zI KG b0 hb) (fun b0 hb=>hlv.lw a k7 ta ga b0 (t3 b0 hb)) with ⟨k1,k2⟩|⟨aH,fJ,fA,k1,k2⟩
   ·exact .inl ⟨k1,k2⟩
   ·have KC:∀sd,Sat aH fS (cC T G) (flat (⟨l.v,l.k,fA⟩::ls)) sd→Sat eX fS (cC T G) (cV E.lw (T.ay l.v) RG++(l.RG++flat ls)) sd:=fun sd aN=>by
     rw[bN] at aN
     exact k2.sat sd aN
    have Rx:∀sd,Sat aH fS (cC T G) (flat (⟨l.v,l.k,fA⟩::ls)) sd→Sat st.like st.turn (cC T G) (flat (⟨v,k,RG⟩::l::ls)) sd:=fun sd aN=>Kb sd (KC sd aN)
    refine .inr ⟨_,fun x=>fin x∨x=v,G,⟨l.v,l.k,fA⟩::ls,k1,⟨?_,?_,k2.len,?_,h.Ii,fun x=> ?_,fun x hx y ym ty gy=>h.vi x ?_ y ym ty gy,(List.nodup_cons.1 h.ln).2,fun l' hl'=> ?_,fun x hx tx=> ?_,fun x hx y z ym zm yf zf hne sd aN=> ?_,fun a' am' zI fa' sd aN=> ?_⟩,?_,fun x hx=> .inl hx,fun l' hl'=> ?_,fun x hx=> ?_⟩
    ·rw[bN];exact k2.lk
    ·rw[bN]
    ·refine⟨⟨by rw[h6],by rw[h6]⟩,?_,⟨h5.lt,?_,k2.lw,?_⟩,?_⟩
     ·have:=(List.getElem?_eq_some_iff.1 h2).1
      dsimp only
      omega
     ·dsimp only
      rw[h1,take_succ h2,bN]
      exact k2.mZ
     ·intro x hx y hy hne sd aN
      dsimp only at hx hy
      rw[h1,take_succ h2] at hx hy
      have P5:=Rx sd aN
      rw[bN] at aN
      rcases List.mem_append.1 hx with hx|hx<;>rcases List.mem_append.1 hy with hy|hy
      ·exact h5.zR x hx y hy hne sd P5
      ·rw[List.mem_singleton.1 hy]
       exact k2.zR x hx sd aN
      ·rw[List.mem_singleton.1 hx]
       exact(k2.zR y hy sd aN).symm
      ·exact absurd ((List.mem_singleton.1 hx).trans (List.mem_singleton.1 hy).symm) hne
     ·refine h7.more Rx fun l' hl' x tx gx=>k2.Nh x fun q=> ?_
      have:=(List.nodup_cons.1 (List.nodup_cons.1 h.ln).2).1
      exact this (List.mem_map.2 ⟨l',hl',gx.symm.trans q.2⟩)
    ·rw[h.gi x]
     refine and_congr_right fun xm=>⟨?_,?_⟩
     ·rintro(q|⟨l',g1,g2,g3⟩)
      ·exact .inl (.inl q)
      ·rcases List.mem_cons.1 g1 with rfl|g1
       ·exact .inl (.inr g2.symm)
       ·rcases List.mem_cons.1 g1 with rfl|g1
        ·exact .inr ⟨_,List.mem_cons_self,g2,g3⟩
        ·exact .inr ⟨l',List.mem_cons_of_mem _ g1,g2,g3⟩
     ·rintro((q|q)|⟨l',g1,g2,g3⟩)
      ·exact .inl q
      ·refine .inr ⟨⟨v,k,RG⟩,List.mem_cons_self,q.symm,?_⟩
       dsimp only
       rw[hk]
       exact(j7 hE).2 ⟨xm,q⟩
      ·rcases List.mem_cons.1 g1 with rfl|g1
       ·exact .inr ⟨l,by simp,g2,g3⟩
       ·exact .inr ⟨l',by simp[g1],g2,g3⟩
    ·rcases hx with (q|q)|⟨l',g1,g2⟩
     ·exact .inl q
     ·exact .inr ⟨⟨v,k,RG⟩,List.mem_cons_self,q.symm⟩
     ·rcases List.mem_cons.1 g1 with rfl|g1
      ·exact .inr ⟨l,by simp,g2⟩
      ·exact .inr ⟨l',by simp[g1],g2⟩
    ·have Ws:=(List.nodup_cons.1 h.ln).1
     rcases List.mem_cons.1 hl' with rfl|hl'
     ·rintro(q|q)
      ·exact h.lf l (by simp) q
      ·exact Ws (List.mem_map.2 ⟨l,by simp,q⟩)
     ·rintro(q|q)
      ·exact h.lf l' (by simp[hl']) q
      ·exact Ws (List.mem_map.2 ⟨l',by simp[hl'],q⟩)
    ·rcases h.ti x hx tx with q|⟨l',g1,g2⟩
     ·exact .inl (.inl q)
     ·rcases List.mem_cons.1 g1 with rfl|g1
      ·exact .inl (.inr g2.symm)
      ·rcases List.mem_cons.1 g1 with rfl|g1
       ·exact .inr ⟨_,List.mem_cons_self,g2⟩
       ·exact .inr ⟨l',List.mem_cons_of_mem _ g1,g2⟩
    ·rcases hx with hx|hx
     ·exact h.r1 x hx y z ym zm yf zf hne sd (Rx sd aN)
     ·refine hlv.zR y ?_ z ?_ hne sd (Rx sd aN)
      ·dsimp only;rw[hk];exact(j7 hE).2 ⟨ym,yf.trans hx⟩
      ·dsimp only;rw[hk];exact(j7 hE).2 ⟨zm,zf.trans hx⟩
    ·rcases fa' with q|q
     ·exact h.r2 a' am' zI q sd (Rx sd aN)
     ·obtain rfl:=T.one a' a am' k7 zI ta (q.trans ga.symm)
      exact fun b c hb hc=>kP.R9 hE.lw k7 hb hc sd (KC sd aN)
    ·simp only[List.length_cons]
     omega
    ·rcases List.mem_cons.1 hl' with rfl|hl'
     ·exact .inl (.inr ga)
     ·rcases List.mem_cons.1 hl' with rfl|hl'
      ·exact .inr ⟨_,List.mem_cons_self,rfl⟩
      ·exact .inr ⟨l',List.mem_cons_of_mem _ hl',rfl⟩
    ·rcases hx with (hx|hx)|⟨l',hl',hx⟩
     ·exact .inl hx
     ·exact .inr (.inr ⟨a,k7,ta,ga.trans hx.symm⟩)
     ·rcases List.mem_cons.1 hl' with rfl|hl'
      ·exact .inr (.inl ⟨l,by simp,hx⟩)
      ·exact .inr (.inl ⟨l',by simp[hl'],hx⟩)
theorem zJ (hE:dN T E oe hf) {st:TS} {fin:Nat→Prop} {G:List Nat} (h:Inv T E oe st fin G ls) (hne:ls≠[]):Next T E oe fin G ls (step E st):=by
 cases ls with
 |nil=>exact absurd rfl hne
 |cons l ls=>
  obtain⟨v,k,RG⟩:=l
  cases hw:st.way with
  |nil=>
   have bB:=h.way
   rw[hw] at bB
   exact bB.elim
  |cons w ws=>
   have bB:=h.way
   rw[hw] at bB
   obtain⟨⟨w1,w2⟩,cT,hlv,dg⟩:=bB
   have dh:v<n:=hlv.lt
   dsimp only at w1 w2 cT
   unfold step
   rw[hw]
   dsimp only
   rw[w1,w2,if_pos ⟨by omega,by omega⟩,show((v:Int)).toNat=v from by simp,hE.outs v dh]
   dsimp only
   rw[List.length_map,show((k:Int)).toNat=k from by simp]
   by_cases hk:(k:Int)=((oe v).length:Int)
   ·rw[if_pos hk]
    have hk':k=(oe v).length:=by omega
    rcases hE.par v dh with ⟨a,k1,k2,k3,_⟩|⟨k1,_⟩
    ·exact GH hE h hw hk' k1 k2 k3
    ·exact GK hE h hw hk' k1
   ·rw[if_neg hk,List.getElem?_map]
    obtain⟨e,he⟩:∃e,(oe v)[k]? =some e:=⟨_,List.getElem?_eq_getElem (by omega)⟩
    rw[he]
    dsimp only[Option.map]
    cases te:T.tree e with
    |true=>exact Jq hE h hw he te
    |false=>exact Jr hE h hw he te
theorem Dj (hE:dN T E oe hf):∀(N:Nat) {st:TS} {fin:Nat→Prop} {G:List Nat} {ls:List Lv},Inv T E oe st fin G ls→2*(m-G.length)+ls.length≤N→
 (run E N st=some none∧∀sd,¬T.LR sd)∨∃st' fin' G',run E N st=some (some st')∧Inv T E oe st' fin' G' []∧(∀v,fin v→fin' v)∧(∀l∈ls,fin' l.v)∧∀x,fin' x→fin x∨(∃l∈ls,l.v=x)∨∃a,a<m∧T.tree a=true∧T.go a=x:=by
 intro N
 induction N with
 |zero=>
  intro st fin G ls h hN
  have hls:ls=[]:=List.length_eq_zero_iff.1 (by omega)
  subst hls
  have bB:=h.way
  cases hw:st.way with
  |nil=>
   refine .inr ⟨st,fin,G,?_,h,fun _ q=>q,fun l hl=>by simp at hl,fun x hx=> .inl hx⟩
   unfold run
   rw[if_pos hw]
  |cons _ _=>rw[hw] at bB;exact bB.elim
 |succ N ih=>
  intro st fin G ls h hN
  by_cases hls:ls=[]
  ·subst hls
   have bB:=h.way
   cases hw:st.way with
   |nil=>
    refine .inr ⟨st,fin,G,?_,h,fun _ q=>q,fun l hl=>by simp at hl,fun x hx=> .inl hx⟩
    unfold run
    rw[if_pos hw]
   |cons _ _=>rw[hw] at bB;exact bB.elim
  ·have acG:¬st.way=[]:=fun hw=>by
    have bB:=h.way
    rw[hw] at bB
    cases ls with
    |nil=>exact hls rfl
    |cons _ _=>exact bB.elim
   unfold run
   rw[if_neg acG]
   dsimp only
   rcases zJ hE h hls with ⟨k1,k2⟩|⟨st',fin',G',ls',k1,k2,k3,k4,k5,k6⟩
   ·rw[k1]
    exact .inl ⟨rfl,k2⟩
   ·rw[k1]
    dsimp only
    rcases ih k2 (by omega) with q|⟨nG,mN,G2,q1,q2,q3,q4,q5⟩
    ·exact .inl q
    ·refine .inr ⟨nG,mN,G2,q1,q2,fun v hv=>q3 v (k4 v hv),fun l hl=> ?_,fun x hx=> ?_⟩
     rcases k5 l hl with q|⟨l',hl',q⟩
     ·exact q3 _ q
     ·rw[←q];exact q4 l' hl'
     ·rcases q5 x hx with q|q|q
      ·exact k6 x (.inl q)
      ·exact k6 x (.inr q)
      ·exact .inr (.inr q)
end
end Lt
end
section
namespace Lt
open Pl
section
variable {n m:Nat} {T:DF n m} {E:Env} {oe:Nat→List Nat} {hf:Nat→Int}
def Root (T:DF n m) (v:Nat):Prop:=∀a,a<m→T.tree a=true→T.go a≠v
theorem Inv.enter {st:TS} {fin:Nat→Prop} {G:List Nat} {v:Nat} (h:Inv T E oe st fin G []) (hv:v<n) (hr:Root T v) (hnf:¬fin v):Inv T E oe (enter st v) fin G [⟨v,0,[]⟩]:=by
 have hfl:flat ([⟨v,0,[]⟩]:List Lv)=flat []:=by simp[flat]
 have bB:=h.way
 have hw:st.way=[]:=by
  cases hw:st.way with
  |nil=>rfl
  |cons _ _=>rw[hw] at bB;exact bB.elim
 refine⟨by rw[hfl];exact h.lk,by rw[hfl];exact h.stk,h.len,?_,h.Ii,fun e=> ?_,fun x hx y ym ty gy=> ?_,by simp,fun l hl=> ?_,fun e he te=> ?_,fun x hx y z ym zm yf zf hne sd aN=>h.r1 x hx y z ym zm yf zf hne sd (by rw[hfl] at aN;exact aN),fun a am ta fa sd aN=>h.r2 a am ta fa sd (by rw[hfl] at aN;exact aN)⟩
 ·unfold Lt.enter
  dsimp only
  rw[hw]
  refine⟨⟨rfl,rfl⟩,Nat.zero_le _,⟨hv,?_,fun a _ _ _ b0 hb=>by simp at hb,fun x hx=>by simp at hx⟩,hr⟩
  show jJ T E.lw _ ((oe v).take 0) []
  rw[List.take_zero]
  exact jJ.nil
 ·rw[h.gi e]
  refine and_congr_right fun em=>⟨?_,?_⟩
  ·rintro(q|⟨l,hl,_⟩)
   ·exact .inl q
   ·simp at hl
  ·rintro(q|⟨l,hl,_,q⟩)
   ·exact .inl q
   ·rw[List.mem_singleton.1 hl] at q
    simp at q
 ·rcases hx with hx|⟨l,hl,hx⟩
  ·exact h.vi x (.inl hx) y ym ty gy
  ·rw[List.mem_singleton.1 hl] at hx
   exact absurd (gy.trans hx.symm) (hr y ym ty)
 ·rw[List.mem_singleton.1 hl]
  exact hnf
 ·rcases h.ti e he te with q|⟨l,hl,_⟩
  ·exact .inl q
  ·simp at hl
theorem FQ (hE:dN T E oe hf) {N:Nat} (hN:2*m+1≤N):∀(L:List Int) {st:TS} {fin:Nat→Prop} {G:List Nat},Inv T E oe st fin G []→(∀x∈L,∃v:Nat,v<n∧x=(v:Int))→L.Nodup→(∀v:Nat,Root T v→(v:Int)∈L→¬fin v)→
 (trees E N L st=some none∧∀sd,¬T.LR sd)∨∃st' fin' G',trees E N L st=some (some st')∧Inv T E oe st' fin' G' []∧(∀v,fin v→fin' v)∧∀v:Nat,Root T v→(v:Int)∈L→fin' v:=by
 intro L
 induction L with
 |nil=>exact fun {st fin G} h _ _ _=> .inr ⟨st,fin,G,rfl,h,fun _ q=>q,fun v _ hv=>by simp at hv⟩
 |cons x L ih=>
  intro st fin G h hL hnd hro
  obtain⟨v,hv,rfl⟩:=hL x List.mem_cons_self
  obtain⟨Py,YP⟩:=List.nodup_cons.1 hnd
  unfold trees
  rcases hE.par v hv with ⟨a,k1,k2,k3,k4⟩|⟨k1,k2⟩
  ·rw[k4]
   dsimp only
   have:=hE.h0 a k1
   rw[if_neg (by omega)]
   rcases ih h (fun x hx=>hL x (List.mem_cons_of_mem _ hx)) YP (fun u hu hm=>hro u hu (List.mem_cons_of_mem _ hm)) with q|⟨st',fin',G',q1,q2,q3,q4⟩
   ·exact .inl q
   ·refine .inr ⟨st',fin',G',q1,q2,q3,fun u hu hm=> ?_⟩
    rcases List.mem_cons.1 hm with e|hm
    ·obtain rfl:u=v:=by omega
     exact absurd k3 (hu a k1 k2)
    ·exact q4 u hu hm
  ·rw[k2]
   dsimp only
   rw[if_pos rfl]
   have hi:=h.enter hv k1 (hro v k1 List.mem_cons_self)
   rcases Dj hE N hi (by simp;omega) with q|⟨fC,qX,G1,q1,q2,q3,q4,q5⟩
   ·rw[q.1]
    exact .inl ⟨rfl,q.2⟩
   ·rw[q1]
    dsimp only
    have nI:qX v:=q4 ⟨v,0,[]⟩ List.mem_cons_self
    have acU:∀u:Nat,Root T u→(u:Int)∈L→¬qX u:=fun u hu hm ZE=>by
     rcases q5 u ZE with q|⟨l,hl,q⟩|⟨a,a1,a2,a3⟩
     ·exact hro u hu (List.mem_cons_of_mem _ hm) q
     ·rw[List.mem_singleton.1 hl] at q
      dsimp only at q
      rw[q] at Py
      exact Py hm
     ·exact hu a a1 a2 a3
    rcases ih q2 (fun x hx=>hL x (List.mem_cons_of_mem _ hx)) YP acU with q|⟨st',fin',G',p1,p2,p3,p4⟩
    ·exact .inl q
    ·refine .inr ⟨st',fin',G',p1,p2,fun u hu=>p3 u (q3 u hu),fun u hu hm=> ?_⟩
     rcases List.mem_cons.1 hm with e|hm
     ·obtain rfl:u=v:=by omega
      exact p3 u nI
     ·exact p4 u hu hm
theorem R7 {st:TS} {fin:Nat→Prop} {G:List Nat} (h:Inv T E oe st fin G []) (hr:∀v,v<n→Root T v→fin v):∀v,v<n→fin v:=by
 have key:∀(d:Nat) (v:Nat),v<n→T.ay v≤d→fin v:=by
  intro d
  induction d with
  |zero=>
   intro v hv hd
   refine hr v hv fun a am ta ga=> ?_
   have h1:=(T.dP a am ta).1
   have h2:=(T.low _ (T.lt a am).1).1
   rw[ga] at h1
   omega
  |succ d ih=>
   intro v hv hd
   by_cases qJ:Root T v
   ·exact hr v hv qJ
   ·obtain⟨a,am,ta,ga⟩:∃a,a<m∧T.tree a=true∧T.go a=v:=Classical.byContradiction fun q=>qJ fun a am ta ga=>q ⟨a,am,ta,ga⟩
    have h1:=(T.dP a am ta).1
    rw[ga] at h1
    have NQ:=ih (T.fr a) (T.lt a am).1 (by omega)
    rcases h.ti a ((h.gi a).2 ⟨am,.inl NQ⟩) ta with q|⟨l,hl,_⟩
    ·rw[←ga];exact q
    ·simp at hl
 intro v hv
 have:=T.low v hv
 exact key n v hv (by omega)
end
section
variable {like turn aH aZ:List Int} {seen:Nat→Prop} {m:Nat} {sd:Nat→Bool}
theorem ji.unique {d x r:Nat} (h:ji like d x r):∀{d' r':Nat},ji like d' x r'→d=d'∧r=r':=by
 induction h with
 |root hx=>
  intro d' r' h'
  cases h' with
  |root _=>exact⟨rfl,rfl⟩
  |step hy _=>rw[hx] at hy;omega
 |step hx _ ih=>
  intro d' r' h'
  cases h' with
  |root hy=>rw[hx] at hy;omega
  | @step d2 x2 y2 r2 hy h2=>
    rw[hx] at hy
    obtain rfl:=Int.ofNat.inj hy
    obtain⟨e1,e2⟩:=ih h2
    exact⟨by rw[e1],e2⟩
inductive Val (like turn:List Int):Nat→Bool→Prop
 |root {x:Nat}:g like x= -1→Val like turn x (decide (g turn x=1))
 |step {x y:Nat} {b:Bool}:g like x=(y:Int)→Val like turn y b→Val like turn x (b ^^ decide (g turn x= -1))
theorem Val.unique {x:Nat} {b:Bool} (h:Val like turn x b):∀{b':Bool},Val like turn x b'→b=b':=by
 induction h with
 |root hx=>
  intro b' h'
  cases h' with
  |root _=>rfl
  |step hy _=>rw[hx] at hy;omega
 |step hx _ ih=>
  intro b' h'
  cases h' with
  |root hy=>rw[hx] at hy;omega
  | @step x2 y2 b2 hy h2=>
    rw[hx] at hy
    obtain rfl:=Int.ofNat.inj hy
    rw[ih h2]
theorem ji.val {d x r:Nat} (h:ji like d x r):∃b,Val like turn x b:=by
 induction h with
 |root hx=>exact⟨_,.root hx⟩
 |step hx _ ih=>
  obtain⟨b,hb⟩:=ih
  exact⟨_,.step hx hb⟩
open Classical in
theorem Lk.sat (h:Lk m like turn seen []):∃sd,Sat like turn seen [] sd:=by
 refine⟨fun x=>decide (Val like turn x true),fun x y hx hl=> ?_,fun x hx hl _=> ?_,fun p hp=>by simp at hp⟩
 ·have hy:seen y:=by
   rcases h.cl x hx with q|⟨y',q1,q2⟩
   ·rw[hl] at q;omega
   ·rw[hl] at q1
    obtain rfl:=Int.ofNat.inj q1
    exact q2
  obtain⟨d,r,hres⟩:=h.res y hy
  obtain⟨b,hb⟩:=hres.val (turn:=turn)
  have GY:=Val.step hl hb
  have e1:decide (Val like turn y true)=b:=by
   cases b with
   |true=>exact decide_eq_true hb
   |false=>exact decide_eq_false fun q=>by cases hb.unique q
  have e2:∀{c:Bool},Val like turn x c→decide (Val like turn x true)=c:=fun {c} hc=>by
   cases c with
   |true=>exact decide_eq_true hc
   |false=>exact decide_eq_false fun q=>by cases hc.unique q
  rw[e1]
  exact e2 GY
 ·have hc:=Val.root (turn:=turn) hl
  cases hb:decide (g turn x=1) with
  |true=>rw[hb] at hc;exact decide_eq_true hc
  |false=>rw[hb] at hc;exact decide_eq_false fun q=>by cases hc.unique q
structure aav (m:Nat) (seen:Nat→Prop) (sd:Nat→Bool) (like turn aH aZ:List Int):Prop where
 ll:aH.length=m
 lt:aZ.length=m
 sat:Sat aH aZ seen [] sd
 YW:∀z,g aH z=g like z∨g aH z= -1
 tn:∀z,z<m→g aZ z=1∨g aZ z= -1
theorem O5 (hm:∀x,seen x→x<m) (hl:like.length=m) (ht:turn.length=m) (hs:Sat like turn seen [] sd) (htn:∀z,z<m→g turn z=1∨g turn z= -1) (hc:∀x:Nat,seen x→g like x= -1∨∃y:Nat,g like x=(y:Int)∧seen y) {d x r:Nat} (h:ji like d x r):seen x→∀k,d<k→
 ∃aH aZ,side k like turn x=some (aH,aZ)∧aav m seen sd like turn aH aZ∧g aH x= -1∧∀z,(g aH z=g like z∧g aZ z=g turn z)∨∃d' r',d'≤d∧ji like d' z r':=by
 induction h with
 | @root x hx=>
   intro sx k hk
   cases k with
   |zero=>omega
   |succ k=>
    refine⟨like,turn,?_,⟨hl,ht,hs,fun _=> .inl rfl,htn⟩,hx,fun _=> .inl ⟨rfl,rfl⟩⟩
    unfold side
    rw[lJ (by rw[hl];exact hm x sx),hx]
    rfl
 | @step d x y r hx hr ih=>
   intro sx k hk
   cases k with
   |zero=>omega
   |succ k=>
    have sy:seen y:=by
     rcases hc x sx with q|⟨y',q1,q2⟩
     ·rw[hx] at q;omega
     ·rw[hx] at q1
      obtain rfl:=Int.ofNat.inj q1
      exact q2
    obtain⟨eX,fS,k1,k2,k3,k4⟩:=ih sy k (by omega)
    have xm:=hm x sx
    have ym:=hm y sy
    have hsame:g eX x=g like x∧g fS x=g turn x:=by
     rcases k4 x with q|⟨d',r',q1,q2⟩
     ·exact q
     ·have:=(ji.step hx hr).unique q2
      omega
    have hxy:x≠y:=fun e=>by
     rw[e] at hx
     have h1:=ji.step hx hr
     have:=h1.unique hr
     omega
    unfold side
    rw[lJ (by rw[hl];exact xm),hx]
    dsimp only
    rw[if_neg (by omega),k1]
    dsimp only
    rw[lJ (by rw[k2.ll];exact xm),hsame.1,hx]
    dsimp only
    rw[lJ (by rw[k2.lt];exact xm),lJ (by rw[k2.lt];exact ym),mq (by rw[k2.ll];exact xm)]
    dsimp only
    rw[mq (by rw[k2.lt];exact xm)]
    refine⟨_,_,rfl,⟨by rw[List.length_set];exact k2.ll,by rw[List.length_set];exact k2.lt,⟨fun z w hz Cv=> ?_,fun z hz GU _=> ?_,fun p hp=>by simp at hp⟩,fun z=> ?_,fun z hz=> ?_⟩,dW (by rw[k2.ll];exact xm),fun z=> ?_⟩
    ·have hne:z≠x:=fun e=>by
      rw[e,dW (by rw[k2.ll];exact xm)] at Cv
      omega
     rw[aU hne] at Cv ⊢
     exact k2.sat.lk z w hz Cv
    ·by_cases e:z=x
     ·subst e
      have h1:=k2.sat.lk z y sx (by rw[hsame.1];exact hx)
      have h2:=k2.sat.rt y sy k3 (by simp[cG])
      rw[dW (by rw[k2.lt];exact xm),h1,h2]
      rcases k2.tn z xm with a|a<;>rcases k2.tn y ym with b|b<;>rw[a,b]<;>decide
     ·rw[aU e] at GU ⊢
      exact k2.sat.rt z hz GU (by simp[cG])
    ·by_cases e:z=x
     ·rw[e]
      exact .inr (dW (by rw[k2.ll];exact xm))
     ·rw[aU e]
      exact k2.YW z
    ·by_cases e:z=x
     ·rw[e,dW (by rw[k2.lt];exact xm)]
      rcases k2.tn x xm with a|a<;>rcases k2.tn y ym with b|b<;>rw[a,b]<;>decide
     ·rw[aU e]
      exact k2.tn z hz
    ·by_cases e:z=x
     ·rw[e]
      exact .inr ⟨d+1,r,Nat.le_refl _,.step hx hr⟩
     ·rcases k4 z with q|⟨d',r',q1,q2⟩
      ·exact .inl ⟨by rw[aU e];exact q.1,by rw[aU e];exact q.2⟩
      ·exact .inr ⟨d',r',by omega,q2⟩
theorem ji.fewer {d x r:Nat} (hl:∀z,g aH z=g like z∨g aH z= -1) (h:ji like d x r):∃d' r',d'≤d∧ji aH d' x r':=by
 induction h with
 | @root x hx=>
   rcases hl x with q|q
   ·exact⟨0,x,Nat.le_refl _,.root (q.trans hx)⟩
   ·exact⟨0,x,Nat.le_refl _,.root q⟩
 | @step d x y r hx _ ih=>
   rcases hl x with q|q
   ·obtain⟨d',r',q1,q2⟩:=ih
    exact⟨d'+1,r',by omega,.step (q.trans hx) q2⟩
   ·exact⟨0,x,Nat.zero_le _,.root q⟩
theorem JE (h:∀x,seen x→∃d r,ji like d x r):∀m:Nat,∃K,∀x,x<m→seen x→∃d r,d<K∧ji like d x r:=by
 intro m
 induction m with
 |zero=>exact⟨0,fun x hx=>by omega⟩
 |succ m ih=>
  obtain⟨K,hK⟩:=ih
  by_cases hs:seen m
  ·obtain⟨d,r,hd⟩:=h m hs
   refine⟨K+d+1,fun x hx sx=> ?_⟩
   by_cases e:x=m
   ·subst e;exact⟨d,r,by omega,hd⟩
   ·obtain⟨d',r',q1,q2⟩:=hK x (by omega) sx
    exact⟨d',r',by omega,q2⟩
  ·refine⟨K,fun x hx sx=> ?_⟩
   by_cases e:x=m
   ·subst e;exact absurd sx hs
   ·exact hK x (by omega) sx
end
section
variable {n m:Nat} {T:DF n m} {E:Env} {oe:Nat→List Nat} {hf:Nat→Int} {sd:Nat→Bool} {seen:Nat→Prop}
def cU (T:DF n m) (sd:Nat→Bool) (e:Nat):Int:=if T.tree e=true then 0 else if sd e=true then 1 else -1
theorem MX (hE:dN T E oe hf) {K:Nat} (EX:∀e,e<m→T.tree e=false→seen e) (hm:∀x,seen x→x<m):
 ∀(i k:Nat) (like turn:List Int),i+k=m→like.length=m→turn.length=m→Sat like turn seen [] sd→(∀z,z<m→g turn z=1∨g turn z= -1)→(∀x:Nat,seen x→g like x= -1∨∃y:Nat,g like x=(y:Int)∧seen y)→(∀x,x<m→seen x→∃d r,d<K∧ji like d x r)→
 sides E K ((List.range' i k).map hf) like turn ((List.range i).map (cU T sd))=some ((List.range m).map (cU T sd)):=by
 intro i k
 induction k generalizing i with
 |zero=>
  intro like turn hik _ _ _ _ _ _
  have:i=m:=by omega
  subst this
  rfl
 |succ k ih=>
  intro like turn hik hl ht hs htn hc hK
  have im:i<m:=by omega
  rw[List.range'_succ,List.map_cons]
  unfold sides
  rw[hE.back im]
  have e1:((List.range i).map (cU T sd)).length=i:=by simp
  have e2:∀z,(List.range i).map (cU T sd)++[z]=(List.range (i+1)).map (cU T sd)↔z=cU T sd i:=fun z=>by
   rw[List.range_succ,List.map_append]
   simp
  cases ti:T.tree i with
  |true=>
   rw[show(some (!true):Option Bool)=some false from rfl]
   dsimp only
   rw[(e2 0).2 (by unfold cU;rw[if_pos ti])]
   exact ih (i+1) like turn (by omega) hl ht hs htn hc hK
  |false=>
   rw[show(some (!false):Option Bool)=some true from rfl]
   dsimp only
   rw[e1]
   have si:=EX i im ti
   obtain⟨d,r,hd,hres⟩:=hK i im si
   obtain⟨aH,aZ,k1,k2,k3,k4⟩:=O5 hm hl ht hs htn hc hres si K hd
   rw[k1]
   dsimp only
   rw[lJ (by rw[k2.lt];exact im)]
   dsimp only
   have h1:=k2.sat.rt i si k3 (by simp[cG])
   have e3:g aZ i=cU T sd i:=by
    unfold cU
    rw[if_neg (by rw[ti];simp),h1]
    rcases k2.tn i im with q|q<;>rw[q]<;>simp
   rw[(e2 _).2 e3]
   refine ih (i+1) aH aZ (by omega) k2.ll k2.lt k2.sat k2.tn (fun x hx=> ?_) (fun x hx sx=> ?_)
   ·rcases k2.YW x with q|q
    ·rw[q];exact hc x hx
    ·exact .inl q
   ·obtain⟨d',r',q1,q2⟩:=hK x hx sx
    obtain⟨d2,r2,q3,q4⟩:=q2.fewer k2.YW
    exact⟨d2,r2,by omega,q4⟩
theorem Fb {k x:Nat} {z:Int} (h:x<k):g (List.replicate k z) x=z:=by
 unfold g
 rw[List.getElem?_replicate,if_pos h]
 rfl
end
end Lt
end
end Go.Proofs.YtnhcggfbkoppnaaGreat
