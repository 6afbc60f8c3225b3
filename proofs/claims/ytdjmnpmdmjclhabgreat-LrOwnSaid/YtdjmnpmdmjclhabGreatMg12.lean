import Derived.Test.YtdjmnpmdmjclhabGreatMg11
import Derived.Test.YtdjmnpmdmjclhabGreatMg08
import Derived.Test.YtdjmnpmdmjclhabGreatMg07
namespace Go.Proofs.YtdjmnpmdmjclhabGreat
section
namespace Lt
open Pl
section
variable {n m:Nat} {T:DF n m} {E:Env} {oe:Nat→List Nat} {hf:Nat→Int} {l:Lv} {ls:List Lv} {ws:List jC} {v k:Nat}
theorem JX (hE:dM T E oe hf) {st:TS} {fin:Nat→Prop} {G:List Nat} {e:Nat} {RG:List cJ} {w:jC} (h:Inv T E oe st fin G (⟨v,k,RG⟩::ls)) (hw:st.way=w::ws) (hk:(oe v)[k]? =some e) (te:T.tree e=true):
 Next T E oe fin G (⟨v,k,RG⟩::ls) (yF E { st with way:=((v:Int),(k:Int)+1,top st.stk)::ws } (hf e)):=by
 obtain⟨em,ef⟩:=(hE.mem v e).1 (aaG hk)
 have KU:=h.fresh hE (e:=e) hk
 have bB:=h.way
 rw[hw] at bB
 obtain⟨-,cU,hlv,dg⟩:=bB
 have hnew:¬(fin (T.go e)∨∃l∈(⟨v,k,RG⟩::ls:List Lv),l.v=T.go e):=fun q=>KU (h.vi _ q e em te rfl)
 unfold yF
 rw[hE.back em,te]
 dsimp only[Bool.not_true]
 rw[hE.to e em]
 have hfl:flat (⟨T.go e,0,[]⟩::⟨v,k+1,RG⟩::ls)=flat (⟨v,k,RG⟩::ls):=by simp[flat]
 refine .inr ⟨_,fin,e::G,⟨T.go e,0,[]⟩::⟨v,k+1,RG⟩::ls,rfl,⟨?_,?_,h.len,?_,aa0.2 ⟨KU,h.I0⟩,fun x=> ?_,fun x hx y ym ty gy=> ?_,?_,fun l hl=> ?_,fun x hx tx=> ?_,fun x hx y z ym zm yf zf hne sd aM=>h.r1 x hx y z ym zm yf zf hne sd ?_,fun a am ta fa sd aM=>h.r2 a am ta fa sd ?_⟩,?_,fun _ q=>q,fun l hl=> ?_,fun x hx=> ?_⟩
 ·rw[hfl,pq te]
  exact h.lk
 ·rw[hfl]
  exact h.stk
 ·rw[hfl,pq te]
  refine⟨⟨rfl,rfl⟩,aax _,⟨(T.lt e em).2,?_,fun a _ _ _ b0 hb=>by simp at hb,fun x hx=>by simp at hx⟩,⟨e,k,rfl,hk,te,rfl,⟨hlv.lt,hlv.nk,hlv.lw,hlv.Al⟩⟩,?_,dg⟩
  ·show jR T E.lw _ ((oe (T.go e)).take 0) []
   rw[List.take_zero]
   exact jR.nil
  ·rw[h.stk,bN]
   simp
 ·rw[gi_step (fA:=RG) hE hk h.gi x]
  refine and_congr Iff.rfl (or_congr Iff.rfl ⟨fun ⟨l,h1,h2⟩=>⟨l,aah _ h1,h2⟩,fun ⟨l,h1,h2⟩=> ?_⟩)
  rcases aaj.1 h1 with rfl|h1
  ·have:=h2.2
   simp at this
  ·exact⟨l,h1,h2⟩
 ·rcases hx with hx|⟨l,hl,hx⟩
  ·exact aah _ (h.vi x (.inl hx) y ym ty gy)
  ·rcases aaj.1 hl with rfl|hl
   ·dsimp only at hx
    obtain rfl:=T.one y e ym em ty te (gy.trans hx.symm)
    exact aag
   ·refine aah _ (h.vi x (.inr ?_) y ym ty gy)
    rcases aaj.1 hl with rfl|hl
    ·exact⟨⟨v,k,RG⟩,aag,hx⟩
    ·exact⟨l,aah _ hl,hx⟩
 ·show(T.go e::v::ls.map Lv.v).Nodup
  refine aa0.2 ⟨fun q=>hnew (.inr ?_),h.ln⟩
  rcases aaj.1 q with q|q
  ·exact⟨⟨v,k,RG⟩,aag,q.symm⟩
  ·obtain⟨l,hl,q⟩:=aa2.1 q
   exact⟨l,aah _ hl,q⟩
 ·rcases aaj.1 hl with rfl|hl
  ·exact fun q=>hnew (.inl q)
  ·rcases aaj.1 hl with rfl|hl
   ·exact h.lf ⟨v,k,RG⟩ aag
   ·exact h.lf l (aah _ hl)
 ·rcases aaj.1 hx with rfl|hx
  ·exact .inr ⟨⟨T.go x,0,[]⟩,aag,rfl⟩
  ·rcases h.ti x hx tx with q|⟨l,hl,q⟩
   ·exact .inl q
   ·rcases aaj.1 hl with rfl|hl
    ·exact .inr ⟨⟨v,k+1,RG⟩,by simp,q⟩
    ·exact .inr ⟨l,by simp[hl],q⟩
 ·rw[hfl,pq te] at aM
  exact aM
 ·rw[hfl,pq te] at aM
  exact aM
 ·have h1:=YM h
  have h2:(e::G).length≤m:=fG (aa0.2 ⟨KU,h.I0⟩) fun x hx=>by
   rcases aaj.1 hx with rfl|hx
   ·exact em
   ·exact((h.gi x).1 hx).1
  simp only[aar] at h2 ⊢
  omega
 ·rcases aaj.1 hl with rfl|hl
  ·exact .inr ⟨⟨v,k+1,RG⟩,by simp,rfl⟩
  ·exact .inr ⟨l,by simp[hl],rfl⟩
 ·rcases hx with hx|⟨l,hl,hx⟩
  ·exact .inl hx
  ·rcases aaj.1 hl with rfl|hl
   ·exact .inr (.inr ⟨e,em,te,hx⟩)
   ·rcases aaj.1 hl with rfl|hl
    ·exact .inr (.inl ⟨⟨v,k,RG⟩,aag,hx⟩)
    ·exact .inr (.inl ⟨l,aah _ hl,hx⟩)
theorem kE (hE:dM T E oe hf) {v x:Nat}:x∈(oe v).take (oe v).length↔x<m∧T.fr x=v:=by
 rw[acg]
 exact hE.mem v x
theorem Hr (hE:dM T E oe hf) {st:TS} {fin:Nat→Prop} {G:List Nat} {RG:List cJ} {w:jC} (h:Inv T E oe st fin G (⟨v,k,RG⟩::ls)) (hw:st.way=w::ws) (hk:k=(oe v).length) (hr:∀a,a<m→T.tree a=true→T.go a≠v):
 Next T E oe fin G (⟨v,k,RG⟩::ls) (leave E st):=by
 have bB:=h.way
 rw[hw] at bB
 obtain⟨⟨w1,-⟩,-,hlv,dg⟩:=bB
 have dh:v<n:=hlv.lt
 dsimp only at w1 dg
 have hls:ls=[]∧ws=[]:=by
  cases ls with
  |nil=>
   cases ws with
   |nil=>exact⟨rfl,rfl⟩
   |cons _ _=>exact dg.elim
  |cons l ls=>
   cases ws with
   |nil=>exact dg.elim
   |cons w' ws=>
    obtain⟨⟨c,k',-,h2,h3,h4,-⟩,-⟩:=dg
    exact absurd h4 (hr c ((hE.mem l.v c).1 (aaG h2)).1 h3)
 obtain⟨rfl,rfl⟩:=hls
 have hpar:bz E.par w.1=some (-1):=by
  rw[w1]
  rcases hE.par v dh with ⟨a,k1,k2,k3,_⟩|⟨_,k4⟩
  ·exact absurd k3 (hr a k1 k2)
  ·exact k4
 unfold leave
 rw[hw]
 dsimp only
 rw[hpar]
 dsimp only
 rw[if_pos rfl]
 have hRG:RG=[]:=hlv.nk.empty fun f hf' x hx=>by
  obtain⟨fm,ff⟩:=(hE.mem v f).1 (ab9 hf')
  obtain⟨a,k1,k2,k3⟩:=Aq fm hx
  exact hr a k1 k2 (k3.trans ff)
 subst hRG
 have hfl:flat ([⟨v,k,[]⟩]:List Lv)=flat []:=by simp[flat]
 have hlk:=h.lk
 have Ic:=h.stk
 have hr1:=h.r1
 have hr2:=h.r2
 have XM:=hlv.Al
 rw[hfl] at hlk Ic hr1 hr2 XM
 refine .inr ⟨_,fun x=>fin x∨x=v,G,[],rfl,⟨hlk,Ic,h.len,trivial,h.I0,fun x=> ?_,fun x hx y ym ty gy=> ?_,adr,fun l hl=>by simp at hl,fun x hx tx=> ?_,fun x hx y z ym zm yf zf hne sd aM=> ?_,fun a am ta fa sd aM=> ?_⟩,by simp,fun x hx=> .inl hx,fun l hl=> ?_,fun x hx=> ?_⟩
 ·rw[h.gi x]
  refine and_congr_right fun xm=>⟨?_,?_⟩
  ·rintro(q|⟨l,h1,h2,h3⟩)
   ·exact .inl (.inl q)
   ·rw[aao.1 h1] at h2
    exact .inl (.inr h2.symm)
  ·rintro((q|q)|⟨l,h1,_⟩)
   ·exact .inl q
   ·refine .inr ⟨⟨v,k,[]⟩,aag,q.symm,?_⟩
    dsimp only
    rw[hk]
    exact(kE hE).2 ⟨xm,q⟩
   ·simp at h1
 ·rcases hx with (q|q)|⟨l,h1,_⟩
  ·exact h.vi x (.inl q) y ym ty gy
  ·exact h.vi x (.inr ⟨⟨v,k,[]⟩,aag,q.symm⟩) y ym ty gy
  ·simp at h1
 ·rcases h.ti x hx tx with q|⟨l,h1,h2⟩
  ·exact .inl (.inl q)
  ·rw[aao.1 h1] at h2
   exact .inl (.inr h2.symm)
 ·rcases hx with hx|hx
  ·exact hr1 x hx y z ym zm yf zf hne sd aM
  ·refine XM y ?_ z ?_ hne sd aM
   ·dsimp only;rw[hk];exact(kE hE).2 ⟨ym,yf.trans hx⟩
   ·dsimp only;rw[hk];exact(kE hE).2 ⟨zm,zf.trans hx⟩
 ·rcases fa with fa|fa
  ·exact hr2 a am ta fa sd aM
  ·exact absurd fa (hr a am ta)
 ·rw[aao.1 hl]
  exact .inl (.inr rfl)
 ·rcases hx with (hx|hx)|⟨l,hl,_⟩
  ·exact .inl hx
  ·exact .inr (.inl ⟨⟨v,k,[]⟩,aag,hx.symm⟩)
  ·simp at hl
theorem Hq (hE:dM T E oe hf) {st:TS} {fin:Nat→Prop} {G:List Nat} {RG:List cJ} {w:jC} {a:Nat} (h:Inv T E oe st fin G (⟨v,k,RG⟩::ls)) (hw:st.way=w::ws) (hk:k=(oe v).length) (lK:a<m) (ta:T.tree a=true) (ga:T.go a=v):
 Next T E oe fin G (⟨v,k,RG⟩::ls) (leave E st):=by
 have bB:=h.way
 rw[hw] at bB
 obtain⟨⟨w1,-⟩,-,hlv,dg⟩:=bB
 have dh:v<n:=hlv.lt
 dsimp only at w1 dg
 obtain⟨dH,hne,ad4⟩:=dg.low hE dh
 cases ls with
 |nil=>
  cases ws with
  |nil=>exact absurd ga (dg a lK ta)
  |cons _ _=>exact dg.elim
 |cons l ls=>
  cases ws with
  |nil=>exact dg.elim
  |cons w' ws=>
   obtain⟨⟨c,k',h1,h2,h3,h4,h5⟩,h6,h7⟩:=dg
   obtain⟨cm,cf⟩:=(hE.mem l.v c).1 (aaG h2)
   obtain rfl:=T.one a c lK cm ta h3 (ga.trans h4.symm)
   have eP:=(T.dN a lK ta).1
   rw[ga,cf] at eP
   unfold leave
   rw[hw]
   dsimp only
   rw[w1,←ga,hE.P9 lK ta]
   dsimp only
   have hf0:=hE.h0 a lK
   rw[if_neg (by omega),hE.beg lK,cf]
   dsimp only
   have hmem:∀f,f∈(oe v).take k↔f<m∧T.fr f=T.go a:=fun f=>by rw[hk,ga];exact kE hE
   have hmin:∀e1,((oe v).take k).head? =some e1→∀f∈(oe v).take k,g E.lw e1≤g E.lw f:=fun e1 aA f hf'=>by
    have q:=hE.CR v
    rw[hk,acg] at aA hf'
    cases Bh:oe v with
    |nil=>rw[Bh] at hf';simp at hf'
    |cons d l=>
     rw[Bh] at aA hf' q
     obtain rfl:d=e1:=by simpa using aA
     rcases aaj.1 hf' with rfl|hf'
     ·exact abE _
     ·exact((aa4.1 q).1 f hf').1
   obtain⟨t1,t2,t3⟩:=hlv.nk.trim hE.lw lK ta hmem hmin
   dsimp only at t1 t2 t3
   rw[cf] at t1 t2 t3
   have Rj:∀x∈cH (flat (l::ls)),g E.lw x<T.az l.v:=fun x hx=>by have:=dH x hx;omega
   have hfl:flat (⟨v,k,RG⟩::l::ls)=RG++flat (l::ls):=bN _ _
   have hlk:=h.lk
   have Ic:=h.stk
   rw[hfl] at hlk Ic
   obtain⟨eX,fR,q1,q2,q3⟩:=PJ (lw:=E.lw) (h:=T.az l.v) (stk:=RG++flat (l::ls)) (seen:=cC T G) hE.lw.len { st with way:=w'::ws } Ic hlk
    (fun p hp=>(aal.1 hp).elim (hlv.nk.ne p) (hne p)) (fun x hx=>by
      rw[ey] at hx
      rcases aal.1 hx with k1|k1
      ·exact t2 x k1
      ·have:=Rj x k1
       omega) (fun p hp=>(aal.1 hp).elim (hlv.nk.pg p) (ad4 p))
   rw[p7 hne Rj,bN] at q1 q2 q3
   rw[q1]
   dsimp only
   have KL:∀sd,Sat eX fR (cC T G) (cV E.lw (T.az l.v) RG++(l.RG++flat ls)) sd→Sat st.like st.turn (cC T G) (flat (⟨v,k,RG⟩::l::ls)) sd:=fun sd aM=>by
    rw[bN,bN]
    exact q3 sd aM
   have mj:=t1.more KL
   rcases Ai hE (v:=l.v) (k:=k') (e:=a) (RG:=l.RG) (rest:=flat ls) (SG:=cV E.lw (T.az l.v) RG) (ws:=ws) (vis:=w') (seen:=cC T G) (st:={ st with way:=w'::ws,like:=eX,turn:=fR,stk:=(cV E.lw (T.az l.v) RG++(l.RG++flat ls)).map cM }) h2 rfl rfl
    (by rw[h6]) q2 (h5.nk.more KL) mj h.len (fun a' ha' Ac Lf b0 hb=>h5.lw a' ha' Ac Lf b0 hb) (fun b0 hb=>hlv.lw a lK ta ga b0 (t3 b0 hb)) with ⟨k1,k2⟩|⟨aH,fH,fA,k1,k2⟩
   ·exact .inl ⟨k1,k2⟩
   ·have Lc:∀sd,Sat aH fR (cC T G) (flat (⟨l.v,l.k,fA⟩::ls)) sd→Sat eX fR (cC T G) (cV E.lw (T.az l.v) RG++(l.RG++flat ls)) sd:=fun sd aM=>by
     rw[bN] at aM
     exact k2.sat sd aM
    have SE:∀sd,Sat aH fR (cC T G) (flat (⟨l.v,l.k,fA⟩::ls)) sd→Sat st.like st.turn (cC T G) (flat (⟨v,k,RG⟩::l::ls)) sd:=fun sd aM=>KL sd (Lc sd aM)
    refine .inr ⟨_,fun x=>fin x∨x=v,G,⟨l.v,l.k,fA⟩::ls,k1,⟨?_,?_,k2.len,?_,h.I0,fun x=> ?_,fun x hx y ym ty gy=>h.vi x ?_ y ym ty gy,(aa0.1 h.ln).2,fun l' hl'=> ?_,fun x hx tx=> ?_,fun x hx y z ym zm yf zf hne sd aM=> ?_,fun a' am' Ac fa' sd aM=> ?_⟩,?_,fun x hx=> .inl hx,fun l' hl'=> ?_,fun x hx=> ?_⟩
    ·rw[bN];exact k2.lk
    ·rw[bN]
    ·refine⟨⟨by rw[h6],by rw[h6]⟩,?_,⟨h5.lt,?_,k2.lw,?_⟩,?_⟩
     ·have:=(aas.1 h2).1
      dsimp only
      omega
     ·dsimp only
      rw[h1,take_succ h2,bN]
      exact k2.nk
     ·intro x hx y hy hne sd aM
      dsimp only at hx hy
      rw[h1,take_succ h2] at hx hy
      have QI:=SE sd aM
      rw[bN] at aM
      rcases aal.1 hx with hx|hx<;>rcases aal.1 hy with hy|hy
      ·exact h5.Al x hx y hy hne sd QI
      ·rw[aao.1 hy]
       exact k2.Al x hx sd aM
      ·rw[aao.1 hx]
       exact(k2.Al y hy sd aM).symm
      ·exact absurd ((aao.1 hx).trans (aao.1 hy).symm) hne
     ·refine h7.more SE fun l' hl' x tx gx=>k2.NY x fun q=> ?_
      have:=(aa0.1 (aa0.1 h.ln).2).1
      exact this (aa2.2 ⟨l',hl',gx.symm.trans q.2⟩)
    ·rw[h.gi x]
     refine and_congr_right fun xm=>⟨?_,?_⟩
     ·rintro(q|⟨l',g1,g2,g3⟩)
      ·exact .inl (.inl q)
      ·rcases aaj.1 g1 with rfl|g1
       ·exact .inl (.inr g2.symm)
       ·rcases aaj.1 g1 with rfl|g1
        ·exact .inr ⟨_,aag,g2,g3⟩
        ·exact .inr ⟨l',aah _ g1,g2,g3⟩
     ·rintro((q|q)|⟨l',g1,g2,g3⟩)
      ·exact .inl q
      ·refine .inr ⟨⟨v,k,RG⟩,aag,q.symm,?_⟩
       dsimp only
       rw[hk]
       exact(kE hE).2 ⟨xm,q⟩
      ·rcases aaj.1 g1 with rfl|g1
       ·exact .inr ⟨l,by simp,g2,g3⟩
       ·exact .inr ⟨l',by simp[g1],g2,g3⟩
    ·rcases hx with (q|q)|⟨l',g1,g2⟩
     ·exact .inl q
     ·exact .inr ⟨⟨v,k,RG⟩,aag,q.symm⟩
     ·rcases aaj.1 g1 with rfl|g1
      ·exact .inr ⟨l,by simp,g2⟩
      ·exact .inr ⟨l',by simp[g1],g2⟩
    ·have XA:=(aa0.1 h.ln).1
     rcases aaj.1 hl' with rfl|hl'
     ·rintro(q|q)
      ·exact h.lf l (by simp) q
      ·exact XA (aa2.2 ⟨l,by simp,q⟩)
     ·rintro(q|q)
      ·exact h.lf l' (by simp[hl']) q
      ·exact XA (aa2.2 ⟨l',by simp[hl'],q⟩)
    ·rcases h.ti x hx tx with q|⟨l',g1,g2⟩
     ·exact .inl (.inl q)
     ·rcases aaj.1 g1 with rfl|g1
      ·exact .inl (.inr g2.symm)
      ·rcases aaj.1 g1 with rfl|g1
       ·exact .inr ⟨_,aag,g2⟩
       ·exact .inr ⟨l',aah _ g1,g2⟩
    ·rcases hx with hx|hx
     ·exact h.r1 x hx y z ym zm yf zf hne sd (SE sd aM)
     ·refine hlv.Al y ?_ z ?_ hne sd (SE sd aM)
      ·dsimp only;rw[hk];exact(kE hE).2 ⟨ym,yf.trans hx⟩
      ·dsimp only;rw[hk];exact(kE hE).2 ⟨zm,zf.trans hx⟩
    ·rcases fa' with q|q
     ·exact h.r2 a' am' Ac q sd (SE sd aM)
     ·obtain rfl:=T.one a' a am' lK Ac ta (q.trans ga.symm)
      exact fun b c hb hc=>mj.S8 hE.lw lK hb hc sd (Lc sd aM)
    ·simp only[aar]
     omega
    ·rcases aaj.1 hl' with rfl|hl'
     ·exact .inl (.inr ga)
     ·rcases aaj.1 hl' with rfl|hl'
      ·exact .inr ⟨_,aag,rfl⟩
      ·exact .inr ⟨l',aah _ hl',rfl⟩
    ·rcases hx with (hx|hx)|⟨l',hl',hx⟩
     ·exact .inl hx
     ·exact .inr (.inr ⟨a,lK,ta,ga.trans hx.symm⟩)
     ·rcases aaj.1 hl' with rfl|hl'
      ·exact .inr (.inl ⟨l,by simp,hx⟩)
      ·exact .inr (.inl ⟨l',by simp[hl'],hx⟩)
theorem Ad (hE:dM T E oe hf) {st:TS} {fin:Nat→Prop} {G:List Nat} (h:Inv T E oe st fin G ls) (hne:ls≠[]):Next T E oe fin G ls (step E st):=by
 cases ls with
 |nil=>exact absurd rfl hne
 |cons l ls=>
  obtain⟨v,k,RG⟩:=l
  cases hw:st.way with
  |nil=>
   have bB:=h.way
   rw[hw] at bB
   exact bB.elim
  |cons w ws=>
   have bB:=h.way
   rw[hw] at bB
   obtain⟨⟨w1,w2⟩,cU,hlv,dg⟩:=bB
   have dh:v<n:=hlv.lt
   dsimp only at w1 w2 cU
   unfold step
   rw[hw]
   dsimp only
   rw[w1,w2,if_pos ⟨by omega,by omega⟩,show((v:Int)).toNat=v from by simp,hE.outs v dh]
   dsimp only
   rw[aa3,show((k:Int)).toNat=k from by simp]
   by_cases hk:(k:Int)=((oe v).length:Int)
   ·rw[if_pos hk]
    have hk':k=(oe v).length:=by omega
    rcases hE.par v dh with ⟨a,k1,k2,k3,_⟩|⟨k1,_⟩
    ·exact Hq hE h hw hk' k1 k2 k3
    ·exact Hr hE h hw hk' k1
   ·rw[if_neg hk,aay]
    obtain⟨e,he⟩:∃e,(oe v)[k]? =some e:=⟨_,aac (by omega)⟩
    rw[he]
    dsimp only[Option.map]
    cases te:T.tree e with
    |true=>exact JX hE h hw he te
    |false=>exact JY hE h hw he te
theorem DL (hE:dM T E oe hf):∀(N:Nat) {st:TS} {fin:Nat→Prop} {G:List Nat} {ls:List Lv},Inv T E oe st fin G ls→2*(m-G.length)+ls.length≤N→
 (run E N st=some none∧∀sd,¬T.LR sd)∨∃st' fin' G',run E N st=some (some st')∧Inv T E oe st' fin' G' []∧(∀v,fin v→fin' v)∧(∀l∈ls,fin' l.v)∧∀x,fin' x→fin x∨(∃l∈ls,l.v=x)∨∃a,a<m∧T.tree a=true∧T.go a=x:=by
 intro N
 induction N with
 |zero=>
  intro st fin G ls h hN
  have hls:ls=[]:=abu.1 (by omega)
  subst hls
  have bB:=h.way
  cases hw:st.way with
  |nil=>
   refine .inr ⟨st,fin,G,?_,h,fun _ q=>q,fun l hl=>by simp at hl,fun x hx=> .inl hx⟩
   unfold run
   rw[if_pos hw]
  |cons _ _=>rw[hw] at bB;exact bB.elim
 |succ N ih=>
  intro st fin G ls h hN
  by_cases hls:ls=[]
  ·subst hls
   have bB:=h.way
   cases hw:st.way with
   |nil=>
    refine .inr ⟨st,fin,G,?_,h,fun _ q=>q,fun l hl=>by simp at hl,fun x hx=> .inl hx⟩
    unfold run
    rw[if_pos hw]
   |cons _ _=>rw[hw] at bB;exact bB.elim
  ·have adX:¬st.way=[]:=fun hw=>by
    have bB:=h.way
    rw[hw] at bB
    cases ls with
    |nil=>exact hls rfl
    |cons _ _=>exact bB.elim
   unfold run
   rw[if_neg adX]
   dsimp only
   rcases Ad hE h hls with ⟨k1,k2⟩|⟨st',fin',G',ls',k1,k2,k3,k4,k5,k6⟩
   ·rw[k1]
    exact .inl ⟨rfl,k2⟩
   ·rw[k1]
    dsimp only
    rcases ih k2 (by omega) with q|⟨nP,mW,G2,q1,q2,q3,q4,q5⟩
    ·exact .inl q
    ·refine .inr ⟨nP,mW,G2,q1,q2,fun v hv=>q3 v (k4 v hv),fun l hl=> ?_,fun x hx=> ?_⟩
     rcases k5 l hl with q|⟨l',hl',q⟩
     ·exact q3 _ q
     ·rw[←q];exact q4 l' hl'
     ·rcases q5 x hx with q|q|q
      ·exact k6 x (.inl q)
      ·exact k6 x (.inr q)
      ·exact .inr (.inr q)
end
end Lt
end
section
namespace Lt
open Pl
section
variable {n m:Nat} {T:DF n m} {E:Env} {oe:Nat→List Nat} {hf:Nat→Int}
def Root (T:DF n m) (v:Nat):Prop:=∀a,a<m→T.tree a=true→T.go a≠v
theorem Inv.enter {st:TS} {fin:Nat→Prop} {G:List Nat} {v:Nat} (h:Inv T E oe st fin G []) (hv:v<n) (hr:Root T v) (hnf:¬fin v):Inv T E oe (enter st v) fin G [⟨v,0,[]⟩]:=by
 have hfl:flat ([⟨v,0,[]⟩]:List Lv)=flat []:=by simp[flat]
 have bB:=h.way
 have hw:st.way=[]:=by
  cases hw:st.way with
  |nil=>rfl
  |cons _ _=>rw[hw] at bB;exact bB.elim
 refine⟨by rw[hfl];exact h.lk,by rw[hfl];exact h.stk,h.len,?_,h.I0,fun e=> ?_,fun x hx y ym ty gy=> ?_,by simp,fun l hl=> ?_,fun e he te=> ?_,fun x hx y z ym zm yf zf hne sd aM=>h.r1 x hx y z ym zm yf zf hne sd (by rw[hfl] at aM;exact aM),fun a am ta fa sd aM=>h.r2 a am ta fa sd (by rw[hfl] at aM;exact aM)⟩
 ·unfold Lt.enter
  dsimp only
  rw[hw]
  refine⟨⟨rfl,rfl⟩,aax _,⟨hv,?_,fun a _ _ _ b0 hb=>by simp at hb,fun x hx=>by simp at hx⟩,hr⟩
  show jR T E.lw _ ((oe v).take 0) []
  rw[List.take_zero]
  exact jR.nil
 ·rw[h.gi e]
  refine and_congr_right fun em=>⟨?_,?_⟩
  ·rintro(q|⟨l,hl,_⟩)
   ·exact .inl q
   ·simp at hl
  ·rintro(q|⟨l,hl,_,q⟩)
   ·exact .inl q
   ·rw[aao.1 hl] at q
    simp at q
 ·rcases hx with hx|⟨l,hl,hx⟩
  ·exact h.vi x (.inl hx) y ym ty gy
  ·rw[aao.1 hl] at hx
   exact absurd (gy.trans hx.symm) (hr y ym ty)
 ·rw[aao.1 hl]
  exact hnf
 ·rcases h.ti e he te with q|⟨l,hl,_⟩
  ·exact .inl q
  ·simp at hl
theorem Gs (hE:dM T E oe hf) {N:Nat} (hN:2*m+1≤N):∀(L:List Int) {st:TS} {fin:Nat→Prop} {G:List Nat},Inv T E oe st fin G []→(∀x∈L,∃v:Nat,v<n∧x=(v:Int))→L.Nodup→(∀v:Nat,Root T v→(v:Int)∈L→¬fin v)→
 (trees E N L st=some none∧∀sd,¬T.LR sd)∨∃st' fin' G',trees E N L st=some (some st')∧Inv T E oe st' fin' G' []∧(∀v,fin v→fin' v)∧∀v:Nat,Root T v→(v:Int)∈L→fin' v:=by
 intro L
 induction L with
 |nil=>exact fun {st fin G} h _ _ _=> .inr ⟨st,fin,G,rfl,h,fun _ q=>q,fun v _ hv=>by simp at hv⟩
 |cons x L ih=>
  intro st fin G h hL hnd hro
  obtain⟨v,hv,rfl⟩:=hL x aag
  obtain⟨Ql,ZU⟩:=aa0.1 hnd
  unfold trees
  rcases hE.par v hv with ⟨a,k1,k2,k3,k4⟩|⟨k1,k2⟩
  ·rw[k4]
   dsimp only
   have:=hE.h0 a k1
   rw[if_neg (by omega)]
   rcases ih h (fun x hx=>hL x (aah _ hx)) ZU (fun u hu hm=>hro u hu (aah _ hm)) with q|⟨st',fin',G',q1,q2,q3,q4⟩
   ·exact .inl q
   ·refine .inr ⟨st',fin',G',q1,q2,q3,fun u hu hm=> ?_⟩
    rcases aaj.1 hm with e|hm
    ·obtain rfl:u=v:=by omega
     exact absurd k3 (hu a k1 k2)
    ·exact q4 u hu hm
  ·rw[k2]
   dsimp only
   rw[if_pos rfl]
   have hi:=h.enter hv k1 (hro v k1 aag)
   rcases DL hE N hi (by simp;omega) with q|⟨fC,rB,G1,q1,q2,q3,q4,q5⟩
   ·rw[q.1]
    exact .inl ⟨rfl,q.2⟩
   ·rw[q1]
    dsimp only
    have wX:rB v:=q4 ⟨v,0,[]⟩ aag
    have aed:∀u:Nat,Root T u→(u:Int)∈L→¬rB u:=fun u hu hm hfu=>by
     rcases q5 u hfu with q|⟨l,hl,q⟩|⟨a,a1,a2,a3⟩
     ·exact hro u hu (aah _ hm) q
     ·rw[aao.1 hl] at q
      dsimp only at q
      rw[q] at Ql
      exact Ql hm
     ·exact hu a a1 a2 a3
    rcases ih q2 (fun x hx=>hL x (aah _ hx)) ZU aed with q|⟨st',fin',G',p1,p2,p3,p4⟩
    ·exact .inl q
    ·refine .inr ⟨st',fin',G',p1,p2,fun u hu=>p3 u (q3 u hu),fun u hu hm=> ?_⟩
     rcases aaj.1 hm with e|hm
     ·obtain rfl:u=v:=by omega
      exact p3 u wX
     ·exact p4 u hu hm
theorem S7 {st:TS} {fin:Nat→Prop} {G:List Nat} (h:Inv T E oe st fin G []) (hr:∀v,v<n→Root T v→fin v):∀v,v<n→fin v:=by
 have key:∀(d:Nat) (v:Nat),v<n→T.az v≤d→fin v:=by
  intro d
  induction d with
  |zero=>
   intro v hv hd
   refine hr v hv fun a am ta ga=> ?_
   have h1:=(T.dN a am ta).1
   have h2:=(T.low _ (T.lt a am).1).1
   rw[ga] at h1
   omega
  |succ d ih=>
   intro v hv hd
   by_cases qT:Root T v
   ·exact hr v hv qT
   ·obtain⟨a,am,ta,ga⟩:∃a,a<m∧T.tree a=true∧T.go a=v:=abw fun q=>qT fun a am ta ga=>q ⟨a,am,ta,ga⟩
    have h1:=(T.dN a am ta).1
    rw[ga] at h1
    have Ox:=ih (T.fr a) (T.lt a am).1 (by omega)
    rcases h.ti a ((h.gi a).2 ⟨am,.inl Ox⟩) ta with q|⟨l,hl,_⟩
    ·rw[←ga];exact q
    ·simp at hl
 intro v hv
 have:=T.low v hv
 exact key n v hv (by omega)
end
section
variable {like turn aH aZ:List Int} {seen:Nat→Prop} {m:Nat} {sd:Nat→Bool}
theorem jq.unique {d x r:Nat} (h:jq like d x r):∀{d' r':Nat},jq like d' x r'→d=d'∧r=r':=by
 induction h with
 |root hx=>
  intro d' r' h'
  cases h' with
  |root _=>exact⟨rfl,rfl⟩
  |step hy _=>rw[hx] at hy;omega
 |step hx _ ih=>
  intro d' r' h'
  cases h' with
  |root hy=>rw[hx] at hy;omega
  | @step d2 x2 y2 r2 hy h2=>
    rw[hx] at hy
    obtain rfl:=ac7 hy
    obtain⟨e1,e2⟩:=ih h2
    exact⟨by rw[e1],e2⟩
inductive Val (like turn:List Int):Nat→Bool→Prop
 |root {x:Nat}:g like x= -1→Val like turn x (decide (g turn x=1))
 |step {x y:Nat} {b:Bool}:g like x=(y:Int)→Val like turn y b→Val like turn x (b ^^ decide (g turn x= -1))
theorem Val.unique {x:Nat} {b:Bool} (h:Val like turn x b):∀{b':Bool},Val like turn x b'→b=b':=by
 induction h with
 |root hx=>
  intro b' h'
  cases h' with
  |root _=>rfl
  |step hy _=>rw[hx] at hy;omega
 |step hx _ ih=>
  intro b' h'
  cases h' with
  |root hy=>rw[hx] at hy;omega
  | @step x2 y2 b2 hy h2=>
    rw[hx] at hy
    obtain rfl:=ac7 hy
    rw[ih h2]
theorem jq.val {d x r:Nat} (h:jq like d x r):∃b,Val like turn x b:=by
 induction h with
 |root hx=>exact⟨_,.root hx⟩
 |step hx _ ih=>
  obtain⟨b,hb⟩:=ih
  exact⟨_,.step hx hb⟩
open Classical in
theorem Lk.sat (h:Lk m like turn seen []):∃sd,Sat like turn seen [] sd:=by
 refine⟨fun x=>decide (Val like turn x true),fun x y hx hl=> ?_,fun x hx hl _=> ?_,fun p hp=>by simp at hp⟩
 ·have hy:seen y:=by
   rcases h.cl x hx with q|⟨y',q1,q2⟩
   ·rw[hl] at q;omega
   ·rw[hl] at q1
    obtain rfl:=ac7 q1
    exact q2
  obtain⟨d,r,hres⟩:=h.res y hy
  obtain⟨b,hb⟩:=hres.val (turn:=turn)
  have Ia:=Val.step hl hb
  have e1:decide (Val like turn y true)=b:=by
   cases b with
   |true=>exact decide_eq_true hb
   |false=>exact decide_eq_false fun q=>by cases hb.unique q
  have e2:∀{c:Bool},Val like turn x c→decide (Val like turn x true)=c:=fun {c} hc=>by
   cases c with
   |true=>exact decide_eq_true hc
   |false=>exact decide_eq_false fun q=>by cases hc.unique q
  rw[e1]
  exact e2 Ia
 ·have hc:=Val.root (turn:=turn) hl
  cases hb:decide (g turn x=1) with
  |true=>rw[hb] at hc;exact decide_eq_true hc
  |false=>rw[hb] at hc;exact decide_eq_false fun q=>by cases hc.unique q
structure abF (m:Nat) (seen:Nat→Prop) (sd:Nat→Bool) (like turn aH aZ:List Int):Prop where
 ll:aH.length=m
 lt:aZ.length=m
 sat:Sat aH aZ seen [] sd
 Z3:∀z,g aH z=g like z∨g aH z= -1
 tn:∀z,z<m→g aZ z=1∨g aZ z= -1
theorem PV (hm:∀x,seen x→x<m) (hl:like.length=m) (ht:turn.length=m) (hs:Sat like turn seen [] sd) (htn:∀z,z<m→g turn z=1∨g turn z= -1) (hc:∀x:Nat,seen x→g like x= -1∨∃y:Nat,g like x=(y:Int)∧seen y) {d x r:Nat} (h:jq like d x r):seen x→∀k,d<k→
 ∃aH aZ,side k like turn x=some (aH,aZ)∧abF m seen sd like turn aH aZ∧g aH x= -1∧∀z,(g aH z=g like z∧g aZ z=g turn z)∨∃d' r',d'≤d∧jq like d' z r':=by
 induction h with
 | @root x hx=>
   intro sx k hk
   cases k with
   |zero=>omega
   |succ k=>
    refine⟨like,turn,?_,⟨hl,ht,hs,fun _=> .inl rfl,htn⟩,hx,fun _=> .inl ⟨rfl,rfl⟩⟩
    unfold side
    rw[lW (by rw[hl];exact hm x sx),hx]
    rfl
 | @step d x y r hx hr ih=>
   intro sx k hk
   cases k with
   |zero=>omega
   |succ k=>
    have sy:seen y:=by
     rcases hc x sx with q|⟨y',q1,q2⟩
     ·rw[hx] at q;omega
     ·rw[hx] at q1
      obtain rfl:=ac7 q1
      exact q2
    obtain⟨eX,fR,k1,k2,k3,k4⟩:=ih sy k (by omega)
    have xm:=hm x sx
    have ym:=hm y sy
    have hsame:g eX x=g like x∧g fR x=g turn x:=by
     rcases k4 x with q|⟨d',r',q1,q2⟩
     ·exact q
     ·have:=(jq.step hx hr).unique q2
      omega
    have hxy:x≠y:=fun e=>by
     rw[e] at hx
     have h1:=jq.step hx hr
     have:=h1.unique hr
     omega
    unfold side
    rw[lW (by rw[hl];exact xm),hx]
    dsimp only
    rw[if_neg (by omega),k1]
    dsimp only
    rw[lW (by rw[k2.ll];exact xm),hsame.1,hx]
    dsimp only
    rw[lW (by rw[k2.lt];exact xm),lW (by rw[k2.lt];exact ym),mI (by rw[k2.ll];exact xm)]
    dsimp only
    rw[mI (by rw[k2.lt];exact xm)]
    refine⟨_,_,rfl,⟨by rw[aaT];exact k2.ll,by rw[aaT];exact k2.lt,⟨fun z w hz CV=> ?_,fun z hz Hz _=> ?_,fun p hp=>by simp at hp⟩,fun z=> ?_,fun z hz=> ?_⟩,dW (by rw[k2.ll];exact xm),fun z=> ?_⟩
    ·have hne:z≠x:=fun e=>by
      rw[e,dW (by rw[k2.ll];exact xm)] at CV
      omega
     rw[aU hne] at CV ⊢
     exact k2.sat.lk z w hz CV
    ·by_cases e:z=x
     ·subst e
      have h1:=k2.sat.lk z y sx (by rw[hsame.1];exact hx)
      have h2:=k2.sat.rt y sy k3 (by simp[cH])
      rw[dW (by rw[k2.lt];exact xm),h1,h2]
      rcases k2.tn z xm with a|a<;>rcases k2.tn y ym with b|b<;>rw[a,b]<;>decide
     ·rw[aU e] at Hz ⊢
      exact k2.sat.rt z hz Hz (by simp[cH])
    ·by_cases e:z=x
     ·rw[e]
      exact .inr (dW (by rw[k2.ll];exact xm))
     ·rw[aU e]
      exact k2.Z3 z
    ·by_cases e:z=x
     ·rw[e,dW (by rw[k2.lt];exact xm)]
      rcases k2.tn x xm with a|a<;>rcases k2.tn y ym with b|b<;>rw[a,b]<;>decide
     ·rw[aU e]
      exact k2.tn z hz
    ·by_cases e:z=x
     ·rw[e]
      exact .inr ⟨d+1,r,aad _,.step hx hr⟩
     ·rcases k4 z with q|⟨d',r',q1,q2⟩
      ·exact .inl ⟨by rw[aU e];exact q.1,by rw[aU e];exact q.2⟩
      ·exact .inr ⟨d',r',by omega,q2⟩
theorem jq.abt {d x r:Nat} (hl:∀z,g aH z=g like z∨g aH z= -1) (h:jq like d x r):∃d' r',d'≤d∧jq aH d' x r':=by
 induction h with
 | @root x hx=>
   rcases hl x with q|q
   ·exact⟨0,x,aad _,.root (q.trans hx)⟩
   ·exact⟨0,x,aad _,.root q⟩
 | @step d x y r hx _ ih=>
   rcases hl x with q|q
   ·obtain⟨d',r',q1,q2⟩:=ih
    exact⟨d'+1,r',by omega,.step (q.trans hx) q2⟩
   ·exact⟨0,x,aax _,.root q⟩
theorem Ka (h:∀x,seen x→∃d r,jq like d x r):∀m:Nat,∃K,∀x,x<m→seen x→∃d r,d<K∧jq like d x r:=by
 intro m
 induction m with
 |zero=>exact⟨0,fun x hx=>by omega⟩
 |succ m ih=>
  obtain⟨K,hK⟩:=ih
  by_cases hs:seen m
  ·obtain⟨d,r,hd⟩:=h m hs
   refine⟨K+d+1,fun x hx sx=> ?_⟩
   by_cases e:x=m
   ·subst e;exact⟨d,r,by omega,hd⟩
   ·obtain⟨d',r',q1,q2⟩:=hK x (by omega) sx
    exact⟨d',r',by omega,q2⟩
  ·refine⟨K,fun x hx sx=> ?_⟩
   by_cases e:x=m
   ·subst e;exact absurd sx hs
   ·exact hK x (by omega) sx
end
section
variable {n m:Nat} {T:DF n m} {E:Env} {oe:Nat→List Nat} {hf:Nat→Int} {sd:Nat→Bool} {seen:Nat→Prop}
def eF (T:DF n m) (sd:Nat→Bool) (e:Nat):Int:=if T.tree e=true then 0 else if sd e=true then 1 else -1
theorem NF (hE:dM T E oe hf) {K:Nat} (Fl:∀e,e<m→T.tree e=false→seen e) (hm:∀x,seen x→x<m):
 ∀(i k:Nat) (like turn:List Int),i+k=m→like.length=m→turn.length=m→Sat like turn seen [] sd→(∀z,z<m→g turn z=1∨g turn z= -1)→(∀x:Nat,seen x→g like x= -1∨∃y:Nat,g like x=(y:Int)∧seen y)→(∀x,x<m→seen x→∃d r,d<K∧jq like d x r)→
 sides E K ((List.range' i k).map hf) like turn ((List.range i).map (eF T sd))=some ((List.range m).map (eF T sd)):=by
 intro i k
 induction k generalizing i with
 |zero=>
  intro like turn hik _ _ _ _ _ _
  have:i=m:=by omega
  subst this
  rfl
 |succ k ih=>
  intro like turn hik hl ht hs htn hc hK
  have im:i<m:=by omega
  rw[List.range'_succ,ace]
  unfold sides
  rw[hE.back im]
  have e1:((List.range i).map (eF T sd)).length=i:=by simp
  have e2:∀z,(List.range i).map (eF T sd)++[z]=(List.range (i+1)).map (eF T sd)↔z=eF T sd i:=fun z=>by
   rw[adI,abl]
   simp
  cases ti:T.tree i with
  |true=>
   rw[show(some (!true):Option Bool)=some false from rfl]
   dsimp only
   rw[(e2 0).2 (by unfold eF;rw[if_pos ti])]
   exact ih (i+1) like turn (by omega) hl ht hs htn hc hK
  |false=>
   rw[show(some (!false):Option Bool)=some true from rfl]
   dsimp only
   rw[e1]
   have si:=Fl i im ti
   obtain⟨d,r,hd,hres⟩:=hK i im si
   obtain⟨aH,aZ,k1,k2,k3,k4⟩:=PV hm hl ht hs htn hc hres si K hd
   rw[k1]
   dsimp only
   rw[lW (by rw[k2.lt];exact im)]
   dsimp only
   have h1:=k2.sat.rt i si k3 (by simp[cH])
   have e3:g aZ i=eF T sd i:=by
    unfold eF
    rw[if_neg (by rw[ti];simp),h1]
    rcases k2.tn i im with q|q<;>rw[q]<;>simp
   rw[(e2 _).2 e3]
   refine ih (i+1) aH aZ (by omega) k2.ll k2.lt k2.sat k2.tn (fun x hx=> ?_) (fun x hx sx=> ?_)
   ·rcases k2.Z3 x with q|q
    ·rw[q];exact hc x hx
    ·exact .inl q
   ·obtain⟨d',r',q1,q2⟩:=hK x hx sx
    obtain⟨d2,r2,q3,q4⟩:=q2.abt k2.Z3
    exact⟨d2,r2,by omega,q4⟩
theorem FB {k x:Nat} {z:Int} (h:x<k):g (List.replicate k z) x=z:=by
 unfold g
 rw[aaI,if_pos h]
 rfl
end
end Lt
end
section
namespace Lt
open Pl
section
variable {n m:Nat} {T:DF n m} {lw:List Int} {sd:Nat→Bool}
theorem GQ {e b:Nat} (he:e<m) (te:T.tree e=true) (h:T.aX e b):∃k,k<m∧T.fr k=T.go e∧T.aX k b:=by
 obtain⟨a1,a2⟩:=DF.DR te h
 have hb:=h.1
 by_cases q:T.go e=T.fr b
 ·exact⟨b,hb,q.symm,hb,h.2.1,.inl rfl⟩
 ·obtain⟨k,k1,k2,k3,k4⟩:=T.child (T.lt e he).2 (T.lt b hb).1 a1 q
  have:=(T.dN e he te).1
  exact⟨k,k1,k3,hb,h.2.1,.inr ⟨k2,k4,by rw[k3];omega⟩⟩
theorem J9 {e k b:Nat} (he:e<m) (te:T.tree e=true) (hk:k<m) (hfr:T.fr k=T.go e) (h:T.aX k b) (hl:T.az (T.go b)<T.az (T.fr e)):T.aX e b:=by
 obtain⟨h1,h2,h3⟩:=h
 refine⟨h1,h2,.inr ⟨te,?_,hl⟩⟩
 rcases h3 with q|⟨q1,q2,_⟩
 ·rw[←q,hfr]
  exact T.refl _ (T.lt e he).2
 ·rw[←hfr]
  exact T.trans (T.dN k hk q1).2 q2
theorem uU (hL:eI T lw) {e b:Nat} (he:e<m):T.cG b e↔T.aX e b∧T.az (T.go b)=g lw e:=by
 constructor
 ·rintro⟨h1,h2⟩
  refine⟨h1,?_⟩
  have k1:=hL.ret e b he h1
  obtain⟨c,c1,c2⟩:=hL.ex e he (by have:=h1.lt;omega)
  have:=h2 c c1
  omega
 ·rintro⟨h1,h2⟩
  exact⟨h1,fun c hc=>by have:=hL.ret e c he hc;omega⟩
def LJ (T:DF n m) (sd:Nat→Bool) (S:Nat→Int) (e:Nat):Prop:=∃b,T.cG b e∧S e=eF T sd b∧∀c,T.cG c e→sd c=sd b
theorem qF {b:Nat} (tb:T.tree b=false):eF T sd b=if sd b=true then 1 else -1:=by
 unfold eF
 rw[if_neg (by rw[tb];simp)]
theorem Ah {b c:Nat} (tb:T.tree b=false) (tc:T.tree c=false):eF T sd b=eF T sd c↔sd b=sd c:=by
 rw[qF tb,qF tc]
 cases sd b<;>cases sd c<;>simp
theorem NQ {S:Nat→Int} {b:Nat} (hb:b<m) (tb:T.tree b=false) (hS:S b=eF T sd b):LJ T sd S b:=by
 have only:∀c,T.aX b c→c=b:=fun c hc=>by
  rcases hc.2.2 with q|⟨q,_⟩
  ·exact q.symm
  ·rw[tb] at q;cases q
 refine⟨b,⟨⟨hb,tb,.inl rfl⟩,fun c hc=>by rw[only c hc];exact abE _⟩,hS,fun c hc=>by rw[only c hc.1]⟩
theorem Li (hL:eI T lw) {e:Nat} (he:e<m) (te:T.tree e=true) (hr:g lw e<T.az (T.fr e)) {l:List Nat} (hm:∀k,k∈l↔k<m∧T.fr k=T.go e) (hn:List.Pairwise (FX T lw) l):∃k0 l',l=k0::l'∧g lw k0=g lw e:=by
 obtain⟨b,b1,b2⟩:=hL.ex e he hr
 obtain⟨k,k1,k2,k3⟩:=GQ he te b1
 have hk:=(hm k).2 ⟨k1,k2⟩
 have cU:=hL.ret k b k1 k3
 cases l with
 |nil=>simp at hk
 |cons k0 l'=>
  refine⟨k0,l',rfl,?_⟩
  obtain⟨m1,m2⟩:=(hm k0).1 aag
  have hle:g lw k0≤g lw k:=by
   rcases aaj.1 hk with q|q
   ·rw[q];exact abE _
   ·exact((aa4.1 hn).1 k q).1
  have hh:=(T.dN e he te).1
  obtain⟨c,c1,c2⟩:=hL.ex k0 m1 (by rw[m2];omega)
  have:=hL.ret e c he (J9 he te m1 m2 c1 (by omega))
  omega
theorem AR (hL:eI T lw) {e k b:Nat} (he:e<m) (te:T.tree e=true) (hr:g lw e<T.az (T.fr e)) (hk:k<m) (hfr:T.fr k=T.go e) (cU:g lw k=g lw e) (hb:T.cG b k):T.cG b e:=by
 obtain⟨b1,b2⟩:=(uU hL hk).1 hb
 exact(uU hL he).2 ⟨J9 he te hk hfr b1 (by omega),by omega⟩
theorem N7 (hL:eI T lw) {e b:Nat} (he:e<m) (te:T.tree e=true) (hb:T.cG b e):∃k,k<m∧T.fr k=T.go e∧g lw k=g lw e∧T.cG b k:=by
 obtain⟨b1,b2⟩:=(uU hL he).1 hb
 obtain⟨k,k1,k2,k3⟩:=GQ he te b1
 have h1:=hL.ret k b k1 k3
 have hh:=(T.dN e he te).1
 have h4:=b1.lt
 obtain⟨c,c1,c2⟩:=hL.ex k k1 (by rw[k2];omega)
 have h5:=hL.ret e c he (J9 he te k1 k2 c1 (by omega))
 exact⟨k,k1,k2,by omega,(uU hL k1).2 ⟨k3,by omega⟩⟩
theorem P0 (hL:eI T lw) {S:Nat→Int} {e k0:Nat} (he:e<m) (te:T.tree e=true) (hr:g lw e<T.az (T.fr e)) (h0:k0<m) (f0:T.fr k0=T.go e) (l0:g lw k0=g lw e)
 (XO:∀k,k<m→T.fr k=T.go e→g lw k=g lw e→LJ T sd S k) (hall:∀k,k<m→T.fr k=T.go e→g lw k=g lw e→S k=S k0) {x:Int} (hx:x=S k0):∃b,T.cG b e∧x=eF T sd b∧∀c,T.cG c e→sd c=sd b:=by
 obtain⟨b,b1,b2,b3⟩:=XO k0 h0 f0 l0
 refine⟨b,AR hL he te hr h0 f0 l0 b1,by rw[hx,b2],fun c hc=> ?_⟩
 obtain⟨k,k1,k2,k3,k4⟩:=N7 hL he te hc
 obtain⟨d,d1,d2,d3⟩:=XO k k1 k2 k3
 rw[d3 c k4]
 have:=hall k k1 k2 k3
 rw[b2,d2] at this
 exact(Ah d1.1.2.1 b1.1.2.1).1 this
theorem UQ (hL:eI T lw) {S:Nat→Int} {e k0 k:Nat} (he:e<m) (te:T.tree e=true) (hr:g lw e<T.az (T.fr e)) (h0:k0<m) (f0:T.fr k0=T.go e) (l0:g lw k0=g lw e) (hk:k<m) (fk:T.fr k=T.go e) (lk:g lw k=g lw e)
 (r0:LJ T sd S k0) (rk:LJ T sd S k) (hne:S k≠S k0):¬T.Aligned sd:=fun ha=>by
 obtain⟨b,b1,b2,_⟩:=r0
 obtain⟨c,c1,c2,_⟩:=rk
 refine hne ?_
 rw[b2,c2]
 exact(Ah c1.1.2.1 b1.1.2.1).2 (ha he te (AR hL he te hr hk fk lk c1) (AR hL he te hr h0 f0 l0 b1))
theorem P5 (hL:eI T lw) {S:Nat→Int} (h:∀e,e<m→T.tree e=true→g lw e<T.az (T.fr e)→LJ T sd S e):T.Aligned sd:=by
 intro e b c he te hb hc
 have hr:g lw e<T.az (T.fr e):=by
  have:=hL.ret e b he hb.1
  have:=hb.1.lt
  omega
 obtain⟨d,_,_,d3⟩:=h e he te hr
 rw[d3 b hb,d3 c hc]
end
end Lt
end
section
open Go.RowKit Lt
def gN (t:Bool) (x:Int):Prop:=if t=true then x=0 else x=1∨x= -1
instance (t:Bool) (x:Int):Decidable (gN t x):=by unfold gN;infer_instance
def nK (es:List (Int×Int)) (s:Df.St) (ps:List Int):Prop:=ps.length=es.length∧∀e,e<es.length→gN (Lo.tree es s e) (ps[e]?.getD 0)
theorem B3 {es:List (Int×Int)} {s:Df.St} {n e:Nat} (h:Df.VF n es s) (he:e<es.length):decide (Df.at_ s.par (Cs.to es (Lo.oh s e))≠((Lo.oh s e:Nat):Int))= !Lo.tree es s e:=by
 obtain⟨h1,-,-,-⟩:=Lo.cO h he
 unfold Lo.tree Lo.bJ
 rw[h1]
 simp
set_option maxRecDepth 100000 in
theorem Hy (x:Int) (b:Bool) (w:World):Calls Tryz.prog 37 #[.int .i64 x,.bool b] w fun e w'=>e= .returned (.bool (decide (gN (!b) x)))∧Below w.heap.size w w':=by
 cases b with
 |false=>
  go_enter Tryz.func37,Tryz.ntmps37
  go_wp2
  go_ret
  refine⟨?_,aae _ _⟩
  unfold gN
  simp
  rfl
 |true=>
  by_cases h1:x=1
  ·subst h1
   go_enter Tryz.func37,Tryz.ntmps37
   go_wp2
   go_ret
   exact⟨rfl,aae _ _⟩
  ·have hb:(x==1)=false:=by simp only[beq_eq_false_iff_ne,ne_eq];exact h1
   go_enter Tryz.func37,Tryz.ntmps37
   go_wp2
   go_ret
   refine⟨?_,aae _ _⟩
   unfold gN
   simp[h1]
   rfl
section
variable {c:Wp} {p:Nat} {W:World}
set_option maxRecDepth 100000 in
set_option maxHeartbeats 4000000 in
theorem wV (h:bV c p W) {pa:Option Addr} {pc:Nat} {ps:List Int} (hp:gI W pa ps.length pc ps):
 Calls Tryz.prog 23 #[.pointer (some ⟨p,0,none⟩),.slice pa ps.length pc] W fun e w'=>(∃b,e= .returned (.bool b)∧(b=true↔nK c.es c.s ps))∧Below W.heap.size W w':=by
 have cj:=h.val.few
 have x5:=h.c5
 by_cases hlen:ps.length=c.es.length
 ·rw[hlen] at hp ⊢
  have fN:=Nu.hid h
  have HP:=Nu.hid hp
  have L8:=Nu.hid hlen
  clear h hp hlen
  go_enter Tryz.func23,Tryz.ntmps23
  go_wp2_with fail
  go_loopw [22] (fun iv wr=>∃i:Nat,iv= .int .i64 (i:Int)∧i≤c.es.length∧(∀e,e<i→gN (Lo.tree c.es c.s e) (ps[e]?.getD 0))∧Below W.heap.size W wr) (fun iv _=>c.es.length-(intOf iv).toNat)
  case atStart=>exact⟨0,rfl,aax _,fun e he=>absurd he (by omega),aae _ _⟩
  case round=>
   obtain⟨i,rfl,Vs,hall,hb⟩:=hrel
   by_cases hlt:i<c.es.length
   ·have hw:=fN.out.later hb
    obtain⟨h1,-,h3,h4⟩:=Lo.cO hw.vf hlt
    have lJ:=B3 hw.vf hlt
    obtain⟨q,hq⟩:∃q,Lo.oh c.s i=q:=⟨_,rfl⟩
    rw[hq] at h1 h3 h4 lJ
    obtain⟨bo,oo,eo,lI⟩:=hw.aJ hlt
    have z1:=lI wr (aae _ _) i hlt
    rw[h1] at z1
    rw[eo]
    obtain⟨bp,op,ep,-⟩:=cg HP.out (i:=i) hlt
    have y1:∀D:LW wr,D.val.cell? ⟨bp,op+i,none⟩=some (.int .i64 (ps[i]?.getD 0)):=fun D=>by
     obtain⟨b',o',e',d'⟩:=cg (HP.out.later (hb.trans (D.h.mono hb.size))) (i:=i) hlt
     rw[ep] at e'
     cases e'
     have hg:Df.at_ ps i=ps[i]?.getD 0:=by
      have hil:i<ps.length:=by rw[L8.out];exact hlt
      unfold Df.at_
      simp[hil]
     rw[←hg]
     exact d'
    rw[ep]
    obtain⟨z,hz⟩:∃z,ps[i]?.getD 0=z:=⟨_,rfl⟩
    obtain⟨tr,qP⟩:∃tr,Lo.tree c.es c.s i=tr:=⟨_,rfl⟩
    rw[qP] at lJ
    have HB:Hid (∀D:LW wr,Calls Tryz.prog 38 #[.pointer (some ⟨p,0,none⟩),.int .i64 (q:Int)] D.val fun e w'=>e= .returned (.bool (!tr))∧Below D.val.heap.size D.val w'):=fun D=>by
     have:=o8 (fN.out.later (hb.trans (D.h.mono hb.size))) h3
     rw[lJ] at this
     exact this
    have HI:Hid (∀D:LW wr,Calls Tryz.prog 37 #[.int .i64 z,.bool (!tr)] D.val fun e w'=>e= .returned (.bool (decide (gN tr z)))∧Below D.val.heap.size D.val w'):=fun D=>by
     have:=Hy z (!tr) D.val
     rw[Bool.not_not] at this
     exact this
    have HOK:Hid (gN (Lo.tree c.es c.s i) (ps[i]?.getD 0)↔gN tr z):=by rw[qP,hz];exact Iff.rfl
    rw[hz] at y1
    have hne:=LW.any wr
    have i0:(0:Int)≤(i:Int):=by omega
    have i1:(i:Int)<(c.es.length:Int):=by omega
    have i2:(i:Int)+1≤4194304:=by omega
    have qm:=Nu.hid hall
    have vY:=Nu.hid hb
    by_cases hok:gN tr z
    ·have hd:decide (gN tr z)=true:=by simp[hok]
     rw[hd] at HI
     have HK:=Nu.hid (HOK.out.2 hok)
     clear hall hb hw h1 h3 h4 lJ hq lI eo ep hz qP hok hd
     go_wp2_with fail
     refine aB (by kernel_rfl) (by kernel_rfl) ?_
     repeat (go_big_quiet_step ((first|(go_at_call 38;exact Calls.lw (HB.out _))|(go_at_call 37;exact Calls.lw (HI.out _)))))
     refine wpQuiet_nil ?_
     rintro _ ⟨D,rfl⟩
     have JC:Hid (Below W.heap.size W D.val):=vY.out.trans (D.h.mono vY.out.size)
     go_wp2_with fail
     go_roundw
     case rel=>
      refine⟨i+1,by simp,by omega,fun e he=> ?_,JC.out⟩
      by_cases az:e=i
      ·rw[az];exact HK.out
      ·exact qm.out e (by omega)
     case measure=>
      simp[intOf]
      omega
    ·have hd:decide (gN tr z)=false:=by simp[hok]
     rw[hd] at HI
     have HK:=Nu.hid (fun q=>hok (HOK.out.1 q))
     clear hall hb hw h1 h3 h4 lJ hq lI eo ep hz qP hok hd
     go_wp2_with fail
     refine aB (by kernel_rfl) (by kernel_rfl) ?_
     repeat (go_big_quiet_step ((first|(go_at_call 38;exact Calls.lw (HB.out _))|(go_at_call 37;exact Calls.lw (HI.out _)))))
     refine wpQuiet_nil ?_
     rintro _ ⟨D,rfl⟩
     have JC:Hid (Below W.heap.size W D.val):=vY.out.trans (D.h.mono vY.out.size)
     go_wp2_with fail
     go_ret
     refine⟨⟨false,rfl,?_⟩,JC.out⟩
     constructor
     ·intro q;cases q
     ·intro q;exact absurd (q.2 i hlt) HK.out
   ·obtain rfl:i=c.es.length:=by omega
    have HB:=Nu.hid hb
    have qm:=Nu.hid hall
    clear hb hall
    go_wp2_with fail
    go_ret
    exact⟨⟨true,rfl,fun _=>⟨L8.out,qm.out⟩,fun _=>rfl⟩,HB.out⟩
 ·have hd:(((ps.length:Nat):Int)==((c.es.length:Nat):Int))=false:=by
   simp only[beq_eq_false_iff_ne,ne_eq]
   omega
  have HN:Hid (¬nK c.es c.s ps):=fun q=>hlen q.1
  clear h hp
  go_enter Tryz.func23,Tryz.ntmps23
  go_wp2_with fail
  go_ret
  refine⟨⟨false,rfl,?_⟩,aae _ _⟩
  constructor
  ·intro q;cases q
  ·intro q;exact absurd q HN.out
end
end
end Go.Proofs.YtdjmnpmdmjclhabGreat
