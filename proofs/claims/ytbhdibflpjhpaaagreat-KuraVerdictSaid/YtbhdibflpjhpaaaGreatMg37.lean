import Derived.Test.YtbhdibflpjhpaaaGreatMg36
import Derived.Test.YtbhdibflpjhpaaaGreatMg14
namespace Go.Proofs.YtbhdibflpjhpaaaGreat
section
namespace Lt
open Pl
structure lI {n m:Nat} (T:DF n m) (lw:List Int):Prop where
 len:lw.length=m
 le:∀e,e<m->g lw e<=T.ay (T.fr e)
 ret:∀e b,e<m->T.bu e b->g lw e<=T.ay (T.go b)
 ex:∀e,e<m->g lw e<T.ay (T.fr e)->∃b,T.bu e b/\T.ay (T.go b)=g lw e
def O6 {n m:Nat} (T:DF n m) (e f:Nat) (sd:Nat->Bool):Prop:=
 (∀b c,T.bu e b->T.bu e c->T.jF b f->T.jF c f->sd b=sd c)/\(∀b c,T.bu f b->T.bu f c->T.jF b e->T.jF c e->sd b=sd c)/\(∀b c,T.bu e b->T.jF b f->T.bu f c->T.jF c e->sd b≠sd c)
theorem O6.symm {n m:Nat} {T:DF n m} {e f:Nat} {sd:Nat->Bool} (h:O6 T e f sd):O6 T f e sd:=⟨h.2.1,h.1,fun b c hb ab hc ac=>(h.2.2 c b hc ac hb ab).symm⟩
def GR (lw:List Int) (s:List cO):Prop:=List.Pairwise (fun p q:cO=>∀x∈p.1++p.2,∀y∈q.1++q.2,g lw y<=g lw x) s
structure kY {n m:Nat} (T:DF n m) (lw:List Int) (S:(Nat->Bool)->Prop) (D:List Nat) (RG:List cO):Prop where
 mem:∀y∈cF RG,∃e∈D,T.bu e y
 rep:∀e∈D,∀x,T.bu e x->∃y∈cF RG,g lw y=g lw x/\∀sd,S sd->sd x=sd y
 mono:GR lw RG
 rq:∀p∈RG,nh lw p.1/\nh lw p.2
 ne:∀p∈RG,¬(p.1=[]/\p.2=[])
 I1:∀sd,T.LR sd->∀p∈RG,(∀x∈p.1,∀y∈p.1,sd x=sd y)/\(∀x∈p.2,∀y∈p.2,sd x=sd y)/\∀x∈p.1,∀y∈p.2,sd x≠sd y
 bot:∀e1,D.head? =some e1->(∃x,T.bu e1 x)->∃fU b0,RG=fU++[([],[b0])]/\T.bu e1 b0/\g lw b0=g lw e1/\∀y∈cF fU,g lw e1<g lw y
def Xq {n m:Nat} (T:DF n m) (lw:List Int) (e f:Nat):Prop:=g lw e<=g lw f/\(g lw e=g lw f->(∃x,T.bu e x/\g lw e<g lw x)->∃x,T.bu f x/\g lw f<g lw x)
section
variable {n m:Nat} {T:DF n m} {lw like turn lowest:List Int} {seen:Nat->Prop} {S S':(Nat->Bool)->Prop} {D:List Nat} {RG:List cO}
theorem kY.more (h:kY T lw S D RG) (hS:∀sd,S' sd->S sd):kY T lw S' D RG:=
 ⟨h.mem,fun e he x hx=>by
   obtain⟨y,k1,k2,k3⟩:=h.rep e he x hx;exact⟨y,k1,k2,fun sd aQ=>k3 sd (hS sd aQ)⟩,h.mono,h.rq,h.ne,h.I1,h.bot⟩
theorem lI.back (h:lI T lw) {e b:Nat} (hr:T.bu e b):g lw b=T.ay (T.go b):=by
 obtain⟨hb,tb,_⟩:=hr;have h1:=h.ret b b hb ⟨hb,tb,.inl rfl⟩;have h2:=T.back b hb tb;have h3:=T.up (T.lt b hb).2 (T.lt b hb).1 h2.1 h2.2;obtain⟨c,hc,e1⟩:=h.ex b hb (by omega);obtain⟨_,_,k|⟨k,_⟩⟩:=hc
 .rw[k];rw[k] at e1;exact e1.symm
 .rw[tb] at k;cases k
theorem lI.low (h:lI T lw) {e b:Nat} (he:e<m) (hr:T.bu e b):g lw e<=g lw b:=by
 rw[h.back hr];exact h.ret e b he hr
theorem lI.lt (h:lI T lw) {e b:Nat} (hr:T.bu e b):g lw b<T.ay (T.fr e):=by
 rw[h.back hr];exact hr.lt
theorem lI.att (h:lI T lw) {e b:Nat} (he:e<m) (hr:T.bu e b):∃c,T.bu e c/\g lw c=g lw e:=by
 have:=h.low he hr;have:=h.lt hr;obtain⟨c,k1,k2⟩:=h.ex e he (by omega);exact⟨c,k1,by rw[h.back k1];exact k2⟩
theorem lI.jF (h:lI T lw) {e f b c:Nat} (he:e<m) (hr:T.bu e b) (hc:T.bu f c):T.jF c e↔g lw e<g lw c:=by
 constructor
 .rintro⟨b',k1,k2⟩
  have:=h.low he k1;rw[h.back hc];rw[h.back k1] at this;omega
 .intro k
  obtain⟨b',k1,k2⟩:=h.att he hr;refine⟨b',k1,?_⟩;rw[<-h.back k1,<-h.back hc];omega
theorem lI.qU (h:lI T lw) {e c f:Nat} (he:e<m) (hc:T.bu f c) (ha:T.jF c e):g lw e<g lw c/\∃x,T.bu e x:=by
 have ha':=ha;obtain⟨b',k1,_⟩:=ha';exact⟨(h.jF he k1 hc).1 ha,b',k1⟩
theorem kY.none (h:kY T lw S D RG) {e:Nat} (he:∀x,¬T.bu e x):kY T lw S (D++[e]) RG:=by
 refine⟨fun y hy=> ?_,fun e' he' x hx=> ?_,h.mono,h.rq,h.ne,h.I1,fun e1 h1 hx=> ?_⟩
 .obtain⟨f,k1,k2⟩:=h.mem y hy
  exact⟨f,aci _ k1,k2⟩
 .rcases aam.1 he' with k|k
  .exact h.rep e' k x hx
  .rw[aan.1 k] at hx
   exact absurd hx (he x)
 .cases D with
  |nil=>
   obtain rfl:e=e1:=by simpa using h1
   obtain⟨x,hx⟩:=hx;exact absurd hx (he x)
  |cons d D=>exact h.bot e1 (by simpa using h1) hx
theorem kY.nil:kY T lw S [] []:=⟨fun y hy=>by simp[cF] at hy,fun e he=>by simp at he,List.Pairwise.nil,fun p hp=>by simp at hp,fun p hp=>by simp at hp,fun sd _ p hp=>by simp at hp,fun e1 h1=>by simp at h1⟩
theorem kY.empty (h:kY T lw S D RG) (hD:∀e∈D,∀x,¬T.bu e x):RG=[]:=by
 cases RG with
 |nil=>rfl
 |cons p RG=>
  exfalso;have hp:=h.ne p aai;have:∃y,y∈p.1++p.2:=by
   cases h1:p.1 with
   |nil=>
    cases h2:p.2 with
    |nil=>exact absurd ⟨h1,h2⟩ hp
    |cons y l=>exact⟨y,by simp⟩
   |cons y l=>exact⟨y,by simp⟩
  obtain⟨y,hy⟩:=this;obtain⟨e,he,k⟩:=h.mem y (bB.2 ⟨p,aai,aam.1 hy⟩);exact hD e he y k
theorem kY.back {e:Nat} (he:e<m) (te:T.tree e=false):kY T lw S [e] [([],[e])]:=by
 have hr:T.bu e e:=⟨he,te,.inl rfl⟩;refine⟨fun y hy=>⟨e,by simp,?_⟩,fun f hf x hx=> ?_,ae2 _ _,fun p hp=> ?_,fun p hp k=> ?_,fun sd _ p hp=> ?_,fun e1 h1 _=> ?_⟩
 .obtain rfl:y=e:=by simpa[cF] using hy
  exact hr
 .obtain rfl:=aan.1 hf
  obtain⟨_,_,k|⟨k,_⟩⟩:=hx
  .exact⟨f,by simp[cF],by rw[k],fun sd _=>by rw[k]⟩
  .rw[te] at k;cases k
 .rw[aan.1 hp]
  exact⟨List.Pairwise.nil,ae2 _ _⟩
 .rw[aan.1 hp] at k
  simp at k
 .rw[aan.1 hp]
  refine⟨fun x hx=>by simp at hx,fun x hx y hy=> ?_,fun x hx=>by simp at hx⟩;rw[aan.1 hx,aan.1 hy]
 .obtain rfl:e=e1:=by simpa using h1
  exact⟨[],e,rfl,hr,rfl,fun y hy=>by simp[cF] at hy⟩
theorem Oo {l:List Nat} (h:nh lw l):∀x∈l,g lw x<=g lw (l.headD 0):=fun x hx=>by
 cases l with
 |nil=>simp at hx
 |cons y l=>
  rcases aaj.1 hx with rfl|hx
  .exact adA _
  .exact(acE.1 h).1 x hx
theorem Cb {h:Int} {X:List Nat} (hs:nh lw X) (hn:gX lw h X=false):∀x∈X,g lw x<=h:=fun x hx=>by
 have h1:=Oo hs x hx;have h2:¬(X≠[]/\h<g lw (X.headD 0)):=fun k=>by rw[kS.2 k] at hn;cases hn
 have h3:X≠[]:=fun k=>by rw[k] at hx;simp at hx
 have h4:¬h<g lw (X.headD 0):=fun k=>h2 ⟨h3,k⟩
 omega
theorem JW {A B:List Nat} (hA:nh lw A) (hB:nh lw B) (h:∀x∈A,∀y∈B,g lw y<=g lw x):nh lw (A++B):=acT.2 ⟨hA,hB,h⟩
theorem uQ {f:cO->List Nat}:∀{s:List cO},GR lw s->(∀p∈s,nh lw (f p)/\∀x∈f p,x∈p.1++p.2)->nh lw (s.flatMap f)
 |[],_,_=>List.Pairwise.nil
 |p::s,hm,h=>by
  rw[ae9];have hm':=acE.1 hm;refine JW (h p aai).1 (uQ hm'.2 fun q hq=>h q (aak _ hq)) fun x hx y hy=> ?_
  obtain⟨q,hq,NW⟩:=adz.1 hy;exact hm'.1 q hq x ((h p aai).2 x hx) y ((h q (aak _ hq)).2 y NW)
theorem Fu {E:Env} {st:TS} {e e1 a:Nat} {SG rest:List cO} {v:kC} {way:List kC} (hw:lI T E.lw) (hst:st.stk=(SG++(RG++rest)).map cU) (bD:st.way=v::way) (Gx:v.2.2=top ((RG++rest).map cU))
 (hk:Lk m st.like st.turn seen (SG++(RG++rest))) (hS:∀sd,S sd↔Sat st.like st.turn seen (SG++(RG++rest)) sd)
 (hD:kY T E.lw S D RG) (he:kY T E.lw S [e] SG) (hem:e<m) (BQ:∀f∈D,f<m) (nu:∃x,T.bu e x) (hfr:∀f∈D,T.fr f=T.fr e/\f≠e) (h1:D.head? =some e1) (hn:∀f∈D,Xq T E.lw f e)
 (jK:a<m) (ha:g E.lw a=g E.lw e1) (hl:∀b0,RG.getLast? =some ([],[b0])->bF st.lowest a=some (b0:Int)) (hn1:∀f∈D,g E.lw e1<=g E.lw f):
 (mg E st e a=some none/\∀sd,¬T.LR sd)\/
 ∃aC fU,mg E st e a=some (some { st with like:=aC,stk:=(fU++rest).map cU })/\Lk m aC st.turn seen (fU++rest)/\(∀sd,Sat aC st.turn seen (fU++rest) sd->S sd)/\
  kY T E.lw (Sat aC st.turn seen (fU++rest)) (D++[e]) fU/\(∀b0,fU.getLast? =some ([],[b0])->RG.getLast? =some ([],[b0]))/\∀f∈D,∀sd,Sat aC st.turn seen (fU++rest) sd->O6 T f e sd:=by
 have aM:e1∈D:=adM (by rw[h1];rfl);have hle:g E.lw e1<=g E.lw e:=(hn e1 aM).1;have hr1:∃x,T.bu e1 x:=by
  obtain⟨x,hx⟩:=nu;have h2:=hw.low hem hx;have h3:=hw.lt hx;obtain⟨b,hb,_⟩:=hw.ex e1 (BQ e1 aM) (by rw[(hfr e1 aM).1];omega);exact⟨b,hb⟩
 obtain⟨BV,b0,rfl,rb0,gb0,D6⟩:=hD.bot e1 h1 hr1;obtain⟨SG0,bs,hSG,rbs,gbs,his⟩:=he.bot e rfl nu;have hl':=hl b0 (by simp);have hb0:b0∈cF (BV++[([],[b0])]++rest):=by
  rw[eE,eE];simp[cF]
 have WB:∀sd,T.LR sd->∀x y,T.bu e x->T.bu e y->g E.lw e1<g E.lw x->g E.lw e1<g E.lw y->sd x=sd y:=fun sd aQ x y rx ry gx gy=>
  aQ.same hem (BQ e1 aM) (aao (hfr e1 aM).2) (hfr e1 aM).1.symm rx ry ((hw.jF (BQ e1 aM) rb0 rx).2 gx) ((hw.jF (BQ e1 aM) rb0 ry).2 gy)
 have WA:∀f∈D,∀l,T.bu f l->g E.lw e<g E.lw l->∃x,T.bu e x/\g E.lw e1<g E.lw x/\∀sd,T.LR sd->sd l≠sd x:=fun f hf l rl gl=>by
  have hx:∃x,T.bu e x/\g E.lw f<g E.lw x:=by
   obtain⟨k1,k2⟩:=hn f hf;by_cases e2:g E.lw f=g E.lw e
   .obtain⟨x,k3,k4⟩:=k2 e2 ⟨l,rl,by omega⟩
    exact⟨x,k3,by omega⟩
   .obtain⟨x,hx⟩:=nu
    exact⟨x,hx,by have:=hw.low hem hx;omega⟩
  obtain⟨x,rx,gx⟩:=hx;have:=hn1 f hf;exact⟨x,rx,by omega,fun sd aQ=>aQ.Hh (BQ f hf) hem (hfr f hf).2 (hfr f hf).1 rl ((hw.jF hem rx rl).2 gl) rx ((hw.jF (BQ f hf) rl rx).2 gx)⟩
 have jx:∀p∈SG,p≠([],[bs])->∀x∈p.1++p.2,g E.lw e1<g E.lw x:=fun p hp hne x hx=>by
  rw[hSG] at hp;rcases aam.1 hp with k|k
  .have:=his x (bB.2 ⟨p,k,aam.1 hx⟩)
   omega
  .exact absurd (aan.1 k) hne
 have Kl:∀x∈cF SG,T.bu e x:=fun x hx=>by
  obtain⟨f,k1,k2⟩:=he.mem x hx;rw[aan.1 k1] at k2;exact k2
 unfold mg;rw[bD];dsimp only;rw[Gx,hst];rcases YF (lowest:=st.lowest) hw.len jK hl' (rest:=BV++[([],[b0])]++rest) hb0 SG st.like [] hk.hold he.ne with ⟨k1,p,kp,k2,k3⟩|⟨fA,k1,k2,k3,k4⟩
 ·
  have UH:own E.lw st.lowest a (top ((BV++[([],[b0])]++rest).map cU)) ((SG++(BV++[([],[b0])]++rest)).map cU) st.like aP=some none:=k1;rw[UH];refine .inl ⟨rfl,fun sd aQ=> ?_⟩;have hne:p≠([],[bs]):=fun k=>k2 (by rw[k])
  obtain⟨l,hl2⟩:∃l,l∈p.1:=⟨_,head_mem k2⟩;obtain⟨r,hr2⟩:∃r,r∈p.2:=⟨_,head_mem k3⟩;have rl:=Kl l (bB.2 ⟨p,kp,.inl hl2⟩);have rr:=Kl r (bB.2 ⟨p,kp,.inr hr2⟩);exact(he.I1 sd aQ p kp).2.2 l hl2 r hr2 (WB sd aQ l r rl rr (jx p kp hne l (by simp[hl2])) (jx p kp hne r (by simp[hr2])))
 have UH:own E.lw st.lowest a (top ((BV++[([],[b0])]++rest).map cU)) ((SG++(BV++[([],[b0])]++rest)).map cU) st.like aP=some (some ((BV++[([],[b0])]++rest).map cU,fA,dR (nr E.lw (g E.lw a) SG))):=k1;rw[UH];dsimp only;rw[ha,acs] at k2;rw[ha,acs] at k4;rw[ha];obtain⟨O,hO⟩:∃O,nr E.lw (g E.lw e1) SG=O:=⟨_,rfl⟩;rw[hO] at k2 k4 ⊢;have P6:∀x,x∈O↔x∈cF SG/\g E.lw e1<g E.lw x:=fun x=>by
  rw[<-hO];unfold nr;rw[adz,bB];constructor
  .rintro⟨p,hp,hx⟩
   split at hx
   .simp at hx
   .rename_i hne
    refine⟨⟨p,hp,aam.1 hx⟩,?_⟩;by_cases k:p=([],[bs])
    .subst k
     simp at hx hne;subst hx;omega
    .exact jx p hp k x hx
  .rintro⟨⟨p,hp,hx⟩,gx⟩
   refine⟨p,hp,?_⟩;rw[if_neg]
   .exact aam.2 hx
   .intro k
    by_cases kb:p=([],[bs])
    .subst kb
     simp at hx k;subst hx;omega
    .have DX:=he.ne p hp
     have hne:p.1++p.2≠[]:=fun q=>DX (List.append_eq_nil_iff.1 q)
     have:=jx p hp kb _ (bE hne);omega
 have FT:∀x∈O,T.bu e x/\g E.lw e1<g E.lw x:=fun x hx=>⟨Kl x ((P6 x).1 hx).1,((P6 x).1 hx).2⟩
 have aft:nh E.lw O:=by
  rw[<-hO];refine uQ he.mono fun p hp=> ?_
  split
  .exact⟨List.Pairwise.nil,fun x hx=>by simp at hx⟩
  .refine⟨?_,fun x hx=>hx⟩
   rcases k3 p hp with k|k
   .rw[k];exact(he.rq p hp).2
   .rw[k,acH];exact(he.rq p hp).1
 have Zj:gX E.lw (g E.lw e) [b0]=false:=by
  cases hq:gX E.lw (g E.lw e) [b0] with
  |false=>rfl
  |true=>
   have:=(kS.1 hq).2;simp at this;omega
 have aax:∀Q1 Q2,BV++[([],[b0])]++rest=Q1++Q2->(∀q∈Q1,gX E.lw (g E.lw e) q.1≠gX E.lw (g E.lw e) q.2)->∃t,BV=Q1++t/\Q2=t++[([],[b0])]++rest:=fun Q1 Q2 hQ hq=>by
  have hb:(([],[b0]):cO)∉Q1:=fun k=>by
   have:=hq _ k;dsimp only at this;rw[Zj] at this;exact this rfl
  rw[ace] at hQ;rcases List.append_eq_append_iff.1 hQ with ⟨t,k1,k2⟩|⟨t,k1,k2⟩
  .cases t with
   |nil=>
    rw[acH] at k1;exact⟨[],by rw[k1];simp,by rw[acs] at k2;rw[<-k2];simp⟩
   |cons p t=>
    exfalso;rw[acZ,acs,acZ] at k2;have:=(List.cons.inj k2).1;exact hb (by rw[k1,<-this];simp)
  .exact⟨t,k1,by rw[k2];simp⟩
 rcases others_eq hw.len hem (BV++[([],[b0])]++rest) fA [] O k2 with ⟨l1,Q1,q,Q2,l2,l3,l4,l5⟩|⟨fy,Q1,Q2,l0,l1,l2,l3,l4,l5⟩
 .have l1':others E.lw (e:Int) ((BV++[([],[b0])]++rest).map cU) fA (aP,dR O)=some none:=l1
  rw[l1'];refine .inl ⟨rfl,fun sd aQ=> ?_⟩;obtain⟨t,t1,t2⟩:=aax Q1 (q::Q2) l2 l3;have hq:q∈BV++[([],[b0])]:=by
   cases t with
   |nil=>
    rw[acs,acZ] at t2;have:=(List.cons.inj t2).1;rw[this];simp
   |cons p t=>
    have:=(List.cons.inj t2).1;rw[t1,this];simp
  obtain⟨n1,g1⟩:=kS.1 l4;obtain⟨n2,g2⟩:=kS.1 l5;obtain⟨f,hf,rf⟩:=hD.mem _ (bB.2 ⟨q,hq,.inl (head_mem n1)⟩);obtain⟨f',hf',rf'⟩:=hD.mem _ (bB.2 ⟨q,hq,.inr (head_mem n2)⟩);obtain⟨x,rx,gx,ux⟩:=WA f hf _ rf g1;obtain⟨x',rx',gx',ux'⟩:=WA f' hf' _ rf' g2;have h3:=WB sd aQ x x' rx rx' gx gx';have h4:=ux sd aQ;have h5:=ux' sd aQ;have h6:=(hD.I1 sd aQ q hq).2.2 _ (head_mem n1) _ (head_mem n2);revert h3 h4 h5 h6;cases sd x<;>cases sd x'<;>cases sd (q.1.headD 0)<;>cases sd (q.2.headD 0)<;>simp
 .obtain⟨t,t1,t2⟩:=aax Q1 Q2 l0 l3
  subst t1;subst t2;have l1':others E.lw (e:Int) ((Q1++t++[([],[b0])]++rest).map cU) fA (aP,dR O)=some (some ((t++[([],[b0])]++rest).map cU,fy,(dR (zY E.lw (g E.lw e) Q1),dR (O++rK E.lw (g E.lw e) Q1)))):=l1;rw[l1'];dsimp only;rw[acs] at l2 l5;obtain⟨A,hA⟩:∃A,zY E.lw (g E.lw e) Q1=A:=⟨_,rfl⟩;obtain⟨B,hB⟩:∃B,O++rK E.lw (g E.lw e) Q1=B:=⟨_,rfl⟩;rw[hA,hB] at l2 l5 ⊢;have wV:=acT.1 hD.mono;rw[ace] at hD;have wV:=acT.1 hD.mono;have P7:∀x∈A,∃q∈Q1,(x∈q.1/\gX E.lw (g E.lw e) q.1=true/\gX E.lw (g E.lw e) q.2=false)\/(x∈q.2/\gX E.lw (g E.lw e) q.2=true/\gX E.lw (g E.lw e) q.1=false):=fun x hx=>by
   rw[<-hA] at hx;obtain⟨q,hq,UN⟩:=adz.1 hx;have:=l3 q hq;refine⟨q,hq,?_⟩;cases b1:gX E.lw (g E.lw e) q.1<;>cases b2:gX E.lw (g E.lw e) q.2<;>rw[b1,b2] at this<;>simp[b1] at UN ⊢ <;>simp at this<;>exact UN
  have kN:∀x∈rK E.lw (g E.lw e) Q1,∃q∈Q1,(x∈q.2/\gX E.lw (g E.lw e) q.1=true/\gX E.lw (g E.lw e) q.2=false)\/(x∈q.1/\gX E.lw (g E.lw e) q.2=true/\gX E.lw (g E.lw e) q.1=false):=fun x hx=>by
   obtain⟨q,hq,UN⟩:=adz.1 hx;have:=l3 q hq;refine⟨q,hq,?_⟩;cases b1:gX E.lw (g E.lw e) q.1<;>cases b2:gX E.lw (g E.lw e) q.2<;>rw[b1,b2] at this<;>simp[b1] at UN ⊢ <;>simp at this<;>exact UN
  have Dr:∀x,x∈B↔x∈O\/x∈rK E.lw (g E.lw e) Q1:=fun x=>by rw[<-hB];exact aam
  have inQ:∀x q,q∈Q1->x∈q.1\/x∈q.2->x∈A\/x∈rK E.lw (g E.lw e) Q1:=fun x q hq hx=>by
   rw[<-hA];unfold zY rK;rw[adz,adz];cases b1:gX E.lw (g E.lw e) q.1<;>rcases hx with hx|hx
   .exact .inr ⟨q,hq,by rw[b1];exact hx⟩
   .exact .inl ⟨q,hq,by rw[b1];exact hx⟩
   .exact .inl ⟨q,hq,by rw[b1];exact hx⟩
   .exact .inr ⟨q,hq,by rw[b1];exact hx⟩
  have qR:∀q∈Q1,q∈Q1++(t++[([],[b0])]):=fun q hq=>aci _ hq
  have aaw:∀x∈rK E.lw (g E.lw e) Q1,g E.lw x<=g E.lw e:=fun x hx=>by
   obtain⟨q,hq,⟨k1,_,k2⟩|⟨k1,_,k2⟩⟩:=kN x hx
   .exact Cb (hD.rq q (qR q hq)).2 k2 x k1
   .exact Cb (hD.rq q (qR q hq)).1 k2 x k1
  have aav:∀x∈cF (t++[([],[b0])]),g E.lw x<=g E.lw e:=fun x hx=>by
   cases ht:t with
   |nil=>
    rw[ht] at hx;have:x=b0:=by simpa[cF] using hx
    rw[this];omega
   |cons q t'=>
    rw[ht] at hx l4 hD wV;obtain⟨b1,b2⟩:=l4 q rfl;have N8:q∈Q1++(q::t'++[([],[b0])]):=by simp
    have U8:∀z∈q.1++q.2,g E.lw z<=g E.lw e:=fun z hz=>by
     rcases aam.1 hz with k|k
     .exact Cb (hD.rq q N8).1 b1 z k
     .exact Cb (hD.rq q N8).2 b2 z k
    obtain⟨p,hp,Sn⟩:=bB.1 hx;rcases aaj.1 (show p∈q::(t'++[([],[b0])]) from hp) with rfl|hp
    .exact U8 x (aam.2 Sn)
    .have hne:=hD.ne q N8
     have Gl:q.1++q.2≠[]:=fun k=>hne (List.append_eq_nil_iff.1 k)
     have:=(acE.1 (show GR E.lw (q::(t'++[([],[b0])])) from wV.2.1)).1 p hp _ (bE Gl) x (aam.2 Sn);have:=U8 _ (bE Gl);omega
  have hiA:∀x∈A,g E.lw e1<g E.lw x:=fun x hx=>by
   obtain⟨q,hq,k⟩:=P7 x hx;exact D6 x (bB.2 ⟨q,aci _ hq,k.elim (fun k=> .inl k.1) fun k=> .inr k.1⟩)
  have hiL:∀x∈rK E.lw (g E.lw e) Q1,g E.lw e1<g E.lw x:=fun x hx=>by
   obtain⟨q,hq,k⟩:=kN x hx;exact D6 x (bB.2 ⟨q,aci _ hq,k.elim (fun k=> .inr k.1) fun k=> .inl k.1⟩)
  have ag5:∀x,x∈A\/x∈B->g E.lw e1<g E.lw x:=fun x hx=>by
   rcases hx with hx|hx
   .exact hiA x hx
   .rcases(Dr x).1 hx with hx|hx
    .exact(FT x hx).2
    .exact hiL x hx
  have back:∀sd,Sat fy st.turn seen ((A,B)::(t++[([],[b0])]++rest)) sd->S sd/\∀p∈SG,g E.lw ((p.1++p.2).getLastD 0)=g E.lw e1->∀x∈p.1++p.2,sd x=sd b0:=fun sd aQ=>by
   obtain⟨j1,j2⟩:=k4 sd (l5 sd aQ);exact⟨(hS sd).2 j1.xQ,j2⟩
  have SC:∀sd,Sat fy st.turn seen ((A,B)::(t++[([],[b0])]++rest)) sd->∀y∈cF SG,¬g E.lw e1<g E.lw y->sd y=sd b0/\g E.lw y=g E.lw e1:=fun sd aQ y hy hg=>by
   have e5:g E.lw y=g E.lw e1:=by have:=hw.low hem (Kl y hy);omega
   obtain⟨p,hp,hyp⟩:=bB.1 hy;have yy:p=([],[bs]):=abO fun k=>by
    have:=jx p hp k y (aam.2 hyp);omega
   refine⟨(back sd aQ).2 p hp ?_ y (aam.2 hyp),e5⟩;subst yy;have:y=bs:=by simpa using hyp
   rw[<-this];simpa using e5
  have aat:∀x,x∈A\/x∈rK E.lw (g E.lw e) Q1->∃f∈D,T.bu f x:=fun x hx=>by
   rcases hx with hx|hx
   .obtain⟨q,hq,k⟩:=P7 x hx
    exact hD.mem x (bB.2 ⟨q,qR q hq,k.elim (fun k=> .inl k.1) fun k=> .inr k.1⟩)
   .obtain⟨q,hq,k⟩:=kN x hx
    exact hD.mem x (bB.2 ⟨q,qR q hq,k.elim (fun k=> .inr k.1) fun k=> .inl k.1⟩)
  have ad1:∀sd,T.LR sd->(∀x∈A,∀y∈A,sd x=sd y)/\(∀x∈B,∀y∈B,sd x=sd y)/\∀x∈A,∀y∈B,sd x≠sd y:=fun sd aQ=>by
   have key:∃c:Bool,(∀x,T.bu e x->g E.lw e1<g E.lw x->sd x=c):=by
    by_cases hx:∃x,T.bu e x/\g E.lw e1<g E.lw x
    .obtain⟨x,rx,gx⟩:=hx
     exact⟨sd x,fun y ry gy=>WB sd aQ y x ry rx gy gx⟩
    .exact⟨true,fun x rx gx=>absurd ⟨x,rx,gx⟩ hx⟩
   obtain⟨c,hc⟩:=key;have top:∀q∈Q1,∀{X:List Nat},(X=q.1\/X=q.2)->gX E.lw (g E.lw e) X=true->∀x∈X,sd x≠c:=fun q hq X hX hb x hx=>by
    obtain⟨n1,g1⟩:=kS.1 hb;have hqf:=hD.I1 sd aQ q (qR q hq);obtain⟨f,hf,rf⟩:=hD.mem (X.headD 0) (bB.2 ⟨q,qR q hq,by rcases hX with k|k<;>rw[<-k]<;>simp only[head_mem n1,true_or,or_true]⟩);obtain⟨z,rz,gz,uz⟩:=WA f hf _ rf g1;have e6:sd x=sd (X.headD 0):=by
     rcases hX with k|k
     .rw[k] at hx ⊢;rw[k] at n1;exact hqf.1 x hx _ (head_mem n1)
     .rw[k] at hx ⊢;rw[k] at n1;exact hqf.2.1 x hx _ (head_mem n1)
    rw[e6,<-hc z rz gz];exact uz sd aQ
   have sA:∀x∈A,sd x≠c:=fun x hx=>by
    obtain⟨q,hq,⟨k1,k2,_⟩|⟨k1,k2,_⟩⟩:=P7 x hx
    .exact top q hq (.inl rfl) k2 x k1
    .exact top q hq (.inr rfl) k2 x k1
   have sB:∀x∈B,sd x=c:=fun x hx=>by
    rcases(Dr x).1 hx with hx|hx
    .exact hc x (FT x hx).1 (FT x hx).2
    .obtain⟨q,hq,⟨k1,k2,_⟩|⟨k1,k2,_⟩⟩:=kN x hx
     .have h3:=top q hq (.inl rfl) k2 _ (head_mem (kS.1 k2).1)
      have h4:=(hD.I1 sd aQ q (qR q hq)).2.2 _ (head_mem (kS.1 k2).1) x k1;revert h3 h4;cases sd x<;>cases c<;>cases sd (q.1.headD 0)<;>simp
     .have h3:=top q hq (.inr rfl) k2 _ (head_mem (kS.1 k2).1)
      have h4:=(hD.I1 sd aQ q (qR q hq)).2.2 x k1 _ (head_mem (kS.1 k2).1);revert h3 h4;cases sd x<;>cases c<;>cases sd (q.2.headD 0)<;>simp
   refine⟨fun x hx y hy=> ?_,fun x hx y hy=>by rw[sB x hx,sB y hy],fun x hx y hy=>by rw[sB y hy];exact sA x hx⟩;have h3:=sA x hx;have h4:=sA y hy;revert h3 h4;cases sd x<;>cases sd y<;>cases c<;>simp
  have afv:nh E.lw A:=by
   rw[<-hA];refine uQ wV.1 fun q hq=> ?_
   split
   .exact⟨(hD.rq q (qR q hq)).1,fun x hx=>aci _ hx⟩
   .exact⟨(hD.rq q (qR q hq)).2,fun x hx=>acd _ hx⟩
  have afu:nh E.lw B:=by
   rw[<-hB];refine JW aft (uQ wV.1 fun q hq=> ?_) fun x hx y hy=> ?_
   .split
    .exact⟨(hD.rq q (qR q hq)).2,fun x hx=>acd _ hx⟩
    .exact⟨(hD.rq q (qR q hq)).1,fun x hx=>aci _ hx⟩
   .have:=aaw y hy
    have:=hw.low hem (FT x hx).1;omega
  obtain⟨PN,hPN,Wh,adK,vB,ahL⟩:∃PN:List cO,(if (dR A,dR B)=dN then (t++[([],[b0])]++rest).map cU else (dR A,dR B)::(t++[([],[b0])]++rest).map cU)=(PN++(t++[([],[b0])]++rest)).map cU/\(PN=[(A,B)]/\¬(A=[]/\B=[])\/PN=[]/\A=[]/\B=[])/\Lk m fy st.turn seen (PN++(t++[([],[b0])]++rest))/\(∀sd,Sat fy st.turn seen (PN++(t++[([],[b0])]++rest)) sd->Sat fy st.turn seen ((A,B)::(t++[([],[b0])]++rest)) sd)/\True:=by
   by_cases hab:A=[]/\B=[]
   .refine⟨[],?_,.inr ⟨rfl,hab⟩,?_,fun sd aQ=> ?_,trivial⟩
    .rw[if_pos (show(dR A,dR B)=dN from yP (p:=(A,B)) |>.2 hab)]
     rfl
    .obtain⟨e6,e7⟩:=hab
     rw[e6,e7] at l2;exact l2.xQ
    .obtain⟨e6,e7⟩:=hab
     rw[e6,e7];exact aQ.hold
   .refine⟨[(A,B)],?_,.inl ⟨rfl,hab⟩,l2,fun sd aQ=>aQ,trivial⟩
    rw[if_neg (show ¬(dR A,dR B)=dN from fun k=>hab ((yP (p:=(A,B))).1 k))];rfl
  have I9:∀x,x∈cF PN↔x∈A\/x∈B:=fun x=>by
   rcases Wh with ⟨k,_⟩|⟨k,k1,k2⟩
   .rw[k];simp[cF]
   .rw[k,k1,k2];simp[cF]
  have Ud:∀p∈PN,p=(A,B)/\¬(A=[]/\B=[]):=fun p hp=>by
   rcases Wh with ⟨k,k1⟩|⟨k,_⟩
   .rw[k] at hp;exact⟨aan.1 hp,k1⟩
   .rw[k] at hp;simp at hp
  refine .inr ⟨fy,PN++(t++[([],[b0])]),?_,?_,?_,?_,?_,?_⟩
  .rw[hPN,ace PN]
  .rw[ace];exact adK
  .intro sd aQ
   rw[ace] at aQ;exact(back sd (vB sd aQ)).1
  .rw[ace PN]
   refine⟨fun y hy=> ?_,fun f hf x hx=> ?_,?_,fun p hp=> ?_,fun p hp=> ?_,fun sd aQ p hp=> ?_,fun e2 h2 hx2=> ?_⟩
   .rw[eE] at hy
    rcases aam.1 hy with k|k
    .rcases(I9 y).1 k with k|k
     .obtain⟨f,k1,k2⟩:=aat y (.inl k)
      exact⟨f,aci _ k1,k2⟩
     .rcases(Dr y).1 k with k|k
      .exact⟨e,by simp,(FT y k).1⟩
      .obtain⟨f,k1,k2⟩:=aat y (.inr k)
       exact⟨f,aci _ k1,k2⟩
    .obtain⟨f,k1,k2⟩:=hD.mem y (by rw[eE];exact acd _ k)
     exact⟨f,aci _ k1,k2⟩
   .rcases aam.1 hf with hf|hf
    .obtain⟨y,k1,k2,k3⟩:=hD.rep f hf x hx
     refine⟨y,?_,k2,fun sd aQ=>k3 sd (back sd (vB sd aQ)).1⟩;rw[eE] at k1 ⊢;rcases aam.1 k1 with k1|k1
     .obtain⟨q,hq,NW⟩:=bB.1 k1
      refine aci _ ((I9 y).2 ?_);rcases inQ y q hq NW with k|k
      .exact .inl k
      .exact .inr ((Dr y).2 (.inr k))
     .exact acd _ k1
    .rw[aan.1 hf] at hx
     obtain⟨y,k1,k2,k3⟩:=he.rep e (by simp) x hx;by_cases hy:g E.lw e1<g E.lw y
     .refine⟨y,?_,k2,fun sd aQ=>k3 sd (back sd (vB sd aQ)).1⟩
      rw[eE];exact aci _ ((I9 y).2 (.inr ((Dr y).2 (.inl ((P6 y).2 ⟨k1,hy⟩)))))
     .refine⟨b0,?_,?_,fun sd aQ=>(k3 sd (back sd (vB sd aQ)).1).trans (SC sd (vB sd aQ) y k1 hy).1⟩
      .rw[eE,eE];simp[cF]
      .have e5:g E.lw y=g E.lw e1:=by have:=hw.low hem (Kl y k1);omega
       omega
   .refine acT.2 ⟨?_,wV.2.1,fun p hp q hq x hx y hy=> ?_⟩
    .rcases Wh with ⟨k,_⟩|⟨k,_⟩<;>rw[k]
     .exact ae2 _ _
     .exact List.Pairwise.nil
    .rw[(Ud p hp).1] at hx
     have hyT:y∈cF (t++[([],[b0])]):=bB.2 ⟨q,hq,aam.1 hy⟩;have old:∀z,(∃q'∈Q1,z∈q'.1\/z∈q'.2)->g E.lw y<=g E.lw z:=fun z ⟨q',hq',hz⟩=>wV.2.2 q' hq' q hq z (aam.2 hz) y hy
     rcases aam.1 hx with hx|hx
     .obtain⟨q',hq',k⟩:=P7 x hx
      exact old x ⟨q',hq',k.elim (fun k=> .inl k.1) fun k=> .inr k.1⟩
     .rcases(Dr x).1 hx with hx|hx
      .have:=aav y hyT
       have:=hw.low hem (FT x hx).1;omega
      .obtain⟨q',hq',k⟩:=kN x hx
       exact old x ⟨q',hq',k.elim (fun k=> .inr k.1) fun k=> .inl k.1⟩
   .rcases aam.1 hp with k|k
    .rw[(Ud p k).1];exact⟨afv,afu⟩
    .exact hD.rq p (acd _ k)
   .rcases aam.1 hp with k|k
    .rw[(Ud p k).1];exact(Ud p k).2
    .exact hD.ne p (acd _ k)
   .rcases aam.1 hp with k|k
    .rw[(Ud p k).1];exact ad1 sd aQ
    .exact hD.I1 sd aQ p (acd _ k)
   .obtain rfl:e1=e2:=by
     cases D with
     |nil=>simp at h1
     |cons d D=>simp at h1 h2;rw[<-h1,h2]
    refine⟨PN++t,b0,by rw[ace],rb0,gb0,fun y hy=> ?_⟩;rw[eE] at hy;rcases aam.1 hy with k|k
    .exact ag5 y ((I9 y).1 k)
    .exact D6 y (by rw[eE];exact acd _ k)
  .intro b hb
   rw[<-ace] at hb;simpa using hb
  .intro f hf sd aQ
   rw[ace] at aQ;have hs1:=vB sd aQ;have hs0:=(back sd hs1).1;have hch:=l2.ch (A,B) (by simp);obtain⟨sA,sB⟩:=l2.nU (p:=(A,B)) (by simp);have inA:∀y,T.bu f y->g E.lw e<g E.lw y->∃y'∈A,sd y=sd y':=fun y ry gy=>by
    obtain⟨y',k1,k2,k3⟩:=hD.rep f hf y ry;refine⟨y',?_,k3 sd hs0⟩;rw[eE] at k1;rcases aam.1 k1 with k1|k1
    .obtain⟨q,hq,NW⟩:=bB.1 k1
     rcases inQ y' q hq NW with k|k
     .exact k
     .have:=aaw y' k
      omega
    .have:=aav y' k1
     omega
   have inB:∀x,T.bu e x->g E.lw f<g E.lw x->∃x'∈B,sd x=sd x':=fun x rx gx=>by
    obtain⟨x',k1,k2,k3⟩:=he.rep e (by simp) x rx;have:=hn1 f hf;exact⟨x',(Dr x').2 (.inl ((P6 x').2 ⟨k1,by omega⟩)),k3 sd hs0⟩
   refine⟨fun b c rb rc ab ac=> ?_,fun b c rb rc ab ac=> ?_,fun b c rb ab rc ac=> ?_⟩
   .obtain⟨y,k1,k2⟩:=inA b rb (hw.qU hem rb ab).1
    obtain⟨y',k3,k4⟩:=inA c rc (hw.qU hem rc ac).1;rw[k2,k4];exact hs1.alike hch.1 sA k1 k3
   .obtain⟨y,k1,k2⟩:=inB b rb (hw.qU (BQ f hf) rb ab).1
    obtain⟨y',k3,k4⟩:=inB c rc (hw.qU (BQ f hf) rc ac).1;rw[k2,k4];exact hs1.alike hch.2 sB k1 k3
   .obtain⟨y,k1,k2⟩:=inA b rb (hw.qU hem rb ab).1
    obtain⟨y',k3,k4⟩:=inB c rc (hw.qU (BQ f hf) rc ac).1;rw[k2,k4];exact hs1.un (A,B) (by simp) y k1 y' k3
end
end Lt
end
section
namespace Lt
open Pl
section
variable {n m:Nat} {T:DF n m} {lw:List Int} {S:(Nat->Bool)->Prop} {D:List Nat} {RG:List cO} {h:Int}
theorem hangs {w v:Nat} (hw:w<n) (hv:v<n) (ha:T.bP w v) (hne:w≠v):∃a,a<m/\T.tree a=true/\T.go a=v:=by
 have step:∀(d:Nat) (k:Nat),k<m->T.tree k=true->T.bP (T.go k) v->T.ay v<=T.ay (T.go k)+d->∃e,e<m/\T.tree e=true/\T.go e=v:=by
  intro d
  induction d with
  |zero=>
   intro k hk tk ak hd;by_cases e1:T.go k=v
   .exact⟨k,hk,tk,e1⟩
   .have:=T.up (T.lt k hk).2 hv ak e1
    omega
  |succ d ih=>
   intro k hk tk ak hd;by_cases e1:T.go k=v
   .exact⟨k,hk,tk,e1⟩
   .obtain⟨k',hk',JQ,OO,Xe⟩:=T.child (T.lt k hk).2 hv ak e1
    have e3:=(T.bS k' hk' JQ).1;rw[OO] at e3;exact ih k' hk' JQ Xe (by omega)
 obtain⟨k,hk,tk,fk,ak⟩:=T.child hw hv ha hne;have:=T.low v hv;have:=T.low _ (T.lt k hk).2;exact step n k hk tk ak (by omega)
theorem C5 {e x:Nat} (he:e<m) (hr:T.bu e x):∃a,a<m/\T.tree a=true/\T.go a=T.fr e:=by
 have hlt:=hr.lt;obtain⟨hx,tx,k⟩:=hr;have hb:=T.back x hx tx;rcases k with rfl|⟨te,ka,kh⟩
 .exact hangs (T.lt e he).2 (T.lt e he).1 hb.1 hb.2
 .have dV:=(T.bS e he te)
  have h1:=T.trans dV.2 ka;have h2:=T.cmp (T.lt x hx).2 (T.lt e he).1 (T.lt x hx).1 hb.1 h1 (by omega);exact hangs (T.lt x hx).2 (T.lt e he).1 h2 (fun q=>by rw[q] at hlt;omega)
theorem zI {a x:Nat} (ha:a<m) (ta:T.tree a=true) (hr:T.bu a x):∃f,f<m/\T.fr f=T.go a/\T.bu f x:=by
 have hl:=DF.jr ta hr;obtain⟨hx,tx,_⟩:=hr;have dV:=(T.bS a ha ta).1;by_cases e:T.go a=T.fr x
 .exact⟨x,hx,e.symm,hx,tx,.inl rfl⟩
 .obtain⟨k,hk,tk,fk,ak⟩:=T.child (T.lt a ha).2 (T.lt x hx).1 hl.1 e
  exact⟨k,hk,fk,hx,tx,.inr ⟨tk,ak,by rw[fk];omega⟩⟩
theorem Hx {a f x:Nat} (ha:a<m) (ta:T.tree a=true) (hf:f<m) (hfr:T.fr f=T.go a) (hr:T.bu f x) (hh:T.ay (T.go x)<T.ay (T.fr a)):T.bu a x:=by
 obtain⟨hx,tx,k⟩:=hr;refine⟨hx,tx,.inr ⟨ta,?_,hh⟩⟩;rcases k with rfl|⟨tf,kf,_⟩
 .rw[hfr];exact T.refl _ (T.lt a ha).2
 .rw[<-hfr];exact T.trans (T.bS f hf tf).2 kf
theorem Dw (hw:lI T lw) {a e1:Nat} (ha:a<m) (ta:T.tree a=true) (he:e1<m) (hfr:T.fr e1=T.go a) (hmin:∀f,f<m->T.fr f=T.go a->g lw e1<=g lw f) (hr:∃x,T.bu e1 x):g lw a=g lw e1:=by
 obtain⟨x,hx⟩:=hr;obtain⟨b,hb,eb⟩:=hw.att he hx;have dV:=(T.bS a ha ta).1;have h1:=hw.lt hb;rw[hfr,dV] at h1;have h2:=hw.le a ha;have h3:g lw a<=g lw e1:=by
  by_cases k:g lw b<T.ay (T.fr a)
  .have:=hw.low ha (Hx ha ta he hfr hb (by rw[<-hw.back hb];exact k))
   omega
  .omega
 have h4:g lw e1<=g lw a:=by
  by_cases k:g lw a<T.ay (T.fr a)
  .obtain⟨c,hc,ec⟩:=hw.ex a ha k
   obtain⟨f,hf,ff,rf⟩:=zI ha ta hc;have:=hmin f hf ff;have:=hw.low hf rf;rw[hw.back rf] at this;omega
  .omega
 omega
theorem Ja:∀{l:List Nat},nh lw l->(∀x∈l,g lw x<=h)->∀x,x∈l.dropWhile (gM lw h)↔x∈l/\g lw x≠h
 |[],_,_,x=>by simp
 |y::l,hs,hm,x=>by
  have hs':=acE.1 hs;by_cases e:g lw y=h
  .rw[adG (by simp[gM,e]),Ja hs'.2 (fun z hz=>hm z (aak _ hz)) x]
   constructor
   .exact fun k=>⟨aak _ k.1,k.2⟩
   .rintro⟨k1,k2⟩
    rcases aaj.1 k1 with rfl|k1
    .exact absurd e k2
    .exact⟨k1,k2⟩
  .rw[adx (by simp[gM,e])]
   refine⟨fun k=>⟨k,?_⟩,fun k=>k.1⟩;have:=hm y aai;rcases aaj.1 k with rfl|k
   .exact e
   .have:=hs'.1 x k
    omega
theorem Um {p:cO} (hm:∀x∈p.1++p.2,g lw x<=h) (hn:¬kg lw h p=true):∃z∈p.1++p.2,g lw z<h:=abO fun k=>hn (by
 unfold kg;rw[acv];refine⟨gH.2 fun x hx=> ?_,gH.2 fun x hx=> ?_⟩
 .have h1:=hm x (aci _ hx)
  have h2:¬g lw x<h:=fun q=>k ⟨x,aci _ hx,q⟩
  omega
 .have h1:=hm x (acd _ hx)
  have h2:¬g lw x<h:=fun q=>k ⟨x,acd _ hx,q⟩
  omega)
theorem xF:∀{RG:List cO},GR lw RG->(∀p∈RG,nh lw p.1/\nh lw p.2)->(∀x∈cF RG,g lw x<=h)->∀x,x∈cF (dz lw h RG)↔x∈cF RG/\g lw x≠h
 |[],_,_,_,x=>by simp[dz,cF]
 |p::ps,hm,hs,hle,x=>by
  have hm':=acE.1 hm;unfold dz;have hp:∀x∈p.1++p.2,g lw x<=h:=fun x hx=>hle x (by rw[aB,<-ace];exact aci _ hx)
  by_cases e:kg lw h p=true
  .rw[if_pos e,xF hm'.2 (fun q hq=>hs q (aak _ hq)) (fun x hx=>hle x (by rw[aB];simp[hx])) x]
   unfold kg at e;rw[acv] at e;rw[aB];simp only[aam];constructor
   .exact fun k=>⟨.inr (.inr k.1),k.2⟩
   .rintro⟨k|k|k,k2⟩
    .exact absurd (gH.1 e.1 x k) k2
    .exact absurd (gH.1 e.2 x k) k2
    .exact⟨k,k2⟩
  .rw[if_neg e,aB,aB]
   dsimp only;simp only[aam];rw[Ja (hs p aai).1 (fun y hy=>hp y (by simp[hy])),Ja (hs p aai).2 (fun y hy=>hp y (by simp[hy]))];obtain⟨z,hz,gz⟩:=Um hp e;have jJ:∀y∈cF ps,g lw y≠h:=fun y hy=>by
    obtain⟨q,hq,NW⟩:=bB.1 hy;have:=hm'.1 q hq z hz y (aam.2 NW);omega
   constructor
   .rintro(k|k|k)
    .exact⟨.inl k.1,k.2⟩
    .exact⟨.inr (.inl k.1),k.2⟩
    .exact⟨.inr (.inr k),jJ x k⟩
   .rintro⟨k|k|k,k2⟩
    .exact .inl ⟨k,k2⟩
    .exact .inr (.inl ⟨k,k2⟩)
    .exact .inr (.inr k)
theorem xE:∀{RG:List cO},(∀x∈cF RG,g lw x<=h)->∀q∈dz lw h RG,∃p∈RG,List.Sublist q.1 p.1/\List.Sublist q.2 p.2
 |[],_,q,hq=>by simp[dz] at hq
 |p::ps,hle,q,hq=>by
  unfold dz at hq
  split at hq
  .obtain⟨p',k1,k2⟩:=xE (fun x hx=>hle x (by rw[aB];simp[hx])) q hq
   exact⟨p',aak _ k1,k2⟩
  .rcases aaj.1 hq with rfl|hq
   .exact⟨p,aai,adZ _,adZ _⟩
   .exact⟨q,aak _ hq,List.Sublist.refl _,List.Sublist.refl _⟩
theorem GL:∀{RG:List cO},(∀p∈RG,¬(p.1=[]/\p.2=[]))->∀q∈dz lw h RG,¬(q.1=[]/\q.2=[])
 |[],_,q,hq=>by simp[dz] at hq
 |p::ps,hne,q,hq=>by
  unfold dz at hq
  split at hq
  .exact GL (fun p hp=>hne p (aak _ hp)) q hq
  .rename_i hn
   rcases aaj.1 hq with rfl|hq
   .rintro⟨k1,k2⟩
    dsimp only at k1 k2;refine hn ?_;unfold kg;rw[acv];exact⟨gH.2 (Cj.1 k1),gH.2 (Cj.1 k2)⟩
   .exact hne q (aak _ hq)
theorem Bh:∀{RG:List cO},GR lw RG->GR lw (dz lw h RG)
 |[],_=>List.Pairwise.nil
 |p::ps,hm=>by
  have hm':=acE.1 hm;unfold dz
  split
  .exact Bh hm'.2
  .refine acE.2 ⟨fun q hq x hx y hy=>hm'.1 q hq x ?_ y hy,hm'.2⟩
   dsimp only at hx;rcases aam.1 hx with k|k
   .exact aci _ ((adZ _).subset k)
   .exact acd _ ((adZ _).subset k)
theorem sq {rest:List cO} (hr:∀p∈rest,¬(p.1=[]/\p.2=[])) (hl:∀x∈cF rest,g lw x<h):∀(RG:List cO),dz lw h (RG++rest)=dz lw h RG++rest
 |[]=>by
  cases rest with
  |nil=>rfl
  |cons p ps=>
   have hp:∀x,x∈p.1\/x∈p.2->g lw x<h:=fun x hx=>hl x (bB.2 ⟨p,aai,hx⟩)
   have keep:∀{l:List Nat},(∀x∈l,g lw x<h)->l.dropWhile (gM lw h)=l:=fun {l} hk=>by
    cases l with
    |nil=>rfl
    |cons x l=>
     have:=hk x aai;rw[adx (by simp[gM];omega)]
   have hn:¬kg lw h p=true:=fun k=>by
    unfold kg at k;rw[acv] at k;refine hr p aai ⟨?_,?_⟩
    .cases h1:p.1 with
     |nil=>rfl
     |cons x l=>
      have:=gH.1 k.1 x (by rw[h1];simp);have:=hp x (.inl (by rw[h1];simp));omega
    .cases h1:p.2 with
     |nil=>rfl
     |cons x l=>
      have:=gH.1 k.2 x (by rw[h1];simp);have:=hp x (.inr (by rw[h1];simp));omega
   show dz lw h (p::ps)=p::ps;unfold dz;rw[if_neg hn,keep (fun x hx=>hp x (.inl hx)),keep (fun x hx=>hp x (.inr hx))]
 |p::RG=>by
  rw[acZ];unfold dz
  split
  .exact sq hr hl RG
  .rfl
theorem kY.trim (hw:lI T lw) (hD:kY T lw S D RG) {a:Nat} (ha:a<m) (ta:T.tree a=true) (hmem:∀f,f∈D↔f<m/\T.fr f=T.go a) (hmin:∀e1,D.head? =some e1->∀f∈D,g lw e1<=g lw f):
 kY T lw S [a] (dz lw (T.ay (T.fr a)) RG)/\(∀x∈cF RG,g lw x<=T.ay (T.fr a))/\∀b0,(dz lw (T.ay (T.fr a)) RG).getLast? =some ([],[b0])->RG.getLast? =some ([],[b0]):=by
 have dV:=(T.bS a ha ta).1;have hle:∀x∈cF RG,g lw x<=T.ay (T.fr a):=fun x hx=>by
  obtain⟨f,hf,rf⟩:=hD.mem x hx;have:=hw.lt rf;rw[((hmem f).1 hf).2,dV] at this;omega
 have hmm:=xF hD.mono hD.rq hle;have nu:∀y,y∈cF (dz lw (T.ay (T.fr a)) RG)->T.bu a y:=fun y hy=>by
  obtain⟨k1,k2⟩:=(hmm y).1 hy;obtain⟨f,hf,rf⟩:=hD.mem y k1;have:=hle y k1;exact Hx ha ta ((hmem f).1 hf).1 ((hmem f).1 hf).2 rf (by rw[<-hw.back rf];omega)
 have Gx:(∃x,T.bu a x)->∃fU b0,RG=fU++[([],[b0])]/\T.bu a b0/\g lw b0=g lw a/\(∀y∈cF fU,g lw a<g lw y)/\g lw b0<T.ay (T.fr a):=fun ⟨x,hx⟩=>by
  obtain⟨f,hf,ff,rf⟩:=zI ha ta hx;have hfD:=(hmem f).2 ⟨hf,ff⟩;obtain⟨e1,h1⟩:∃e1,D.head? =some e1:=by
   cases D with
   |nil=>simp at hfD
   |cons d D=>exact⟨d,rfl⟩
  have aM:e1∈D:=adM (by rw[h1];rfl);obtain⟨e1m,e1f⟩:=(hmem e1).1 aM;have hmn:=hmin e1 h1;have r1:∃x,T.bu e1 x:=by
   have h2:=hw.low hf rf;have h3:=hw.lt rf;have h4:=hmn f hfD;obtain⟨b,hb,_⟩:=hw.ex e1 e1m (by rw[e1f,<-ff];omega);exact⟨b,hb⟩
  have hla:=Dw hw ha ta e1m e1f (fun f hf ff=>hmn f ((hmem f).2 ⟨hf,ff⟩)) r1;obtain⟨fU,b0,k1,k2,k3,k4⟩:=hD.bot e1 h1 r1;have h5:=hw.low ha hx;have h6:=hw.lt hx;have h7:g lw b0<T.ay (T.fr a):=by omega
  exact⟨fU,b0,k1,Hx ha ta e1m e1f k2 (by rw[<-hw.back k2];exact h7),by omega,fun y hy=>by have:=k4 y hy;omega,h7⟩
 refine⟨⟨fun y hy=>⟨a,by simp,nu y hy⟩,fun f hf x hx=> ?_,Bh hD.mono,fun q hq=> ?_,GL hD.ne,fun sd aQ q hq=> ?_,fun e1 h1 hx=> ?_⟩,hle,fun b0 hb=> ?_⟩
 .rw[aan.1 hf] at hx
  obtain⟨f',hf',ff',rf'⟩:=zI ha ta hx;obtain⟨y,k1,k2,k3⟩:=hD.rep f' ((hmem f').2 ⟨hf',ff'⟩) x rf';have:=hw.lt hx;exact⟨y,(hmm y).2 ⟨k1,by omega⟩,k2,k3⟩
 .obtain⟨p,hp,k1,k2⟩:=xE hle q hq
  exact⟨(hD.rq p hp).1.sublist k1,(hD.rq p hp).2.sublist k2⟩
 .obtain⟨p,hp,k1,k2⟩:=xE hle q hq
  obtain⟨f1,f2,f3⟩:=hD.I1 sd aQ p hp;exact⟨fun x hx y hy=>f1 x (k1.subset hx) y (k1.subset hy),fun x hx y hy=>f2 x (k2.subset hx) y (k2.subset hy),fun x hx y hy=>f3 x (k1.subset hx) y (k2.subset hy)⟩
 .obtain rfl:a=e1:=by simpa using h1
  obtain⟨fU,b0,rfl,k2,k3,k4,k5⟩:=Gx hx;have e9:=sq (lw:=lw) (h:=T.ay (T.fr a)) (rest:=[([],[b0])]) (fun p hp=>by rw[aan.1 hp];simp) (fun x hx=>by
   have:x=b0:=by simpa[cF] using hx
   rw[this];exact k5) fU
  refine⟨dz lw (T.ay (T.fr a)) fU,b0,e9,k2,k3,fun y hy=>k4 y ?_⟩;have hm2:=(acT.1 hD.mono).1;exact((xF hm2 (fun p hp=>hD.rq p (by simp[hp])) (fun x hx=>hle x (by rw[eE];simp[hx])) y).1 hy).1
 .have hin:b0∈cF (dz lw (T.ay (T.fr a)) RG):=bB.2 ⟨([],[b0]),List.mem_of_getLast? hb,.inr (by simp)⟩
  obtain⟨fU,b1,rfl,k2,k3,k4,k5⟩:=Gx ⟨b0,nu b0 hin⟩;have e9:=sq (lw:=lw) (h:=T.ay (T.fr a)) (rest:=[([],[b1])]) (fun p hp=>by rw[aan.1 hp];simp) (fun x hx=>by
   have:x=b1:=by simpa[cF] using hx
   rw[this];exact k5) fU
  rw[e9] at hb;simpa using hb
theorem kY.Xd (hw:lI T lw) {a:Nat} (ha:a<m) (h:kY T lw S [a] RG) {b c:Nat} (hb:T.bT b a) (hc:T.bT c a):∀sd,S sd->sd b=sd c:=by
 obtain⟨fU,b0,rfl,k2,k3,k4⟩:=h.bot a rfl ⟨b,hb.1⟩;have key:∀{x:Nat},T.bT x a->∀sd,S sd->sd x=sd b0:=fun {x} hx sd aQ=>by
  have e1:g lw x=g lw a:=by
   obtain⟨z,rz,ez⟩:=hw.att ha hx.1;have h1:=hx.2 z rz;rw[<-hw.back hx.1,<-hw.back rz] at h1;have:=hw.low ha hx.1;omega
  obtain⟨y,m1,m2,m3⟩:=h.rep a (by simp) x hx.1;rw[eE] at m1;rcases aam.1 m1 with m1|m1
  .have:=k4 y m1
   omega
  .have:y=b0:=by simpa[cF] using m1
   rw[m3 sd aQ,this]
 exact fun sd aQ=>(key hb sd aQ).trans (key hc sd aQ).symm
end
end Lt
end
end Go.Proofs.YtbhdibflpjhpaaaGreat
