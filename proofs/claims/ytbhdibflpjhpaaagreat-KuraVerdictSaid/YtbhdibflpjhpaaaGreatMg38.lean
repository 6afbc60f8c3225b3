import Derived.Test.YtbhdibflpjhpaaaGreatMg37
namespace Go.Proofs.YtbhdibflpjhpaaaGreat
section
namespace Lt
open Pl
structure dU {n m:Nat} (T:DF n m) (E:Env) (oe:Nat->List Nat) (hf:Nat->Int):Prop where
 lw:lI T E.lw
 h0:∀e,e<m->0<=hf e
 h2:∀e,e<m->(hf e).tdiv 2=(e:Int)
 «to» :∀e,e<m->Rj E (hf e)=some (T.go e:Int)
 fr:∀e,e<m->OJ E (hf e)=some (T.fr e:Int)
 outs:∀v,v<n->E.outs[v]? =some ((oe v).map hf)
 mem:∀v e,e∈oe v↔e<m/\T.fr e=v
 nd:∀v,(oe v).Nodup
 zM:∀v,List.Pairwise (Xq T E.lw) (oe v)
 ay:∀v,v<n->bF E.ay (v:Int)=some (T.ay v)
 par:∀v,v<n->(∃a,a<m/\T.tree a=true/\T.go a=v/\bF E.par (v:Int)=some (hf a))\/((∀a,a<m->T.tree a=true->T.go a≠v)/\bF E.par (v:Int)=some (-1))
section
variable {n m:Nat} {T:DF n m} {E:Env} {oe:Nat->List Nat} {hf:Nat->Int} {seen:Nat->Prop} {RG:List cO}
theorem dU.inj (h:dU T E oe hf) {e f:Nat} (he:e<m) (hf':f<m) (k:hf e=hf f):e=f:=by
 have h1:=h.h2 e he;have h2:=h.h2 f hf';rw[k,h2] at h1;omega
theorem dU.Uc (h:dU T E oe hf) {a:Nat} (ha:a<m) (ta:T.tree a=true):bF E.par (T.go a:Int)=some (hf a):=by
 rcases h.par (T.go a) (T.lt a ha).2 with ⟨b,k1,k2,k3,k4⟩|⟨k1,_⟩
 .obtain rfl:=T.one b a k1 ha k2 ta k3
  exact k4
 .exact absurd rfl (k1 a ha ta)
theorem dU.back (h:dU T E oe hf) {e:Nat} (he:e<m):back? E (hf e)=some (!T.tree e):=by
 unfold back?;rw[h.to e he];show(bF E.par (T.go e:Int)).map _=_;rcases h.par (T.go e) (T.lt e he).2 with ⟨b,k1,k2,k3,k4⟩|⟨k1,k2⟩
 .rw[k4]
  show some (decide (hf b≠hf e))=_;cases te:T.tree e with
  |true=>
   obtain rfl:=T.one b e k1 he k2 te k3;simp
  |false=>
   have:hf b≠hf e:=fun k=>by
    obtain rfl:=h.inj k1 he k;rw[te] at k2;cases k2
   simp[this]
 .rw[k2]
  show some (decide (-1≠hf e))=_;have:=h.h0 e he;cases te:T.tree e with
  |true=>exact absurd rfl (k1 e he te)
  |false=>
   have:(-1:Int)≠hf e:=by omega
   simp[this]
theorem dU.beg (h:dU T E oe hf) {e:Nat} (he:e<m):Bf E (hf e)=some (T.ay (T.fr e)):=by
 unfold Bf;rw[h.fr e he];exact h.ay _ (T.lt e he).1
theorem take_succ {l:List Nat} {k e:Nat} (h:l[k]? =some e):l.take (k+1)=l.take k++[e]:=by
 rw[ade,h];rfl
theorem zC {l:List Nat} {k e:Nat} (hn:l.Nodup) (h:l[k]? =some e):e∉l.take k:=fun hm=>by
 obtain⟨h1,h2⟩:=aaf.1 h;rw[<-adL k l,adj h1,h2] at hn;exact(acy.1 hn).2.2 e hm e aai rfl
structure Xm (T:DF n m) (E:Env) (D:List Nat) (v e:Nat) (st:TS) (seen:Nat->Prop) (S:(Nat->Bool)->Prop) (rest:List cO) (aC gC:List Int) (fU:List cO):Prop where
 lk:Lk m aC st.turn seen (fU++rest)
 sat:∀sd,Sat aC st.turn seen (fU++rest) sd->S sd
 wR:kY T E.lw (Sat aC st.turn seen (fU++rest)) (D++[e]) fU
 len:gC.length=m
 lB:∀x,¬(T.tree x=true/\T.go x=v)->g gC x=g st.lowest x
 lw:∀a,a<m->T.tree a=true->T.go a=v->∀b0,fU.getLast? =some ([],[b0])->g gC a=(b0:Int)
 CZ:∀f∈D,∀sd,Sat aC st.turn seen (fU++rest) sd->O6 T f e sd
theorem CV (hE:dU T E oe hf) {st:TS} {v k e:Nat} {ws:List kC} {SG rest:List cO} (zZ:(oe v)[k]? =some e)
 (hst:st.stk=(SG++(RG++rest)).map cU) {vis:kC} (bD:st.way=vis::ws) (Gx:vis.2.2=top ((RG++rest).map cU)) (hk:Lk m st.like st.turn seen (SG++(RG++rest)))
 (hD:kY T E.lw (Sat st.like st.turn seen (SG++(RG++rest))) ((oe v).take k) RG) (he:kY T E.lw (Sat st.like st.turn seen (SG++(RG++rest))) [e] SG) (eO:st.lowest.length=m)
 (hlD:∀a,a<m->T.tree a=true->T.go a=v->∀b0,RG.getLast? =some ([],[b0])->g st.lowest a=(b0:Int)) (hle:∀b0,SG.getLast? =some ([],[b0])->g st.lowest e=(b0:Int)):
 (settle E st (hf e)=some none/\∀sd,¬T.LR sd)\/
 ∃aC gC fU,settle E st (hf e)=some (some { st with like:=aC,lowest:=gC,stk:=(fU++rest).map cU })/\Xm T E ((oe v).take k) v e st seen (Sat st.like st.turn seen (SG++(RG++rest))) rest aC gC fU:=by
 obtain⟨hem,yA⟩:=(hE.mem v e).1 (aah zZ);have eM:v<n:=by rw[<-yA];exact(T.lt e hem).1
 have hw:=hE.lw;have BQ:∀f∈(oe v).take k,f<m/\T.fr f=v:=fun f hf=>(hE.mem v f).1 (aeF hf)
 unfold settle;rw[hE.h2 e hem,nw (by rw[hw.len];exact hem),hE.beg hem,yA];dsimp only;by_cases hr:g E.lw e<T.ay v
 .rw[if_pos hr]
  have nu:∃x,T.bu e x:=by
   obtain⟨x,hx,_⟩:=hw.ex e hem (by rw[yA];exact hr);exact⟨x,hx⟩
  obtain⟨x,hx⟩:=nu;obtain⟨a,jK,ta,ga⟩:=C5 hem hx;rw[yA] at ga;rw[hE.fr e hem,yA];have e1:(some (v:Int)).bind (bF E.par)=some (hf a):=by
   show bF E.par (v:Int)=_;rw[<-ga];exact hE.Uc jK ta
  have e2:((some (v:Int)).bind fun v=>E.outs[v.toNat]?.bind fun l=>l[0]?)=((oe v).map hf)[0]? :=by
   show(E.outs[((v:Int)).toNat]?.bind fun l=>l[0]?)=_;rw[show((v:Int)).toNat=v from by simp,hE.outs v eM];rfl
  rw[e1,e2,abU];cases k with
  |zero=>
   rw[zZ];show(_\/_);dsimp only[Option.map];rw[if_pos rfl,nw (by rw[eO];exact hem),hE.h2 a jK];dsimp only;rw[nY (by rw[eO];exact jK)];have hRG:RG=[]:=hD.empty fun f hf=>by simp at hf
   subst hRG;rw[acs] at hst hk hD he ⊢;refine .inr ⟨st.like,st.lowest.set a (g st.lowest e),SG,?_,hk,fun sd h=>h,?_,by rw[acJ];exact eO,fun x hx=>bG fun q=>hx (by rw[q];exact⟨ta,ga⟩),fun a' ha' CN OG b0 hb=> ?_,fun f hf=>by simp at hf⟩
   .rw[<-hst]
   .simpa using he
   .obtain rfl:=T.one a' a ha' jK CN ta (OG.trans ga.symm)
    rw[fZ (by rw[eO];exact jK)];exact hle b0 hb
  |succ k=>
   obtain⟨d,hd⟩:∃d,(oe v)[0]? =some d:=⟨_,aac (by
    have:=(aaf.1 zZ).1;omega)⟩
   rw[hd];dsimp only[Option.map];have VD:=(hE.mem v d).1 (aah hd);have hlen:=(aaf.1 zZ).1;have hnd:d≠e:=fun q=>by
    refine zC (hE.nd v) zZ ?_;rw[<-q];refine adM ?_;rw[List.head?_take,if_neg (by omega),aey,hd];rfl
   rw[if_neg (fun q=>hnd (hE.inj VD.1 hem q)),hE.h2 a jK];have adf:((oe v).take (k+1)).head? =some d:=by
    rw[List.head?_take,if_neg (by omega),aey];exact hd
   have ahe:∀f∈(oe v).take (k+1),Xq T E.lw f e:=fun f hf=>by
    have h1:=hE.zM v;rw[<-adL (k+1) (oe v)] at h1;refine(acT.1 h1).2.2 f hf e ?_;rw[adj hlen,(aaf.1 zZ).2];exact aai
   have hmin:∀f∈oe v,g E.lw d<=g E.lw f:=fun f hf=>by
    have h1:=hE.zM v;cases Oa:oe v with
    |nil=>rw[Oa] at hf;simp at hf
    |cons d' l=>
     rw[Oa] at hd h1 hf;obtain rfl:d'=d:=by simpa using hd
     rcases aaj.1 hf with rfl|hf
     .exact adA _
     .exact((acE.1 h1).1 f hf).1
   have hrd:∃x,T.bu d x:=by
    have h1:=hmin e (aah zZ);obtain⟨b,hb,_⟩:=hw.ex d VD.1 (by rw[VD.2];omega);exact⟨b,hb⟩
   have hla:=Dw hw jK ta VD.1 (VD.2.trans ga.symm) (fun f hf ff=>hmin f ((hE.mem v f).2 ⟨hf,ff.trans ga⟩)) hrd;rcases Fu (a:=a) (e1:=d) hw hst bD Gx hk (fun sd=>Iff.rfl) hD he hem (fun f hf=>(BQ f hf).1) ⟨x,hx⟩ (fun f hf=>⟨(BQ f hf).2.trans yA.symm,fun q=>zC (hE.nd v) zZ (by rw[<-q];exact hf)⟩) adf ahe jK hla (fun b0 hb=>by rw[nw (by rw[eO];exact jK),hlD a jK ta ga b0 hb]) (fun f hf=>hmin f (aeF hf)) with h|⟨aC,fU,h1,h2,h3,h4,h5,h6⟩
   .exact .inl h
   .exact .inr ⟨aC,st.lowest,fU,h1,h2,h3,h4,eO,fun x _=>rfl,fun a' ha' CN OG b0 hb=>hlD a' ha' CN OG b0 (h5 b0 hb),h6⟩
 .rw[if_neg hr]
  have hno:∀x,¬T.bu e x:=fun x hx=>by
   have h1:=hw.low hem hx;have h2:=hw.lt hx;rw[yA] at h2;omega
  have hSG:SG=[]:=he.empty fun f hf=>by rw[aan.1 hf];exact hno
  subst hSG;rw[acs] at hst hk hD he ⊢;refine .inr ⟨st.like,st.lowest,RG,by rw[<-hst],hk,fun sd h=>h,hD.none hno,eO,fun x _=>rfl,hlD,fun f hf sd _=>⟨fun b c _ _ ⟨x,hx,_⟩=>absurd hx (hno x),fun b c hb=>absurd hb (hno b),fun b c _ ⟨x,hx,_⟩=>absurd hx (hno x)⟩⟩
end
end Lt
end
section
namespace Lt
open Pl
structure Lv where
 v:Nat
 k:Nat
 RG:List cO
def flat (ls:List Lv):List cO:=ls.flatMap Lv.RG
theorem bR (l:Lv) (ls:List Lv):flat (l::ls)=l.RG++flat ls:=by simp[flat]
def cE {n m:Nat} (T:DF n m) (G:List Nat) (x:Nat):Prop:=x∈G/\T.tree x=false
structure Mb {n m:Nat} (T:DF n m) (E:Env) (oe:Nat->List Nat) (lowest:List Int) (S:(Nat->Bool)->Prop) (l:Lv) (k:Nat):Prop where
 lt:l.v<n
 wR:kY T E.lw S ((oe l.v).take k) l.RG
 lw:∀a,a<m->T.tree a=true->T.go a=l.v->∀b0,l.RG.getLast? =some ([],[b0])->g lowest a=(b0:Int)
 CZ:∀e∈(oe l.v).take k,∀f∈(oe l.v).take k,e≠f->∀sd,S sd->O6 T e f sd
def B5 {n m:Nat} (T:DF n m) (E:Env) (oe:Nat->List Nat) (lowest:List Int) (S:(Nat->Bool)->Prop):List Lv->List kC->Nat->Prop
 |[],[],v=>∀a,a<m->T.tree a=true->T.go a≠v
 |l::ls,w::ws,v=>(∃c k,l.k=k+1/\(oe l.v)[k]? =some c/\T.tree c=true/\T.go c=v/\Mb T E oe lowest S l k)/\w=((l.v:Int),(l.k:Int),top ((l.RG++flat ls).map cU))/\B5 T E oe lowest S ls ws l.v
 |_,_,_=>False
def Way {n m:Nat} (T:DF n m) (E:Env) (oe:Nat->List Nat) (lowest:List Int) (S:(Nat->Bool)->Prop):List Lv->List kC->Prop
 |[],[]=>True
 |l::ls,w::ws=>(w.1=(l.v:Int)/\w.2.1=(l.k:Int))/\l.k<=(oe l.v).length/\Mb T E oe lowest S l l.k/\B5 T E oe lowest S ls ws l.v
 |_,_=>False
structure Inv {n m:Nat} (T:DF n m) (E:Env) (oe:Nat->List Nat) (st:TS) (fin:Nat->Prop) (G:List Nat) (ls:List Lv):Prop where
 lk:Lk m st.like st.turn (cE T G) (flat ls)
 stk:st.stk=(flat ls).map cU
 len:st.lowest.length=m
 way:Way T E oe st.lowest (Sat st.like st.turn (cE T G) (flat ls)) ls st.way
 Lx:G.Nodup
 gi:∀e,e∈G↔e<m/\(fin (T.fr e)\/∃l∈ls,l.v=T.fr e/\e∈(oe l.v).take l.k)
 vi:∀v,(fin v\/∃l∈ls,l.v=v)->∀e,e<m->T.tree e=true->T.go e=v->e∈G
 ln:(ls.map Lv.v).Nodup
 lf:∀l∈ls,¬fin l.v
 ti:∀e∈G,T.tree e=true->fin (T.go e)\/∃l∈ls,l.v=T.go e
 r1:∀v,fin v->∀e f,e<m->f<m->T.fr e=v->T.fr f=v->e≠f->∀sd,Sat st.like st.turn (cE T G) (flat ls) sd->O6 T e f sd
 r2:∀a,a<m->T.tree a=true->fin (T.go a)->∀sd,Sat st.like st.turn (cE T G) (flat ls) sd->∀b c,T.bT b a->T.bT c a->sd b=sd c
section
variable {n m:Nat} {T:DF n m} {E:Env} {oe:Nat->List Nat} {hf:Nat->Int} {lowest gC:List Int} {S S':(Nat->Bool)->Prop} {l:Lv} {ls:List Lv} {ws:List kC} {v k:Nat}
theorem Mb.more (h:Mb T E oe lowest S l k) (hS:∀sd,S' sd->S sd) (hl:∀x,T.tree x=true->T.go x=l.v->g gC x=g lowest x):Mb T E oe gC S' l k:=
 ⟨h.lt,h.wR.more hS,fun a ha ta ga b0 hb=>by rw[hl a ta ga];exact h.lw a ha ta ga b0 hb,fun e he f hf hne sd aQ=>h.CZ e he f hf hne sd (hS sd aQ)⟩
theorem B5.more (hS:∀sd,S' sd->S sd):∀{ls:List Lv} {ws:List kC} {v:Nat},B5 T E oe lowest S ls ws v->(∀l∈ls,∀x,T.tree x=true->T.go x=l.v->g gC x=g lowest x)->B5 T E oe gC S' ls ws v
 |[],[],_,h,_=>h
 |l::ls,w::ws,_,h,hl=>by
  obtain⟨⟨c,k,h1,h2,h3,h4,h5⟩,h6,h7⟩:=h;exact⟨⟨c,k,h1,h2,h3,h4,h5.more hS (hl l aai)⟩,h6,B5.more hS h7 fun l' hl'=>hl l' (aak _ hl')⟩
 |[],_::_,_,h,_=>h.elim
 |_::_,[],_,h,_=>h.elim
theorem B5.low (hE:dU T E oe hf):∀{ls:List Lv} {ws:List kC} {v:Nat},B5 T E oe lowest S ls ws v->v<n->(∀x∈cF (flat ls),g E.lw x+1<T.ay v)/\(∀p∈flat ls,¬(p.1=[]/\p.2=[]))/\∀p∈flat ls,nh E.lw p.1/\nh E.lw p.2
 |[],[],_,_,_=>⟨fun x hx=>by simp[flat,cF] at hx,fun p hp=>by simp[flat] at hp,fun p hp=>by simp[flat] at hp⟩
 |l::ls,w::ws,v,h,hv=>by
  obtain⟨⟨c,k,h1,h2,h3,h4,h5⟩,h6,h7⟩:=h;obtain⟨cm,cf⟩:=(hE.mem l.v c).1 (aah h2);have dV:=(T.bS c cm h3).1;rw[h4,cf] at dV;obtain⟨i1,i2,i3⟩:=B5.low hE h7 h5.lt;rw[bR];refine⟨fun x hx=> ?_,fun p hp=> ?_,fun p hp=> ?_⟩
  .rw[eE] at hx
   rcases aam.1 hx with k1|k1
   .obtain⟨f,hf',rf⟩:=h5.wR.mem x k1
    have:=hE.lw.lt rf;rw[((hE.mem l.v f).1 (aeF hf')).2] at this;omega
   .have:=i1 x k1
    omega
  .rcases aam.1 hp with k1|k1
   .exact h5.wR.ne p k1
   .exact i2 p k1
  .rcases aam.1 hp with k1|k1
   .exact h5.wR.rq p k1
   .exact i3 p k1
 |[],_::_,_,h,_=>h.elim
 |_::_,[],_,h,_=>h.elim
theorem ru {G:List Nat} {e:Nat} (te:T.tree e=true):cE T (e::G)=cE T G:=funext fun x=>propext ⟨fun ⟨h1,h2⟩=>⟨(aaj.1 h1).elim (fun q=>by rw[q,te] at h2;cases h2) id,h2⟩,fun ⟨h1,h2⟩=>⟨aak _ h1,h2⟩⟩
theorem CY {G:List Nat} {e:Nat} (te:T.tree e=false):(fun x=>cE T G x\/x=e)=cE T (e::G):=funext fun x=>propext ⟨fun h=>h.elim (fun h=>⟨aak _ h.1,h.2⟩) (fun h=>by rw[h];exact⟨aai,te⟩),fun ⟨h1,h2⟩=>(aaj.1 h1).elim .inr fun h1=> .inl ⟨h1,h2⟩⟩
theorem Inv.fresh {st:TS} {fin:Nat->Prop} {G:List Nat} {e:Nat} (hE:dU T E oe hf) (h:Inv T E oe st fin G (l::ls)) (hk:(oe l.v)[l.k]? =some e):e∉G:=fun hG=>by
 obtain⟨em,ef⟩:=(hE.mem l.v e).1 (aah hk);rcases((h.gi e).1 hG).2 with k|⟨l',h1,h2,h3⟩
 .rw[ef] at k
  exact h.lf l aai k
 .rcases aaj.1 h1 with rfl|h1
  .exact zC (hE.nd _) hk h3
  .have:=(acr.1 h.ln).1
   exact this (abT.2 ⟨l',h1,h2.trans ef⟩)
theorem gi_step {fin:Nat->Prop} {G:List Nat} {e:Nat} {RG fU:List cO} (hE:dU T E oe hf) (hk:(oe v)[k]? =some e) (h:∀x,x∈G↔x<m/\(fin (T.fr x)\/∃l∈(⟨v,k,RG⟩::ls:List Lv),l.v=T.fr x/\x∈(oe l.v).take l.k)):∀x,x∈e::G↔x<m/\(fin (T.fr x)\/∃l∈(⟨v,k+1,fU⟩::ls:List Lv),l.v=T.fr x/\x∈(oe l.v).take l.k):=fun x=>by
 obtain⟨em,ef⟩:=(hE.mem v e).1 (aah hk);rw[aaj,h x];constructor
 .rintro(rfl|⟨h1,h2⟩)
  .refine⟨em,.inr ⟨_,aai,ef.symm,?_⟩⟩
   dsimp only;rw[take_succ hk];simp
  .refine⟨h1,h2.imp id ?_⟩
   rintro⟨l,k1,k2,k3⟩;rcases aaj.1 k1 with rfl|k1
   .refine⟨_,aai,k2,?_⟩
    dsimp only at k3 ⊢;rw[take_succ hk];exact aci _ k3
   .exact⟨l,aak _ k1,k2,k3⟩
 .rintro⟨h1,h2⟩
  rcases h2 with h2|⟨l,k1,k2,k3⟩
  .exact .inr ⟨h1,.inl h2⟩
  .rcases aaj.1 k1 with rfl|k1
   .dsimp only at k2 k3
    rw[take_succ hk] at k3;rcases aam.1 k3 with k3|k3
    .exact .inr ⟨h1,.inr ⟨_,aai,k2,k3⟩⟩
    .exact .inl (aan.1 k3)
   .exact .inr ⟨h1,.inr ⟨l,aak _ k1,k2,k3⟩⟩
def Next (T:DF n m) (E:Env) (oe:Nat->List Nat) (fin:Nat->Prop) (G:List Nat) (ls:List Lv) (r:Option (Option TS)):Prop:=
 (r=some none/\∀sd,¬T.LR sd)\/∃st' fin' G' ls',r=some (some st')/\Inv T E oe st' fin' G' ls'/\2*(m-G'.length)+ls'.length<2*(m-G.length)+ls.length/\(∀v,fin v->fin' v)/\(∀l∈ls,fin' l.v\/∃l'∈ls',l'.v=l.v)/\∀x,(fin' x\/∃l'∈ls',l'.v=x)->fin x\/(∃l∈ls,l.v=x)\/∃a,a<m/\T.tree a=true/\T.go a=x
theorem abk {fin:Nat->Prop} {G:List Nat} {st:TS} (h:Inv T E oe st fin G ls):G.length<=m:=jv h.Lx fun x hx=>((h.gi x).1 hx).1
theorem M7 (hE:dU T E oe hf) {st:TS} {fin:Nat->Prop} {G:List Nat} {e:Nat} {RG:List cO} {w:kC} (h:Inv T E oe st fin G (⟨v,k,RG⟩::ls)) (hw:st.way=w::ws) (hk:(oe v)[k]? =some e) (te:T.tree e=false):
 Next T E oe fin G (⟨v,k,RG⟩::ls) (A7 E { st with way:=((v:Int),(k:Int)+1,top st.stk)::ws } (hf e)):=by
 obtain⟨em,ef⟩:=(hE.mem v e).1 (aah hk);have Oc:=h.fresh hE (e:=e) hk;have bD:=h.way;rw[hw] at bD;obtain⟨-,hkl,hlv,fW⟩:=bD;unfold A7;rw[hE.back em,te];dsimp only;rw[hE.h2 e em,nY (by rw[h.len];exact em)];dsimp only;have IG:¬cE T G e:=fun q=>Oc q.1
 have hlk:=h.lk.push em IG;rw[CY te,bR] at hlk;have agK:Lk m st.like st.turn (cE T (e::G)) ([([],[e])]++(RG++flat ls)):=hlk;have aaF:∀sd,Sat st.like st.turn (cE T (e::G)) ([([],[e])]++(RG++flat ls)) sd->Sat st.like st.turn (cE T G) (flat (⟨v,k,RG⟩::ls)) sd:=fun sd aQ=>by
  rw[bR];refine Sat.push (e:=e) ?_ IG;rw[CY te];exact aQ
 have Qp:∀x,T.tree x=true->g (st.lowest.set e (e:Int)) x=g st.lowest x:=fun x tx=>bG fun q=>by rw[q,te] at tx;cases tx
 rcases CV hE (v:=v) (k:=k) (e:=e) (RG:=RG) (rest:=flat ls) (SG:=[([],[e])]) (ws:=ws) (seen:=cE T (e::G)) (st:={ st with lowest:=st.lowest.set e (e:Int),stk:=(aP,((e:Int),(e:Int)))::st.stk,way:=((v:Int),(k:Int)+1,top st.stk)::ws }) hk
  (by
    show _::st.stk=_;rw[h.stk,bR];rfl) rfl (by rw[h.stk,bR]) agK (hlv.wR.more aaF) (kY.back em te) (by show(st.lowest.set e (e:Int)).length=m;rw[acJ];exact h.len)
  (fun a ha ta ga b0 hb=>by rw[Qp a ta];exact hlv.lw a ha ta ga b0 hb) (fun b0 hb=>by
    have hb':e=b0:=by simpa using hb
    rw[<-hb'];exact fZ (by rw[h.len];exact em)) with ⟨k1,k2⟩|⟨aC,gC,fU,k1,k2⟩
 .exact .inl ⟨k1,k2⟩
 .refine .inr ⟨_,fin,e::G,⟨v,k+1,fU⟩::ls,k1,?_,?_,fun _ q=>q,fun l hl=> ?_,fun x hx=> ?_⟩
  .have Ee:∀sd,Sat aC st.turn (cE T (e::G)) (flat (⟨v,k+1,fU⟩::ls)) sd->Sat st.like st.turn (cE T G) (flat (⟨v,k,RG⟩::ls)) sd:=fun sd aQ=>by
    rw[bR] at aQ;exact aaF sd (k2.sat sd aQ)
   refine⟨?_,?_,k2.len,?_,acr.2 ⟨Oc,h.Lx⟩,gi_step hE hk h.gi,fun x hx y ym ty gy=>aak _ (h.vi x ?_ y ym ty gy),h.ln,fun l hl=> ?_,fun x hx tx=> ?_,fun x hx y z ym zm yf zf hne sd aQ=>h.r1 x hx y z ym zm yf zf hne sd (Ee sd aQ),fun a am ta fa sd aQ=>h.r2 a am ta fa sd (Ee sd aQ)⟩
   .rw[bR];exact k2.lk
   .rw[bR]
   .refine⟨⟨rfl,by simp⟩,?_,⟨hlv.lt,?_,k2.lw,?_⟩,?_⟩
    .have:=(aaf.1 hk).1
     exact this
    .dsimp only
     rw[take_succ hk,bR];exact k2.wR
    .intro x hx y hy hne sd aQ
     dsimp only at hx hy;rw[take_succ hk] at hx hy;have UZ:=Ee sd aQ;rw[bR] at aQ;rcases aam.1 hx with hx|hx<;>rcases aam.1 hy with hy|hy
     .exact hlv.CZ x hx y hy hne sd UZ
     .rw[aan.1 hy]
      exact k2.CZ x hx sd aQ
     .rw[aan.1 hx]
      exact(k2.CZ y hy sd aQ).symm
     .exact absurd ((aan.1 hx).trans (aan.1 hy).symm) hne
    .refine fW.more Ee fun l hl x tx gx=> ?_
     rw[k2.lB x fun q=> ?_]
     .exact Qp x tx
     .have:=(acr.1 h.ln).1
      exact this (abT.2 ⟨l,hl,gx.symm.trans q.2⟩)
   .rcases hx with hx|⟨l,hl,hx⟩
    .exact .inl hx
    .rcases aaj.1 hl with rfl|hl
     .exact .inr ⟨_,aai,hx⟩
     .exact .inr ⟨l,aak _ hl,hx⟩
   .rcases aaj.1 hl with rfl|hl
    .exact h.lf ⟨v,k,RG⟩ aai
    .exact h.lf l (aak _ hl)
   .rcases aaj.1 hx with rfl|hx
    .rw[te] at tx;cases tx
    .rcases h.ti x hx tx with q|⟨l,hl,q⟩
     .exact .inl q
     .rcases aaj.1 hl with rfl|hl
      .exact .inr ⟨_,aai,q⟩
      .exact .inr ⟨l,aak _ hl,q⟩
  .have h1:=abk h
   have h2:(e::G).length<=m:=jv (acr.2 ⟨Oc,h.Lx⟩) fun x hx=>by
    rcases aaj.1 hx with rfl|hx
    .exact em
    .exact((h.gi x).1 hx).1
   simp only[abS] at h2 ⊢;omega
  .rcases aaj.1 hl with rfl|hl
   .exact .inr ⟨_,aai,rfl⟩
   .exact .inr ⟨l,aak _ hl,rfl⟩
  .rcases hx with hx|⟨l,hl,hx⟩
   .exact .inl hx
   .rcases aaj.1 hl with rfl|hl
    .exact .inr (.inl ⟨_,aai,hx⟩)
    .exact .inr (.inl ⟨l,aak _ hl,hx⟩)
end
end Lt
end
section
namespace Lt
open Pl
section
variable {n m:Nat} {T:DF n m} {E:Env} {oe:Nat->List Nat} {hf:Nat->Int} {l:Lv} {ls:List Lv} {ws:List kC} {v k:Nat}
theorem M6 (hE:dU T E oe hf) {st:TS} {fin:Nat->Prop} {G:List Nat} {e:Nat} {RG:List cO} {w:kC} (h:Inv T E oe st fin G (⟨v,k,RG⟩::ls)) (hw:st.way=w::ws) (hk:(oe v)[k]? =some e) (te:T.tree e=true):
 Next T E oe fin G (⟨v,k,RG⟩::ls) (A7 E { st with way:=((v:Int),(k:Int)+1,top st.stk)::ws } (hf e)):=by
 obtain⟨em,ef⟩:=(hE.mem v e).1 (aah hk);have Oc:=h.fresh hE (e:=e) hk;have bD:=h.way;rw[hw] at bD;obtain⟨-,hkl,hlv,fW⟩:=bD;have hnew:¬(fin (T.go e)\/∃l∈(⟨v,k,RG⟩::ls:List Lv),l.v=T.go e):=fun q=>Oc (h.vi _ q e em te rfl)
 unfold A7;rw[hE.back em,te];dsimp only[Bool.not_true];rw[hE.to e em];have hfl:flat (⟨T.go e,0,[]⟩::⟨v,k+1,RG⟩::ls)=flat (⟨v,k,RG⟩::ls):=by simp[flat]
 refine .inr ⟨_,fin,e::G,⟨T.go e,0,[]⟩::⟨v,k+1,RG⟩::ls,rfl,⟨?_,?_,h.len,?_,acr.2 ⟨Oc,h.Lx⟩,fun x=> ?_,fun x hx y ym ty gy=> ?_,?_,fun l hl=> ?_,fun x hx tx=> ?_,fun x hx y z ym zm yf zf hne sd aQ=>h.r1 x hx y z ym zm yf zf hne sd ?_,fun a am ta fa sd aQ=>h.r2 a am ta fa sd ?_⟩,?_,fun _ q=>q,fun l hl=> ?_,fun x hx=> ?_⟩
 .rw[hfl,ru te]
  exact h.lk
 .rw[hfl]
  exact h.stk
 .rw[hfl,ru te]
  refine⟨⟨rfl,rfl⟩,ab6 _,⟨(T.lt e em).2,?_,fun a _ _ _ b0 hb=>by simp at hb,fun x hx=>by simp at hx⟩,⟨e,k,rfl,hk,te,rfl,⟨hlv.lt,hlv.wR,hlv.lw,hlv.CZ⟩⟩,?_,fW⟩
  .show kY T E.lw _ ((oe (T.go e)).take 0) []
   rw[List.take_zero];exact kY.nil
  .rw[h.stk,bR]
   simp
 .rw[gi_step (fU:=RG) hE hk h.gi x]
  refine and_congr Iff.rfl (or_congr Iff.rfl ⟨fun ⟨l,h1,h2⟩=>⟨l,aak _ h1,h2⟩,fun ⟨l,h1,h2⟩=> ?_⟩);rcases aaj.1 h1 with rfl|h1
  .have:=h2.2
   simp at this
  .exact⟨l,h1,h2⟩
 .rcases hx with hx|⟨l,hl,hx⟩
  .exact aak _ (h.vi x (.inl hx) y ym ty gy)
  .rcases aaj.1 hl with rfl|hl
   .dsimp only at hx
    obtain rfl:=T.one y e ym em ty te (gy.trans hx.symm);exact aai
   .refine aak _ (h.vi x (.inr ?_) y ym ty gy)
    rcases aaj.1 hl with rfl|hl
    .exact⟨⟨v,k,RG⟩,aai,hx⟩
    .exact⟨l,aak _ hl,hx⟩
 .show(T.go e::v::ls.map Lv.v).Nodup
  refine acr.2 ⟨fun q=>hnew (.inr ?_),h.ln⟩;rcases aaj.1 q with q|q
  .exact⟨⟨v,k,RG⟩,aai,q.symm⟩
  .obtain⟨l,hl,q⟩:=abT.1 q
   exact⟨l,aak _ hl,q⟩
 .rcases aaj.1 hl with rfl|hl
  .exact fun q=>hnew (.inl q)
  .rcases aaj.1 hl with rfl|hl
   .exact h.lf ⟨v,k,RG⟩ aai
   .exact h.lf l (aak _ hl)
 .rcases aaj.1 hx with rfl|hx
  .exact .inr ⟨⟨T.go x,0,[]⟩,aai,rfl⟩
  .rcases h.ti x hx tx with q|⟨l,hl,q⟩
   .exact .inl q
   .rcases aaj.1 hl with rfl|hl
    .exact .inr ⟨⟨v,k+1,RG⟩,by simp,q⟩
    .exact .inr ⟨l,by simp[hl],q⟩
 .rw[hfl,ru te] at aQ
  exact aQ
 .rw[hfl,ru te] at aQ
  exact aQ
 .have h1:=abk h
  have h2:(e::G).length<=m:=jv (acr.2 ⟨Oc,h.Lx⟩) fun x hx=>by
   rcases aaj.1 hx with rfl|hx
   .exact em
   .exact((h.gi x).1 hx).1
  simp only[abS] at h2 ⊢;omega
 .rcases aaj.1 hl with rfl|hl
  .exact .inr ⟨⟨v,k+1,RG⟩,by simp,rfl⟩
  .exact .inr ⟨l,by simp[hl],rfl⟩
 .rcases hx with hx|⟨l,hl,hx⟩
  .exact .inl hx
  .rcases aaj.1 hl with rfl|hl
   .exact .inr (.inr ⟨e,em,te,hx⟩)
   .rcases aaj.1 hl with rfl|hl
    .exact .inr (.inl ⟨⟨v,k,RG⟩,aai,hx⟩)
    .exact .inr (.inl ⟨l,aak _ hl,hx⟩)
theorem l7 (hE:dU T E oe hf) {v x:Nat}:x∈(oe v).take (oe v).length↔x<m/\T.fr x=v:=by
 rw[adI];exact hE.mem v x
theorem KA (hE:dU T E oe hf) {st:TS} {fin:Nat->Prop} {G:List Nat} {RG:List cO} {w:kC} (h:Inv T E oe st fin G (⟨v,k,RG⟩::ls)) (hw:st.way=w::ws) (hk:k=(oe v).length) (hr:∀a,a<m->T.tree a=true->T.go a≠v):
 Next T E oe fin G (⟨v,k,RG⟩::ls) (leave E st):=by
 have bD:=h.way;rw[hw] at bD;obtain⟨⟨w1,-⟩,-,hlv,fW⟩:=bD;have eM:v<n:=hlv.lt;dsimp only at w1 fW;have hls:ls=[]/\ws=[]:=by
  cases ls with
  |nil=>
   cases ws with
   |nil=>exact⟨rfl,rfl⟩
   |cons _ _=>exact fW.elim
  |cons l ls=>
   cases ws with
   |nil=>exact fW.elim
   |cons w' ws=>
    obtain⟨⟨c,k',-,h2,h3,h4,-⟩,-⟩:=fW;exact absurd h4 (hr c ((hE.mem l.v c).1 (aah h2)).1 h3)
 obtain⟨rfl,rfl⟩:=hls;have hpar:bF E.par w.1=some (-1):=by
  rw[w1];rcases hE.par v eM with ⟨a,k1,k2,k3,_⟩|⟨_,k4⟩
  .exact absurd k3 (hr a k1 k2)
  .exact k4
 unfold leave;rw[hw];dsimp only;rw[hpar];dsimp only;rw[if_pos rfl];have hRG:RG=[]:=hlv.wR.empty fun f hf' x hx=>by
  obtain⟨fm,ff⟩:=(hE.mem v f).1 (aeF hf');obtain⟨a,k1,k2,k3⟩:=C5 fm hx;exact hr a k1 k2 (k3.trans ff)
 subst hRG;have hfl:flat ([⟨v,k,[]⟩]:List Lv)=flat []:=by simp[flat]
 have hlk:=h.lk;have KT:=h.stk;have hr1:=h.r1;have hr2:=h.r2;have aaG:=hlv.CZ;rw[hfl] at hlk KT hr1 hr2 aaG;refine .inr ⟨_,fun x=>fin x\/x=v,G,[],rfl,⟨hlk,KT,h.len,trivial,h.Lx,fun x=> ?_,fun x hx y ym ty gy=> ?_,afr,fun l hl=>by simp at hl,fun x hx tx=> ?_,fun x hx y z ym zm yf zf hne sd aQ=> ?_,fun a am ta fa sd aQ=> ?_⟩,by simp,fun x hx=> .inl hx,fun l hl=> ?_,fun x hx=> ?_⟩
 .rw[h.gi x]
  refine and_congr_right fun xm=>⟨?_,?_⟩
  .rintro(q|⟨l,h1,h2,h3⟩)
   .exact .inl (.inl q)
   .rw[aan.1 h1] at h2
    exact .inl (.inr h2.symm)
  .rintro((q|q)|⟨l,h1,_⟩)
   .exact .inl q
   .refine .inr ⟨⟨v,k,[]⟩,aai,q.symm,?_⟩
    dsimp only;rw[hk];exact(l7 hE).2 ⟨xm,q⟩
   .simp at h1
 .rcases hx with (q|q)|⟨l,h1,_⟩
  .exact h.vi x (.inl q) y ym ty gy
  .exact h.vi x (.inr ⟨⟨v,k,[]⟩,aai,q.symm⟩) y ym ty gy
  .simp at h1
 .rcases h.ti x hx tx with q|⟨l,h1,h2⟩
  .exact .inl (.inl q)
  .rw[aan.1 h1] at h2
   exact .inl (.inr h2.symm)
 .rcases hx with hx|hx
  .exact hr1 x hx y z ym zm yf zf hne sd aQ
  .refine aaG y ?_ z ?_ hne sd aQ
   .dsimp only;rw[hk];exact(l7 hE).2 ⟨ym,yf.trans hx⟩
   .dsimp only;rw[hk];exact(l7 hE).2 ⟨zm,zf.trans hx⟩
 .rcases fa with fa|fa
  .exact hr2 a am ta fa sd aQ
  .exact absurd fa (hr a am ta)
 .rw[aan.1 hl]
  exact .inl (.inr rfl)
 .rcases hx with (hx|hx)|⟨l,hl,_⟩
  .exact .inl hx
  .exact .inr (.inl ⟨⟨v,k,[]⟩,aai,hx.symm⟩)
  .simp at hl
theorem Kz (hE:dU T E oe hf) {st:TS} {fin:Nat->Prop} {G:List Nat} {RG:List cO} {w:kC} {a:Nat} (h:Inv T E oe st fin G (⟨v,k,RG⟩::ls)) (hw:st.way=w::ws) (hk:k=(oe v).length) (jK:a<m) (ta:T.tree a=true) (ga:T.go a=v):
 Next T E oe fin G (⟨v,k,RG⟩::ls) (leave E st):=by
 have bD:=h.way;rw[hw] at bD;obtain⟨⟨w1,-⟩,-,hlv,fW⟩:=bD;have eM:v<n:=hlv.lt;dsimp only at w1 fW;obtain⟨jJ,hne,agq⟩:=fW.low hE eM;cases ls with
 |nil=>
  cases ws with
  |nil=>exact absurd ga (fW a jK ta)
  |cons _ _=>exact fW.elim
 |cons l ls=>
  cases ws with
  |nil=>exact fW.elim
  |cons w' ws=>
   obtain⟨⟨c,k',h1,h2,h3,h4,h5⟩,h6,h7⟩:=fW;obtain⟨cm,cf⟩:=(hE.mem l.v c).1 (aah h2);obtain rfl:=T.one a c jK cm ta h3 (ga.trans h4.symm);have dV:=(T.bS a jK ta).1;rw[ga,cf] at dV;unfold leave;rw[hw];dsimp only;rw[w1,<-ga,hE.Uc jK ta];dsimp only;have hf0:=hE.h0 a jK;rw[if_neg (by omega),hE.beg jK,cf];dsimp only;have hmem:∀f,f∈(oe v).take k↔f<m/\T.fr f=T.go a:=fun f=>by rw[hk,ga];exact l7 hE
   have hmin:∀e1,((oe v).take k).head? =some e1->∀f∈(oe v).take k,g E.lw e1<=g E.lw f:=fun e1 aM f hf'=>by
    have q:=hE.zM v;rw[hk,adI] at aM hf';cases Oa:oe v with
    |nil=>rw[Oa] at hf';simp at hf'
    |cons d l=>
     rw[Oa] at aM hf' q;obtain rfl:d=e1:=by simpa using aM
     rcases aaj.1 hf' with rfl|hf'
     .exact adA _
     .exact((acE.1 q).1 f hf').1
   obtain⟨t1,t2,t3⟩:=hlv.wR.trim hE.lw jK ta hmem hmin;dsimp only at t1 t2 t3;rw[cf] at t1 t2 t3;have Vm:∀x∈cF (flat (l::ls)),g E.lw x<T.ay l.v:=fun x hx=>by have:=jJ x hx;omega
   have hfl:flat (⟨v,k,RG⟩::l::ls)=RG++flat (l::ls):=bR _ _;have hlk:=h.lk;have KT:=h.stk;rw[hfl] at hlk KT
   obtain⟨fA,gR,q1,q2,q3⟩:=TM (lw:=E.lw) (h:=T.ay l.v) (stk:=RG++flat (l::ls)) (seen:=cE T G) hE.lw.len { st with way:=w'::ws } KT hlk
    (fun p hp=>(aam.1 hp).elim (hlv.wR.ne p) (hne p)) (fun x hx=>by
      rw[eE] at hx;rcases aam.1 hx with k1|k1
      .exact t2 x k1
      .have:=Vm x k1
       omega) (fun p hp=>(aam.1 hp).elim (hlv.wR.rq p) (agq p))
   rw[sq hne Vm,bR] at q1 q2 q3;rw[q1];dsimp only;have N6:∀sd,Sat fA gR (cE T G) (dz E.lw (T.ay l.v) RG++(l.RG++flat ls)) sd->Sat st.like st.turn (cE T G) (flat (⟨v,k,RG⟩::l::ls)) sd:=fun sd aQ=>by
    rw[bR,bR];exact q3 sd aQ
   have SC:=t1.more N6
   rcases CV hE (v:=l.v) (k:=k') (e:=a) (RG:=l.RG) (rest:=flat ls) (SG:=dz E.lw (T.ay l.v) RG) (ws:=ws) (vis:=w') (seen:=cE T G) (st:={ st with way:=w'::ws,like:=fA,turn:=gR,stk:=(dz E.lw (T.ay l.v) RG++(l.RG++flat ls)).map cU }) h2 rfl rfl
    (by rw[h6]) q2 (h5.wR.more N6) SC h.len (fun a' ha' CN OG b0 hb=>h5.lw a' ha' CN OG b0 hb) (fun b0 hb=>hlv.lw a jK ta ga b0 (t3 b0 hb)) with ⟨k1,k2⟩|⟨aC,gC,fU,k1,k2⟩
   .exact .inl ⟨k1,k2⟩
   .have Ee:∀sd,Sat aC gR (cE T G) (flat (⟨l.v,l.k,fU⟩::ls)) sd->Sat fA gR (cE T G) (dz E.lw (T.ay l.v) RG++(l.RG++flat ls)) sd:=fun sd aQ=>by
     rw[bR] at aQ;exact k2.sat sd aQ
    have Wc:∀sd,Sat aC gR (cE T G) (flat (⟨l.v,l.k,fU⟩::ls)) sd->Sat st.like st.turn (cE T G) (flat (⟨v,k,RG⟩::l::ls)) sd:=fun sd aQ=>N6 sd (Ee sd aQ)
    refine .inr ⟨_,fun x=>fin x\/x=v,G,⟨l.v,l.k,fU⟩::ls,k1,⟨?_,?_,k2.len,?_,h.Lx,fun x=> ?_,fun x hx y ym ty gy=>h.vi x ?_ y ym ty gy,(acr.1 h.ln).2,fun l' hl'=> ?_,fun x hx tx=> ?_,fun x hx y z ym zm yf zf hne sd aQ=> ?_,fun a' am' CN fa' sd aQ=> ?_⟩,?_,fun x hx=> .inl hx,fun l' hl'=> ?_,fun x hx=> ?_⟩
    .rw[bR];exact k2.lk
    .rw[bR]
    .refine⟨⟨by rw[h6],by rw[h6]⟩,?_,⟨h5.lt,?_,k2.lw,?_⟩,?_⟩
     .have:=(aaf.1 h2).1
      dsimp only;omega
     .dsimp only
      rw[h1,take_succ h2,bR];exact k2.wR
     .intro x hx y hy hne sd aQ
      dsimp only at hx hy;rw[h1,take_succ h2] at hx hy;have UZ:=Wc sd aQ;rw[bR] at aQ;rcases aam.1 hx with hx|hx<;>rcases aam.1 hy with hy|hy
      .exact h5.CZ x hx y hy hne sd UZ
      .rw[aan.1 hy]
       exact k2.CZ x hx sd aQ
      .rw[aan.1 hx]
       exact(k2.CZ y hy sd aQ).symm
      .exact absurd ((aan.1 hx).trans (aan.1 hy).symm) hne
     .refine h7.more Wc fun l' hl' x tx gx=>k2.lB x fun q=> ?_
      have:=(acr.1 (acr.1 h.ln).2).1;exact this (abT.2 ⟨l',hl',gx.symm.trans q.2⟩)
    .rw[h.gi x]
     refine and_congr_right fun xm=>⟨?_,?_⟩
     .rintro(q|⟨l',g1,g2,g3⟩)
      .exact .inl (.inl q)
      .rcases aaj.1 g1 with rfl|g1
       .exact .inl (.inr g2.symm)
       .rcases aaj.1 g1 with rfl|g1
        .exact .inr ⟨_,aai,g2,g3⟩
        .exact .inr ⟨l',aak _ g1,g2,g3⟩
     .rintro((q|q)|⟨l',g1,g2,g3⟩)
      .exact .inl q
      .refine .inr ⟨⟨v,k,RG⟩,aai,q.symm,?_⟩
       dsimp only;rw[hk];exact(l7 hE).2 ⟨xm,q⟩
      .rcases aaj.1 g1 with rfl|g1
       .exact .inr ⟨l,by simp,g2,g3⟩
       .exact .inr ⟨l',by simp[g1],g2,g3⟩
    .rcases hx with (q|q)|⟨l',g1,g2⟩
     .exact .inl q
     .exact .inr ⟨⟨v,k,RG⟩,aai,q.symm⟩
     .rcases aaj.1 g1 with rfl|g1
      .exact .inr ⟨l,by simp,g2⟩
      .exact .inr ⟨l',by simp[g1],g2⟩
    .have aaC:=(acr.1 h.ln).1
     rcases aaj.1 hl' with rfl|hl'
     .rintro(q|q)
      .exact h.lf l (by simp) q
      .exact aaC (abT.2 ⟨l,by simp,q⟩)
     .rintro(q|q)
      .exact h.lf l' (by simp[hl']) q
      .exact aaC (abT.2 ⟨l',by simp[hl'],q⟩)
    .rcases h.ti x hx tx with q|⟨l',g1,g2⟩
     .exact .inl (.inl q)
     .rcases aaj.1 g1 with rfl|g1
      .exact .inl (.inr g2.symm)
      .rcases aaj.1 g1 with rfl|g1
       .exact .inr ⟨_,aai,g2⟩
       .exact .inr ⟨l',aak _ g1,g2⟩
    .rcases hx with hx|hx
     .exact h.r1 x hx y z ym zm yf zf hne sd (Wc sd aQ)
     .refine hlv.CZ y ?_ z ?_ hne sd (Wc sd aQ)
      .dsimp only;rw[hk];exact(l7 hE).2 ⟨ym,yf.trans hx⟩
      .dsimp only;rw[hk];exact(l7 hE).2 ⟨zm,zf.trans hx⟩
    .rcases fa' with q|q
     .exact h.r2 a' am' CN q sd (Wc sd aQ)
     .obtain rfl:=T.one a' a am' jK CN ta (q.trans ga.symm)
      exact fun b c hb hc=>SC.Xd hE.lw jK hb hc sd (Ee sd aQ)
    .simp only[abS]
     omega
    .rcases aaj.1 hl' with rfl|hl'
     .exact .inl (.inr ga)
     .rcases aaj.1 hl' with rfl|hl'
      .exact .inr ⟨_,aai,rfl⟩
      .exact .inr ⟨l',aak _ hl',rfl⟩
    .rcases hx with (hx|hx)|⟨l',hl',hx⟩
     .exact .inl hx
     .exact .inr (.inr ⟨a,jK,ta,ga.trans hx.symm⟩)
     .rcases aaj.1 hl' with rfl|hl'
      .exact .inr (.inl ⟨l,by simp,hx⟩)
      .exact .inr (.inl ⟨l',by simp[hl'],hx⟩)
theorem CR (hE:dU T E oe hf) {st:TS} {fin:Nat->Prop} {G:List Nat} (h:Inv T E oe st fin G ls) (hne:ls≠[]):Next T E oe fin G ls (step E st):=by
 cases ls with
 |nil=>exact absurd rfl hne
 |cons l ls=>
  obtain⟨v,k,RG⟩:=l;cases hw:st.way with
  |nil=>
   have bD:=h.way;rw[hw] at bD;exact bD.elim
  |cons w ws=>
   have bD:=h.way;rw[hw] at bD;obtain⟨⟨w1,w2⟩,hkl,hlv,fW⟩:=bD;have eM:v<n:=hlv.lt;dsimp only at w1 w2 hkl;unfold step;rw[hw];dsimp only;rw[w1,w2,if_pos ⟨by omega,by omega⟩,show((v:Int)).toNat=v from by simp,hE.outs v eM];dsimp only;rw[aco,show((k:Int)).toNat=k from by simp];by_cases hk:(k:Int)=((oe v).length:Int)
   .rw[if_pos hk]
    have hk':k=(oe v).length:=by omega
    rcases hE.par v eM with ⟨a,k1,k2,k3,_⟩|⟨k1,_⟩
    .exact Kz hE h hw hk' k1 k2 k3
    .exact KA hE h hw hk' k1
   .rw[if_neg hk,abU]
    obtain⟨e,he⟩:∃e,(oe v)[k]? =some e:=⟨_,aac (by omega)⟩;rw[he];dsimp only[Option.map];cases te:T.tree e with
    |true=>exact M6 hE h hw he te
    |false=>exact M7 hE h hw he te
theorem FP (hE:dU T E oe hf):∀(N:Nat) {st:TS} {fin:Nat->Prop} {G:List Nat} {ls:List Lv},Inv T E oe st fin G ls->2*(m-G.length)+ls.length<=N->
 (run E N st=some none/\∀sd,¬T.LR sd)\/∃st' fin' G',run E N st=some (some st')/\Inv T E oe st' fin' G' []/\(∀v,fin v->fin' v)/\(∀l∈ls,fin' l.v)/\∀x,fin' x->fin x\/(∃l∈ls,l.v=x)\/∃a,a<m/\T.tree a=true/\T.go a=x:=by
 intro N
 induction N with
 |zero=>
  intro st fin G ls h hN;have hls:ls=[]:=ac0.1 (by omega);subst hls;have bD:=h.way;cases hw:st.way with
  |nil=>
   refine .inr ⟨st,fin,G,?_,h,fun _ q=>q,fun l hl=>by simp at hl,fun x hx=> .inl hx⟩;unfold run;rw[if_pos hw]
  |cons _ _=>rw[hw] at bD;exact bD.elim
 |succ N ih=>
  intro st fin G ls h hN;by_cases hls:ls=[]
  .subst hls
   have bD:=h.way;cases hw:st.way with
   |nil=>
    refine .inr ⟨st,fin,G,?_,h,fun _ q=>q,fun l hl=>by simp at hl,fun x hx=> .inl hx⟩;unfold run;rw[if_pos hw]
   |cons _ _=>rw[hw] at bD;exact bD.elim
  .have age:¬st.way=[]:=fun hw=>by
    have bD:=h.way;rw[hw] at bD;cases ls with
    |nil=>exact hls rfl
    |cons _ _=>exact bD.elim
   unfold run;rw[if_neg age];dsimp only;rcases CR hE h hls with ⟨k1,k2⟩|⟨st',fin',G',ls',k1,k2,k3,k4,k5,k6⟩
   .rw[k1]
    exact .inl ⟨rfl,k2⟩
   .rw[k1]
    dsimp only;rcases ih k2 (by omega) with q|⟨pV,oC,G2,q1,q2,q3,q4,q5⟩
    .exact .inl q
    .refine .inr ⟨pV,oC,G2,q1,q2,fun v hv=>q3 v (k4 v hv),fun l hl=> ?_,fun x hx=> ?_⟩
     rcases k5 l hl with q|⟨l',hl',q⟩
     .exact q3 _ q
     .rw[<-q];exact q4 l' hl'
     .rcases q5 x hx with q|q|q
      .exact k6 x (.inl q)
      .exact k6 x (.inr q)
      .exact .inr (.inr q)
end
end Lt
end
end Go.Proofs.YtbhdibflpjhpaaaGreat
