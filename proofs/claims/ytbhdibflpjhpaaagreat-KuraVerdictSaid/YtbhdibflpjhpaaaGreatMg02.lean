import Derived.Test.YtbhdibflpjhpaaaGreatMg01
import Derived.Maps.AppendAt
import Derived.BigQuiet
set_option maxHeartbeats 4000000
set_option maxRecDepth 100000
namespace Go.Proofs.YtbhdibflpjhpaaaGreat
section
namespace Ku
open Cs
def kA (es:List (Int×Int)) (h:Nat):Option Nat:=
 match out es (to es h) (2*es.length) with
 |[a,b]=>if a=twin h then some b else if b=twin h then some a else none
 |_=>none
theorem jS (h:Nat):twin (twin h)=h:=by
 unfold twin
 split<;>split<;>omega
theorem TL (h:Nat):twin h≠h:=by
 unfold twin
 split<;>omega
theorem qD {es:List (Int×Int)} {v k i:Nat}:i∈out es v k↔i<k/\fr es i=v:=by
 constructor
 .intro h
  obtain⟨j,hj,e⟩:=acq.1 h;have:=kK (es:=es) (v:=v) (k:=k) (j:=j) (i:=i) (by rw[<-e];exact aac hj);exact⟨this.1,this.2.1⟩
 .rintro⟨h1,h2⟩
  exact aah (H9 h1 h2)
theorem jZ {es:List (Int×Int)} {h k:Nat} (e:kA es h=some k):(out es (to es h) (2*es.length)=[twin h,k]\/out es (to es h) (2*es.length)=[k,twin h])/\k≠twin h:=by
 unfold kA at e
 split at e
 .rename_i a b hab
  have hne:a≠b:=by
   have:=Di (es:=es) (v:=to es h) (k:=2*es.length) (i:=0) (j:=1) (by omega) (by rw[hab];rfl) (by rw[hab];rfl);omega
  split at e
  .rename_i h1
   cases e;exact⟨.inl (by rw[hab,h1]),fun e2=>hne (by rw[h1,e2])⟩
  .split at e
   .rename_i h1 h2
    cases e;exact⟨.inr (by rw[hab,h2]),fun e2=>hne (by rw[h2,e2])⟩
   .cases e
 .cases e
theorem Ii {es:List (Int×Int)} {h k:Nat} (e:out es (to es h) (2*es.length)=[twin h,k]\/out es (to es h) (2*es.length)=[k,twin h]) (hk:k≠twin h):kA es h=some k:=by
 unfold kA;rcases e with e|e
 .rw[e]
  simp
 .rw[e]
  simp[hk]
def gs (es:List (Int×Int)) {n:Int} (hv:Si.Val n es):Gs where
 M:=2*es.length
 tw:=twin
 nx:=kA es
 tt:=jS
 tn:=TL
 tl:=fun _ h=>iW h
 nl:=fun h k _ e=>by
  obtain⟨e,_⟩:=jZ e;have:k∈out es (to es h) (2*es.length):=by rcases e with e|e<;>rw[e]<;>simp
  exact(qD.1 this).1
 rev:=fun h k e=>by
  obtain⟨e,hne⟩:=jZ e;have hk:k∈out es (to es h) (2*es.length):=by rcases e with e|e<;>rw[e]<;>simp
  have hf:=(qD.1 hk).2;refine Ii ?_ ?_
  .rw[xS,hf,jS]
   exact e.symm
  .rw[jS]
   exact hne.symm
 irr:=fun h e=>(jZ e).2 rfl
 fr:=fr es
 wX:=fun h k e=>by
  obtain⟨e,_⟩:=jZ e;have hk:k∈out es (to es h) (2*es.length):=by rcases e with e|e<;>rw[e]<;>simp
  rw[iB];exact(qD.1 hk).2
 simple:=fun h k hh hk e1 e2=>by
  rw[iB,iB] at e2;rcases ae5 h k with h1|h1|h1
  .have:=FI hv h1 hk e1
   omega
  .exact h1
  .have:=FI hv h1 hh e1.symm
   omega
 two:=fun h k k' e hk' hf=>by
  obtain⟨e,_⟩:=jZ e;rw[iB] at hf;have hk:k'∈out es (to es h) (2*es.length):=qD.2 ⟨hk',hf⟩;rcases e with e|e<;>rw[e] at hk<;>simp at hk<;>omega
def dg (es:List (Int×Int)) (v:Nat):Nat:=(out es v (2*es.length)).length
section
variable {es:List (Int×Int)} {n:Int} {hv:Si.Val n es}
theorem Eg (h:Nat):(gs es hv).to h=to es h:=iB es h
theorem qA {h:Nat} (hh:h<2*es.length):kA es h=none↔dg es (to es h)≠2:=by
 have hin:twin h∈out es (to es h) (2*es.length):=qD.2 ⟨iW hh,iB es h⟩;unfold dg;constructor
 .intro e h2
  obtain⟨a,b,hab⟩:∃a b,out es (to es h) (2*es.length)=[a,b]:=by
   match hm:out es (to es h) (2*es.length),h2 with
   |[a,b],_=>exact⟨a,b,rfl⟩
  rw[hab] at hin;simp at hin;have hne:a≠b:=by
   have:=Di (es:=es) (v:=to es h) (k:=2*es.length) (i:=0) (j:=1) (by omega) (by rw[hab];rfl) (by rw[hab];rfl);omega
  rcases hin with h1|h1
  .rw[Ii (k:=b) (.inl (by rw[hab,h1])) (fun e2=>hne (by rw[<-h1,e2]))] at e
   cases e
  .rw[Ii (k:=a) (.inr (by rw[hab,h1])) (fun e2=>hne (by rw[<-h1,e2]))] at e
   cases e
 .intro h2
  cases hk:kA es h with
  |none=>rfl
  |some k=>
   obtain⟨e,_⟩:=jZ hk;exact absurd (by rcases e with e|e<;>rw[e]<;>rfl) h2
theorem Uq {h:Nat} (hv:Si.Val n es) (hh:h<2*es.length):fr es h≠to es h:=by
 obtain⟨p,hp⟩:∃p,es[h/2]? =some p:=⟨_,aac (by omega)⟩;have hok:=hv.each _ p hp;unfold Si.ok at hok;rcases adw h with e|e
 .have:=eP hp
  rw[show 2*(h/2)=h by omega] at this;omega
 .have:=pN hp
  rw[show 2*(h/2)+1=h by omega] at this;omega
end
noncomputable def ch (es:List (Int×Int)) {n:Int} (hv:Si.Val n es) (e:Nat):List Nat:=
 open Classical in if h:∃l,Cn (gs es hv) l/\∃x∈l,x/2=e then h.choose else []
section
variable {es:List (Int×Int)} {n:Int} {hv:Si.Val n es}
theorem r9 {l:List Nat} {e x:Nat} (c:Cn (gs es hv) l) (hx:x∈l) (he:x/2=e):ch es hv e=l:=by
 have h:∃l,Cn (gs es hv) l/\∃x∈l,x/2=e:=⟨l,c,x,hx,he⟩;unfold ch;rw[dif_pos h];obtain⟨c',y,hy,Fe⟩:=h.choose_spec;refine c'.unique c hy ?_;have:y=x\/twin y=x:=by
  unfold twin
  split<;>omega
 rcases this with rfl|h2
 .exact .inl hx
 .exact .inr (by rw[<-h2] at hx;exact hx)
end
end Ku
end
section
namespace Ku
variable {S:Gs}
def written (c:List Nat):List Nat:=if at_ c (c.length-1)<at_ c 0\/(at_ c 0=at_ c (c.length-1)/\at_ c (c.length-2)<at_ c 1) then c.reverse else c
theorem Aw {c:List Nat} (h2:2<=c.length) (hne:at_ c 0=at_ c (c.length-1)->at_ c 1≠at_ c (c.length-2)):Up (written c):=by
 unfold written
 split
 .rename_i h
  rcases Up.YI h2 hne with hu|hu
  .exfalso
   unfold Up at hu;omega
  .exact hu
 .rename_i h
  unfold Up;by_cases e:at_ c 0=at_ c (c.length-1)
  .have:=hne e
   omega
  .omega
theorem Tr.mH {T:Sys} {l l':List Nat} (t:Tr T l) (bT:∀a,l[l.length-1]? =some a->T.nx a=none) (c:fV T l') {a:Nat} (h1:a∈l) (h2:a∈l'):False:=by
 obtain⟨i,hi,ei⟩:=acq.1 h1;have Sv:∀d,i+d<l.length->∀x,l[i+d]? =some x->x∈l':=by
  intro d
  induction d with
  |zero=>
   intro _ x hx;rw[ado,aac hi,ei] at hx;cases hx;exact h2
  |succ d ih=>
   intro hl x hx;obtain⟨y,hy⟩:∃y,l[i+d]? =some y:=⟨_,aac (by omega)⟩;have hm:=ih (by omega) y hy;obtain⟨j,hj,ej⟩:=acq.1 hm;obtain⟨z,e1,e2⟩:=c.step (show l'[j]? =some y by rw[<-ej];exact aac hj);have:=t (i+d) y x hy hx;rw[this] at e1;cases e1;exact aah e2
 obtain⟨x,hx⟩:∃x,l[l.length-1]? =some x:=⟨_,aac (by omega)⟩;have hm:=Sv (l.length-1-i) (by omega) x (by rw[show i+(l.length-1-i)=l.length-1 by omega];exact hx);obtain⟨j,hj,ej⟩:=acq.1 hm;obtain⟨z,e1,_⟩:=c.step (show l'[j]? =some x by rw[<-ej];exact aac hj);rw[bT x hx] at e1;cases e1
theorem Tr.glue {T:Sys} {l r:List Nat} {h:Nat} (t:Tr T l) (hl:l[l.length-1]? =some h) (t':Tr T (h::r)):Tr T (l++r):=by
 have hp:0<l.length:=by
  have:=(aaf.1 hl).1;omega
 intro i a b ha hb;by_cases h1:i+1<l.length
 .rw[acF (by omega)] at ha
  rw[acF h1] at hb;exact t i a b ha hb
 .rw[acM (by omega)] at hb
  by_cases h2:i<l.length
  .rw[acF h2,show i=l.length-1 by omega,hl] at ha
   cases ha;rw[show i+1-l.length=0 by omega] at hb;exact t' 0 h b rfl (by simpa using hb)
  .rw[acM (by omega)] at ha
   exact t' (i-l.length+1) a b (by simpa using ha) (by rw[show i-l.length+1+1=(i+1-l.length)+1 by omega];simpa using hb)
theorem EE {h0:Nat} (hh:h0<S.M) (hend:∀a,(all S.toSys h0)[(all S.toSys h0).length-1]? =some a->S.nx a=none):
 ∃l,mU S.toSys l/\h0∈l/\(∀x∈l,x<S.M)/\vs S l=(vs S (all S.toSys (S.tw h0))).reverse++(vs S (all S.toSys h0)).drop 2/\∀a,(all S.toSys (S.tw h0))[(all S.toSys (S.tw h0)).length-1]? =some a->S.nx a=none:=by
 obtain⟨t,_,lt,hd,_⟩:=dM (S:=S.toSys) hh;obtain⟨t',_,lt',hd',_⟩:=dM (S:=S.toSys) (S.tl h0 hh);have qM:h0∈all S.toSys h0:=adM hd;rcases mj (S:=S.toSys) (S.tl h0 hh) with ⟨c,hc0⟩|⟨_,hc0,he⟩
 .exfalso
  refine t.mH hend c.rv qM ?_;exact fL.2 (aah hc0)
 obtain⟨r,hr⟩:∃r,all S.toSys h0=h0::r:=by
  cases hA:all S.toSys h0 with
  |nil=>rw[hA] at hd;cases hd
  |cons x r=>rw[hA] at hd;cases hd;exact⟨r,rfl⟩
 obtain⟨r',hr'⟩:∃r',all S.toSys (S.tw h0)=S.tw h0::r':=by
  cases hA:all S.toSys (S.tw h0) with
  |nil=>rw[hA] at hd';cases hd'
  |cons x r=>rw[hA] at hd';cases hd';exact⟨r,rfl⟩
 have hB:0<(all S.toSys (S.tw h0)).length:=by rw[hr'];simp
 have cq:(rv S.toSys (all S.toSys (S.tw h0)))[(rv S.toSys (all S.toSys (S.tw h0))).length-1]? =some h0:=by
  rw[eJ,nV (by omega),show(all S.toSys (S.tw h0)).length-1-((all S.toSys (S.tw h0)).length-1)=0 by omega,hc0];exact congrArg some (S.tt h0)
 have hne:rv S.toSys (all S.toSys (S.tw h0))≠[]:=fun e=>by
  rw[e] at cq;simp at cq
 have ht:=t'.rv.glue cq (by rw[<-hr];exact t);have aaQ:rv S.toSys (all S.toSys (S.tw h0))++r≠[]:=by simp[hne]
 refine⟨_,⟨ht,aaQ,fun a ha=> ?_,fun a ha=> ?_⟩,aci _ (aah cq),fun x hx=> ?_,?_,he⟩
 .rw[acF (by rw[eJ];exact hB),nV hB] at ha
  obtain⟨x,hx,rfl⟩:=acX.1 ha;rw[S.tt];exact he x (by rw[<-hx];congr 1)
 .cases r with
  |nil=>
   rw[acH] at ha;rw[cq] at ha;cases ha;exact hend h0 (by rw[hr];rfl)
  |cons y r=>
   refine hend a ?_;rw[acM (by simp)] at ha;rw[hr,<-ha];simp only[abZ,abS];rw[show r.length+1+1-1=(r.length)+1 by omega,ae1]
   congr 1
   omega
 .rcases aam.1 hx with h1|h1
  .have:=lt' _ (fL.1 h1)
   have h2:=S.tl _ this;rw[S.tt] at h2;exact h2
  .exact lt x (by rw[hr];exact aak _ h1)
 .rw[<-nP t' (by rw[hr'];simp),hr]
  cases hR:rv S.toSys (all S.toSys (S.tw h0)) with
  |nil=>exact absurd hR hne
  |cons y R=>simp[vs]
theorem qP {l:List Nat} (t:Tr S.toSys l) (hn:l≠[]) (lt:∀x∈l,x<S.M):at_ (vs S l) 0=at_ (vs S l) ((vs S l).length-1)->at_ (vs S l) 1≠at_ (vs S l) ((vs S l).length-2):=by
 intro e0 e1;have hp:=eW hn;rw[cN hn] at e0 e1;obtain⟨a,ha⟩:∃a,l[0]? =some a:=⟨_,aac hp⟩;obtain⟨b,hb⟩:∃b,l[l.length-1]? =some b:=⟨_,aac (by omega)⟩;have k0:at_ (vs S l) 0=S.fr a:=nI ha;have k1:at_ (vs S l) 1=S.to a:=iC (by rw[show(1:Nat)=0+1 from rfl,kG,ha];rfl);have k2:at_ (vs S l) (l.length+1-1)=S.to b:=iC (by rw[show l.length+1-1=(l.length-1)+1 by omega,kG,hb];rfl);have k3:at_ (vs S l) (l.length+1-2)=S.fr b:=iC (by rw[show l.length+1-2=l.length-1 by omega,wI t (by omega),hb];rfl);rw[k0,k2] at e0;rw[k1,k3] at e1;have hbl:=lt b (aah hb);have:=S.simple a (S.tw b) (lt a (aah ha)) (S.tl b hbl) e0 (by rw[S.tt];exact e1);exact t.Dl (aah hb) (aah ha) this
theorem mU.written {l:List Nat} (o:mU S.toSys l) (lt:∀x∈l,x<S.M):∃l',Cn S l'/\vs S l'=written (vs S l)/\∀x∈l,x∈l'\/S.tw x∈l':=by
 have h2:2<=(vs S l).length:=by rw[cN o.ne];have:=eW o.ne;omega
 have hu:=Aw h2 (qP o.tr o.ne lt);by_cases h:Ku.written (vs S l)=vs S l
 .exact⟨l,⟨lt,by rw[h] at hu;exact hu,.inl o⟩,h.symm,fun x hx=> .inl hx⟩
 .have e:Ku.written (vs S l)=(vs S l).reverse:=by
   unfold Ku.written at h ⊢
   split
   .rfl
   .rename_i hc
    rw[if_neg hc] at h;exact absurd rfl h
  refine⟨Ku.rv S.toSys l,⟨fun x hx=> ?_,by rw[nP o.tr o.ne,<-e];exact hu,.inl o.rv⟩,by rw[nP o.tr o.ne,e],fun x hx=> .inr (fL.2 (by rw[S.tt];exact hx))⟩;have:=S.tl _ (lt _ (fL.1 hx));rw[S.tt] at this;exact this
theorem fV.Ru {l:List Nat} (c:fV S.toSys l) (m:∀x∈l,at_ (vs S l) 0<=S.fr x):∀x∈Ku.rv S.toSys l,at_ (vs S (Ku.rv S.toSys l)) 0<=S.fr x:=fun x hx=>by
 rw[nP c.tr c.ne,mC (by rw[cN c.ne];omega),cN c.ne,show l.length+1-1-0=l.length by omega,c.CA];have hy:=fL.1 hx;obtain⟨i,hi,ei⟩:=acq.1 hy;obtain⟨z,e1,e2⟩:=c.step (show l[i]? =some (S.tw x) by rw[<-ei];exact aac hi);have:=m z (aah e2);rw[S.wX _ z e1,S.tt] at this;exact this
theorem fV.written {l:List Nat} (c:fV S.toSys l) (lt:∀x∈l,x<S.M) (m:∀x∈l,at_ (vs S l) 0<=S.fr x):∃l',Cn S l'/\vs S l'=written (vs S l)/\∀x∈l,x∈l'\/S.tw x∈l':=by
 have h2:2<=(vs S l).length:=by rw[cN c.ne];have:=eW c.ne;omega
 have hu:=Aw h2 (qP c.tr c.ne lt);by_cases h:Ku.written (vs S l)=vs S l
 .exact⟨l,⟨lt,by rw[h] at hu;exact hu,.inr ⟨c,m⟩⟩,h.symm,fun x hx=> .inl hx⟩
 .have e:Ku.written (vs S l)=(vs S l).reverse:=by
   unfold Ku.written at h ⊢
   split
   .rfl
   .rename_i hc
    rw[if_neg hc] at h;exact absurd rfl h
  refine⟨Ku.rv S.toSys l,⟨fun x hx=> ?_,by rw[nP c.tr c.ne,<-e];exact hu,.inr ⟨c.rv,c.Ru m⟩⟩,by rw[nP c.tr c.ne,e],fun x hx=> .inr (fL.2 (by rw[S.tt];exact hx))⟩;have:=S.tl _ (lt _ (fL.1 hx));rw[S.tt] at this;exact this
theorem fV.turn {l:List Nat} (c:fV S.toSys l) (lt:∀x∈l,x<S.M) {k:Nat} (hk:k<l.length) (hmin:∀i,i<l.length->at_ (vs S l) k<=at_ (vs S l) i):
 ∃l',fV S.toSys l'/\(∀x∈l',x<S.M)/\(∀x∈l',at_ (vs S l') 0<=S.fr x)/\(∀x,x∈l->x∈l')/\vs S l'=(List.range l.length).map (fun i=>at_ (vs S l) ((k+i)%l.length))++[at_ (vs S l) k]:=by
 have hp:=eW c.ne;have hlen:=AE (Nat.le_of_lt hk);have hat:∀i,i<l.length->∃a,l[i]? =some a/\at_ (vs S l) i=S.fr a:=fun i hi=>by
  obtain⟨a,ha⟩:∃a,l[i]? =some a:=⟨_,aac hi⟩;exact⟨a,ha,iC (by rw[wI c.tr hi,ha];rfl)⟩
 have hc:=c.wP hk;have hmem:∀x,x∈Ku.wP l k↔x∈l:=fun x=>by
  unfold Ku.wP;rw[aam,or_comm,<-aam,adL]
 have h0:at_ (vs S (Ku.wP l k)) 0=at_ (vs S l) k:=by
  obtain⟨a,ha,e⟩:=hat k hk;rw[e];exact nI (by rw[x6 hk hp,ado,adh hk,ha])
 refine⟨Ku.wP l k,hc,fun x hx=>lt x ((hmem x).1 hx),fun x hx=> ?_,fun x hx=>(hmem x).2 hx,?_⟩
 .rw[h0]
  obtain⟨i,hi,ei⟩:=acq.1 ((hmem x).1 hx);obtain⟨a,ha,e⟩:=hat i hi;rw[aac hi,ei] at ha;cases ha;rw[<-e];exact hmin i hi
 .have hvl:(vs S (Ku.wP l k)).length=l.length+1:=by rw[cN hc.ne,hlen]
  refine acO fun i=> ?_
  by_cases hi:i<l.length
  .rw[acF (by simpa using hi),wI hc.tr (by omega),x6 hk hi,abU,adR hi]
   obtain⟨a,ha,e⟩:=hat ((k+i)%l.length) (Nat.mod_lt _ hp);rw[ha];exact congrArg some e.symm
  .by_cases hi2:i=l.length
   .subst hi2
    rw[acM (by simp)];have:=hc.CA;rw[hlen,h0] at this;rw[Cq (c:=vs S (Ku.wP l k)) (i:=l.length) (by omega),this];simp
   .rw[abv (by omega),abv (by simp;omega)]
end Ku
end
section
namespace Ku
variable {S:Gs}
theorem I7 (f:Nat->Nat):∀{n:Nat},0<n->∃k,k<n/\∀i,i<n->f k<=f i
 |0,h=>by omega
 |1,_=>⟨0,by omega,fun i hi=>by obtain rfl:i=0:=by omega
                                exact aad _⟩
 |n+2,_=>by
  obtain⟨k,hk,h⟩:=I7 f (n:=n+1) (by omega);by_cases hc:f k<=f (n+1)
  .refine⟨k,by omega,fun i hi=> ?_⟩
   by_cases e:i=n+1
   .rw[e];exact hc
   .exact h i (by omega)
  .refine⟨n+1,by omega,fun i hi=> ?_⟩
   by_cases e:i=n+1
   .rw[e];exact aad _
   .have:=h i (by omega)
    omega
theorem SQ {h0:Nat} (hh:h0<S.M):∃l,Cn S l/\(h0∈l\/S.tw h0∈l):=by
 obtain⟨_,_,lt,hd,_⟩:=dM (S:=S.toSys) hh;have qM:h0∈all S.toSys h0:=adM hd;rcases mj (S:=S.toSys) hh with ⟨c,hc0⟩|⟨_,_,he⟩
 .obtain⟨k,hk,hmin⟩:=I7 (fun i=>at_ (vs S (all S.toSys h0)) i) (eW c.ne)
  obtain⟨l,cl,Ux,ml,sub,_⟩:=c.turn lt hk hmin;obtain⟨l',cn,_,hin⟩:=cl.written Ux ml;exact⟨l',cn,hin h0 (sub h0 qM)⟩
 .obtain⟨l,o,h1,Ux,_⟩:=EE hh he
  obtain⟨l',cn,_,hin⟩:=o.written Ux;exact⟨l',cn,hin h0 h1⟩
section
variable {es:List (Int×Int)} {n:Int} {hv:Si.Val n es}
def By (l:List Nat) (e:Nat):Prop:=∃x∈l,x/2=e
theorem lN (h:Nat):Cs.twin h/2=h/2:=by unfold Cs.twin;split<;>omega
theorem Ah {e:Nat} (he:e<es.length):Cn (gs es hv) (ch es hv e)/\By (ch es hv e) e:=by
 obtain⟨l,c,h⟩:=SQ (S:=gs es hv) (h0:=2*e) (show 2*e<2*es.length by omega);obtain⟨x,hx,o8⟩:∃x,x∈l/\x/2=e:=by
  rcases h with h|h
  .exact⟨_,h,by omega⟩
  .exact⟨_,h,by show Cs.twin (2*e)/2=e;rw[lN];omega⟩
 rw[r9 c hx o8];exact⟨c,x,hx,o8⟩
theorem Ez {e e':Nat} (he:e<es.length) (h:By (ch es hv e) e'):ch es hv e'=ch es hv e:=by
 obtain⟨x,hx,o8⟩:=h;exact r9 (Ah he).1 hx o8
def First (es:List (Int×Int)) {n:Int} (hv:Si.Val n es) (e:Nat):Prop:=∀e',By (ch es hv e) e'->e<=e'
theorem Ac {e:Nat} (he:e<es.length):∃e0,e0<=e/\First es hv e0/\By (ch es hv e0) e:=by
 induction e using Nat.strongRecOn with
 |_ e ih=>
  by_cases h:First es hv e
  .exact⟨e,aad _,h,(Ah he).2⟩
  .obtain⟨e',h1,h2⟩:∃e',By (ch es hv e) e'/\e'<e:=by
    refine abO fun hc=>h fun e' he'=> ?_
    refine abO fun hlt=>hc ⟨e',he',by omega⟩
   obtain⟨e0,k1,k2,k3⟩:=ih e' h2 (by omega);refine⟨e0,by omega,k2,?_⟩;have a1:=Ez he h1;have a2:=Ez (by omega) k3;rw[<-a2,a1];exact(Ah he).2
open Classical in
noncomputable def ij (es:List (Int×Int)) {n:Int} (hv:Si.Val n es):Nat->List (List Nat)
 |0=>[]
 |k+1=>if First es hv k then ij es hv k++[ch es hv k] else ij es hv k
theorem og:∀{k:Nat} {l:List Nat},l∈ij es hv k↔∃e,e<k/\First es hv e/\l=ch es hv e
 |0,l=>by simp[ij]
 |k+1,l=>by
  unfold ij
  split
  .rename_i hf
   rw[aam,og,aan];constructor
   .rintro(⟨e,h1,h2,h3⟩|h)
    .exact⟨e,by omega,h2,h3⟩
    .exact⟨k,by omega,hf,h⟩
   .rintro⟨e,h1,h2,h3⟩
    by_cases hk:e=k
    .subst hk;exact .inr h3
    .exact .inl ⟨e,by omega,h2,h3⟩
  .rename_i hf
   rw[og];constructor
   .rintro⟨e,h1,h2,h3⟩
    exact⟨e,by omega,h2,h3⟩
   .rintro⟨e,h1,h2,h3⟩
    by_cases hk:e=k
    .subst hk;exact absurd h2 hf
    .exact⟨e,by omega,h2,h3⟩
theorem Rt {k:Nat} (hk:k<es.length):(∃l∈ij es hv k,By l k)↔¬First es hv k:=by
 constructor
 .rintro⟨l,hl,hb⟩ hf
  obtain⟨e,h1,h2,rfl⟩:=og.1 hl;have a1:=Ez (by omega) hb;have:=hf e (by rw[a1];exact(Ah (by omega)).2);omega
 .intro hf
  obtain⟨e0,h1,h2,h3⟩:=Ac (hv:=hv) hk;have hne:e0≠k:=fun e=>hf (e▸h2)
  exact⟨_,og.2 ⟨e0,by omega,h2,rfl⟩,h3⟩
theorem Bb (k:Nat):(ij es hv k).length<=k:=by
 induction k with
 |zero=>simp[ij]
 |succ k ih=>
  unfold ij
  split
  .simp;omega
  .omega
end
end Ku
end
section
open Go.RowKit Go.Sort
theorem kE {ops:Array Oper} {rest:List Oper} {o:Oper} {a:Act} {Q:Exit->Act->World->Prop} (hgd:o.guard=none) (s x:Operand)
 (ho:o.op= .call { callee:= .builtin .append,args:= #[s,x],argTypes:= #[27,27] }) (W:World) (B:Nat) (v:Value) (l:List Int) (z:Int) (hown:aH W B v l)
 (hB:B<=W.heap.size) (hl:l.length<=17592186044000) (hs:a.eval s=v) (hx:a.eval x= .slice (some ⟨W.heap.size,0,none⟩) 1 1)
 (h:∀v' w',aH w' B v' (l++[z])->(W.alloc (.cells #[.int .i64 z] 3)).grownBy w' v.ownBlock->(v'.ownBlock=v.ownBlock\/v'.ownBlock=some (W.heap.size+1))->Below B W w'->wpList Tryz.prog ops Q rest (a.put o.dst v') w'):
 wpList Tryz.prog ops Q (o::rest) a (W.alloc (.cells #[.int .i64 z] 3)):=by
 obtain⟨i0,hi,hz0,hz1,hz2⟩:=info_parts Tryz.cM;have hb0:Below B W (W.alloc (.cells #[.int .i64 z] 3)):=(aae _ _).alloc hB _;refine wpList_append_own_at _ hgd s x 27 ho B 3 i0 (.int .i64 0) 1 8 Tryz.underlying27 hi hz0 hz1 hz2 rfl (by decide) _ _ _ hs (adD hown _) ⟨W.heap.size,0,none⟩ 1 1 [.int .i64 z] hx rfl (cell_one_new _ _ _) (by simp[Value.oneCell']) (by unfold maxLen;omega) (by omega) (by simp;omega) ?_;intro v' w' hown' hg _ hat;have ho':aH w' B v' (l++[z]):=by
  unfold aH;rw[abZ,acS];exact hown'
 have hoB:∀b,v.ownBlock=some b->B<=b:=fun b hb=>(acj hown b hb).1
 refine h v' w' ho' hg (by simpa using hat) (hb0.grown hg (by simp;omega) hoB)
end
section
open Go.RowKit
structure LW (w:World) where
 val:World
 h:Below w.heap.size w val
theorem LW.any (w:World):Nonempty (LW w):=⟨⟨w,aae _ _⟩⟩
theorem aG {P:Program} {id:Nat} {Q:Exit->Act->World->Prop} {a:Act} {w:World} {l:List Oper} (hm:P.follows .mixedOrders=true) (hB:Region.lexB .any l.toArray=true)
 (h:wpQuiet P l.toArray (fun w'=>∃D:LW w,w'=D.val) (fun a'=>∀w',(∃D:LW w,w'=D.val)->Q .normal a' w') l a):(Code.region id l.toArray true).wp P Q a w:=
 wp_region_quiet (C:=fun w'=>∃D:LW w,w'=D.val) hm hB ⟨⟨w.drew,(aae _ _).drew⟩,rfl⟩ (by simpa using h)
theorem Calls.lw {P:Program} {f:FuncId} {args:Array Value} {w:World} {D:LW w} {v:Value}
 (h:Calls P f args D.val fun e w'=>e= .returned v/\Below D.val.heap.size D.val w'):Calls P f args D.val fun e w''=>e= .returned v/\∃D':LW w,w''=D'.val:=
 h.mono fun _ w' ⟨he,hb⟩=>⟨he,⟨w',D.h.trans (hb.mono D.h.size)⟩,rfl⟩
end
section
open Go.RowKit Go.Sort
namespace Ku
def gI (l:List Int) (i:Nat):Int:=l.getD i 0
theorem eY {l:List Int} {i:Nat} {x:Int} (h:l[i]? =some x):gI l i=x:=by unfold gI;rw[aag,h];rfl
def iG (l:List Int):List Int:=if gI l (l.length-1)<gI l 0\/(gI l 0=gI l (l.length-1)/\gI l (l.length-2)<gI l 1) then l.reverse else l
def ZL (c:List Nat):List Int:=c.map fun x:Nat=>(x:Int)
theorem fC (c:List Nat):(ZL c).length=c.length:=by simp[ZL]
theorem Jk (c:List Nat) (i:Nat):(ZL c)[i]? =(c[i]?).map fun x:Nat=>(x:Int):=by simp[ZL]
theorem ad0 (c:List Nat) (i:Nat):gI (ZL c) i=(at_ c i:Int):=by
 unfold gI at_;rw[aag,aag,Jk];cases c[i]? <;>rfl
theorem JA (c:List Nat):iG (ZL c)=ZL (written c):=by
 unfold iG written;simp only[ad0,fC];by_cases h:at_ c (c.length-1)<at_ c 0\/(at_ c 0=at_ c (c.length-1)/\at_ c (c.length-2)<at_ c 1)
 .rw[if_pos h,if_pos (by omega)]
  simp[ZL]
 .rw[if_neg h,if_neg (by omega)]
end Ku
end
section
namespace Ku
section
variable {S:Sys} {h0 j x k:Nat}
theorem Xb (hh:h0<S.M):0<(all S h0).length:=by
 obtain⟨_,_,_,hd,_⟩:=dM hh;cases hA:all S h0 with
 |nil=>rw[hA] at hd;cases hd
 |cons=>simp
theorem all_zero (hh:h0<S.M):(all S h0)[0]? =some h0:=by
 obtain⟨_,_,_,hd,_⟩:=dM hh;rw[<-aey];exact hd
theorem all_none (hh:h0<S.M) (hx:(all S h0)[j]? =some x) (e:S.nx x=none):j+1=(all S h0).length:=by
 obtain⟨t,_⟩:=dM hh;have hj:=(aaf.1 hx).1;refine abO fun hc=> ?_
 obtain⟨y,hy⟩:∃y,(all S h0)[j+1]? =some y:=⟨_,aac (by omega)⟩;have:=t j x y hx hy;rw[e] at this;cases this
theorem GP (hh:h0<S.M) (hx:(all S h0)[j]? =some x) (e:S.nx x=some h0):j+1=(all S h0).length:=by
 obtain⟨t,nd,_⟩:=dM hh;have hj:=(aaf.1 hx).1;refine abO fun hc=> ?_
 obtain⟨y,hy⟩:∃y,(all S h0)[j+1]? =some y:=⟨_,aac (by omega)⟩;have h1:=t j x y hx hy;rw[e] at h1;cases h1;have h2:=all_zero hh;obtain⟨a1,a2⟩:=aaf.1 hy;obtain⟨b1,b2⟩:=aaf.1 h2;have:=(afN nd).1 (a2.trans b2.symm);omega
theorem QW (hh:h0<S.M) (hx:(all S h0)[j]? =some x) (e:S.nx x=some k) (hk:k≠h0):(all S h0)[j+1]? =some k:=by
 obtain⟨t,_,_,_,z,hz,he⟩:=dM hh;have hj:=(aaf.1 hx).1;by_cases hl:j+1<(all S h0).length
 .obtain⟨y,hy⟩:∃y,(all S h0)[j+1]? =some y:=⟨_,aac hl⟩
  have:=t j x y hx hy;rw[e] at this;rw[hy,<-aal this]
 .exfalso
  have:(all S h0)[(all S h0).length-1]? =some z:=by rw[<-afJ];exact hz
  rw[show(all S h0).length-1=j by omega,hx] at this;cases this;rw[e] at he;rcases he with he|he
  .cases he
  .exact hk (aal he)
end
section
variable {S:Gs}
theorem CM {l:List Nat} {j k:Nat} (h:l[j]? =some k):l.take (j+1)=l.take j++[k]:=by
 rw[ade,h];rfl
end
section
open Cs
end
end Ku
end
namespace Si
theorem Da:∀(l:List (Int×Int)) (e:Int×Int),l.Pairwise lt->(put l e).length=if e∈l then l.length else l.length+1
 |[],e,_=>by simp[put]
 |y::l,e,h=>by
  rw[acE] at h;unfold put
  split
  .rename_i Fe
   have hne:e≠y:=(ack Fe).symm;rw[abS,Da l e h.2];by_cases hm:e∈l
   .simp[hm]
   .simp[hm,hne]
  .split
   .rename_i h2
    subst h2;simp
   .rename_i h1 h2
    have Zd:lt e y:=by
     rcases RY y e with a|a|a
     .exact absurd a h1
     .exact absurd a h2
     .exact a
    have hn:e∉y::l:=fun hm=>by
     rcases aaj.1 hm with a|a
     .exact h2 a.symm
     .exact lt_asymm Zd (h.1 e a)
    rw[if_neg hn];simp
theorem rj {ps:List (Int×Int)} {k:Nat} {p:Int×Int} (h:ps[k]? =some p):ps.take (k+1)=ps.take k++[p]:=by
 have hl:k<ps.length:=(aaf.1 h).1;rw[List.take_succ_eq_append_getElem hl];rw[aac hl] at h;cases h;rfl
end Si
section
open Go.Proofs.Tryz
open Go.RowKit Go.Sort
namespace Si
def uu (n:Int) (es:List (Int×Int)) (k:Nat) (l:Int×Int):Prop:=
 (∀(j:Nat) (p:Int×Int),j<k->es[j]? =some p->ok n p)/\(∀(j:Nat) (p q:Int×Int),j+1<k->es[j]? =some p->es[j+1]? =some q->lt p q)/\((k=0/\l=(0,0))\/∃k',k=k'+1/\es[k']? =some l)
theorem uu.start (n:Int) (es:List (Int×Int)):uu n es 0 (0,0):=⟨fun j p h=>by omega,fun j p q h=>by omega,.inl ⟨rfl,rfl⟩⟩
theorem uu.step {n:Int} {es:List (Int×Int)} {k:Nat} {l p:Int×Int} (h:uu n es k l) (hp:es[k]? =some p) (ho:ok n p) (hl:lt l p):uu n es (k+1) p:=by
 refine⟨fun j q hj hq=> ?_,fun j q r hj hq hr=> ?_,.inr ⟨k,rfl,hp⟩⟩
 .by_cases hjk:j=k
  .subst hjk;rw[hp] at hq;cases hq;exact ho
  .exact h.1 j q (by omega) hq
 .by_cases hjk:j+1=k
  .subst hjk
   rw[hp] at hr;cases hr;rcases h.2.2 with ⟨h0,_⟩|⟨k',hk,hl'⟩
   .omega
   .obtain rfl:j=k':=by omega
    rw[hl'] at hq;cases hq;exact hl
  .exact h.2.1 j q r (by omega) hq hr
theorem uu.must {n:Int} {es:List (Int×Int)} {k:Nat} {l p:Int×Int} (h:uu n es k l) (hv:Val n es) (hp:es[k]? =some p):ok n p/\lt l p:=by
 have ho:=hv.each k p hp;refine⟨ho,?_⟩;rcases h.2.2 with ⟨rfl,rfl⟩|⟨k',rfl,hl⟩
 .unfold ok at ho
  unfold lt;dsimp only;omega
 .exact hv.up k' l p hl hp
theorem uu.done {n:Int} {es:List (Int×Int)} {l:Int×Int} (h:uu n es es.length l) (h0:0<=n) (h1:n<=1048576) (h2:es.length<=4194304):Val n es:=by
 have lim:∀(j:Nat) (p:Int×Int),es[j]? =some p->j<es.length:=fun j p hj=>by
  rcases adn j es.length with hl|hl
  .exact hl
  .rw[abv hl] at hj;cases hj
 exact⟨h0,h1,h2,fun j p hj=>h.1 j p (lim j p hj) hj,fun j p q hp hq=>h.2.1 j p q (lim _ _ hq) hp hq⟩
end Si
theorem aj {w:World} {b:Nat} {t:TypeId} {x y:Value} (h:w.heap[b]? =some (.cells #[x,y] t (0,0))):w.cell? ⟨b,0,none⟩=some x/\w.cell? ⟨b,1,none⟩=some y/\∀i,w.frozen? ⟨b,i,none⟩=false:=by
 refine⟨by simp[World.cell?,h],by simp[World.cell?,h],fun i=>by simp[World.frozen?,h]⟩
theorem ju {w:World} {b:Nat} {t:TypeId} {x y:Value} (h:w.heap[b]? =some (.cells #[x,y] t (0,0))) (x' y':Value):((w.setCell ⟨b,0,none⟩ x').setCell ⟨b,1,none⟩ y').heap[b]? =some (.cells #[x',y'] t (0,0)):=by
 have h1:=heap_setCell_same w b 0 _ t x' h;have h2:=heap_setCell_same _ b 1 _ t y' h1;simpa using h2
theorem jP {w:World} {b k:Nat} (hk:k≠b) (x' y':Value):((w.setCell ⟨b,0,none⟩ x').setCell ⟨b,1,none⟩ y').heap[k]? =w.heap[k]? :=by
 rw[heap_setCell_other _ ⟨b,1,none⟩ k y' hk,heap_setCell_other _ ⟨b,0,none⟩ k x' hk]
theorem MK (n:Int) (ao:Option Addr) (cap:Nat) (es:List (Int×Int)) (w:World) (he:aN w ao es) (hl:es.length<=4611686018427387904):
 Calls prog 37 #[cH n ao es.length cap] w fun e w'=>e= .returned (.bool (Si.valid n es))/\Below w.heap.size w w':=by
 have HE:=ζ he;clear he;unfold cH;by_cases h1:n<0
 .have hv:=Si.jX (n:=n) (es:=es) (fun h=>by have:=h.lo;omega)
  rw[hv];go_enter func37,ntmps37;go_wp2;go_ret;exact⟨rfl,(aae _ _).alloc (aad _) _⟩
 .by_cases h2:1048576<n
  .have hv:=Si.jX (n:=n) (es:=es) (fun h=>by have:=h.hi;omega)
   rw[hv];go_enter func37,ntmps37;go_wp2;go_ret;exact⟨rfl,(aae _ _).alloc (aad _) _⟩
  .by_cases h3:4194304<(es.length:Int)
   .have hv:=Si.jX (n:=n) (es:=es) (fun h=>by have:=h.few;omega)
    rw[hv];go_enter func37,ntmps37;go_wp2;go_ret;exact⟨rfl,(aae _ _).alloc (aad _) _⟩
   .go_enter func37,ntmps37
    go_wp2;go_loopw [23] (fun c wr=>∃(k:Nat) (l:Int×Int),k<=es.length/\c= .int .i64 k/\Si.uu n es k l/\wr.heap[w.heap.size]? =some (.cells #[.int .i64 n,.slice ao es.length cap] 24 (0,0))/\wr.heap[w.heap.size+1]? =some (.cells #[.int .i64 l.1,.int .i64 l.2] 38 (0,0))/\Below w.heap.size w wr) (fun c _=>es.length-(intOf c).toNat)
    case atStart=>
     refine⟨0,(0,0),ab6 _,rfl,Si.uu.start n es,?_,?_,((aae _ _).alloc (aad _) _).alloc (by simp) _⟩
     .rw[ab2 _ _ _ (by simp)]
      exact heap_alloc_new w _
     .have:=heap_alloc_new (w.alloc (.cells #[.int .i64 n,.slice ao es.length cap] 24)) (.cells #[.int .i64 0,.int .i64 0] 38)
      simpa using this
    case round=>
     obtain⟨k,l,hk,rfl,dV,hgb,hlb,hb⟩:=hrel;by_cases hlt:k<es.length
     .have kR:(k:Int)<(es.length:Int):=by omega
      have hk0:(0:Int)<=(k:Int):=by omega
      obtain⟨p,hp⟩:∃p,es[k]? =some p:=⟨_,aac hlt⟩;obtain⟨b,o,rfl,c0,c1⟩:=(HE.out.later hb) k p hp;obtain⟨g0,-,-⟩:=aj hgb;obtain⟨l0,l1,lf⟩:=aj hlb;have hsz:=lt_of_block hlb;have UY:=lt_of_block hgb;have hbl:b<wr.heap.size:=block_lt_of_cell c0;have BX:=ζ dV;have HP:=ζ hp;have HGB:=ζ hgb;have Pj:=ζ hlb;have HB:=ζ hb;clear dV hp hgb hlb hb;by_cases q1:p.1<0
      .have hv:=Si.jX (n:=n) (es:=es) (fun h=>by have:=(BX.out.must h HP.out).1.1;omega)
       go_wp2;go_ret;exact⟨by first|rfl|exact congrArg (fun b=>Ending.returned (.bool b)) hv.symm,HB.out.alloc (by omega) _⟩
      .by_cases q2:p.1<p.2
       .by_cases q3:p.2<n
        .have hca:=fun W=>Je l p W
         unfold yM at hca;have vX:=ζ hca;clear hca;by_cases q4:Si.lt l p
         .have hcf:=Si.QL.2 q4
          generalize Si.cf l p=r at vX hcf;go_wp2_with (go_at_call 56;refine(vX.out _).mono ?_;rintro e w' ⟨rfl,hgr⟩;refine abQ ?_);refine ζ ?_;obtain⟨qn,os',rfl⟩:=hgr;have hb1:=A6 (wr.alloc (.cells #[.int .i64 p.1,.int .i64 p.2] 38)) qn os';have hb2:Below wr.heap.size wr (grow ((wr.alloc (.cells #[.int .i64 p.1,.int .i64 p.2] 38)).drewN qn) os'):=((aae _ _).alloc (aad _) _).trans (hb1.mono (by simp));have hnew:(grow ((wr.alloc (.cells #[.int .i64 p.1,.int .i64 p.2] 38)).drewN qn) os').heap[wr.heap.size]? =some (.cells #[.int .i64 p.1,.int .i64 p.2] 38 (0,0)):=(hb1.block _ (by simp)).trans (heap_alloc_new wr _);generalize grow ((wr.alloc (.cells #[.int .i64 p.1,.int .i64 p.2] 38)).drewN qn) os'=w2 at hb2 hnew ⊢;have abB:=ζ ((hb2.block _ hsz).trans Pj.out);have ajr:=ζ ((hb2.block _ UY).trans HGB.out);obtain⟨m0,m1,mf⟩:=aj abB.out;obtain⟨n0,n1,-⟩:=aj hnew;have Gj:=hb2.size;have cj:=ζ (HB.out.trans (hb2.mono (by omega)));clear hb1 hb2 hnew c0 c1 g0 l0 l1 lf;go_wp2;go_roundw
          case rel=>exact⟨k+1,p,by omega,by go_num,BX.out.step HP.out ⟨by omega,q2,q3⟩ q4,(jP (by omega) _ _).trans ajr.out,ju abB.out _ _,(cj.out.setCell (by simp) _).setCell (by simp) _⟩
          case measure=>simp[intOf];omega
         .have hv:=Si.jX (n:=n) (es:=es) (fun h=>q4 (BX.out.must h HP.out).2)
          have hcf:¬(Si.cf l p<0):=fun h=>q4 (Si.QL.1 h)
          generalize Si.cf l p=r at vX hcf;go_wp2_with (go_at_call 56;refine(vX.out _).mono ?_;rintro e w' ⟨rfl,hgr⟩;refine abQ ?_);refine ζ ?_;obtain⟨qn,os',rfl⟩:=hgr;have hb1:=A6 (wr.alloc (.cells #[.int .i64 p.1,.int .i64 p.2] 38)) qn os';generalize grow ((wr.alloc (.cells #[.int .i64 p.1,.int .i64 p.2] 38)).drewN qn) os'=w2 at hb1 ⊢;have cj:=ζ ((HB.out.alloc (by omega) _).trans (hb1.mono (by simp;omega)));clear hb1;go_wp2;go_ret;exact⟨by first|rfl|exact congrArg (fun b=>Ending.returned (.bool b)) hv.symm,cj.out⟩
        .have hv:=Si.jX (n:=n) (es:=es) (fun h=>by have:=(BX.out.must h HP.out).1.2.2;omega)
         go_wp2;go_ret;exact⟨by first|rfl|exact congrArg (fun b=>Ending.returned (.bool b)) hv.symm,HB.out.alloc (by omega) _⟩
       .have hv:=Si.jX (n:=n) (es:=es) (fun h=>by have:=(BX.out.must h HP.out).1.2.1;omega)
        go_wp2;go_ret;exact⟨by first|rfl|exact congrArg (fun b=>Ending.returned (.bool b)) hv.symm,HB.out.alloc (by omega) _⟩
     .obtain rfl:k=es.length:=by omega
      have hv:=Si.bQ.2 (dV.done (by omega) (by omega) (by omega));have HB:=ζ hb;clear hb dV hgb hlb;go_wp2;go_ret;exact⟨by first|rfl|exact congrArg (fun b=>Ending.returned (.bool b)) hv.symm,HB.out⟩
end
section
open Go.RowKit
namespace Si
theorem yQ (l:List Int) (v:Int):(kW l v).length=l.length:=by simp[kW]
theorem Es (n:Int) (es:List (Int×Int)) (p:Int×Int):j9 n (es++[p])=kW (kW (j9 n es) p.1) p.2:=by simp[j9]
theorem r6 (n:Int) (es:List (Int×Int)):(j9 n es).length=n.toNat:=by
 unfold j9
 suffices h:∀(es:List (Int×Int)) (l:List Int),(es.foldl (fun l e=>kW (kW l e.1) e.2) l).length=l.length by rw[h];simp
 intro es
 induction es with
 |nil=>intro l;rfl
 |cons e es ih=>intro l;rw[List.foldl_cons,ih,yQ,yQ]
def EJ (m:Int) (l:List Int):Prop:=∀(j:Nat) (x:Int),l[j]? =some x->0<=x/\x<=m
theorem EJ.kW {m:Int} {l:List Int} (h:EJ m l) (v:Int):EJ (m+1) (kW l v):=by
 intro j x hx;unfold Si.kW at hx;rw[ab0] at hx;by_cases hv:v.toNat=j
 .rw[if_pos hv] at hx
  split at hx
  .cases hx
   rename_i hl
   have e:l[v.toNat]? =some l[v.toNat]:=aac hl;have:=h _ _ e;rw[aag,e];dsimp only[Option.getD_some];omega
  .cases hx
 .rw[if_neg hv] at hx
  have:=h j x hx;omega
theorem OS (n:Int) (es:List (Int×Int)):EJ (2*es.length) (j9 n es):=by
 unfold j9
 suffices h:∀(es:List (Int×Int)) (l:List Int) (m:Int),EJ m l->EJ (m+2*es.length) (es.foldl (fun l e=>Si.kW (Si.kW l e.1) e.2) l) by
  have:=h es (List.replicate n.toNat 0) 0 (fun j x hx=>by
   rw[acQ] at hx
   split at hx
   .cases hx;omega
   .cases hx)
  simpa using this
 intro es
 induction es with
 |nil=>intro l m h;simpa using h
 |cons e es ih=>
  intro l m h;have:=ih _ _ ((h.kW e.1).kW e.2);rw[List.foldl_cons];have e1:m+2*((e::es).length:Int)=m+1+1+2*(es.length:Int):=by simp;omega
  rw[e1];exact this
end Si
end
end Go.Proofs.YtbhdibflpjhpaaaGreat
