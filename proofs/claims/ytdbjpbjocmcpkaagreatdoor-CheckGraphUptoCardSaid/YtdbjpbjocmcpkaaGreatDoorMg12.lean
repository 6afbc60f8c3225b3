import Derived.Test.YtdbjpbjocmcpkaaGreatDoorMg11
import Derived.Test.YtdbjpbjocmcpkaaGreatDoorMg08
import Derived.Deep.Upon
namespace Go.Proofs.YtdbjpbjocmcpkaaGreatDoor
section
namespace Ku
open Cs
def fL (es:List (Int×Int)) (h:Nat):Option Nat:=
 match out es (to es h) (2*es.length) with
 |[a,b]=>if a=twin h then some b else if b=twin h then some a else none
 |_=>none
theorem lg (h:Nat):twin (twin h)=h:=by
 unfold twin
 split<;>split<;>omega
theorem Qz (h:Nat):twin h≠h:=by
 unfold twin
 split<;>omega
theorem gN {es:List (Int×Int)} {v k i:Nat}:i∈out es v k↔i<k/\fr es i=v:=by
 constructor
 .intro h
  obtain⟨j,hj,e⟩:=aaT.1 h;have:=oB (es:=es) (v:=v) (k:=k) (j:=j) (i:=i) (by rw[<-e];exact aac hj);exact⟨this.1,this.2.1⟩
 .rintro⟨h1,h2⟩
  exact aai (Nr h1 h2)
theorem gu {es:List (Int×Int)} {h k:Nat} (e:fL es h=some k):(out es (to es h) (2*es.length)=[twin h,k]\/out es (to es h) (2*es.length)=[k,twin h])/\k≠twin h:=by
 unfold fL at e
 split at e
 .rename_i a b hab
  have hne:a≠b:=by
   have:=A6 (es:=es) (v:=to es h) (k:=2*es.length) (i:=0) (j:=1) (by omega) (by rw[hab];rfl) (by rw[hab];rfl);omega
  split at e
  .rename_i h1
   cases e;exact⟨.inl (by rw[hab,h1]),fun e2=>hne (by rw[h1,e2])⟩
  .split at e
   .rename_i h1 h2
    cases e;exact⟨.inr (by rw[hab,h2]),fun e2=>hne (by rw[h2,e2])⟩
   .cases e
 .cases e
theorem FX {es:List (Int×Int)} {h k:Nat} (e:out es (to es h) (2*es.length)=[twin h,k]\/out es (to es h) (2*es.length)=[k,twin h]) (hk:k≠twin h):fL es h=some k:=by
 unfold fL;rcases e with e|e
 .rw[e]
  simp
 .rw[e]
  simp[hk]
def gs (es:List (Int×Int)) {n:Int} (hv:Si.Val n es):Gs where
 M:=2*es.length
 tw:=twin
 nx:=fL es
 tt:=lg
 tn:=Qz
 tl:=fun _ h=>eM h
 nl:=fun h k _ e=>by
  obtain⟨e,_⟩:=gu e;have:k∈out es (to es h) (2*es.length):=by rcases e with e|e<;>rw[e]<;>simp
  exact(gN.1 this).1
 rev:=fun h k e=>by
  obtain⟨e,hne⟩:=gu e;have hk:k∈out es (to es h) (2*es.length):=by rcases e with e|e<;>rw[e]<;>simp
  have hf:=(gN.1 hk).2;refine FX ?_ ?_
  .rw[AB,hf,lg]
   exact e.symm
  .rw[lg]
   exact hne.symm
 irr:=fun h e=>(gu e).2 rfl
 fr:=fr es
 xF:=fun h k e=>by
  obtain⟨e,_⟩:=gu e;have hk:k∈out es (to es h) (2*es.length):=by rcases e with e|e<;>rw[e]<;>simp
  rw[fQ];exact(gN.1 hk).2
 simple:=fun h k hh hk e1 e2=>by
  rw[fQ,fQ] at e2;rcases ab3 h k with h1|h1|h1
  .have:=Ej hv h1 hk e1
   omega
  .exact h1
  .have:=Ej hv h1 hh e1.symm
   omega
 two:=fun h k k' e hk' hf=>by
  obtain⟨e,_⟩:=gu e;rw[fQ] at hf;have hk:k'∈out es (to es h) (2*es.length):=gN.2 ⟨hk',hf⟩;rcases e with e|e<;>rw[e] at hk<;>simp at hk<;>omega
def dg (es:List (Int×Int)) (v:Nat):Nat:=(out es v (2*es.length)).length
section
variable {es:List (Int×Int)} {n:Int} {hv:Si.Val n es}
theorem Gy (h:Nat):(gs es hv).to h=to es h:=fQ es h
theorem kX {h:Nat} (hh:h<2*es.length):fL es h=none↔dg es (to es h)≠2:=by
 have hin:twin h∈out es (to es h) (2*es.length):=gN.2 ⟨eM hh,fQ es h⟩;unfold dg;constructor
 .intro e h2
  obtain⟨a,b,hab⟩:∃a b,out es (to es h) (2*es.length)=[a,b]:=by
   match hm:out es (to es h) (2*es.length),h2 with
   |[a,b],_=>exact⟨a,b,rfl⟩
  rw[hab] at hin;simp at hin;have hne:a≠b:=by
   have:=A6 (es:=es) (v:=to es h) (k:=2*es.length) (i:=0) (j:=1) (by omega) (by rw[hab];rfl) (by rw[hab];rfl);omega
  rcases hin with h1|h1
  .rw[FX (k:=b) (.inl (by rw[hab,h1])) (fun e2=>hne (by rw[<-h1,e2]))] at e
   cases e
  .rw[FX (k:=a) (.inr (by rw[hab,h1])) (fun e2=>hne (by rw[<-h1,e2]))] at e
   cases e
 .intro h2
  cases hk:fL es h with
  |none=>rfl
  |some k=>
   obtain⟨e,_⟩:=gu hk;exact absurd (by rcases e with e|e<;>rw[e]<;>rfl) h2
theorem IC {h:Nat} (hv:Si.Val n es) (hh:h<2*es.length):fr es h≠to es h:=by
 obtain⟨p,hp⟩:∃p,es[h/2]? =some p:=⟨_,aac (by omega)⟩;have hok:=hv.each _ p hp;unfold Si.ok at hok;rcases abF h with e|e
 .have:=cY hp
  rw[show 2*(h/2)=h by omega] at this;omega
 .have:=gw hp
  rw[show 2*(h/2)+1=h by omega] at this;omega
end
noncomputable def ch (es:List (Int×Int)) {n:Int} (hv:Si.Val n es) (e:Nat):List Nat:=
 open Classical in if h:∃l,Cn (gs es hv) l/\∃x∈l,x/2=e then h.choose else []
section
variable {es:List (Int×Int)} {n:Int} {hv:Si.Val n es}
theorem qV {l:List Nat} {e x:Nat} (c:Cn (gs es hv) l) (hx:x∈l) (he:x/2=e):ch es hv e=l:=by
 have h:∃l,Cn (gs es hv) l/\∃x∈l,x/2=e:=⟨l,c,x,hx,he⟩;unfold ch;rw[dif_pos h];obtain⟨c',y,hy,zJ⟩:=h.choose_spec;refine c'.unique c hy ?_;have:y=x\/twin y=x:=by
  unfold twin
  split<;>omega
 rcases this with rfl|h2
 .exact .inl hx
 .exact .inr (by rw[<-h2] at hx;exact hx)
end
end Ku
end
section
namespace Ku
variable {S:Gs}
def written (c:List Nat):List Nat:=if at_ c (c.length-1)<at_ c 0\/(at_ c 0=at_ c (c.length-1)/\at_ c (c.length-2)<at_ c 1) then c.reverse else c
theorem yt {c:List Nat} (h2:2<=c.length) (hne:at_ c 0=at_ c (c.length-1)->at_ c 1≠at_ c (c.length-2)):Up (written c):=by
 unfold written
 split
 .rename_i h
  rcases Up.Um h2 hne with hu|hu
  .exfalso
   unfold Up at hu;omega
  .exact hu
 .rename_i h
  unfold Up;by_cases e:at_ c 0=at_ c (c.length-1)
  .have:=hne e
   omega
  .omega
theorem Tr.jR {T:Sys} {l l':List Nat} (t:Tr T l) (sD:∀a,l[l.length-1]? =some a->T.nx a=none) (c:dN T l') {a:Nat} (h1:a∈l) (h2:a∈l'):False:=by
 obtain⟨i,hi,ei⟩:=aaT.1 h1;have RH:∀d,i+d<l.length->∀x,l[i+d]? =some x->x∈l':=by
  intro d
  induction d with
  |zero=>
   intro _ x hx;rw[abN,aac hi,ei] at hx;cases hx;exact h2
  |succ d ih=>
   intro hl x hx;obtain⟨y,hy⟩:∃y,l[i+d]? =some y:=⟨_,aac (by omega)⟩;have hm:=ih (by omega) y hy;obtain⟨j,hj,ej⟩:=aaT.1 hm;obtain⟨z,e1,e2⟩:=c.step (show l'[j]? =some y by rw[<-ej];exact aac hj);have:=t (i+d) y x hy hx;rw[this] at e1;cases e1;exact aai e2
 obtain⟨x,hx⟩:∃x,l[l.length-1]? =some x:=⟨_,aac (by omega)⟩;have hm:=RH (l.length-1-i) (by omega) x (by rw[show i+(l.length-1-i)=l.length-1 by omega];exact hx);obtain⟨j,hj,ej⟩:=aaT.1 hm;obtain⟨z,e1,_⟩:=c.step (show l'[j]? =some x by rw[<-ej];exact aac hj);rw[sD x hx] at e1;cases e1
theorem Tr.glue {T:Sys} {l r:List Nat} {h:Nat} (t:Tr T l) (hl:l[l.length-1]? =some h) (t':Tr T (h::r)):Tr T (l++r):=by
 have hp:0<l.length:=by
  have:=(aah.1 hl).1;omega
 intro i a b ha hb;by_cases h1:i+1<l.length
 .rw[aaH (by omega)] at ha
  rw[aaH h1] at hb;exact t i a b ha hb
 .rw[abb (by omega)] at hb
  by_cases h2:i<l.length
  .rw[aaH h2,show i=l.length-1 by omega,hl] at ha
   cases ha;rw[show i+1-l.length=0 by omega] at hb;exact t' 0 h b rfl (by simpa using hb)
  .rw[abb (by omega)] at ha
   exact t' (i-l.length+1) a b (by simpa using ha) (by rw[show i-l.length+1+1=(i+1-l.length)+1 by omega];simpa using hb)
theorem uL {h0:Nat} (hh:h0<S.M) (hend:∀a,(all S.toSys h0)[(all S.toSys h0).length-1]? =some a->S.nx a=none):
 ∃l,jZ S.toSys l/\h0∈l/\(∀x∈l,x<S.M)/\vs S l=(vs S (all S.toSys (S.tw h0))).reverse++(vs S (all S.toSys h0)).drop 2/\∀a,(all S.toSys (S.tw h0))[(all S.toSys (S.tw h0)).length-1]? =some a->S.nx a=none:=by
 obtain⟨t,_,lt,hd,_⟩:=bJ (S:=S.toSys) hh;obtain⟨t',_,lt',hd',_⟩:=bJ (S:=S.toSys) (S.tl h0 hh);have DT:h0∈all S.toSys h0:=ads hd;rcases ij (S:=S.toSys) (S.tl h0 hh) with ⟨c,hc0⟩|⟨_,hc0,he⟩
 .exfalso
  refine t.jR hend c.rv DT ?_;exact eJ.2 (aai hc0)
 obtain⟨r,hr⟩:∃r,all S.toSys h0=h0::r:=by
  cases hA:all S.toSys h0 with
  |nil=>rw[hA] at hd;cases hd
  |cons x r=>rw[hA] at hd;cases hd;exact⟨r,rfl⟩
 obtain⟨r',hr'⟩:∃r',all S.toSys (S.tw h0)=S.tw h0::r':=by
  cases hA:all S.toSys (S.tw h0) with
  |nil=>rw[hA] at hd';cases hd'
  |cons x r=>rw[hA] at hd';cases hd';exact⟨r,rfl⟩
 have hB:0<(all S.toSys (S.tw h0)).length:=by rw[hr'];simp
 have eR:(rv S.toSys (all S.toSys (S.tw h0)))[(rv S.toSys (all S.toSys (S.tw h0))).length-1]? =some h0:=by
  rw[dA,lB (by omega),show(all S.toSys (S.tw h0)).length-1-((all S.toSys (S.tw h0)).length-1)=0 by omega,hc0];exact congrArg some (S.tt h0)
 have hne:rv S.toSys (all S.toSys (S.tw h0))≠[]:=fun e=>by
  rw[e] at eR;simp at eR
 have ht:=t'.rv.glue eR (by rw[<-hr];exact t);have aaY:rv S.toSys (all S.toSys (S.tw h0))++r≠[]:=by simp[hne]
 refine⟨_,⟨ht,aaY,fun a ha=> ?_,fun a ha=> ?_⟩,ab0 _ (aai eR),fun x hx=> ?_,?_,he⟩
 .rw[aaH (by rw[dA];exact hB),lB hB] at ha
  obtain⟨x,hx,rfl⟩:=abA.1 ha;rw[S.tt];exact he x (by rw[<-hx];congr 1)
 .cases r with
  |nil=>
   rw[abQ] at ha;rw[eR] at ha;cases ha;exact hend h0 (by rw[hr];rfl)
  |cons y r=>
   refine hend a ?_;rw[abb (by simp)] at ha;rw[hr,<-ha];simp only[aar,abl];rw[show r.length+1+1-1=(r.length)+1 by omega,acP]
   congr 1
   omega
 .rcases abG.1 hx with h1|h1
  .have:=lt' _ (eJ.1 h1)
   have h2:=S.tl _ this;rw[S.tt] at h2;exact h2
  .exact lt x (by rw[hr];exact adu _ h1)
 .rw[<-mQ t' (by rw[hr'];simp),hr]
  cases hR:rv S.toSys (all S.toSys (S.tw h0)) with
  |nil=>exact absurd hR hne
  |cons y R=>simp[vs]
theorem J1 {l:List Nat} (t:Tr S.toSys l) (hn:l≠[]) (lt:∀x∈l,x<S.M):at_ (vs S l) 0=at_ (vs S l) ((vs S l).length-1)->at_ (vs S l) 1≠at_ (vs S l) ((vs S l).length-2):=by
 intro e0 e1;have hp:=cN hn;rw[bC hn] at e0 e1;obtain⟨a,ha⟩:∃a,l[0]? =some a:=⟨_,aac hp⟩;obtain⟨b,hb⟩:∃b,l[l.length-1]? =some b:=⟨_,aac (by omega)⟩;have k0:at_ (vs S l) 0=S.fr a:=kT ha;have k1:at_ (vs S l) 1=S.to a:=og (by rw[show(1:Nat)=0+1 from rfl,gM,ha];rfl);have k2:at_ (vs S l) (l.length+1-1)=S.to b:=og (by rw[show l.length+1-1=(l.length-1)+1 by omega,gM,hb];rfl);have k3:at_ (vs S l) (l.length+1-2)=S.fr b:=og (by rw[show l.length+1-2=l.length-1 by omega,tS t (by omega),hb];rfl);rw[k0,k2] at e0;rw[k1,k3] at e1;have hbl:=lt b (aai hb);have:=S.simple a (S.tw b) (lt a (aai ha)) (S.tl b hbl) e0 (by rw[S.tt];exact e1);exact t.qy (aai hb) (aai ha) this
theorem jZ.written {l:List Nat} (o:jZ S.toSys l) (lt:∀x∈l,x<S.M):∃l',Cn S l'/\vs S l'=written (vs S l)/\∀x∈l,x∈l'\/S.tw x∈l':=by
 have h2:2<=(vs S l).length:=by rw[bC o.ne];have:=cN o.ne;omega
 have hu:=yt h2 (J1 o.tr o.ne lt);by_cases h:Ku.written (vs S l)=vs S l
 .exact⟨l,⟨lt,by rw[h] at hu;exact hu,.inl o⟩,h.symm,fun x hx=> .inl hx⟩
 .have e:Ku.written (vs S l)=(vs S l).reverse:=by
   unfold Ku.written at h ⊢
   split
   .rfl
   .rename_i hc
    rw[if_neg hc] at h;exact absurd rfl h
  refine⟨Ku.rv S.toSys l,⟨fun x hx=> ?_,by rw[mQ o.tr o.ne,<-e];exact hu,.inl o.rv⟩,by rw[mQ o.tr o.ne,e],fun x hx=> .inr (eJ.2 (by rw[S.tt];exact hx))⟩;have:=S.tl _ (lt _ (eJ.1 hx));rw[S.tt] at this;exact this
theorem dN.OA {l:List Nat} (c:dN S.toSys l) (m:∀x∈l,at_ (vs S l) 0<=S.fr x):∀x∈Ku.rv S.toSys l,at_ (vs S (Ku.rv S.toSys l)) 0<=S.fr x:=fun x hx=>by
 rw[mQ c.tr c.ne,jL (by rw[bC c.ne];omega),bC c.ne,show l.length+1-1-0=l.length by omega,c.Au];have hy:=eJ.1 hx;obtain⟨i,hi,ei⟩:=aaT.1 hy;obtain⟨z,e1,e2⟩:=c.step (show l[i]? =some (S.tw x) by rw[<-ei];exact aac hi);have:=m z (aai e2);rw[S.xF _ z e1,S.tt] at this;exact this
theorem dN.written {l:List Nat} (c:dN S.toSys l) (lt:∀x∈l,x<S.M) (m:∀x∈l,at_ (vs S l) 0<=S.fr x):∃l',Cn S l'/\vs S l'=written (vs S l)/\∀x∈l,x∈l'\/S.tw x∈l':=by
 have h2:2<=(vs S l).length:=by rw[bC c.ne];have:=cN c.ne;omega
 have hu:=yt h2 (J1 c.tr c.ne lt);by_cases h:Ku.written (vs S l)=vs S l
 .exact⟨l,⟨lt,by rw[h] at hu;exact hu,.inr ⟨c,m⟩⟩,h.symm,fun x hx=> .inl hx⟩
 .have e:Ku.written (vs S l)=(vs S l).reverse:=by
   unfold Ku.written at h ⊢
   split
   .rfl
   .rename_i hc
    rw[if_neg hc] at h;exact absurd rfl h
  refine⟨Ku.rv S.toSys l,⟨fun x hx=> ?_,by rw[mQ c.tr c.ne,<-e];exact hu,.inr ⟨c.rv,c.OA m⟩⟩,by rw[mQ c.tr c.ne,e],fun x hx=> .inr (eJ.2 (by rw[S.tt];exact hx))⟩;have:=S.tl _ (lt _ (eJ.1 hx));rw[S.tt] at this;exact this
theorem dN.turn {l:List Nat} (c:dN S.toSys l) (lt:∀x∈l,x<S.M) {k:Nat} (hk:k<l.length) (hmin:∀i,i<l.length->at_ (vs S l) k<=at_ (vs S l) i):
 ∃l',dN S.toSys l'/\(∀x∈l',x<S.M)/\(∀x∈l',at_ (vs S l') 0<=S.fr x)/\(∀x,x∈l->x∈l')/\vs S l'=(List.range l.length).map (fun i=>at_ (vs S l) ((k+i)%l.length))++[at_ (vs S l) k]:=by
 have hp:=cN c.ne;have hlen:=yy (adE hk);have hat:∀i,i<l.length->∃a,l[i]? =some a/\at_ (vs S l) i=S.fr a:=fun i hi=>by
  obtain⟨a,ha⟩:∃a,l[i]? =some a:=⟨_,aac hi⟩;exact⟨a,ha,og (by rw[tS c.tr hi,ha];rfl)⟩
 have hc:=c.tZ hk;have hmem:∀x,x∈Ku.tZ l k↔x∈l:=fun x=>by
  unfold Ku.tZ;rw[abG,or_comm,<-abG,adr]
 have h0:at_ (vs S (Ku.tZ l k)) 0=at_ (vs S l) k:=by
  obtain⟨a,ha,e⟩:=hat k hk;rw[e];exact kT (by rw[vA hk hp,abN,abt hk,ha])
 refine⟨Ku.tZ l k,hc,fun x hx=>lt x ((hmem x).1 hx),fun x hx=> ?_,fun x hx=>(hmem x).2 hx,?_⟩
 .rw[h0]
  obtain⟨i,hi,ei⟩:=aaT.1 ((hmem x).1 hx);obtain⟨a,ha,e⟩:=hat i hi;rw[aac hi,ei] at ha;cases ha;rw[<-e];exact hmin i hi
 .have hvl:(vs S (Ku.tZ l k)).length=l.length+1:=by rw[bC hc.ne,hlen]
  refine ab4 fun i=> ?_
  by_cases hi:i<l.length
  .rw[aaH (by simpa using hi),tS hc.tr (by omega),vA hk hi,aaP,acU hi]
   obtain⟨a,ha,e⟩:=hat ((k+i)%l.length) (acV _ hp);rw[ha];exact congrArg some e.symm
  .by_cases hi2:i=l.length
   .subst hi2
    rw[abb (by simp)];have:=hc.Au;rw[hlen,h0] at this;rw[N6 (c:=vs S (Ku.tZ l k)) (i:=l.length) (by omega),this];simp
   .rw[aaV (by omega),aaV (by simp;omega)]
end Ku
end
section
namespace Ku
variable {S:Gs}
theorem GD (f:Nat->Nat):∀{n:Nat},0<n->∃k,k<n/\∀i,i<n->f k<=f i
 |0,h=>by omega
 |1,_=>⟨0,by omega,fun i hi=>by obtain rfl:i=0:=by omega
                                exact aad _⟩
 |n+2,_=>by
  obtain⟨k,hk,h⟩:=GD f (n:=n+1) (by omega);by_cases hc:f k<=f (n+1)
  .refine⟨k,by omega,fun i hi=> ?_⟩
   by_cases e:i=n+1
   .rw[e];exact hc
   .exact h i (by omega)
  .refine⟨n+1,by omega,fun i hi=> ?_⟩
   by_cases e:i=n+1
   .rw[e];exact aad _
   .have:=h i (by omega)
    omega
theorem PN {h0:Nat} (hh:h0<S.M):∃l,Cn S l/\(h0∈l\/S.tw h0∈l):=by
 obtain⟨_,_,lt,hd,_⟩:=bJ (S:=S.toSys) hh;have DT:h0∈all S.toSys h0:=ads hd;rcases ij (S:=S.toSys) hh with ⟨c,hc0⟩|⟨_,_,he⟩
 .obtain⟨k,hk,hmin⟩:=GD (fun i=>at_ (vs S (all S.toSys h0)) i) (cN c.ne)
  obtain⟨l,cl,F7,ml,sub,_⟩:=c.turn lt hk hmin;obtain⟨l',cn,_,hin⟩:=cl.written F7 ml;exact⟨l',cn,hin h0 (sub h0 DT)⟩
 .obtain⟨l,o,h1,F7,_⟩:=uL hh he
  obtain⟨l',cn,_,hin⟩:=o.written F7;exact⟨l',cn,hin h0 h1⟩
section
variable {es:List (Int×Int)} {n:Int} {hv:Si.Val n es}
def By (l:List Nat) (e:Nat):Prop:=∃x∈l,x/2=e
theorem gU (h:Nat):Cs.twin h/2=h/2:=by unfold Cs.twin;split<;>omega
theorem xR {e:Nat} (he:e<es.length):Cn (gs es hv) (ch es hv e)/\By (ch es hv e) e:=by
 obtain⟨l,c,h⟩:=PN (S:=gs es hv) (h0:=2*e) (show 2*e<2*es.length by omega);obtain⟨x,hx,jB⟩:∃x,x∈l/\x/2=e:=by
  rcases h with h|h
  .exact⟨_,h,by omega⟩
  .exact⟨_,h,by show Cs.twin (2*e)/2=e;rw[gU];omega⟩
 rw[qV c hx jB];exact⟨c,x,hx,jB⟩
theorem Cy {e e':Nat} (he:e<es.length) (h:By (ch es hv e) e'):ch es hv e'=ch es hv e:=by
 obtain⟨x,hx,jB⟩:=h;exact qV (xR he).1 hx jB
def First (es:List (Int×Int)) {n:Int} (hv:Si.Val n es) (e:Nat):Prop:=∀e',By (ch es hv e) e'->e<=e'
theorem xO {e:Nat} (he:e<es.length):∃e0,e0<=e/\First es hv e0/\By (ch es hv e0) e:=by
 induction e using Nat.strongRecOn with
 |_ e ih=>
  by_cases h:First es hv e
  .exact⟨e,aad _,h,(xR he).2⟩
  .obtain⟨e',h1,h2⟩:∃e',By (ch es hv e) e'/\e'<e:=by
    refine abp fun hc=>h fun e' he'=> ?_
    refine abp fun hlt=>hc ⟨e',he',by omega⟩
   obtain⟨e0,k1,k2,k3⟩:=ih e' h2 (by omega);refine⟨e0,by omega,k2,?_⟩;have a1:=Cy he h1;have a2:=Cy (by omega) k3;rw[<-a2,a1];exact(xR he).2
open Classical in
noncomputable def jF (es:List (Int×Int)) {n:Int} (hv:Si.Val n es):Nat->List (List Nat)
 |0=>[]
 |k+1=>if First es hv k then jF es hv k++[ch es hv k] else jF es hv k
theorem nM:∀{k:Nat} {l:List Nat},l∈jF es hv k↔∃e,e<k/\First es hv e/\l=ch es hv e
 |0,l=>by simp[jF]
 |k+1,l=>by
  unfold jF
  split
  .rename_i hf
   rw[abG,nM,abg];constructor
   .rintro(⟨e,h1,h2,h3⟩|h)
    .exact⟨e,by omega,h2,h3⟩
    .exact⟨k,by omega,hf,h⟩
   .rintro⟨e,h1,h2,h3⟩
    by_cases hk:e=k
    .subst hk;exact .inr h3
    .exact .inl ⟨e,by omega,h2,h3⟩
  .rename_i hf
   rw[nM];constructor
   .rintro⟨e,h1,h2,h3⟩
    exact⟨e,by omega,h2,h3⟩
   .rintro⟨e,h1,h2,h3⟩
    by_cases hk:e=k
    .subst hk;exact absurd h2 hf
    .exact⟨e,by omega,h2,h3⟩
theorem Ev {k:Nat} (hk:k<es.length):(∃l∈jF es hv k,By l k)↔¬First es hv k:=by
 constructor
 .rintro⟨l,hl,hb⟩ hf
  obtain⟨e,h1,h2,rfl⟩:=nM.1 hl;have a1:=Cy (by omega) hb;have:=hf e (by rw[a1];exact(xR (by omega)).2);omega
 .intro hf
  obtain⟨e0,h1,h2,h3⟩:=xO (hv:=hv) hk;have hne:e0≠k:=fun e=>hf (e▸h2)
  exact⟨_,nM.2 ⟨e0,by omega,h2,rfl⟩,h3⟩
theorem qU (k:Nat):(jF es hv k).length<=k:=by
 induction k with
 |zero=>simp[jF]
 |succ k ih=>
  unfold jF
  split
  .simp;omega
  .omega
end
end Ku
end
section
namespace Ku
section
variable {S:Sys} {h0 j x k:Nat}
theorem CD (hh:h0<S.M):0<(all S h0).length:=by
 obtain⟨_,_,_,hd,_⟩:=bJ hh;cases hA:all S h0 with
 |nil=>rw[hA] at hd;cases hd
 |cons=>simp
theorem all_zero (hh:h0<S.M):(all S h0)[0]? =some h0:=by
 obtain⟨_,_,_,hd,_⟩:=bJ hh;rw[<-List.head?_eq_getElem?];exact hd
theorem all_none (hh:h0<S.M) (hx:(all S h0)[j]? =some x) (e:S.nx x=none):j+1=(all S h0).length:=by
 obtain⟨t,_⟩:=bJ hh;have hj:=(aah.1 hx).1;refine abp fun hc=> ?_
 obtain⟨y,hy⟩:∃y,(all S h0)[j+1]? =some y:=⟨_,aac (by omega)⟩;have:=t j x y hx hy;rw[e] at this;cases this
theorem xS (hh:h0<S.M) (hx:(all S h0)[j]? =some x) (e:S.nx x=some h0):j+1=(all S h0).length:=by
 obtain⟨t,nd,_⟩:=bJ hh;have hj:=(aah.1 hx).1;refine abp fun hc=> ?_
 obtain⟨y,hy⟩:∃y,(all S h0)[j+1]? =some y:=⟨_,aac (by omega)⟩;have h1:=t j x y hx hy;rw[e] at h1;cases h1;have h2:=all_zero hh;obtain⟨a1,a2⟩:=aah.1 hy;obtain⟨b1,b2⟩:=aah.1 h2;have:=(List.getElem_inj nd).1 (a2.trans b2.symm);omega
theorem Al (hh:h0<S.M) (hx:(all S h0)[j]? =some x) (e:S.nx x=some k) (hk:k≠h0):(all S h0)[j+1]? =some k:=by
 obtain⟨t,_,_,_,z,hz,he⟩:=bJ hh;have hj:=(aah.1 hx).1;by_cases hl:j+1<(all S h0).length
 .obtain⟨y,hy⟩:∃y,(all S h0)[j+1]? =some y:=⟨_,aac hl⟩
  have:=t j x y hx hy;rw[e] at this;rw[hy,<-aaG this]
 .exfalso
  have:(all S h0)[(all S h0).length-1]? =some z:=by rw[<-aeu];exact hz
  rw[show(all S h0).length-1=j by omega,hx] at this;cases this;rw[e] at he;rcases he with he|he
  .cases he
  .exact hk (aaG he)
theorem P8 (hh:h0<S.M) (hx:(all S h0)[j]? =some x) (e:S.nx x=some k):k≠S.tw h0:=by
 intro hk;subst hk;obtain⟨t,_⟩:=bJ hh;have h1:=S.rev x _ e;rw[S.tt] at h1;have Du:=aai hx;by_cases hc:S.tw x=h0
 ·
  have:=t.qy Du (aai (all_zero hh));exact this (by rw[hc])
 .have h2:=Al hh (all_zero hh) h1 hc
  exact t.qy Du (aai h2) rfl
end
section
variable {S:Gs}
theorem Qv {l:List Nat} (hn:l≠[]) (k:Nat):vs S (l++[k])=vs S l++[S.to k]:=by
 cases l with
 |nil=>exact absurd rfl hn
 |cons h l=>simp[vs]
theorem tV {l:List Nat} {j k:Nat} (h:l[j]? =some k):l.take (j+1)=l.take j++[k]:=by
 rw[ab5,h];rfl
end
section
variable {es:List (Int×Int)} {n:Int}
open Cs
theorem JF {h:Nat} (hh:h<2*es.length):∃p,es[h/2]? =some p:=⟨_,aac (by omega)⟩
theorem B6 (hv:Si.Val n es) {h:Nat} {p:Int×Int} (hp:es[h/2]? =some p):(p.1=(fr es h:Int)/\p.2=(to es h:Int))\/(p.1=(to es h:Int)/\p.2=(fr es h:Int)):=by
 have hok:=hv.each _ p hp;unfold Si.ok at hok;rcases abF h with e|e
 .have:=cY hp
  rw[show 2*(h/2)=h by omega] at this;left;omega
 .have:=gw hp
  rw[show 2*(h/2)+1=h by omega] at this;right;omega
theorem LC (hv:Si.Val n es) {h:Nat} (hh:h<2*es.length) {p:Int×Int} (hp:es[h/2]? =some p):(if p.1=(fr es h:Int) then p.2 else p.1)=(to es h:Int):=by
 have hne:=IC hv hh;rcases B6 hv hp with ⟨h1,h2⟩|⟨h1,h2⟩
 .rw[if_pos h1,h2]
 .rw[if_neg (by omega),h1]
theorem QV (hv:Si.Val n es) {h k i:Nat} {p:Int×Int} (hk:fL es h=some k) (hp:es[i]? =some p) (hi:i≠h/2) (hin:p.1=(to es h:Int)\/p.2=(to es h:Int)):i=k/2:=by
 obtain⟨e,_⟩:=gu hk;have hil:=(aah.1 hp).1;have hok:=hv.each _ p hp;unfold Si.ok at hok;obtain⟨x,hx,Xs,eP⟩:∃x,x<2*es.length/\fr es x=to es h/\x/2=i:=by
  rcases hin with hin|hin
  .refine⟨2*i,by omega,?_,by omega⟩
   have:=(cY hp).1;omega
  .refine⟨2*i+1,by omega,?_,by omega⟩
   have:=(gw hp).1;omega
 have hm:x∈out es (to es h) (2*es.length):=gN.2 ⟨hx,Xs⟩;have ht:=gU h;rcases e with e|e<;>rw[e] at hm<;>simp only[aaU,abL,or_false] at hm
 .rcases hm with rfl|rfl
  .omega
  .omega
 .rcases hm with rfl|rfl
  .omega
  .omega
theorem Be (hv:Si.Val n es) {h k:Nat} (hk:fL es h=some k):∃p,es[k/2]? =some p/\(p.1=(to es h:Int)\/p.2=(to es h:Int))/\k/2≠h/2/\k<2*es.length/\fr es k=to es h:=by
 obtain⟨e,hne⟩:=gu hk;have hm:k∈out es (to es h) (2*es.length):=by rcases e with e|e<;>rw[e]<;>simp
 obtain⟨h1,h2⟩:=gN.1 hm;obtain⟨p,hp⟩:=JF h1;refine⟨p,hp,?_,fun hc=> ?_,h1,h2⟩
 .rcases B6 hv hp with ⟨a,b⟩|⟨a,b⟩
  .left;rw[a,h2]
  .right;rw[b,h2]
 ·
  have:k=h\/k=twin h:=by
   unfold twin
   split<;>omega
  rcases this with rfl|h3
  .have hh:k<2*es.length:=h1
   exact IC hv hh h2
  .exact hne h3
end
end Ku
end
section
open Go.RowKit Go.Sort
def Ku.Ob (es:List (Int×Int)) (v e r:Int):Prop:=(r= -1/\∀(i:Nat) (p:Int×Int),es[i]? =some p->(i:Int)≠e->p.1≠v/\p.2≠v)\/∃(i:Nat) (p:Int×Int),r=(i:Int)/\es[i]? =some p/\(i:Int)≠e/\(p.1=v\/p.2=v)
theorem Ku.OG {l:List Int} {k:Nat} {x:Int} (h:l[k]? =some x):(l.drop (k+1)).reverse++[x]=(l.drop k).reverse:=by
 obtain⟨hk,e⟩:=aah.1 h;rw[ac7 hk,List.reverse_cons,e]
end
section
open Go.RowKit Go.Sort
namespace Ku
def gI (l:List Int) (i:Nat):Int:=l.getD i 0
theorem bK {l:List Int} {i:Nat} {x:Int} (h:l[i]? =some x):gI l i=x:=by unfold gI;rw[aao,h];rfl
def bM (l:List Int):List Int:=if gI l (l.length-1)<gI l 0\/(gI l 0=gI l (l.length-1)/\gI l (l.length-2)<gI l 1) then l.reverse else l
def ZL (c:List Nat):List Int:=c.map fun x:Nat=>(x:Int)
theorem bL (c:List Nat):(ZL c).length=c.length:=by simp[ZL]
theorem CG (c:List Nat) (i:Nat):(ZL c)[i]? =(c[i]?).map fun x:Nat=>(x:Int):=by simp[ZL]
theorem Cg (c:List Nat) (i:Nat):gI (ZL c) i=(at_ c i:Int):=by
 unfold gI at_;rw[aao,aao,CG];cases c[i]? <;>rfl
theorem qd (c:List Nat):bM (ZL c)=ZL (written c):=by
 unfold bM written;simp only[Cg,bL];by_cases h:at_ c (c.length-1)<at_ c 0\/(at_ c 0=at_ c (c.length-1)/\at_ c (c.length-2)<at_ c 1)
 .rw[if_pos h,if_pos (by omega)]
  simp[ZL,List.map_reverse]
 .rw[if_neg h,if_neg (by omega)]
end Ku
def Ku.GQ (l:List Int) (a b:Int):Prop:=∃(j:Nat) (x y:Int),l[j]? =some x/\l[j+1]? =some y/\((x=a/\y=b)\/(x=b/\y=a))
def Ku.P9 (l:List Int) (a b:Int) (w:World) (e:Ending) (w':World):Prop:=∃r:Bool,e= .returned (.bool r)/\(r=true↔Ku.GQ l a b)/\Below w.heap.size w w'
end
section
open Go.RowKit Go.Sort
def Ku.tW (v:Value):Nat:=match v with| .slice _ n _=>n|_=>0
theorem Ku.GH {n:Nat} {es:List (Int×Int)} (hv:Si.Val (n:Int) es) {v:Nat} (h:v<n):(Si.aS (n:Int) es)[v]? =some (Ku.dg es v:Int):=by
 have:=Cs.nX hv es.length (aad _) v h;rw[abW] at this;exact this
end
section
open Go.RowKit Go.Sort
namespace Ku
def ji (l:List Int) (L k i:Nat):List Int:=(List.range i).map fun t=>gI l ((k+t)%L)
theorem Hs (l:List Int) (L k i:Nat):ji l L k (i+1)=ji l L k i++[gI l ((k+i)%L)]:=by
 unfold ji;rw[acK,abj];rfl
theorem mR (l:List Int) (L k i:Nat):(ji l L k i).length=i:=by simp[ji]
end Ku
def Ku.TZ (l:List Int) (L:Nat) (w:World) (e:Ending) (w':World):Prop:=
 ∃(k:Nat) (v:Value),k<L/\(∀i,i<L->Ku.gI l k<=Ku.gI l i)/\e= .returned v/\aj w' w.heap.size v (Ku.bM (Ku.ji l L k L++[Ku.gI l k]))/\Below w.heap.size w w'
end
section
open Go.RowKit Go.Sort
namespace Ku
section
variable {es:List (Int×Int)} {n:Int} {hv:Si.Val n es}
theorem QA (c:List Nat) (L k:Nat) (i:Nat):ji (ZL c) L k i=ZL ((List.range i).map fun t=>at_ c ((k+t)%L)):=by
 unfold ji ZL;rw[adq];exact abT fun t _=>Cg c _
theorem PX {e:Nat} (he:e<es.length) (c:dN (gs es hv).toSys (all (gs es hv).toSys (2*e))) {k:Nat} (hk:k<(all (gs es hv).toSys (2*e)).length)
 (hmin:∀i,i<(all (gs es hv).toSys (2*e)).length->gI (ZL (vs (gs es hv) (all (gs es hv).toSys (2*e)))) k<=gI (ZL (vs (gs es hv) (all (gs es hv).toSys (2*e)))) i):
 bM (ji (ZL (vs (gs es hv) (all (gs es hv).toSys (2*e)))) (all (gs es hv).toSys (2*e)).length k (all (gs es hv).toSys (2*e)).length++[gI (ZL (vs (gs es hv) (all (gs es hv).toSys (2*e)))) k])=ZL (vs (gs es hv) (ch es hv e)):=by
 have hh:2*e<(gs es hv).toSys.M:=show 2*e<2*es.length by omega
 obtain⟨_,_,lt,hd,_⟩:=bJ hh;have DT:=ads hd;obtain⟨l,cl,F7,ml,sub,hvs⟩:=c.turn lt hk (fun i hi=>by
  have:=hmin i hi;rw[Cg,Cg] at this;omega)
 obtain⟨l',cn,hw,hin⟩:=cl.written F7 ml;have hc:ch es hv e=l':=by
  rcases hin _ (sub _ DT) with h|h
  .exact qV cn h (by omega)
  .exact qV cn h (by show Cs.twin (2*e)/2=e;rw[gU];omega)
 rw[hc,hw,<-qd,hvs,QA,Cg]
 congr 1
 simp[ZL]
theorem SR {e:Nat} (he:e<es.length) (hend:∀a,(all (gs es hv).toSys (2*e))[(all (gs es hv).toSys (2*e)).length-1]? =some a->fL es a=none):
 bM ((ZL (vs (gs es hv) (all (gs es hv).toSys (2*e+1)))).reverse++(ZL (vs (gs es hv) (all (gs es hv).toSys (2*e)))).drop 2)=ZL (vs (gs es hv) (ch es hv e)):=by
 have hh:2*e<(gs es hv).M:=show 2*e<2*es.length by omega
 obtain⟨l,o,h1,F7,hvs,_⟩:=uL (S:=gs es hv) hh hend;have ht:(gs es hv).tw (2*e)=2*e+1:=by show Cs.twin (2*e)=_;unfold Cs.twin;rw[if_pos (by omega)]
 rw[ht] at hvs;obtain⟨l',cn,hw,hin⟩:=o.written F7;have hc:ch es hv e=l':=by
  rcases hin _ h1 with h|h
  .exact qV cn h (by omega)
  .exact qV cn h (by show Cs.twin (2*e)/2=e;rw[gU];omega)
 rw[hc,hw,<-qd,hvs]
 congr 1
 unfold ZL;rw[abj,List.map_reverse,List.map_drop]
theorem Q8 {T:List Nat} {x:Nat} (hx:T[T.length-1]? =some x):(ZL (vs (gs es hv) T))[T.length]? =some (Cs.to es x:Int):=by
 have hp:=(aah.1 hx).1;rw[CG,show T.length=(T.length-1)+1 by omega,gM,hx];show some (((gs es hv).to x:Nat):Int)=_;rw[Gy]
end
end Ku
end
section
open Go.RowKit Go.Sort
theorem aX {w w':World} {b:Nat} {o:Obj} (h:w.heap[b]? =some o) (hb:Below w.heap.size w w'):w'.heap[b]? =some o:=(hb.block b (aa3.1 h).1).trans h
namespace Ku
section
variable {es:List (Int×Int)} {n:Int} {hv:Si.Val n es}
noncomputable def rows (es:List (Int×Int)) {n:Int} (hv:Si.Val n es) (k:Nat):List (List Int):=(jF es hv k).map fun l=>ZL (vs (gs es hv) l)
theorem Ex {k:Nat} (h:First es hv k):rows es hv (k+1)=rows es hv k++[ZL (vs (gs es hv) (ch es hv k))]:=by
 unfold rows;simp only[jF];rw[if_pos h,abj];rfl
theorem Ia {k:Nat} (h:¬First es hv k):rows es hv (k+1)=rows es hv k:=by
 unfold rows;simp only[jF];rw[if_neg h]
theorem kF (k:Nat):(rows es hv k).length=(jF es hv k).length:=by simp[rows]
theorem qp {k t:Nat} {l:List Int} (h:(rows es hv k)[t]? =some l):∃c,(jF es hv k)[t]? =some c/\l=ZL (vs (gs es hv) c):=by
 unfold rows at h;rw[aaP] at h;obtain⟨c,hc,rfl⟩:=abA.1 h;exact⟨c,hc,rfl⟩
theorem wE {k:Nat} (hk:k<=es.length) {c:List Nat} (h:c∈jF es hv k):Cn (gs es hv) c:=by
 obtain⟨e,h1,_,rfl⟩:=nM.1 h;exact(xR (by omega)).1
theorem GK {c:List Nat} (h:Cn (gs es hv) c):c.length<=2*es.length:=by
 rcases h.kind with o|o
 ·
  have hnd:c.Nodup:=o.tr.nodup fun i hi e=>by
   have hp:=cN o.ne;obtain⟨a,ha⟩:∃a,c[0]? =some a:=⟨_,aac hp⟩;rw[ha] at e;obtain⟨b,hb⟩:∃b,c[i-1]? =some b:=⟨_,aac (by have:=(aah.1 e).1;omega)⟩;have h1:=o.tr (i-1) b a hb (by rw[show i-1+1=i by omega];exact e);have h2:=(gs es hv).rev b a h1;rw[o.fst a ha] at h2;cases h2
  exact fk hnd h.lt
 .exact fk o.1.nd h.lt
theorem QC {c:List Nat} (h:Cn (gs es hv) c) {i:Nat} {p:Int×Int} (hp:es[i]? =some p):GQ (ZL (vs (gs es hv) c)) p.1 p.2↔By c i:=by
 have hi:=(aah.1 hp).1;have hok:=hv.each _ p hp;unfold Si.ok at hok;have f1:=Cs.cY hp;have f2:=Cs.gw hp;have hstep:∀j,j<c.length->∃x,c[j]? =some x/\(ZL (vs (gs es hv) c))[j]? =some (Cs.fr es x:Int)/\(ZL (vs (gs es hv) c))[j+1]? =some (Cs.to es x:Int):=fun j hj=>by
  obtain⟨x,hx⟩:∃x,c[j]? =some x:=⟨_,aac hj⟩;refine⟨x,hx,?_,?_⟩
  .rw[CG,tS h.tr hj,hx]
   rfl
  .rw[CG,gM,hx]
   show some (((gs es hv).to x:Nat):Int)=_;rw[Gy]
 constructor
 .rintro⟨j,u,v,hu,hw,hh⟩
  have hj:j<c.length:=by
   have:=(aah.1 hw).1;rw[bL,bC h.ne] at this;omega
  obtain⟨x,hx,e1,e2⟩:=hstep j hj;rw[e1] at hu;rw[e2] at hw;have hu:=aaG hu;have hw:=aaG hw;have hxl:x<2*es.length:=h.lt x (aai hx);have key:∀y,y<2*es.length->Cs.fr es x=Cs.fr es y->Cs.to es x=Cs.to es y->x=y:=fun y hy a b=>(gs es hv).simple x y hxl hy a (by show Cs.fr es (Cs.twin x)=Cs.fr es (Cs.twin y);rw[Cs.fQ,Cs.fQ];exact b)
  rcases hh with ⟨ha,hb⟩|⟨ha,hb⟩
  .refine⟨x,aai hx,?_⟩
   rw[key (2*i) (by omega) (by omega) (by omega)];omega
  .refine⟨x,aai hx,?_⟩
   rw[key (2*i+1) (by omega) (by omega) (by omega)];omega
 .rintro⟨x,hx,eP⟩
  obtain⟨j,hj,ej⟩:=aaT.1 hx;obtain⟨y,hy,e1,e2⟩:=hstep j hj;rw[aac hj,ej] at hy;cases hy;refine⟨j,_,_,e1,e2,?_⟩;rcases abF x with e|e
  .rw[show x=2*i by omega]
   omega
  .rw[show x=2*i+1 by omega]
   omega
end
def T6 (n:Int) (es:List (Int×Int)) (w:World) (e:Ending) (w':World):Prop:=
 ((Si.valid n es=false/\e= .returned (.tuple #[.slice none 0 0,.int .i64 1]))\/∃(hv:Si.Val n es) (v:Value) (us:List Value),e= .returned (.tuple #[v,.int .i64 0])/\ay w' w.heap.size v us (rows es hv es.length))/\Below w.heap.size w w'
theorem qC {w:World} {B:Nat} {v:Value} {vs:List Value} {ls:List (List Int)} (h:ay w B v vs ls) {k:Nat} {x:Value} (hx:vs[k]? =some x):∃g c,v= .slice (some ⟨g,0,none⟩) ls.length c/\w.cell? ⟨g,k,none⟩=some x:=by
 have hk:=(aah.1 hx).1;have hl:=h.len;rcases h.outer.2 with ⟨_,h0⟩|⟨g,c,cur,e,_⟩
 .omega
 .refine⟨g,c,e,?_⟩
  have:=aco h.outer (g:=g) (by rw[e];rfl) k x hx;have ea:((⟨g,0,none⟩:Addr).add k)=⟨g,k,none⟩:=by
   by_cases h0:k=0<;>simp[Addr.add,h0]
  rw[ea] at this;exact this
end Ku
end
section
open Go.RowKit Go.Sort
namespace Ku
def cA (l:List Int) (d:Int):Nat->List Int
 |0=>[]
 |k+1=>if gI l k=d then cA l d k++[(k:Int)] else cA l d k
theorem mE (l:List Int) (d:Int):∀k,(cA l d k).length<=k
 |0=>aad _
 |k+1=>by
  have:=mE l d k;unfold cA
  split
  .rw[aar];simp;omega
  .omega
def hit (l:List Int) (x y:Int):Option (List Int):=if gI l 0=x/\gI l (l.length-1)=y then some l else if gI l 0=y/\gI l (l.length-1)=x then some l.reverse else none
def cj (ls:List (List Int)) (x y:Int):Nat->List Int×Nat
 |0=>([],0)
 |k+1=>match hit (ls.getD k []) x y with
  |some r=>(r,(cj ls x y k).2+1)
  |none=>cj ls x y k
theorem Kq (ls:List (List Int)) (x y:Int):∀k,(cj ls x y k).2<=k
 |0=>aad _
 |k+1=>by
  have:=Kq ls x y k;unfold cj
  split
  .simp;omega
  .omega
theorem uO {ls:List (List Int)} {x y:Int} {k:Nat} {l r:List Int} (h:ls[k]? =some l) (hr:hit l x y=some r):cj ls x y (k+1)=(r,(cj ls x y k).2+1):=by
 have e:ls.getD k []=l:=by rw[aao,h];rfl
 show(match hit (ls.getD k []) x y with|some r=>(r,(cj ls x y k).2+1)|none=>cj ls x y k)=_;rw[e,hr]
theorem uP {ls:List (List Int)} {x y:Int} {k:Nat} {l:List Int} (h:ls[k]? =some l) (hr:hit l x y=none):cj ls x y (k+1)=cj ls x y k:=by
 have e:ls.getD k []=l:=by rw[aao,h];rfl
 show(match hit (ls.getD k []) x y with|some r=>(r,(cj ls x y k).2+1)|none=>cj ls x y k)=_;rw[e,hr]
def fq (w:World) (v:Value) (l:List Int):Prop:=∃a c,v= .slice a l.length c/\aU w a l
theorem fq.same {w w':World} {v:Value} {l:List Int} (h:fq w v l) (hb:∀b,v.ownBlock=some b->w'.heap[b]? =w.heap[b]?):fq w' v l:=by
 obtain⟨a,c,rfl,hi⟩:=h;refine⟨a,c,rfl,fun j x hj=> ?_⟩;obtain⟨b,o,rfl,hc⟩:=hi j x hj;exact⟨b,o,rfl,(abJ (a:=⟨b,o+j,none⟩) (hb b rfl)).trans hc⟩
def From (us:List Value) (w:World) (v:Value):Prop:=∀b,v.ownBlock=some b->(∃u∈us,u.ownBlock=some b)\/w.heap.size<=b
theorem fq.later {w w':World} {v:Value} {l:List Int} (h:fq w v l) (hb:Below w.heap.size w w'):fq w' v l:=by
 obtain⟨a,c,e,hi⟩:=h;exact⟨a,c,e,hi.later hb⟩
end Ku
def Ku.T7 (us:List Value) (ls:List (List Int)) (x y:Int) (w:World) (e:Ending) (w':World):Prop:=
 ∃v,e= .returned (.tuple #[v,.bool ((((Ku.cj ls x y ls.length).2:Nat):Int)==1)])/\Ku.fq w' v (Ku.cj ls x y ls.length).1/\Ku.From us w v/\Below w.heap.size w w'
end
section
open Go.RowKit Go.Sort
theorem Fj {ops:Array Oper} {rest:List Oper} {o:Oper} {a:Act} {Q:Exit->Act->World->Prop} (hgd:o.guard=none) (s x:Operand)
 (ho:o.op= .call { callee:= .builtin .append,args:= #[s,x],argTypes:= #[55,55] }) (W:World) (B:Nat) (v u:Value) (l m:List Int) (hown:aj W B v l) (hu:aj W B u m)
 (hB:B<=W.heap.size) (hl:l.length+m.length<=17592186044000) (hs:a.eval s=v) (hx:a.eval x=u)
 (h:∀v' w',aj w' B v' (l++m)->Below B W w'->wpList Tryz.prog ops Q rest (a.put o.dst v') w'):
 wpList Tryz.prog ops Q (o::rest) a W:=by
 obtain⟨i0,hi,hz0,hz1,hz2⟩:=info_parts Tryz.b7;have Pq:∀b,v.ownBlock=some b->B<=b:=fun b hb=>(aap hown b hb).1
 rcases hu.2 with ⟨rfl,hm0⟩|⟨g,cap,cur,rfl,hgB,hh,hc,hm,hsz,ht⟩
 .obtain rfl:=List.eq_nil_of_length_eq_zero hm0
  obtain⟨va,vc,rfl,-,-⟩:=hown.form;have hle:l.length<=vc:=by
   rcases hown.2 with ⟨e,h0⟩|⟨g,cap,cur,e,_,_,hc,_⟩
   .omega
   .cases e;exact hc
  refine wpList_plain hgd fun K hK=> ?_
  have hr:=run_append_nothing (P:=Tryz.prog) W 55 55 o.type 3 i0 Tryz.underlying55 hi va l.length vc hle _ (Src.ofNil (w:=W) (size:=i0.size) Tryz.underlying55 0);unfold Oper.wp execOp;simp only[ho,resolve,invoke,builtin,aew,aex,ad4,ad7,ab7,adH,hs,hx,hr];exact hK _ _ (h _ W (by rw[abQ];exact hown) (aae _ _))
 .refine wpList_append_own_at _ hgd s x 55 ho B 3 i0 (.int .i64 0) 1 8 Tryz.underlying55 hi hz0 hz1 hz2 rfl (by decide) _ _ _ hs hown ⟨g,0,none⟩ m.length cap (m.map (Value.int .i64)) hx (by simp) (fun j y hj=>aco hu (g:=g) rfl j y hj) (fun y hy=>by
   obtain⟨z,_,rfl⟩:=abP.1 hy;rfl) (by unfold maxLen;omega) (by omega) hB ?_
  intro v' w' hown' hg _ hat;refine h v' w' ?_ ((aae B W).grown hg hB Pq);unfold aj;rw[aar,abj];exact hown'
namespace Ku
def xU (l:List Int) (a b:Int):Prop:=(gI l 0=a/\gI l (l.length-1)=b)\/(gI l (l.length-1)=a/\gI l 0=b)
def jM (ls:List (List Int)) (h:List Int) (k:Nat):Prop:=(∃l∈ls,xU l (gI h 0) (gI h k))/\0<k
open Classical in
noncomputable def e6 (ls:List (List Int)) (h:List Int):Nat->List Int
 |0=>[]
 |k+1=>if jM ls h k then e6 ls h k else e6 ls h k++[gI h k]
open Classical in
noncomputable def iO (ls:List (List Int)) (h:List Int):Nat->List Int
 |0=>[]
 |k+1=>if jM ls h k then iO ls h k++[gI h k] else iO ls h k
theorem tX (ls:List (List Int)) (h:List Int):∀k,(e6 ls h k).length+(iO ls h k).length=k
 |0=>rfl
 |k+1=>by
  have:=tX ls h k;unfold e6 iO
  split
  .rw[aar];simp;omega
  .rw[aar];simp;omega
theorem EI {ls:List (List Int)} {h:List Int} {k:Nat} (a:jM ls h k):e6 ls h (k+1)=e6 ls h k:=if_pos a
theorem II {ls:List (List Int)} {h:List Int} {k:Nat} (a:¬jM ls h k):e6 ls h (k+1)=e6 ls h k++[gI h k]:=if_neg a
theorem JY {ls:List (List Int)} {h:List Int} {k:Nat} (a:jM ls h k):iO ls h (k+1)=iO ls h k++[gI h k]:=if_pos a
theorem NT {ls:List (List Int)} {h:List Int} {k:Nat} (a:¬jM ls h k):iO ls h (k+1)=iO ls h k:=if_neg a
structure CH (w:World) (B:Nat) (v u:Value) (l m:List Int):Prop where
 one:aj w B v l
 two:aj w B u m
 apart:∀b,v.ownBlock=some b->u.ownBlock≠some b
theorem CH.swap {w:World} {B:Nat} {v u:Value} {l m:List Int} (h:CH w B v u l m):CH w B u v m l:=⟨h.two,h.one,fun b hb e=>h.apart b e hb⟩
theorem CH.push {w w':World} {ob:Obj} {B:Nat} {v v' u:Value} {l m:List Int} {z:Int} (h:CH w B v u l m) (ho:aj w' B v' (l++[z])) (hg:(w.alloc ob).grownBy w' v.ownBlock) (hat:v'.ownBlock=v.ownBlock\/v'.ownBlock=some (w.heap.size+1)):CH w' B v' u (l++[z]) m:=by
 refine⟨ho,h.two.same fun g hg' hlt=> ?_,fun b hb e=> ?_⟩
 .rw[hg.block g (by simp;omega) (fun e=>h.apart g e.symm hg')]
  exact heap_alloc_old w ob hlt
 .rcases hat with e1|e1
  .exact h.apart b (by rw[<-e1];exact hb) e
  .have:=(aap h.two b e).2
   rw[hb] at e1;cases e1;omega
end Ku
end
section
open Go.RowKit Go.Sort
namespace Ku
def o9 (w:World) (v:Value) (ls:List (List Int)):Prop:=∃ao c,v= .slice ao ls.length c/\∀(k:Nat) (l:List Int),ls[k]? =some l->∃b o x,ao=some ⟨b,o,none⟩/\w.cell? ⟨b,o+k,none⟩=some x/\fq w x l
theorem o9.later {w w':World} {v:Value} {ls:List (List Int)} (h:o9 w v ls) (hb:Below w.heap.size w w'):o9 w' v ls:=by
 obtain⟨ao,c,e,hr⟩:=h;refine⟨ao,c,e,fun k l hl=> ?_⟩;obtain⟨b,o,x,e1,hc,hs⟩:=hr k l hl;exact⟨b,o,x,e1,(hb.cell (p:=⟨b,o+k,none⟩) (block_lt_of_cell hc)).trans hc,hs.later hb⟩
theorem tY {w:World} {B:Nat} {v:Value} {vs:List Value} {ls:List (List Int)} (h:ay w B v vs ls):o9 w v ls:=by
 obtain⟨ao,c,rfl⟩:=bG h;refine⟨ao,c,rfl,fun k l hl=> ?_⟩;obtain⟨x,hx⟩:=h.at' hl;obtain⟨g,c',e,hc⟩:=qC h hx;cases e;obtain⟨xa,xc,jB,eP,-⟩:=(h.row k x l hx hl).form;exact⟨g,0,x,rfl,by rw[abI];exact hc,xa,xc,jB,eP⟩
end Ku
theorem aO {w:World} {b:Nat} {t:TypeId} {x y z:Value} (h:w.heap[b]? =some (.cells #[x,y,z] t (0,0))):w.cell? ⟨b,0,none⟩=some x/\w.cell? ⟨b,1,none⟩=some y/\w.cell? ⟨b,2,none⟩=some z/\∀i,w.frozen? ⟨b,i,none⟩=false:=by
 refine⟨by simp[World.cell?,h],by simp[World.cell?,h],by simp[World.cell?,h],fun i=> ?_⟩;simp[World.frozen?,h]
end
end Go.Proofs.YtdbjpbjocmcpkaaGreatDoor
