import Derived.Test.YtdbjpbjocmcpkaaGreatDoorMk07
namespace Go.Proofs.YtdbjpbjocmcpkaaGreatDoor
section
namespace Ku
structure Sys where
 M:Nat
 tw:Nat->Nat
 nx:Nat->Option Nat
 tt:∀h,tw (tw h)=h
 tn:∀h,tw h≠h
 tl:∀h,h<M->tw h<M
 nl:∀h k,h<M->nx h=some k->k<M
 rev:∀h k,nx h=some k->nx (tw k)=some (tw h)
 Uf:∀h,nx h≠some (tw h)
variable {S:Sys}
theorem Sys.inj {h h' k:Nat} (a:S.nx h=some k) (b:S.nx h'=some k):h=h':=by
 have e1:=S.rev h k a;have e2:=S.rev h' k b;rw[e1] at e2;have:=aaQ e2;rw[<-S.tt h,this,S.tt]
theorem Sys.TV {h h':Nat} (e:S.tw h=S.tw h'):h=h':=by rw[<-S.tt h,e,S.tt]
def Tr (S:Sys) (l:List Nat):Prop:=∀(i a b:Nat),l[i]? =some a->l[i+1]? =some b->S.nx a=some b
theorem Tr.cons {h k:Nat} {l:List Nat} (e:S.nx h=some k) (t:Tr S (k::l)):Tr S (h::k::l):=by
 intro i a b ha hb;cases i with
 |zero=>
  simp at ha hb;subst ha;subst hb;exact e
 |succ i=>exact t i a b (by simpa using ha) (by simpa using hb)
theorem Tr.one (h:Nat):Tr S [h]:=by
 intro i a b ha hb;have:=(aaF.1 hb).1;simp at this
theorem Tr.twin {l:List Nat} (t:Tr S l):∀(d i a b:Nat),l[i]? =some a->l[i+d]? =some b->b≠S.tw a
 |0,i,a,b,ha,hb,e=>by
  rw[abv,ha] at hb;cases hb;exact S.tn a e.symm
 |1,i,a,b,ha,hb,e=>by
  have:=t i a b ha hb;rw[e] at this;exact S.Uf a this
 |d+2,i,a,b,ha,hb,e=>by
  have hl:=(aaF.1 hb).1;obtain⟨a',ha'⟩:∃a',l[i+1]? =some a':=⟨_,aaC (by omega)⟩;obtain⟨b',hb'⟩:∃b',l[i+1+d]? =some b':=⟨_,aaC (by omega)⟩;have h1:=t i a a' ha ha';have h2:=t (i+1+d) b' b hb' (by rw[show i+1+d+1=i+(d+2) by omega];exact hb);have h3:=S.rev b' b h2;rw[e,S.tt,h1] at h3;have h4:=aaQ h3;refine t.twin d (i+1) a' b' ha' hb' ?_;rw[h4,S.tt]
theorem Tr.wY {l:List Nat} (t:Tr S l) {a b:Nat} (ha:a∈l) (hb:b∈l):b≠S.tw a:=by
 obtain⟨i,hi,ei⟩:=aaT.1 ha;obtain⟨j,hj,ej⟩:=aaT.1 hb;have h1:l[i]? =some a:=by rw[<-ei];exact aaC hi
 have h2:l[j]? =some b:=by rw[<-ej];exact aaC hj
 rcases Nat.le_total i j with h|h
 .exact t.twin (j-i) i a b h1 (by rw[show i+(j-i)=j by omega];exact h2)
 .intro e
  refine t.twin (i-j) j b a h2 (by rw[show j+(i-j)=i by omega];exact h1) ?_;rw[e,S.tt]
theorem Tr.back {l l':List Nat} (t:Tr S l) (t':Tr S l'):∀(d i j a:Nat),l[i+d]? =some a->l'[j+d]? =some a->l[i]? =l'[j]?
 |0,i,j,a,h1,h2=>h1.trans h2.symm
 |d+1,i,j,a,h1,h2=>by
  have k1:=(aaF.1 h1).1;have k2:=(aaF.1 h2).1;obtain⟨b,hb⟩:∃b,l[i+d]? =some b:=⟨_,aaC (by omega)⟩;obtain⟨b',hb'⟩:∃b,l'[j+d]? =some b:=⟨_,aaC (by omega)⟩;have e:=S.inj (t (i+d) b a hb (by rw[show i+d+1=i+(d+1) by omega];exact h1)) (t' (j+d) b' a hb' (by rw[show j+d+1=j+(d+1) by omega];exact h2));subst e;exact t.back t' d i j b hb hb'
theorem Tr.on {l l':List Nat} (t:Tr S l) (t':Tr S l') {i j a:Nat} (h1:l[i]? =some a) (h2:l'[j]? =some a):∀(d b:Nat),l[i+d]? =some b->j+d<l'.length->l'[j+d]? =some b
 |0,b,hb,_=>by rw[abv] at hb ⊢;rw[h1] at hb;rw[h2];exact hb
 |d+1,b,hb,hl=>by
  have k1:=(aaF.1 hb).1;obtain⟨c,hc⟩:∃c,l[i+d]? =some c:=⟨_,aaC (by omega)⟩;have hc':=t.on t' h1 h2 d c hc (by omega);obtain⟨b',hb'⟩:∃b,l'[j+(d+1)]? =some b:=⟨_,aaC hl⟩;have e1:=t (i+d) c b hc hb;have e2:=t' (j+d) c b' hc' hb';rw[e1] at e2;rw[hb',aaQ e2]
theorem Tr.nodup {l:List Nat} (t:Tr S l) (h0:∀i,0<i->l[i]? ≠l[0]?):l.Nodup:=by
 rw[acs,aa8];intro i j hi hj hij e;have h1:l[0+i]? =some l[i]:=by rw[aa7];exact aaC hi
 have h2:l[(j-i)+i]? =some l[i]:=by rw[show j-i+i=j by omega,e];exact aaC hj
 exact h0 (j-i) (by omega) (t.back t i 0 (j-i) _ h1 h2).symm
def rv (S:Sys) (l:List Nat):List Nat:=(l.map S.tw).reverse
theorem cj (l:List Nat):(rv S l).length=l.length:=by simp[rv]
theorem iW {l:List Nat} {i:Nat} (h:i<l.length):(rv S l)[i]? =(l[l.length-1-i]?).map S.tw:=by
 unfold rv;rw[acF (by simpa using h),aaY,aaP]
theorem cZ {l:List Nat} {h:Nat}:h∈rv S l↔S.tw h∈l:=by
 unfold rv;rw[List.mem_reverse,abu];constructor
 .rintro⟨a,ha,rfl⟩
  rw[S.tt];exact ha
 .intro h1
  exact⟨_,h1,S.tt h⟩
theorem Tr.rv {l:List Nat} (t:Tr S l):Tr S (rv S l):=by
 intro i a b ha hb;have hl:=(aaF.1 hb).1;rw[cj] at hl;rw[iW (by omega)] at ha hb;obtain⟨x,hx,rfl⟩:=abg.1 ha;obtain⟨y,hy,rfl⟩:=abg.1 hb;refine S.rev y x (t (l.length-1-(i+1)) y x hy ?_);rw[show l.length-1-(i+1)+1=l.length-1-i by omega];exact hx
def run (S:Sys) (h0:Nat):Nat->Nat->List Nat
 |0,h=>[h]
 |f+1,h=>match S.nx h with
  |none=>[h]
  |some k=>if k=h0 then [h] else h::run S h0 f k
theorem nZ (h0:Nat) (f h:Nat):∃l,run S h0 f h=h::l:=by
 cases f with
 |zero=>exact⟨[],rfl⟩
 |succ f=>
  unfold run
  split
  .exact⟨[],rfl⟩
  .split
   .exact⟨[],rfl⟩
   .exact⟨_,rfl⟩
theorem IK (h0:Nat):∀(f h:Nat),Tr S (run S h0 f h)
 |0,h=>Tr.one h
 |f+1,h=>by
  unfold run
  split
  .exact Tr.one h
  .rename_i k hk
   split
   .exact Tr.one h
   .obtain⟨l,hl⟩:=nZ (S:=S) h0 f k
    have:=IK h0 f k;rw[hl] at this ⊢;exact Tr.cons hk this
theorem IM {h0:Nat}:∀{f h:Nat},h<S.M->∀x∈run S h0 f h,x<S.M
 |0,h,hh,x,hx=>by simp[run] at hx;omega
 |f+1,h,hh,x,hx=>by
  unfold run at hx
  split at hx
  .simp at hx;omega
  .rename_i k hk
   split at hx
   .simp at hx;omega
   .rcases aaW.1 hx with rfl|hx
    .exact hh
    .exact IM (S.nl h k hh hk) x hx
theorem IL {h0:Nat}:∀{f h:Nat} (i:Nat),0<i->(run S h0 f h)[i]? ≠some h0
 |0,h,i,hi,e=>by
  have:=(aaF.1 e).1;simp[run] at this;omega
 |f+1,h,i,hi,e=>by
  unfold run at e
  split at e
  .have:=(aaF.1 e).1
   simp at this;omega
  .rename_i k hk
   split at e
   .have:=(aaF.1 e).1
    simp at this;omega
   .rename_i hne
    obtain⟨j,rfl⟩:∃j,i=j+1:=⟨i-1,by omega⟩;rw[abN] at e;cases j with
    |zero=>
     obtain⟨l,hl⟩:=nZ (S:=S) h0 f k;rw[hl] at e;simp at e;exact hne e
    |succ j=>exact IL (j+1) (by omega) e
theorem Df {h0:Nat}:∀{f h x:Nat},(run S h0 f h).getLast? =some x->(run S h0 f h).length<=f->S.nx x=none\/S.nx x=some h0
 |0,h,x,_,hl=>by simp[run] at hl
 |f+1,h,x,hx,hl=>by
  unfold run at hx hl
  split at hx
  .rename_i hk
   simp at hx;subst hx;exact .inl hk
  .rename_i k hk
   split at hx
   .rename_i e
    simp at hx;subst hx;exact .inr (by rw[hk,e])
   .rename_i hne
    rw[hk] at hl;dsimp only at hl;rw[if_neg hne] at hl;obtain⟨l,e⟩:=nZ (S:=S) h0 f k;refine Df (f:=f) (h:=k) ?_ (by simp at hl;omega);rw[e] at hx ⊢;rw[List.getLast?_cons_cons] at hx;exact hx
theorem lW {l:List Nat} {M:Nat} (hn:l.Nodup) (hl:∀x∈l,x<M):l.length<=M:=by
 have:=ach hn (l₂:=List.range M) (fun x hx=>aaX.2 (hl x hx));simpa using this
def all (S:Sys) (h0:Nat):List Nat:=run S h0 S.M h0
theorem bL {h0:Nat} (h:h0<S.M):Tr S (all S h0)/\(all S h0).Nodup/\(∀x∈all S h0,x<S.M)/\(all S h0).head? =some h0/\∃x,(all S h0).getLast? =some x/\(S.nx x=none\/S.nx x=some h0):=by
 obtain⟨l,e⟩:=nZ (S:=S) h0 S.M h0;have ht:=IK (S:=S) h0 S.M h0;have hn:(all S h0).Nodup:=ht.nodup fun i hi hh=>IL (S:=S) (h0:=h0) (f:=S.M) (h:=h0) i hi (hh.trans (by rw[e];rfl))
 have hlt:=IM (S:=S) (h0:=h0) (f:=S.M) h;have hlen:=lW hn hlt;refine⟨ht,hn,hlt,by unfold all;rw[e];rfl,?_⟩;obtain⟨x,hx⟩:∃x,(all S h0).getLast? =some x:=by
  unfold all;rw[e];exact⟨_,List.getLast?_eq_some_getLast (by simp)⟩
 exact⟨x,hx,Df hx hlen⟩
end Ku
end
section
namespace Ku
variable {S:Sys}
structure gU (S:Sys) (l:List Nat):Prop where
 tr:Tr S l
 ne:l≠[]
 fst:∀a,l[0]? =some a->S.nx (S.tw a)=none
 oQ:∀a,l[l.length-1]? =some a->S.nx a=none
structure cY (S:Sys) (l:List Nat):Prop where
 tr:Tr S l
 ne:l≠[]
 nd:l.Nodup
 LM:∀a b,l[l.length-1]? =some a->l[0]? =some b->S.nx a=some b
theorem cu {l:List Nat} (h:l≠[]):0<l.length:=acu.2 h
theorem gU.BR {l l':List Nat} (o:gU S l) (o':gU S l') {i j a:Nat} (h1:l[i]? =some a) (h2:l'[j]? =some a):l'.length-j<=l.length-i:=by
 have k1:=(aaF.1 h1).1;have k2:=(aaF.1 h2).1;refine aa9 fun hc=> ?_
 obtain⟨x,hx⟩:∃x,l[l.length-1]? =some x:=⟨_,aaC (by omega)⟩;have hx':l[i+(l.length-1-i)]? =some x:=by rw[show i+(l.length-1-i)=l.length-1 by omega];exact hx
 have e:=o.tr.on o'.tr h1 h2 _ x hx' (by omega);obtain⟨y,hy⟩:∃y,l'[j+(l.length-1-i)+1]? =some y:=⟨_,aaC (by omega)⟩;have:=o'.tr _ x y e hy;rw[o.oQ x hx] at this;cases this
theorem gU.rv {l:List Nat} (o:gU S l):gU S (rv S l):=by
 have hp:=cu o.ne;refine⟨o.tr.rv,fun h=> ?_,fun a ha=> ?_,fun a ha=> ?_⟩
 .have:=congrArg List.length h
  rw[cj] at this;simp at this;exact o.ne this
 .rw[iW hp] at ha
  obtain⟨x,hx,rfl⟩:=abg.1 ha;rw[S.tt];exact o.oQ x (by rw[<-hx];congr 1)
 .rw[cj,iW (by omega)] at ha
  obtain⟨x,hx,rfl⟩:=abg.1 ha;exact o.fst x (by rw[<-hx];congr 1;omega)
theorem gU.start {l l':List Nat} (o:gU S l) (o':gU S l') {i j a:Nat} (h1:l[i]? =some a) (h2:l'[j]? =some a):j<=i:=by
 have k1:=(aaF.1 h1).1;have k2:=(aaF.1 h2).1;have r1:(Ku.rv S l)[l.length-1-i]? =some (S.tw a):=by rw[iW (by omega),show l.length-1-(l.length-1-i)=i by omega,h1];rfl
 have r2:(Ku.rv S l')[l'.length-1-j]? =some (S.tw a):=by rw[iW (by omega),show l'.length-1-(l'.length-1-j)=j by omega,h2];rfl
 have:=o.rv.BR o'.rv r1 r2;rw[cj,cj] at this;omega
theorem gU.unique {l l':List Nat} (o:gU S l) (o':gU S l') {a:Nat} (h1:a∈l) (h2:a∈l'):l=l':=by
 obtain⟨i,hi,ei⟩:=aaT.1 h1;obtain⟨j,hj,ej⟩:=aaT.1 h2;have g1:l[i]? =some a:=by rw[<-ei];exact aaC hi
 have g2:l'[j]? =some a:=by rw[<-ej];exact aaC hj
 have a1:=o.BR o' g1 g2;have a2:=o'.BR o g2 g1;have b1:=o.start o' g1 g2;have b2:=o'.start o g2 g1;obtain rfl:i=j:=by omega
 have hlen:l.length=l'.length:=by omega
 refine abz fun t=> ?_
 by_cases ht:t<l.length
 .by_cases RI:t<=i
  .exact o.tr.back o'.tr (i-t) t t a (by rw[show t+(i-t)=i by omega];exact g1) (by rw[show t+(i-t)=i by omega];exact g2)
  .obtain⟨x,hx⟩:∃x,l[t]? =some x:=⟨_,aaC ht⟩
   have:=o.tr.on o'.tr g1 g2 (t-i) x (by rw[show i+(t-i)=t by omega];exact hx) (by omega);rw[show i+(t-i)=t by omega] at this;rw[hx,this]
 .rw[aaS (by omega),aaS (by omega)]
theorem cY.step {l:List Nat} (c:cY S l) {i a:Nat} (h:l[i]? =some a):∃b,S.nx a=some b/\l[(i+1)%l.length]? =some b:=by
 have hi:=(aaF.1 h).1;by_cases hl:i+1<l.length
 .obtain⟨b,hb⟩:∃b,l[i+1]? =some b:=⟨_,aaC hl⟩
  exact⟨b,c.tr i a b h hb,by rw[abd hl];exact hb⟩
 .have e:i=l.length-1:=by omega
  subst e;obtain⟨b,hb⟩:∃b,l[0]? =some b:=⟨_,aaC (by omega)⟩;refine⟨b,c.LM a b h hb,?_⟩;rw[show l.length-1+1=l.length by omega,Nat.mod_self];exact hb
theorem cY.rv {l:List Nat} (c:cY S l):cY S (rv S l):=by
 have hp:=cu c.ne;refine⟨c.tr.rv,fun h=> ?_,?_,fun a b ha hb=> ?_⟩
 .have:=congrArg List.length h
  rw[cj] at this;simp at this;exact c.ne this
 .unfold Ku.rv
  rw[acs,List.pairwise_reverse,acj];exact(acs.1 c.nd).imp fun hab e=>hab (S.TV e.symm)
 .rw[cj,iW (by omega)] at ha
  rw[iW hp] at hb;obtain⟨x,hx,rfl⟩:=abg.1 ha;obtain⟨y,hy,rfl⟩:=abg.1 hb;exact S.rev y x (c.LM y x (by rw[<-hy];congr 1) (by rw[<-hx];congr 1;omega))
theorem cY.same {l l':List Nat} (c:cY S l) (c':cY S l') {i j a:Nat} (h1:l[i]? =some a) (h2:l'[j]? =some a):∀d,l[(i+d)%l.length]? =l'[(j+d)%l'.length]?
 |0=>by
  have k1:=(aaF.1 h1).1;have k2:=(aaF.1 h2).1;rw[abv,abv,abd k1,abd k2,h1,h2]
 |d+1=>by
  have hp:=cu c.ne;have hp':=cu c'.ne;have ih:=c.same c' h1 h2 d;obtain⟨x,hx⟩:∃x,l[(i+d)%l.length]? =some x:=⟨_,aaC (acd _ hp)⟩;obtain⟨y,e1,e2⟩:=c.step hx;obtain⟨z,e3,e4⟩:=c'.step (ih▸hx);rw[e1] at e3;have:=aaQ e3;subst this;rw[ac8] at e2 e4;rw[<-acq,<-acq,e2,e4]
theorem cY.sub {l l':List Nat} (c:cY S l) (c':cY S l') {a:Nat} (h1:a∈l) (h2:a∈l'):∀x∈l,x∈l':=fun x hx=>by
 obtain⟨i,hi,ei⟩:=aaT.1 h1;obtain⟨j,hj,ej⟩:=aaT.1 h2;obtain⟨t,ht,et⟩:=aaT.1 hx;have g1:l[i]? =some a:=by rw[<-ei];exact aaC hi
 have g2:l'[j]? =some a:=by rw[<-ej];exact aaC hj
 have:=c.same c' g1 g2 (l.length-i+t);rw[show i+(l.length-i+t)=l.length+t by omega,ac5,abd ht,aaC ht,et] at this;exact aaG this.symm
theorem cY.len {l l':List Nat} (c:cY S l) (c':cY S l') {a:Nat} (h1:a∈l) (h2:a∈l'):l.length=l'.length:=
 acJ (ach c.nd (c.sub c' h1 h2)) (ach c'.nd (c'.sub c h2 h1))
theorem cY.unique {l l':List Nat} (c:cY S l) (c':cY S l') {a:Nat} (h1:l[0]? =some a) (h2:l'[0]? =some a):l=l':=by
 have hl:=c.len c' (aaG h1) (aaG h2);refine abz fun t=> ?_
 by_cases ht:t<l.length
 .have:=c.same c' h1 h2 t
  rw[aa7,abd ht,abd (by omega)] at this;exact this
 .rw[aaS (by omega),aaS (by omega)]
theorem gU.gL {l l':List Nat} (o:gU S l) (c:cY S l') {a:Nat} (h1:a∈l) (h2:a∈l'):False:=by
 obtain⟨i,hi,ei⟩:=aaT.1 h1;have RR:∀d,i+d<l.length->∀x,l[i+d]? =some x->x∈l':=by
  intro d
  induction d with
  |zero=>
   intro _ x hx;rw[abv,aaC hi,ei] at hx;cases hx;exact h2
  |succ d ih=>
   intro hl x hx;obtain⟨y,hy⟩:∃y,l[i+d]? =some y:=⟨_,aaC (by omega)⟩;have hm:=ih (by omega) y hy;obtain⟨j,hj,ej⟩:=aaT.1 hm;obtain⟨z,e1,e2⟩:=c.step (show l'[j]? =some y by rw[<-ej];exact aaC hj);have:=o.tr (i+d) y x hy hx;rw[this] at e1;cases e1;exact aaG e2
 obtain⟨x,hx⟩:∃x,l[l.length-1]? =some x:=⟨_,aaC (by omega)⟩;have hm:=RR (l.length-1-i) (by omega) x (by rw[show i+(l.length-1-i)=l.length-1 by omega];exact hx);obtain⟨j,hj,ej⟩:=aaT.1 hm;obtain⟨z,e1,_⟩:=c.step (show l'[j]? =some x by rw[<-ej];exact aaC hj);rw[o.oQ x hx] at e1;cases e1
def pR (l:List Nat) (k:Nat):List Nat:=l.drop k++l.take k
theorem tR {l:List Nat} {k:Nat} (h:k<=l.length):(pR l k).length=l.length:=by unfold pR;simp;omega
theorem qO {l:List Nat} {k i:Nat} (hk:k<l.length) (hi:i<l.length):(pR l k)[i]? =l[(k+i)%l.length]? :=by
 unfold pR;by_cases h:i<l.length-k
 .rw[aaU (by simp;omega),acS,abd (by omega)]
 .rw[aa4 (by simp;omega),acC,acg,if_pos (by omega)]
  congr 1
  rw[show k+i=l.length+(i-(l.length-k)) by omega,ac5,abd (by omega)]
theorem cY.pR {l:List Nat} (c:cY S l) {k:Nat} (hk:k<l.length):cY S (pR l k):=by
 have hlen:=tR (Nat.le_of_lt hk);have hstep:∀i a b,i<l.length->(Ku.pR l k)[i]? =some a->l[(k+i+1)%l.length]? =some b->S.nx a=some b:=fun i a b hi ha hb=>by
  rw[qO hk hi] at ha;obtain⟨z,e1,e2⟩:=c.step ha;rw[ac8,hb] at e2;cases e2;exact e1
 refine⟨fun i a b ha hb=> ?_,fun h=> ?_,?_,fun a b ha hb=> ?_⟩
 .have hl:=(aaF.1 hb).1
  rw[hlen] at hl;rw[qO hk hl] at hb;exact hstep i a b (by omega) ha hb
 .have:=congrArg List.length h
  rw[hlen] at this;simp at this;exact c.ne this
 .unfold Ku.pR
  have:(l.take k++l.drop k).Nodup:=by rw[ack];exact c.nd
  exact(List.perm_append_comm).nodup_iff.1 this
 .rw[hlen] at ha
  rw[qO hk (by omega)] at hb;refine hstep _ a b (by omega) ha ?_;rw[show k+(l.length-1)+1=l.length+k by omega,ac5];exact hb
theorem gm {h0:Nat} (h:h0<S.M):(cY S (all S h0)/\(all S h0)[0]? =some h0)\/(Tr S (all S h0)/\(all S h0)[0]? =some h0/\∀a,(all S h0)[(all S h0).length-1]? =some a->S.nx a=none):=by
 obtain⟨t,nd,_,hh,x,hx,he⟩:=bL h;have h0':(all S h0)[0]? =some h0:=by rw[<-List.head?_eq_getElem?];exact hh
 have fk:(all S h0)[(all S h0).length-1]? =some x:=by rw[<-ac0];exact hx
 rcases he with he|he
 .refine .inr ⟨t,h0',fun a ha=> ?_⟩
  rw[fk] at ha;cases ha;exact he
 .refine .inl ⟨⟨t,fun e=>by rw[e] at hh;simp at hh,nd,fun a b ha hb=> ?_⟩,h0'⟩
  rw[fk] at ha;rw[h0'] at hb;cases ha;cases hb;exact he
end Ku
end
section
namespace Ku
structure Gs extends Sys where
 fr:Nat->Nat
 sK:∀h k,nx h=some k->fr k=fr (tw h)
 simple:∀h k,h<M->k<M->fr h=fr k->fr (tw h)=fr (tw k)->h=k
 two:∀h k k',nx h=some k->k'<M->fr k'=fr (tw h)->k'=tw h\/k'=k
variable {S:Gs}
abbrev Gs.to (S:Gs) (h:Nat):Nat:=S.fr (S.tw h)
def vs (S:Gs):List Nat->List Nat
 |[]=>[]
 |h::l=>S.fr h::(h::l).map S.to
theorem bI {l:List Nat} (hn:l≠[]):(vs S l).length=l.length+1:=by
 cases l with
 |nil=>exact absurd rfl hn
 |cons h l=>simp[vs]
theorem gD (l:List Nat) (i:Nat):(vs S l)[i+1]? =(l[i]?).map S.to:=by
 cases l with
 |nil=>simp[vs]
 |cons h l=>
  unfold vs;rw[abN,aaY]
theorem vU (l:List Nat):(vs S l)[0]? =(l[0]?).map S.fr:=by
 cases l with
 |nil=>simp[vs]
 |cons h l=>simp[vs]
theorem rZ {l:List Nat} (t:Tr S.toSys l) {i:Nat} (hi:i<l.length):(vs S l)[i]? =(l[i]?).map S.fr:=by
 cases i with
 |zero=>exact vU l
 |succ i=>
  rw[gD];obtain⟨a,ha⟩:∃a,l[i]? =some a:=⟨_,aaC (by omega)⟩;obtain⟨b,hb⟩:∃b,l[i+1]? =some b:=⟨_,aaC hi⟩;rw[ha,hb];exact congrArg some (S.sK a b (t i a b ha hb)).symm
theorem IJ {l l':List Nat} (t:Tr S.toSys l) (t':Tr S.toSys l') (hl:∀x∈l,x<S.M) (hl':∀x∈l',x<S.M) (e:vs S l=vs S l'):l=l':=by
 have hlen:l.length=l'.length:=by
  have:=congrArg List.length e;cases l with
  |nil=>
   cases l' with
   |nil=>rfl
   |cons h l'=>simp[vs] at this
  |cons h l=>
   cases l' with
   |nil=>simp[vs] at this
   |cons h' l'=>simpa[vs] using this
 refine abz fun i=> ?_
 by_cases hi:i<l.length
 .obtain⟨a,ha⟩:∃a,l[i]? =some a:=⟨_,aaC hi⟩
  obtain⟨b,hb⟩:∃b,l'[i]? =some b:=⟨_,aaC (by omega)⟩;have e1:=rZ t hi;have e2:=rZ t' (show i<l'.length by omega);have e3:=gD (S:=S) l i;have e4:=gD (S:=S) l' i;rw[ha] at e1 e3;rw[hb] at e2 e4;rw[e,e2] at e1;rw[e,e4] at e3;rw[ha,hb,S.simple a b (hl a (aaG ha)) (hl' b (aaG hb)) (aaQ e1).symm (aaQ e3).symm]
 .rw[aaS (by omega),aaS (by omega)]
theorem j4 {l:List Nat} (t:Tr S.toSys l) (hn:l≠[]):vs S (rv S.toSys l)=(vs S l).reverse:=by
 have hp:=cu hn;have hn':rv S.toSys l≠[]:=fun h=>by
  have:=congrArg List.length h;rw[cj] at this;simp at this;exact hn this
 refine abz fun i=> ?_
 by_cases hi:i<l.length+1
 .rw[acF (by rw[bI hn];exact hi),bI hn]
  cases i with
  |zero=>
   rw[vU,iW hp,show l.length+1-1-0=(l.length-1)+1 by omega,gD,Option.map_map];rfl
  |succ i=>
   rw[gD,iW (by omega),Option.map_map,show l.length+1-1-(i+1)=l.length-1-i by omega,rZ t (by omega)]
   congr 1
   funext h;show S.fr (S.tw (S.tw h))=S.fr h;rw[S.tt]
 .rw[aaS (by rw[bI hn',cj];omega),aaS (by rw[acv,bI hn];omega)]
def at_ (c:List Nat) (i:Nat):Nat:=c.getD i 0
theorem k9 {c:List Nat} {i x:Nat} (h:c[i]? =some x):at_ c i=x:=by unfold at_;rw[aaI,h];rfl
theorem PE {c:List Nat} {i:Nat} (h:i<c.length):c[i]? =some (at_ c i):=by unfold at_;rw[aaI,aaC h];rfl
def Up (c:List Nat):Prop:=at_ c 0<at_ c (c.length-1)\/(at_ c 0=at_ c (c.length-1)/\at_ c 1<at_ c (c.length-2))
theorem gC {c:List Nat} {i:Nat} (h:i<c.length):at_ c.reverse i=at_ c (c.length-1-i):=by
 unfold at_;rw[aaI,aaI,acF h]
theorem Up.LV {c:List Nat} (h2:2<=c.length) (h:Up c):¬Up c.reverse:=by
 unfold Up at h ⊢;rw[acv,gC (by omega),gC (by omega),gC (by omega),gC (by omega)];rw[show c.length-1-0=c.length-1 by omega,show c.length-1-(c.length-1)=0 by omega,show c.length-1-1=c.length-2 by omega,show c.length-1-(c.length-2)=1 by omega];omega
theorem Up.OU {c:List Nat} (h2:2<=c.length) (hne:at_ c 0=at_ c (c.length-1)->at_ c 1≠at_ c (c.length-2)):Up c\/Up c.reverse:=by
 unfold Up;rw[acv,gC (by omega),gC (by omega),gC (by omega),gC (by omega)];rw[show c.length-1-0=c.length-1 by omega,show c.length-1-(c.length-1)=0 by omega,show c.length-1-1=c.length-2 by omega,show c.length-1-(c.length-2)=1 by omega];by_cases h:at_ c 0=at_ c (c.length-1)
 .have:=hne h
  omega
 .omega
structure Cn (S:Gs) (l:List Nat):Prop where
 lt:∀x∈l,x<S.M
 up:Up (vs S l)
 kind:gU S.toSys l\/(cY S.toSys l/\∀x∈l,at_ (vs S l) 0<=S.fr x)
theorem Cn.tr {l:List Nat} (c:Cn S l):Tr S.toSys l:=by
 rcases c.kind with o|o
 .exact o.tr
 .exact o.1.tr
theorem Cn.ne {l:List Nat} (c:Cn S l):l≠[]:=by
 rcases c.kind with o|o
 .exact o.ne
 .exact o.1.ne
theorem cY.Pt {l:List Nat} (c:cY S.toSys l) (hl:∀x∈l,x<S.M) {a b:Nat} (ha:a∈l) (hb:b∈l) (e:S.fr a=S.fr b):a=b:=by
 obtain⟨i,hi,ei⟩:=aaT.1 ha;have hp:=cu c.ne;have g1:l[i]? =some a:=by rw[<-ei];exact aaC hi
 obtain⟨p,sR,UI⟩:∃p,p∈l/\S.nx p=some a:=by
  by_cases h0:i=0
  .subst h0
   obtain⟨p,hp⟩:∃p,l[l.length-1]? =some p:=⟨_,aaC (by omega)⟩;exact⟨p,aaG hp,c.LM p a hp g1⟩
  .obtain⟨p,hp⟩:∃p,l[i-1]? =some p:=⟨_,aaC (by omega)⟩
   exact⟨p,aaG hp,c.tr (i-1) p a hp (by rw[show i-1+1=i by omega];exact g1)⟩
 rcases S.two p a b UI (hl b hb) (by rw[<-e];exact S.sK p a UI) with h|h
 .exact absurd h (c.tr.wY sR hb)
 .exact h.symm
theorem iI {l:List Nat} {a:Nat} (h:l[0]? =some a):at_ (vs S l) 0=S.fr a:=k9 (by rw[vU,h];rfl)
theorem cY.vV {l:List Nat} (c:cY S.toSys l):at_ (vs S l) l.length=at_ (vs S l) 0:=by
 have hp:=cu c.ne;obtain⟨a,ha⟩:∃a,l[0]? =some a:=⟨_,aaC hp⟩;obtain⟨b,hb⟩:∃b,l[l.length-1]? =some b:=⟨_,aaC (by omega)⟩;rw[iI ha,S.sK b a (c.LM b a hb ha)];refine k9 ?_;rw[show l.length=(l.length-1)+1 by omega,gD,hb];rfl
theorem cY.pI {l l':List Nat} (c:cY S.toSys l) (c':cY S.toSys l') (hl:∀x∈l,x<S.M) {a:Nat} (h1:a∈l) (h2:a∈l') (m:∀x∈l,at_ (vs S l) 0<=S.fr x) (m':∀x∈l',at_ (vs S l') 0<=S.fr x):l=l':=by
 obtain⟨x,hx⟩:∃x,l[0]? =some x:=⟨_,aaC (cu c.ne)⟩;obtain⟨y,hy⟩:∃y,l'[0]? =some y:=⟨_,aaC (cu c'.ne)⟩;have hxl:=aaG hx;have Uh:=aaG hy;have pW:=c'.sub c h2 h1 y Uh;have Uj:=c.sub c' h1 h2 x hxl;have e1:=m y pW;have e2:=m' x Uj;rw[iI hx] at e1;rw[iI hy] at e2;have e:=cY.Pt c hl hxl pW (by omega);subst e;exact c.unique c' hx hy
theorem Cn.unique {l l':List Nat} (c:Cn S l) (c':Cn S l') {h:Nat} (h1:h∈l) (h2:h∈l'\/S.tw h∈l'):l=l':=by
 have hlen:2<=(vs S l').length:=by rw[bI c'.ne];have:=cu c'.ne;omega
 rcases h2 with h2|h2
 .rcases c.kind with o|⟨o,m⟩<;>rcases c'.kind with o'|⟨o',m'⟩
  .exact o.unique o' h1 h2
  .exact(o.gL o' h1 h2).elim
  .exact(o'.gL o h2 h1).elim
  .exact o.pI o' c.lt h1 h2 m m'
 .exfalso
  have h3:h∈rv S.toSys l':=cZ.2 h2;have hv:vs S l=(vs S l').reverse->False:=fun e=>by
   have:=c.up;rw[e] at this;exact Up.LV hlen c'.up this
  rcases c.kind with o|⟨o,m⟩<;>rcases c'.kind with o'|⟨o',m'⟩
  .exact hv (by rw[o.unique o'.rv h1 h3,j4 c'.tr c'.ne])
  .exact o.gL o'.rv h1 h3
  .exact o'.rv.gL o h3 h1
  .refine hv ?_
   have hm:∀x∈rv S.toSys l',at_ (vs S (rv S.toSys l')) 0<=S.fr x:=fun x hx=>by
    rw[j4 c'.tr c'.ne,gC (by omega),bI c'.ne,show l'.length+1-1-0=l'.length by omega,o'.vV];have hy:=cZ.1 hx;obtain⟨i,hi,ei⟩:=aaT.1 hy;obtain⟨z,e1,e2⟩:=o'.step (show l'[i]? =some (S.tw x) by rw[<-ei];exact aaC hi);have:=m' z (aaG e2);rw[S.sK _ z e1,S.tt] at this;exact this
   rw[o.pI o'.rv c.lt h1 h3 m hm,j4 c'.tr c'.ne]
end Ku
end
section
namespace Ku
open Cs
def jG (es:List (Int×Int)) (h:Nat):Option Nat:=
 match out es (to es h) (2*es.length) with
 |[a,b]=>if a=twin h then some b else if b=twin h then some a else none
 |_=>none
theorem iO (h:Nat):twin (twin h)=h:=by
 unfold twin
 split<;>split<;>omega
theorem LD (h:Nat):twin h≠h:=by
 unfold twin
 split<;>omega
theorem gO {es:List (Int×Int)} {v k i:Nat}:i∈out es v k↔i<k/\fr es i=v:=by
 constructor
 .intro h
  obtain⟨j,hj,e⟩:=aaT.1 h;have:=jN (es:=es) (v:=v) (k:=k) (j:=j) (i:=i) (by rw[<-e];exact aaC hj);exact⟨this.1,this.2.1⟩
 .rintro⟨h1,h2⟩
  exact aaG (IX h1 h2)
theorem fW {es:List (Int×Int)} {h k:Nat} (e:jG es h=some k):(out es (to es h) (2*es.length)=[twin h,k]\/out es (to es h) (2*es.length)=[k,twin h])/\k≠twin h:=by
 unfold jG at e
 split at e
 .rename_i a b hab
  have hne:a≠b:=by
   have:=wT (es:=es) (v:=to es h) (k:=2*es.length) (i:=0) (j:=1) (by omega) (by rw[hab];rfl) (by rw[hab];rfl);omega
  split at e
  .rename_i h1
   cases e;exact⟨.inl (by rw[hab,h1]),fun e2=>hne (by rw[h1,e2])⟩
  .split at e
   .rename_i h1 h2
    cases e;exact⟨.inr (by rw[hab,h2]),fun e2=>hne (by rw[h2,e2])⟩
   .cases e
 .cases e
theorem BL {es:List (Int×Int)} {h k:Nat} (e:out es (to es h) (2*es.length)=[twin h,k]\/out es (to es h) (2*es.length)=[k,twin h]) (hk:k≠twin h):jG es h=some k:=by
 unfold jG;rcases e with e|e
 .rw[e]
  simp
 .rw[e]
  simp[hk]
def gs (es:List (Int×Int)) {n:Int} (hv:Si.Val n es):Gs where
 M:=2*es.length
 tw:=twin
 nx:=jG es
 tt:=iO
 tn:=LD
 tl:=fun _ h=>dV h
 nl:=fun h k _ e=>by
  obtain⟨e,_⟩:=fW e;have:k∈out es (to es h) (2*es.length):=by rcases e with e|e<;>rw[e]<;>simp
  exact(gO.1 this).1
 rev:=fun h k e=>by
  obtain⟨e,hne⟩:=fW e;have hk:k∈out es (to es h) (2*es.length):=by rcases e with e|e<;>rw[e]<;>simp
  have hf:=(gO.1 hk).2;refine BL ?_ ?_
  .rw[wk,hf,iO]
   exact e.symm
  .rw[iO]
   exact hne.symm
 Uf:=fun h e=>(fW e).2 rfl
 fr:=fr es
 sK:=fun h k e=>by
  obtain⟨e,_⟩:=fW e;have hk:k∈out es (to es h) (2*es.length):=by rcases e with e|e<;>rw[e]<;>simp
  rw[jl];exact(gO.1 hk).2
 simple:=fun h k hh hk e1 e2=>by
  rw[jl,jl] at e2;rcases abF h k with h1|h1|h1
  .have:=Ad hv h1 hk e1
   omega
  .exact h1
  .have:=Ad hv h1 hh e1.symm
   omega
 two:=fun h k k' e hk' hf=>by
  obtain⟨e,_⟩:=fW e;rw[jl] at hf;have hk:k'∈out es (to es h) (2*es.length):=gO.2 ⟨hk',hf⟩;rcases e with e|e<;>rw[e] at hk<;>simp at hk<;>omega
def dg (es:List (Int×Int)) (v:Nat):Nat:=(out es v (2*es.length)).length
section
variable {es:List (Int×Int)} {n:Int} {hv:Si.Val n es}
theorem SD (h:Nat):(gs es hv).to h=to es h:=jl es h
theorem Ay {h:Nat} (hh:h<2*es.length):jG es h=none↔dg es (to es h)≠2:=by
 have hin:twin h∈out es (to es h) (2*es.length):=gO.2 ⟨dV hh,jl es h⟩;unfold dg;constructor
 .intro e h2
  obtain⟨a,b,hab⟩:∃a b,out es (to es h) (2*es.length)=[a,b]:=by
   match hm:out es (to es h) (2*es.length),h2 with
   |[a,b],_=>exact⟨a,b,rfl⟩
  rw[hab] at hin;simp at hin;have hne:a≠b:=by
   have:=wT (es:=es) (v:=to es h) (k:=2*es.length) (i:=0) (j:=1) (by omega) (by rw[hab];rfl) (by rw[hab];rfl);omega
  rcases hin with h1|h1
  .rw[BL (k:=b) (.inl (by rw[hab,h1])) (fun e2=>hne (by rw[<-h1,e2]))] at e
   cases e
  .rw[BL (k:=a) (.inr (by rw[hab,h1])) (fun e2=>hne (by rw[<-h1,e2]))] at e
   cases e
 .intro h2
  cases hk:jG es h with
  |none=>rfl
  |some k=>
   obtain⟨e,_⟩:=fW hk;exact absurd (by rcases e with e|e<;>rw[e]<;>rfl) h2
end
noncomputable def ch (es:List (Int×Int)) {n:Int} (hv:Si.Val n es) (e:Nat):List Nat:=
 open Classical in if h:∃l,Cn (gs es hv) l/\∃x∈l,x/2=e then h.choose else []
section
variable {es:List (Int×Int)} {n:Int} {hv:Si.Val n es}
theorem Cu {l:List Nat} {e x:Nat} (c:Cn (gs es hv) l) (hx:x∈l) (he:x/2=e):ch es hv e=l:=by
 have h:∃l,Cn (gs es hv) l/\∃x∈l,x/2=e:=⟨l,c,x,hx,he⟩;unfold ch;rw[dif_pos h];obtain⟨c',y,hy,D8⟩:=h.choose_spec;refine c'.unique c hy ?_;have:y=x\/twin y=x:=by
  unfold twin
  split<;>omega
 rcases this with rfl|h2
 .exact .inl hx
 .exact .inr (by rw[<-h2] at hx;exact hx)
end
end Ku
end
section
namespace Ku
variable {S:Gs}
def written (c:List Nat):List Nat:=if at_ c (c.length-1)<at_ c 0\/(at_ c 0=at_ c (c.length-1)/\at_ c (c.length-2)<at_ c 1) then c.reverse else c
theorem tM {c:List Nat} (h2:2<=c.length) (hne:at_ c 0=at_ c (c.length-1)->at_ c 1≠at_ c (c.length-2)):Up (written c):=by
 unfold written
 split
 .rename_i h
  rcases Up.OU h2 hne with hu|hu
  .exfalso
   unfold Up at hu;omega
  .exact hu
 .rename_i h
  unfold Up;by_cases e:at_ c 0=at_ c (c.length-1)
  .have:=hne e
   omega
  .omega
theorem Tr.gL {T:Sys} {l l':List Nat} (t:Tr T l) (oQ:∀a,l[l.length-1]? =some a->T.nx a=none) (c:cY T l') {a:Nat} (h1:a∈l) (h2:a∈l'):False:=by
 obtain⟨i,hi,ei⟩:=aaT.1 h1;have RR:∀d,i+d<l.length->∀x,l[i+d]? =some x->x∈l':=by
  intro d
  induction d with
  |zero=>
   intro _ x hx;rw[abv,aaC hi,ei] at hx;cases hx;exact h2
  |succ d ih=>
   intro hl x hx;obtain⟨y,hy⟩:∃y,l[i+d]? =some y:=⟨_,aaC (by omega)⟩;have hm:=ih (by omega) y hy;obtain⟨j,hj,ej⟩:=aaT.1 hm;obtain⟨z,e1,e2⟩:=c.step (show l'[j]? =some y by rw[<-ej];exact aaC hj);have:=t (i+d) y x hy hx;rw[this] at e1;cases e1;exact aaG e2
 obtain⟨x,hx⟩:∃x,l[l.length-1]? =some x:=⟨_,aaC (by omega)⟩;have hm:=RR (l.length-1-i) (by omega) x (by rw[show i+(l.length-1-i)=l.length-1 by omega];exact hx);obtain⟨j,hj,ej⟩:=aaT.1 hm;obtain⟨z,e1,_⟩:=c.step (show l'[j]? =some x by rw[<-ej];exact aaC hj);rw[oQ x hx] at e1;cases e1
theorem Tr.glue {T:Sys} {l r:List Nat} {h:Nat} (t:Tr T l) (hl:l[l.length-1]? =some h) (t':Tr T (h::r)):Tr T (l++r):=by
 have hp:0<l.length:=by
  have:=(aaF.1 hl).1;omega
 intro i a b ha hb;by_cases h1:i+1<l.length
 .rw[aaU (by omega)] at ha
  rw[aaU h1] at hb;exact t i a b ha hb
 .rw[aa4 (by omega)] at hb
  by_cases h2:i<l.length
  .rw[aaU h2,show i=l.length-1 by omega,hl] at ha
   cases ha;rw[show i+1-l.length=0 by omega] at hb;exact t' 0 h b rfl (by simpa using hb)
  .rw[aa4 (by omega)] at ha
   exact t' (i-l.length+1) a b (by simpa using ha) (by rw[show i-l.length+1+1=(i+1-l.length)+1 by omega];simpa using hb)
theorem yF {h0:Nat} (hh:h0<S.M) (hend:∀a,(all S.toSys h0)[(all S.toSys h0).length-1]? =some a->S.nx a=none):
 ∃l,gU S.toSys l/\h0∈l/\(∀x∈l,x<S.M)/\vs S l=(vs S (all S.toSys (S.tw h0))).reverse++(vs S (all S.toSys h0)).drop 2/\∀a,(all S.toSys (S.tw h0))[(all S.toSys (S.tw h0)).length-1]? =some a->S.nx a=none:=by
 obtain⟨t,_,lt,hd,_⟩:=bL (S:=S.toSys) hh;obtain⟨t',_,lt',hd',_⟩:=bL (S:=S.toSys) (S.tl h0 hh);have EE:h0∈all S.toSys h0:=acG hd;rcases gm (S:=S.toSys) (S.tl h0 hh) with ⟨c,hc0⟩|⟨_,hc0,he⟩
 .exfalso
  refine t.gL hend c.rv EE ?_;exact cZ.2 (aaG hc0)
 obtain⟨r,hr⟩:∃r,all S.toSys h0=h0::r:=by
  cases hA:all S.toSys h0 with
  |nil=>rw[hA] at hd;cases hd
  |cons x r=>rw[hA] at hd;cases hd;exact⟨r,rfl⟩
 obtain⟨r',hr'⟩:∃r',all S.toSys (S.tw h0)=S.tw h0::r':=by
  cases hA:all S.toSys (S.tw h0) with
  |nil=>rw[hA] at hd';cases hd'
  |cons x r=>rw[hA] at hd';cases hd';exact⟨r,rfl⟩
 have hB:0<(all S.toSys (S.tw h0)).length:=by rw[hr'];simp
 have fk:(rv S.toSys (all S.toSys (S.tw h0)))[(rv S.toSys (all S.toSys (S.tw h0))).length-1]? =some h0:=by
  rw[cj,iW (by omega),show(all S.toSys (S.tw h0)).length-1-((all S.toSys (S.tw h0)).length-1)=0 by omega,hc0];exact congrArg some (S.tt h0)
 have hne:rv S.toSys (all S.toSys (S.tw h0))≠[]:=fun e=>by
  rw[e] at fk;simp at fk
 have ht:=t'.rv.glue fk (by rw[<-hr];exact t);have UO:rv S.toSys (all S.toSys (S.tw h0))++r≠[]:=by simp[hne]
 refine⟨_,⟨ht,UO,fun a ha=> ?_,fun a ha=> ?_⟩,ab5 _ (aaG fk),fun x hx=> ?_,?_,he⟩
 .rw[aaU (by rw[cj];exact hB),iW hB] at ha
  obtain⟨x,hx,rfl⟩:=abg.1 ha;rw[S.tt];exact he x (by rw[<-hx];congr 1)
 .cases r with
  |nil=>
   rw[abp] at ha;rw[fk] at ha;cases ha;exact hend h0 (by rw[hr];rfl)
  |cons y r=>
   refine hend a ?_;rw[aa4 (by simp)] at ha;rw[hr,<-ha];simp only[aaN,abY];rw[show r.length+1+1-1=(r.length)+1 by omega,abN]
   congr 1
   omega
 .rcases abl.1 hx with h1|h1
  .have:=lt' _ (cZ.1 h1)
   have h2:=S.tl _ this;rw[S.tt] at h2;exact h2
  .exact lt x (by rw[hr];exact aco _ h1)
 .rw[<-j4 t' (by rw[hr'];simp),hr]
  cases hR:rv S.toSys (all S.toSys (S.tw h0)) with
  |nil=>exact absurd hR hne
  |cons y R=>simp[vs]
theorem EW {l:List Nat} (t:Tr S.toSys l) (hn:l≠[]) (lt:∀x∈l,x<S.M):at_ (vs S l) 0=at_ (vs S l) ((vs S l).length-1)->at_ (vs S l) 1≠at_ (vs S l) ((vs S l).length-2):=by
 intro e0 e1;have hp:=cu hn;rw[bI hn] at e0 e1;obtain⟨a,ha⟩:∃a,l[0]? =some a:=⟨_,aaC hp⟩;obtain⟨b,hb⟩:∃b,l[l.length-1]? =some b:=⟨_,aaC (by omega)⟩;have k0:at_ (vs S l) 0=S.fr a:=iI ha;have k1:at_ (vs S l) 1=S.to a:=k9 (by rw[show(1:Nat)=0+1 from rfl,gD,ha];rfl);have k2:at_ (vs S l) (l.length+1-1)=S.to b:=k9 (by rw[show l.length+1-1=(l.length-1)+1 by omega,gD,hb];rfl);have k3:at_ (vs S l) (l.length+1-2)=S.fr b:=k9 (by rw[show l.length+1-2=l.length-1 by omega,rZ t (by omega),hb];rfl);rw[k0,k2] at e0;rw[k1,k3] at e1;have hbl:=lt b (aaG hb);have:=S.simple a (S.tw b) (lt a (aaG ha)) (S.tl b hbl) e0 (by rw[S.tt];exact e1);exact t.wY (aaG hb) (aaG ha) this
theorem gU.written {l:List Nat} (o:gU S.toSys l) (lt:∀x∈l,x<S.M):∃l',Cn S l'/\vs S l'=written (vs S l)/\∀x∈l,x∈l'\/S.tw x∈l':=by
 have h2:2<=(vs S l).length:=by rw[bI o.ne];have:=cu o.ne;omega
 have hu:=tM h2 (EW o.tr o.ne lt);by_cases h:Ku.written (vs S l)=vs S l
 .exact⟨l,⟨lt,by rw[h] at hu;exact hu,.inl o⟩,h.symm,fun x hx=> .inl hx⟩
 .have e:Ku.written (vs S l)=(vs S l).reverse:=by
   unfold Ku.written at h ⊢
   split
   .rfl
   .rename_i hc
    rw[if_neg hc] at h;exact absurd rfl h
  refine⟨Ku.rv S.toSys l,⟨fun x hx=> ?_,by rw[j4 o.tr o.ne,<-e];exact hu,.inl o.rv⟩,by rw[j4 o.tr o.ne,e],fun x hx=> .inr (cZ.2 (by rw[S.tt];exact hx))⟩;have:=S.tl _ (lt _ (cZ.1 hx));rw[S.tt] at this;exact this
theorem cY.JW {l:List Nat} (c:cY S.toSys l) (m:∀x∈l,at_ (vs S l) 0<=S.fr x):∀x∈Ku.rv S.toSys l,at_ (vs S (Ku.rv S.toSys l)) 0<=S.fr x:=fun x hx=>by
 rw[j4 c.tr c.ne,gC (by rw[bI c.ne];omega),bI c.ne,show l.length+1-1-0=l.length by omega,c.vV];have hy:=cZ.1 hx;obtain⟨i,hi,ei⟩:=aaT.1 hy;obtain⟨z,e1,e2⟩:=c.step (show l[i]? =some (S.tw x) by rw[<-ei];exact aaC hi);have:=m z (aaG e2);rw[S.sK _ z e1,S.tt] at this;exact this
theorem cY.written {l:List Nat} (c:cY S.toSys l) (lt:∀x∈l,x<S.M) (m:∀x∈l,at_ (vs S l) 0<=S.fr x):∃l',Cn S l'/\vs S l'=written (vs S l)/\∀x∈l,x∈l'\/S.tw x∈l':=by
 have h2:2<=(vs S l).length:=by rw[bI c.ne];have:=cu c.ne;omega
 have hu:=tM h2 (EW c.tr c.ne lt);by_cases h:Ku.written (vs S l)=vs S l
 .exact⟨l,⟨lt,by rw[h] at hu;exact hu,.inr ⟨c,m⟩⟩,h.symm,fun x hx=> .inl hx⟩
 .have e:Ku.written (vs S l)=(vs S l).reverse:=by
   unfold Ku.written at h ⊢
   split
   .rfl
   .rename_i hc
    rw[if_neg hc] at h;exact absurd rfl h
  refine⟨Ku.rv S.toSys l,⟨fun x hx=> ?_,by rw[j4 c.tr c.ne,<-e];exact hu,.inr ⟨c.rv,c.JW m⟩⟩,by rw[j4 c.tr c.ne,e],fun x hx=> .inr (cZ.2 (by rw[S.tt];exact hx))⟩;have:=S.tl _ (lt _ (cZ.1 hx));rw[S.tt] at this;exact this
theorem cY.turn {l:List Nat} (c:cY S.toSys l) (lt:∀x∈l,x<S.M) {k:Nat} (hk:k<l.length) (hmin:∀i,i<l.length->at_ (vs S l) k<=at_ (vs S l) i):
 ∃l',cY S.toSys l'/\(∀x∈l',x<S.M)/\(∀x∈l',at_ (vs S l') 0<=S.fr x)/\(∀x,x∈l->x∈l')/\vs S l'=(List.range l.length).map (fun i=>at_ (vs S l) ((k+i)%l.length))++[at_ (vs S l) k]:=by
 have hp:=cu c.ne;have hlen:=tR (Nat.le_of_lt hk);have hat:∀i,i<l.length->∃a,l[i]? =some a/\at_ (vs S l) i=S.fr a:=fun i hi=>by
  obtain⟨a,ha⟩:∃a,l[i]? =some a:=⟨_,aaC hi⟩;exact⟨a,ha,k9 (by rw[rZ c.tr hi,ha];rfl)⟩
 have hc:=c.pR hk;have hmem:∀x,x∈Ku.pR l k↔x∈l:=fun x=>by
  unfold Ku.pR;rw[abl,or_comm,<-abl,ack]
 have h0:at_ (vs S (Ku.pR l k)) 0=at_ (vs S l) k:=by
  obtain⟨a,ha,e⟩:=hat k hk;rw[e];exact iI (by rw[qO hk hp,abv,abd hk,ha])
 refine⟨Ku.pR l k,hc,fun x hx=>lt x ((hmem x).1 hx),fun x hx=> ?_,fun x hx=>(hmem x).2 hx,?_⟩
 .rw[h0]
  obtain⟨i,hi,ei⟩:=aaT.1 ((hmem x).1 hx);obtain⟨a,ha,e⟩:=hat i hi;rw[aaC hi,ei] at ha;cases ha;rw[<-e];exact hmin i hi
 .have hvl:(vs S (Ku.pR l k)).length=l.length+1:=by rw[bI hc.ne,hlen]
  refine abz fun i=> ?_
  by_cases hi:i<l.length
  .rw[aaU (by simpa using hi),rZ hc.tr (by omega),qO hk hi,aaY,ab8 hi]
   obtain⟨a,ha,e⟩:=hat ((k+i)%l.length) (acd _ hp);rw[ha];exact congrArg some e.symm
  .by_cases hi2:i=l.length
   .subst hi2
    rw[aa4 (by simp)];have:=hc.vV;rw[hlen,h0] at this;rw[PE (c:=vs S (Ku.pR l k)) (i:=l.length) (by omega),this];simp
   .rw[aaS (by omega),aaS (by simp;omega)]
end Ku
end
end Go.Proofs.YtdbjpbjocmcpkaaGreatDoor
