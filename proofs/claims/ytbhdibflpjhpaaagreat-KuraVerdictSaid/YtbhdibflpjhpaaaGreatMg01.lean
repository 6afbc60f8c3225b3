import Derived.Test.YtbhdibflpjhpaaaGreatMg00
namespace Go.Proofs.YtbhdibflpjhpaaaGreat
section
open Go.RowKit
def aN (w:World) (ao:Option Addr) (es:List (Int×Int)):Prop:=
 ∀(j:Nat) (p:Int×Int),es[j]? =some p->∃b o:Nat,ao=some ⟨b,o,none⟩/\w.cell? ⟨b,o+j*2,none⟩=some (.int .i64 p.1)/\w.cell? ⟨b,o+j*2+1,none⟩=some (.int .i64 p.2)
theorem aN.later {w w':World} {ao:Option Addr} {es:List (Int×Int)} (h:aN w ao es) (hb:Below w.heap.size w w'):aN w' ao es:=fun j p hj=>by
 obtain⟨b,o,e,h0,h1⟩:=h j p hj;exact⟨b,o,e,(hb.cell (p:=⟨b,o+j*2,none⟩) (block_lt_of_cell h0)).trans h0,(hb.cell (p:=⟨b,o+j*2+1,none⟩) (block_lt_of_cell h1)).trans h1⟩
theorem aN.nil (w:World) (ao:Option Addr):aN w ao []:=fun j p hj=>by simp at hj
def cH (n:Int) (ao:Option Addr) (len cap:Nat):Value:= .agg #[.int .i64 n,.slice ao len cap]
end
section
open Go.RowKit
theorem Tryz.vA:(Tryz.prog.info? 38).map (fun i=>(i.zero,i.size,i.bytes))=some (some (.agg #[.int .i64 0,.int .i64 0]),2,16):=by kernel_rfl
def kU (ps:List (Int×Int)):List Value:=ps.flatMap fun p=>[.int .i64 p.1,.int .i64 p.2]
theorem mS (ps:List (Int×Int)) (p:Int×Int):kU (ps++[p])=kU ps++[.int .i64 p.1,.int .i64 p.2]:=by simp[kU]
theorem vF:∀(ps:List (Int×Int)) (j:Nat) (p:Int×Int),ps[j]? =some p->(kU ps)[j*2]? =some (.int .i64 p.1)/\(kU ps)[j*2+1]? =some (.int .i64 p.2)
 |[],j,p,h=>by simp at h
 |q::ps,0,p,h=>by
  simp at h;subst h;simp[kU]
 |q::ps,j+1,p,h=>by
  simp at h;have:=vF ps j p h;have e:(j+1)*2=j*2+1+1:=by omega
  rw[e];simpa[kU] using this
theorem Xg (g j:Nat):((⟨g,0,none⟩:Addr).add j)=⟨g,j,none⟩:=by
 by_cases h:j=0
 .simp[Addr.add,h]
 .simp[Addr.add,h]
def dW (w:World) (B:Nat) (v:Value) (es:List (Int×Int)):Prop:=w.ownsRow B 38 2 v es.length (kU es)
theorem dW.form {w:World} {B:Nat} {v:Value} {es:List (Int×Int)} (h:dW w B v es):∃ao cap,v= .slice ao es.length cap/\es.length<=cap/\cap<=maxLen/\aN w ao es/\(∀x,ao=some x->B<=x.block/\x.block<w.heap.size):=by
 have h':=h;unfold dW at h';rcases h.2 with ⟨rfl,h0⟩|⟨g,cap,cur,rfl,hg,hh,hc,hm,_⟩
 .refine⟨none,0,by rw[h0],by omega,ab6 _,fun j p hj=> ?_,fun x h=>by cases h⟩
  rw[ac0.1 h0] at hj;simp at hj
 .refine⟨_,cap,rfl,hc,hm,fun j p hj=>⟨g,0,rfl,?_⟩,fun x h=>by cases h;exact⟨hg,lt_of_block hh⟩⟩
  have hcl:=ac1 h' (g:=g) rfl;simp only[Xg] at hcl;obtain⟨h0,h1⟩:=vF es j p hj;rw[ac7];exact⟨hcl _ _ h0,hcl _ _ h1⟩
theorem dW.below {w w':World} {B A:Nat} {v:Value} {ps:List (Int×Int)} (h:dW w B v ps) (hb:Below A w w') (hA:w.heap.size<=A):dW w' B v ps:=by
 refine⟨h.1,?_⟩;rcases h.2 with h|⟨g,cap,cur,e,hgB,hh,hr⟩
 .exact .inl h
 .exact .inr ⟨g,cap,cur,e,hgB,(hb.block g (by have:=lt_of_block hh;omega)).trans hh,hr⟩
theorem dW.far {w:World} {B b:Nat} {v:Value} {ps:List (Int×Int)} (h:dW w B v ps) (hb:b<B):v.ownBlock≠Option.some b:=by
 obtain⟨ao,cap,rfl,_,_,_,hx⟩:=h.form;cases ao with
 |none=>simp[Value.ownBlock]
 |some x=>have:=hx x rfl;simp[Value.ownBlock];omega
theorem dW.afw {w:World} {B A b:Nat} {v:Value} {ps:List (Int×Int)} (h:dW w B v ps) (hA:A<=b/\b<B) (x y:Value):dW ((w.setCell ⟨b,0,none⟩ x).setCell ⟨b,1,none⟩ y) A v ps:=by
 refine⟨h.1,?_⟩;rcases h.2 with h|⟨g,cap,cur,e,hgB,hh,hr⟩
 .exact .inl h
 .refine .inr ⟨g,cap,cur,e,by omega,?_,hr⟩
  rw[heap_setCell_other _ ⟨b,1,none⟩ g y (by simp;omega),heap_setCell_other _ ⟨b,0,none⟩ g x (by simp;omega)];exact hh
theorem dW.nil (w:World) (B:Nat):dW w B (.slice none 0 0) []:=ad6 _ _ _ _
theorem wU (W:World) (k:Nat) (hk:W.heap.size=k) (a b:Value) (t:TypeId):∀j u,[a,b][j]? =some u->(W.alloc (.cells #[a,b] t)).cell? ((⟨k,0,none⟩:Addr).add j)=some u:=by
 subst hk;exact aek (cs:= #[a,b]) (t:=t) (fr:=(0,0)) (heap_alloc_new W _)
end
section
namespace Ku
structure Sys where
 M:Nat
 tw:Nat->Nat
 nx:Nat->Option Nat
 tt:∀h,tw (tw h)=h
 tn:∀h,tw h≠h
 tl:∀h,h<M->tw h<M
 nl:∀h k,h<M->nx h=some k->k<M
 rev:∀h k,nx h=some k->nx (tw k)=some (tw h)
 irr:∀h,nx h≠some (tw h)
variable {S:Sys}
theorem Sys.inj {h h' k:Nat} (a:S.nx h=some k) (b:S.nx h'=some k):h=h':=by
 have e1:=S.rev h k a;have e2:=S.rev h' k b;rw[e1] at e2;have:=aal e2;rw[<-S.tt h,this,S.tt]
theorem Sys.afq {h h':Nat} (e:S.tw h=S.tw h'):h=h':=by rw[<-S.tt h,e,S.tt]
def Tr (S:Sys) (l:List Nat):Prop:=∀(i a b:Nat),l[i]? =some a->l[i+1]? =some b->S.nx a=some b
theorem Tr.cons {h k:Nat} {l:List Nat} (e:S.nx h=some k) (t:Tr S (k::l)):Tr S (h::k::l):=by
 intro i a b ha hb;cases i with
 |zero=>
  simp at ha hb;subst ha;subst hb;exact e
 |succ i=>exact t i a b (by simpa using ha) (by simpa using hb)
theorem Tr.one (h:Nat):Tr S [h]:=by
 intro i a b ha hb;have:=(aaf.1 hb).1;simp at this
theorem Tr.twin {l:List Nat} (t:Tr S l):∀(d i a b:Nat),l[i]? =some a->l[i+d]? =some b->b≠S.tw a
 |0,i,a,b,ha,hb,e=>by
  rw[ado,ha] at hb;cases hb;exact S.tn a e.symm
 |1,i,a,b,ha,hb,e=>by
  have:=t i a b ha hb;rw[e] at this;exact S.irr a this
 |d+2,i,a,b,ha,hb,e=>by
  have hl:=(aaf.1 hb).1;obtain⟨a',ha'⟩:∃a',l[i+1]? =some a':=⟨_,aac (by omega)⟩;obtain⟨b',hb'⟩:∃b',l[i+1+d]? =some b':=⟨_,aac (by omega)⟩;have h1:=t i a a' ha ha';have h2:=t (i+1+d) b' b hb' (by rw[show i+1+d+1=i+(d+2) by omega];exact hb);have h3:=S.rev b' b h2;rw[e,S.tt,h1] at h3;have h4:=aal h3;refine t.twin d (i+1) a' b' ha' hb' ?_;rw[h4,S.tt]
theorem Tr.Dl {l:List Nat} (t:Tr S l) {a b:Nat} (ha:a∈l) (hb:b∈l):b≠S.tw a:=by
 obtain⟨i,hi,ei⟩:=acq.1 ha;obtain⟨j,hj,ej⟩:=acq.1 hb;have h1:l[i]? =some a:=by rw[<-ei];exact aac hi
 have h2:l[j]? =some b:=by rw[<-ej];exact aac hj
 rcases Nat.le_total i j with h|h
 .exact t.twin (j-i) i a b h1 (by rw[show i+(j-i)=j by omega];exact h2)
 .intro e
  refine t.twin (i-j) j b a h2 (by rw[show j+(i-j)=i by omega];exact h1) ?_;rw[e,S.tt]
theorem Tr.back {l l':List Nat} (t:Tr S l) (t':Tr S l'):∀(d i j a:Nat),l[i+d]? =some a->l'[j+d]? =some a->l[i]? =l'[j]?
 |0,i,j,a,h1,h2=>h1.trans h2.symm
 |d+1,i,j,a,h1,h2=>by
  have k1:=(aaf.1 h1).1;have k2:=(aaf.1 h2).1;obtain⟨b,hb⟩:∃b,l[i+d]? =some b:=⟨_,aac (by omega)⟩;obtain⟨b',hb'⟩:∃b,l'[j+d]? =some b:=⟨_,aac (by omega)⟩;have e:=S.inj (t (i+d) b a hb (by rw[show i+d+1=i+(d+1) by omega];exact h1)) (t' (j+d) b' a hb' (by rw[show j+d+1=j+(d+1) by omega];exact h2));subst e;exact t.back t' d i j b hb hb'
theorem Tr.on {l l':List Nat} (t:Tr S l) (t':Tr S l') {i j a:Nat} (h1:l[i]? =some a) (h2:l'[j]? =some a):∀(d b:Nat),l[i+d]? =some b->j+d<l'.length->l'[j+d]? =some b
 |0,b,hb,_=>by rw[ado] at hb ⊢;rw[h1] at hb;rw[h2];exact hb
 |d+1,b,hb,hl=>by
  have k1:=(aaf.1 hb).1;obtain⟨c,hc⟩:∃c,l[i+d]? =some c:=⟨_,aac (by omega)⟩;have hc':=t.on t' h1 h2 d c hc (by omega);obtain⟨b',hb'⟩:∃b,l'[j+(d+1)]? =some b:=⟨_,aac hl⟩;have e1:=t (i+d) c b hc hb;have e2:=t' (j+d) c b' hc' hb';rw[e1] at e2;rw[hb',aal e2]
theorem Tr.nodup {l:List Nat} (t:Tr S l) (h0:∀i,0<i->l[i]? ≠l[0]?):l.Nodup:=by
 rw[acB,acP];intro i j hi hj hij e;have h1:l[0+i]? =some l[i]:=by rw[ac7];exact aac hi
 have h2:l[(j-i)+i]? =some l[i]:=by rw[show j-i+i=j by omega,e];exact aac hj
 exact h0 (j-i) (by omega) (t.back t i 0 (j-i) _ h1 h2).symm
def rv (S:Sys) (l:List Nat):List Nat:=(l.map S.tw).reverse
theorem eJ (l:List Nat):(rv S l).length=l.length:=by simp[rv]
theorem nV {l:List Nat} {i:Nat} (h:i<l.length):(rv S l)[i]? =(l[l.length-1-i]?).map S.tw:=by
 unfold rv;rw[ad4 (by simpa using h),abU,aco]
theorem fL {l:List Nat} {h:Nat}:h∈rv S l↔S.tw h∈l:=by
 unfold rv;rw[List.mem_reverse,abT];constructor
 .rintro⟨a,ha,rfl⟩
  rw[S.tt];exact ha
 .intro h1
  exact⟨_,h1,S.tt h⟩
theorem Tr.rv {l:List Nat} (t:Tr S l):Tr S (rv S l):=by
 intro i a b ha hb;have hl:=(aaf.1 hb).1;rw[eJ] at hl;rw[nV (by omega)] at ha hb;obtain⟨x,hx,rfl⟩:=acX.1 ha;obtain⟨y,hy,rfl⟩:=acX.1 hb;refine S.rev y x (t (l.length-1-(i+1)) y x hy ?_);rw[show l.length-1-(i+1)+1=l.length-1-i by omega];exact hx
def run (S:Sys) (h0:Nat):Nat->Nat->List Nat
 |0,h=>[h]
 |f+1,h=>match S.nx h with
  |none=>[h]
  |some k=>if k=h0 then [h] else h::run S h0 f k
theorem uU (h0:Nat) (f h:Nat):∃l,run S h0 f h=h::l:=by
 cases f with
 |zero=>exact⟨[],rfl⟩
 |succ f=>
  unfold run
  split
  .exact⟨[],rfl⟩
  .split
   .exact⟨[],rfl⟩
   .exact⟨_,rfl⟩
theorem PG (h0:Nat):∀(f h:Nat),Tr S (run S h0 f h)
 |0,h=>Tr.one h
 |f+1,h=>by
  unfold run
  split
  .exact Tr.one h
  .rename_i k hk
   split
   .exact Tr.one h
   .obtain⟨l,hl⟩:=uU (S:=S) h0 f k
    have:=PG h0 f k;rw[hl] at this ⊢;exact Tr.cons hk this
theorem PJ {h0:Nat}:∀{f h:Nat},h<S.M->∀x∈run S h0 f h,x<S.M
 |0,h,hh,x,hx=>by simp[run] at hx;omega
 |f+1,h,hh,x,hx=>by
  unfold run at hx
  split at hx
  .simp at hx;omega
  .rename_i k hk
   split at hx
   .simp at hx;omega
   .rcases aaj.1 hx with rfl|hx
    .exact hh
    .exact PJ (S.nl h k hh hk) x hx
theorem PI {h0:Nat}:∀{f h:Nat} (i:Nat),0<i->(run S h0 f h)[i]? ≠some h0
 |0,h,i,hi,e=>by
  have:=(aaf.1 e).1;simp[run] at this;omega
 |f+1,h,i,hi,e=>by
  unfold run at e
  split at e
  .have:=(aaf.1 e).1
   simp at this;omega
  .rename_i k hk
   split at e
   .have:=(aaf.1 e).1
    simp at this;omega
   .rename_i hne
    obtain⟨j,rfl⟩:∃j,i=j+1:=⟨i-1,by omega⟩;rw[ae1] at e;cases j with
    |zero=>
     obtain⟨l,hl⟩:=uU (S:=S) h0 f k;rw[hl] at e;simp at e;exact hne e
    |succ j=>exact PI (j+1) (by omega) e
theorem J0 {h0:Nat}:∀{f h x:Nat},(run S h0 f h).getLast? =some x->(run S h0 f h).length<=f->S.nx x=none\/S.nx x=some h0
 |0,h,x,_,hl=>by simp[run] at hl
 |f+1,h,x,hx,hl=>by
  unfold run at hx hl
  split at hx
  .rename_i hk
   simp at hx;subst hx;exact .inl hk
  .rename_i k hk
   split at hx
   .rename_i e
    simp at hx;subst hx;exact .inr (by rw[hk,e])
   .rename_i hne
    rw[hk] at hl;dsimp only at hl;rw[if_neg hne] at hl;obtain⟨l,e⟩:=uU (S:=S) h0 f k;refine J0 (f:=f) (h:=k) ?_ (by simp at hl;omega);rw[e] at hx ⊢;rw[List.getLast?_cons_cons] at hx;exact hx
theorem l8 {l:List Nat} {M:Nat} (hn:l.Nodup) (hl:∀x∈l,x<M):l.length<=M:=by
 have:=adN hn (l₂:=List.range M) (fun x hx=>ab1.2 (hl x hx));simpa using this
def all (S:Sys) (h0:Nat):List Nat:=run S h0 S.M h0
theorem dM {h0:Nat} (h:h0<S.M):Tr S (all S h0)/\(all S h0).Nodup/\(∀x∈all S h0,x<S.M)/\(all S h0).head? =some h0/\∃x,(all S h0).getLast? =some x/\(S.nx x=none\/S.nx x=some h0):=by
 obtain⟨l,e⟩:=uU (S:=S) h0 S.M h0;have ht:=PG (S:=S) h0 S.M h0;have hn:(all S h0).Nodup:=ht.nodup fun i hi hh=>PI (S:=S) (h0:=h0) (f:=S.M) (h:=h0) i hi (hh.trans (by rw[e];rfl))
 have hlt:=PJ (S:=S) (h0:=h0) (f:=S.M) h;have hlen:=l8 hn hlt;refine⟨ht,hn,hlt,by unfold all;rw[e];rfl,?_⟩;obtain⟨x,hx⟩:∃x,(all S h0).getLast? =some x:=by
  unfold all;rw[e];exact⟨_,List.getLast?_eq_some_getLast (by simp)⟩
 exact⟨x,hx,J0 hx hlen⟩
end Ku
end
section
namespace Ku
variable {S:Sys}
structure mU (S:Sys) (l:List Nat):Prop where
 tr:Tr S l
 ne:l≠[]
 fst:∀a,l[0]? =some a->S.nx (S.tw a)=none
 bT:∀a,l[l.length-1]? =some a->S.nx a=none
structure fV (S:Sys) (l:List Nat):Prop where
 tr:Tr S l
 ne:l≠[]
 nd:l.Nodup
 T6:∀a b,l[l.length-1]? =some a->l[0]? =some b->S.nx a=some b
theorem eW {l:List Nat} (h:l≠[]):0<l.length:=List.length_pos_iff.2 h
theorem mU.Ip {l l':List Nat} (o:mU S l) (o':mU S l') {i j a:Nat} (h1:l[i]? =some a) (h2:l'[j]? =some a):l'.length-j<=l.length-i:=by
 have k1:=(aaf.1 h1).1;have k2:=(aaf.1 h2).1;refine abO fun hc=> ?_
 obtain⟨x,hx⟩:∃x,l[l.length-1]? =some x:=⟨_,aac (by omega)⟩;have hx':l[i+(l.length-1-i)]? =some x:=by rw[show i+(l.length-1-i)=l.length-1 by omega];exact hx
 have e:=o.tr.on o'.tr h1 h2 _ x hx' (by omega);obtain⟨y,hy⟩:∃y,l'[j+(l.length-1-i)+1]? =some y:=⟨_,aac (by omega)⟩;have:=o'.tr _ x y e hy;rw[o.bT x hx] at this;cases this
theorem mU.rv {l:List Nat} (o:mU S l):mU S (rv S l):=by
 have hp:=eW o.ne;refine⟨o.tr.rv,fun h=> ?_,fun a ha=> ?_,fun a ha=> ?_⟩
 .have:=congrArg List.length h
  rw[eJ] at this;simp at this;exact o.ne this
 .rw[nV hp] at ha
  obtain⟨x,hx,rfl⟩:=acX.1 ha;rw[S.tt];exact o.bT x (by rw[<-hx];congr 1)
 .rw[eJ,nV (by omega)] at ha
  obtain⟨x,hx,rfl⟩:=acX.1 ha;exact o.fst x (by rw[<-hx];congr 1;omega)
theorem mU.start {l l':List Nat} (o:mU S l) (o':mU S l') {i j a:Nat} (h1:l[i]? =some a) (h2:l'[j]? =some a):j<=i:=by
 have k1:=(aaf.1 h1).1;have k2:=(aaf.1 h2).1;have r1:(Ku.rv S l)[l.length-1-i]? =some (S.tw a):=by rw[nV (by omega),show l.length-1-(l.length-1-i)=i by omega,h1];rfl
 have r2:(Ku.rv S l')[l'.length-1-j]? =some (S.tw a):=by rw[nV (by omega),show l'.length-1-(l'.length-1-j)=j by omega,h2];rfl
 have:=o.rv.Ip o'.rv r1 r2;rw[eJ,eJ] at this;omega
theorem mU.unique {l l':List Nat} (o:mU S l) (o':mU S l') {a:Nat} (h1:a∈l) (h2:a∈l'):l=l':=by
 obtain⟨i,hi,ei⟩:=acq.1 h1;obtain⟨j,hj,ej⟩:=acq.1 h2;have g1:l[i]? =some a:=by rw[<-ei];exact aac hi
 have g2:l'[j]? =some a:=by rw[<-ej];exact aac hj
 have a1:=o.Ip o' g1 g2;have a2:=o'.Ip o g2 g1;have b1:=o.start o' g1 g2;have b2:=o'.start o g2 g1;obtain rfl:i=j:=by omega
 have hlen:l.length=l'.length:=by omega
 refine acO fun t=> ?_
 by_cases ht:t<l.length
 .by_cases BB:t<=i
  .exact o.tr.back o'.tr (i-t) t t a (by rw[show t+(i-t)=i by omega];exact g1) (by rw[show t+(i-t)=i by omega];exact g2)
  .obtain⟨x,hx⟩:∃x,l[t]? =some x:=⟨_,aac ht⟩
   have:=o.tr.on o'.tr g1 g2 (t-i) x (by rw[show i+(t-i)=t by omega];exact hx) (by omega);rw[show i+(t-i)=t by omega] at this;rw[hx,this]
 .rw[abv (by omega),abv (by omega)]
theorem fV.step {l:List Nat} (c:fV S l) {i a:Nat} (h:l[i]? =some a):∃b,S.nx a=some b/\l[(i+1)%l.length]? =some b:=by
 have hi:=(aaf.1 h).1;by_cases hl:i+1<l.length
 .obtain⟨b,hb⟩:∃b,l[i+1]? =some b:=⟨_,aac hl⟩
  exact⟨b,c.tr i a b h hb,by rw[adh hl];exact hb⟩
 .have e:i=l.length-1:=by omega
  subst e;obtain⟨b,hb⟩:∃b,l[0]? =some b:=⟨_,aac (by omega)⟩;refine⟨b,c.T6 a b h hb,?_⟩;rw[show l.length-1+1=l.length by omega,Nat.mod_self];exact hb
theorem fV.rv {l:List Nat} (c:fV S l):fV S (rv S l):=by
 have hp:=eW c.ne;refine⟨c.tr.rv,fun h=> ?_,?_,fun a b ha hb=> ?_⟩
 .have:=congrArg List.length h
  rw[eJ] at this;simp at this;exact c.ne this
 .unfold Ku.rv
  rw[acB,List.pairwise_reverse,ac8];exact(acB.1 c.nd).imp fun hab e=>hab (S.afq e.symm)
 .rw[eJ,nV (by omega)] at ha
  rw[nV hp] at hb;obtain⟨x,hx,rfl⟩:=acX.1 ha;obtain⟨y,hy,rfl⟩:=acX.1 hb;exact S.rev y x (c.T6 y x (by rw[<-hy];congr 1) (by rw[<-hx];congr 1;omega))
theorem fV.same {l l':List Nat} (c:fV S l) (c':fV S l') {i j a:Nat} (h1:l[i]? =some a) (h2:l'[j]? =some a):∀d,l[(i+d)%l.length]? =l'[(j+d)%l'.length]?
 |0=>by
  have k1:=(aaf.1 h1).1;have k2:=(aaf.1 h2).1;rw[ado,ado,adh k1,adh k2,h1,h2]
 |d+1=>by
  have hp:=eW c.ne;have hp':=eW c'.ne;have ih:=c.same c' h1 h2 d;obtain⟨x,hx⟩:∃x,l[(i+d)%l.length]? =some x:=⟨_,aac (Nat.mod_lt _ hp)⟩;obtain⟨y,e1,e2⟩:=c.step hx;obtain⟨z,e3,e4⟩:=c'.step (ih▸hx);rw[e1] at e3;have:=aal e3;subst this;rw[Nat.mod_add_mod] at e2 e4;rw[<-afE,<-afE,e2,e4]
theorem fV.sub {l l':List Nat} (c:fV S l) (c':fV S l') {a:Nat} (h1:a∈l) (h2:a∈l'):∀x∈l,x∈l':=fun x hx=>by
 obtain⟨i,hi,ei⟩:=acq.1 h1;obtain⟨j,hj,ej⟩:=acq.1 h2;obtain⟨t,ht,et⟩:=acq.1 hx;have g1:l[i]? =some a:=by rw[<-ei];exact aac hi
 have g2:l'[j]? =some a:=by rw[<-ej];exact aac hj
 have:=c.same c' g1 g2 (l.length-i+t);rw[show i+(l.length-i+t)=l.length+t by omega,afM,adh ht,aac ht,et] at this;exact aah this.symm
theorem fV.len {l l':List Nat} (c:fV S l) (c':fV S l') {a:Nat} (h1:a∈l) (h2:a∈l'):l.length=l'.length:=
 Nat.le_antisymm (adN c.nd (c.sub c' h1 h2)) (adN c'.nd (c'.sub c h2 h1))
theorem fV.unique {l l':List Nat} (c:fV S l) (c':fV S l') {a:Nat} (h1:l[0]? =some a) (h2:l'[0]? =some a):l=l':=by
 have hl:=c.len c' (aah h1) (aah h2);refine acO fun t=> ?_
 by_cases ht:t<l.length
 .have:=c.same c' h1 h2 t
  rw[ac7,adh ht,adh (by omega)] at this;exact this
 .rw[abv (by omega),abv (by omega)]
theorem mU.mH {l l':List Nat} (o:mU S l) (c:fV S l') {a:Nat} (h1:a∈l) (h2:a∈l'):False:=by
 obtain⟨i,hi,ei⟩:=acq.1 h1;have Sv:∀d,i+d<l.length->∀x,l[i+d]? =some x->x∈l':=by
  intro d
  induction d with
  |zero=>
   intro _ x hx;rw[ado,aac hi,ei] at hx;cases hx;exact h2
  |succ d ih=>
   intro hl x hx;obtain⟨y,hy⟩:∃y,l[i+d]? =some y:=⟨_,aac (by omega)⟩;have hm:=ih (by omega) y hy;obtain⟨j,hj,ej⟩:=acq.1 hm;obtain⟨z,e1,e2⟩:=c.step (show l'[j]? =some y by rw[<-ej];exact aac hj);have:=o.tr (i+d) y x hy hx;rw[this] at e1;cases e1;exact aah e2
 obtain⟨x,hx⟩:∃x,l[l.length-1]? =some x:=⟨_,aac (by omega)⟩;have hm:=Sv (l.length-1-i) (by omega) x (by rw[show i+(l.length-1-i)=l.length-1 by omega];exact hx);obtain⟨j,hj,ej⟩:=acq.1 hm;obtain⟨z,e1,_⟩:=c.step (show l'[j]? =some x by rw[<-ej];exact aac hj);rw[o.bT x hx] at e1;cases e1
def wP (l:List Nat) (k:Nat):List Nat:=l.drop k++l.take k
theorem AE {l:List Nat} {k:Nat} (h:k<=l.length):(wP l k).length=l.length:=by unfold wP;simp;omega
theorem x6 {l:List Nat} {k i:Nat} (hk:k<l.length) (hi:i<l.length):(wP l k)[i]? =l[(k+i)%l.length]? :=by
 unfold wP;by_cases h:i<l.length-k
 .rw[acF (by simp;omega),List.getElem?_drop,adh (by omega)]
 .rw[acM (by simp;omega),List.length_drop,List.getElem?_take,if_pos (by omega)]
  congr 1
  rw[show k+i=l.length+(i-(l.length-k)) by omega,afM,adh (by omega)]
theorem fV.wP {l:List Nat} (c:fV S l) {k:Nat} (hk:k<l.length):fV S (wP l k):=by
 have hlen:=AE (Nat.le_of_lt hk);have hstep:∀i a b,i<l.length->(Ku.wP l k)[i]? =some a->l[(k+i+1)%l.length]? =some b->S.nx a=some b:=fun i a b hi ha hb=>by
  rw[x6 hk hi] at ha;obtain⟨z,e1,e2⟩:=c.step ha;rw[Nat.mod_add_mod,hb] at e2;cases e2;exact e1
 refine⟨fun i a b ha hb=> ?_,fun h=> ?_,?_,fun a b ha hb=> ?_⟩
 .have hl:=(aaf.1 hb).1
  rw[hlen] at hl;rw[x6 hk hl] at hb;exact hstep i a b (by omega) ha hb
 .have:=congrArg List.length h
  rw[hlen] at this;simp at this;exact c.ne this
 .unfold Ku.wP
  have:(l.take k++l.drop k).Nodup:=by rw[adL];exact c.nd
  exact(List.perm_append_comm).nodup_iff.1 this
 .rw[hlen] at ha
  rw[x6 hk (by omega)] at hb;refine hstep _ a b (by omega) ha ?_;rw[show k+(l.length-1)+1=l.length+k by omega,afM];exact hb
theorem mj {h0:Nat} (h:h0<S.M):(fV S (all S h0)/\(all S h0)[0]? =some h0)\/(Tr S (all S h0)/\(all S h0)[0]? =some h0/\∀a,(all S h0)[(all S h0).length-1]? =some a->S.nx a=none):=by
 obtain⟨t,nd,_,hh,x,hx,he⟩:=dM h;have h0':(all S h0)[0]? =some h0:=by rw[<-aey];exact hh
 have cq:(all S h0)[(all S h0).length-1]? =some x:=by rw[<-afJ];exact hx
 rcases he with he|he
 .refine .inr ⟨t,h0',fun a ha=> ?_⟩
  rw[cq] at ha;cases ha;exact he
 .refine .inl ⟨⟨t,fun e=>by rw[e] at hh;simp at hh,nd,fun a b ha hb=> ?_⟩,h0'⟩
  rw[cq] at ha;rw[h0'] at hb;cases ha;cases hb;exact he
end Ku
end
section
namespace Ku
structure Gs extends Sys where
 fr:Nat->Nat
 wX:∀h k,nx h=some k->fr k=fr (tw h)
 simple:∀h k,h<M->k<M->fr h=fr k->fr (tw h)=fr (tw k)->h=k
 two:∀h k k',nx h=some k->k'<M->fr k'=fr (tw h)->k'=tw h\/k'=k
variable {S:Gs}
abbrev Gs.to (S:Gs) (h:Nat):Nat:=S.fr (S.tw h)
def vs (S:Gs):List Nat->List Nat
 |[]=>[]
 |h::l=>S.fr h::(h::l).map S.to
theorem cN {l:List Nat} (hn:l≠[]):(vs S l).length=l.length+1:=by
 cases l with
 |nil=>exact absurd rfl hn
 |cons h l=>simp[vs]
theorem kG (l:List Nat) (i:Nat):(vs S l)[i+1]? =(l[i]?).map S.to:=by
 cases l with
 |nil=>simp[vs]
 |cons h l=>
  unfold vs;rw[ae1,abU]
theorem Cz (l:List Nat):(vs S l)[0]? =(l[0]?).map S.fr:=by
 cases l with
 |nil=>simp[vs]
 |cons h l=>simp[vs]
theorem wI {l:List Nat} (t:Tr S.toSys l) {i:Nat} (hi:i<l.length):(vs S l)[i]? =(l[i]?).map S.fr:=by
 cases i with
 |zero=>exact Cz l
 |succ i=>
  rw[kG];obtain⟨a,ha⟩:∃a,l[i]? =some a:=⟨_,aac (by omega)⟩;obtain⟨b,hb⟩:∃b,l[i+1]? =some b:=⟨_,aac hi⟩;rw[ha,hb];exact congrArg some (S.wX a b (t i a b ha hb)).symm
theorem Py {l l':List Nat} (t:Tr S.toSys l) (t':Tr S.toSys l') (hl:∀x∈l,x<S.M) (hl':∀x∈l',x<S.M) (e:vs S l=vs S l'):l=l':=by
 have hlen:l.length=l'.length:=by
  have:=congrArg List.length e;cases l with
  |nil=>
   cases l' with
   |nil=>rfl
   |cons h l'=>simp[vs] at this
  |cons h l=>
   cases l' with
   |nil=>simp[vs] at this
   |cons h' l'=>simpa[vs] using this
 refine acO fun i=> ?_
 by_cases hi:i<l.length
 .obtain⟨a,ha⟩:∃a,l[i]? =some a:=⟨_,aac hi⟩
  obtain⟨b,hb⟩:∃b,l'[i]? =some b:=⟨_,aac (by omega)⟩;have e1:=wI t hi;have e2:=wI t' (show i<l'.length by omega);have e3:=kG (S:=S) l i;have e4:=kG (S:=S) l' i;rw[ha] at e1 e3;rw[hb] at e2 e4;rw[e,e2] at e1;rw[e,e4] at e3;rw[ha,hb,S.simple a b (hl a (aah ha)) (hl' b (aah hb)) (aal e1).symm (aal e3).symm]
 .rw[abv (by omega),abv (by omega)]
theorem nP {l:List Nat} (t:Tr S.toSys l) (hn:l≠[]):vs S (rv S.toSys l)=(vs S l).reverse:=by
 have hp:=eW hn;have hn':rv S.toSys l≠[]:=fun h=>by
  have:=congrArg List.length h;rw[eJ] at this;simp at this;exact hn this
 refine acO fun i=> ?_
 by_cases hi:i<l.length+1
 .rw[ad4 (by rw[cN hn];exact hi),cN hn]
  cases i with
  |zero=>
   rw[Cz,nV hp,show l.length+1-1-0=(l.length-1)+1 by omega,kG,Option.map_map];rfl
  |succ i=>
   rw[kG,nV (by omega),Option.map_map,show l.length+1-1-(i+1)=l.length-1-i by omega,wI t (by omega)]
   congr 1
   funext h;show S.fr (S.tw (S.tw h))=S.fr h;rw[S.tt]
 .rw[abv (by rw[cN hn',eJ];omega),abv (by rw[acD,cN hn];omega)]
def at_ (c:List Nat) (i:Nat):Nat:=c.getD i 0
theorem iC {c:List Nat} {i x:Nat} (h:c[i]? =some x):at_ c i=x:=by unfold at_;rw[aag,h];rfl
theorem Cq {c:List Nat} {i:Nat} (h:i<c.length):c[i]? =some (at_ c i):=by unfold at_;rw[aag,aac h];rfl
def Up (c:List Nat):Prop:=at_ c 0<at_ c (c.length-1)\/(at_ c 0=at_ c (c.length-1)/\at_ c 1<at_ c (c.length-2))
theorem mC {c:List Nat} {i:Nat} (h:i<c.length):at_ c.reverse i=at_ c (c.length-1-i):=by
 unfold at_;rw[aag,aag,ad4 h]
theorem Up.Ul {c:List Nat} (h2:2<=c.length) (h:Up c):¬Up c.reverse:=by
 unfold Up at h ⊢;rw[acD,mC (by omega),mC (by omega),mC (by omega),mC (by omega)];rw[show c.length-1-0=c.length-1 by omega,show c.length-1-(c.length-1)=0 by omega,show c.length-1-1=c.length-2 by omega,show c.length-1-(c.length-2)=1 by omega];omega
theorem Up.YI {c:List Nat} (h2:2<=c.length) (hne:at_ c 0=at_ c (c.length-1)->at_ c 1≠at_ c (c.length-2)):Up c\/Up c.reverse:=by
 unfold Up;rw[acD,mC (by omega),mC (by omega),mC (by omega),mC (by omega)];rw[show c.length-1-0=c.length-1 by omega,show c.length-1-(c.length-1)=0 by omega,show c.length-1-1=c.length-2 by omega,show c.length-1-(c.length-2)=1 by omega];by_cases h:at_ c 0=at_ c (c.length-1)
 .have:=hne h
  omega
 .omega
structure Cn (S:Gs) (l:List Nat):Prop where
 lt:∀x∈l,x<S.M
 up:Up (vs S l)
 kind:mU S.toSys l\/(fV S.toSys l/\∀x∈l,at_ (vs S l) 0<=S.fr x)
theorem Cn.tr {l:List Nat} (c:Cn S l):Tr S.toSys l:=by
 rcases c.kind with o|o
 .exact o.tr
 .exact o.1.tr
theorem Cn.ne {l:List Nat} (c:Cn S l):l≠[]:=by
 rcases c.kind with o|o
 .exact o.ne
 .exact o.1.ne
theorem fV.Zx {l:List Nat} (c:fV S.toSys l) (hl:∀x∈l,x<S.M) {a b:Nat} (ha:a∈l) (hb:b∈l) (e:S.fr a=S.fr b):a=b:=by
 obtain⟨i,hi,ei⟩:=acq.1 ha;have hp:=eW c.ne;have g1:l[i]? =some a:=by rw[<-ei];exact aac hi
 obtain⟨p,kQ,kB⟩:∃p,p∈l/\S.nx p=some a:=by
  by_cases h0:i=0
  .subst h0
   obtain⟨p,hp⟩:∃p,l[l.length-1]? =some p:=⟨_,aac (by omega)⟩;exact⟨p,aah hp,c.T6 p a hp g1⟩
  .obtain⟨p,hp⟩:∃p,l[i-1]? =some p:=⟨_,aac (by omega)⟩
   exact⟨p,aah hp,c.tr (i-1) p a hp (by rw[show i-1+1=i by omega];exact g1)⟩
 rcases S.two p a b kB (hl b hb) (by rw[<-e];exact S.wX p a kB) with h|h
 .exact absurd h (c.tr.Dl kQ hb)
 .exact h.symm
theorem nI {l:List Nat} {a:Nat} (h:l[0]? =some a):at_ (vs S l) 0=S.fr a:=iC (by rw[Cz,h];rfl)
theorem fV.CA {l:List Nat} (c:fV S.toSys l):at_ (vs S l) l.length=at_ (vs S l) 0:=by
 have hp:=eW c.ne;obtain⟨a,ha⟩:∃a,l[0]? =some a:=⟨_,aac hp⟩;obtain⟨b,hb⟩:∃b,l[l.length-1]? =some b:=⟨_,aac (by omega)⟩;rw[nI ha,S.wX b a (c.T6 b a hb ha)];refine iC ?_;rw[show l.length=(l.length-1)+1 by omega,kG,hb];rfl
theorem fV.wB {l l':List Nat} (c:fV S.toSys l) (c':fV S.toSys l') (hl:∀x∈l,x<S.M) {a:Nat} (h1:a∈l) (h2:a∈l') (m:∀x∈l,at_ (vs S l) 0<=S.fr x) (m':∀x∈l',at_ (vs S l') 0<=S.fr x):l=l':=by
 obtain⟨x,hx⟩:∃x,l[0]? =some x:=⟨_,aac (eW c.ne)⟩;obtain⟨y,hy⟩:∃y,l'[0]? =some y:=⟨_,aac (eW c'.ne)⟩;have hxl:=aah hx;have agb:=aah hy;have UL:=c'.sub c h2 h1 y agb;have agd:=c.sub c' h1 h2 x hxl;have e1:=m y UL;have e2:=m' x agd;rw[nI hx] at e1;rw[nI hy] at e2;have e:=fV.Zx c hl hxl UL (by omega);subst e;exact c.unique c' hx hy
theorem Cn.unique {l l':List Nat} (c:Cn S l) (c':Cn S l') {h:Nat} (h1:h∈l) (h2:h∈l'\/S.tw h∈l'):l=l':=by
 have hlen:2<=(vs S l').length:=by rw[cN c'.ne];have:=eW c'.ne;omega
 rcases h2 with h2|h2
 .rcases c.kind with o|⟨o,m⟩<;>rcases c'.kind with o'|⟨o',m'⟩
  .exact o.unique o' h1 h2
  .exact(o.mH o' h1 h2).elim
  .exact(o'.mH o h2 h1).elim
  .exact o.wB o' c.lt h1 h2 m m'
 .exfalso
  have h3:h∈rv S.toSys l':=fL.2 h2;have hv:vs S l=(vs S l').reverse->False:=fun e=>by
   have:=c.up;rw[e] at this;exact Up.Ul hlen c'.up this
  rcases c.kind with o|⟨o,m⟩<;>rcases c'.kind with o'|⟨o',m'⟩
  .exact hv (by rw[o.unique o'.rv h1 h3,nP c'.tr c'.ne])
  .exact o.mH o'.rv h1 h3
  .exact o'.rv.mH o h3 h1
  .refine hv ?_
   have hm:∀x∈rv S.toSys l',at_ (vs S (rv S.toSys l')) 0<=S.fr x:=fun x hx=>by
    rw[nP c'.tr c'.ne,mC (by omega),cN c'.ne,show l'.length+1-1-0=l'.length by omega,o'.CA];have hy:=fL.1 hx;obtain⟨i,hi,ei⟩:=acq.1 hy;obtain⟨z,e1,e2⟩:=o'.step (show l'[i]? =some (S.tw x) by rw[<-ei];exact aac hi);have:=m' z (aah e2);rw[S.wX _ z e1,S.tt] at this;exact this
   rw[o.wB o'.rv c.lt h1 h3 m hm,nP c'.tr c'.ne]
end Ku
end
section
namespace Cs
def fr (es:List (Int×Int)) (i:Nat):Nat:=(if i%2=0 then (es.getD (i/2) (0,0)).1 else (es.getD (i/2) (0,0)).2).toNat
def to (es:List (Int×Int)) (i:Nat):Nat:=(if i%2=0 then (es.getD (i/2) (0,0)).2 else (es.getD (i/2) (0,0)).1).toNat
def out (es:List (Int×Int)) (v:Nat):Nat->List Nat
 |0=>[]
 |k+1=>if fr es k=v then out es v k++[k] else out es v k
section
variable {es:List (Int×Int)} {u v i j k:Nat}
theorem AL:∀k,(out es v k).length<=k
 |0=>by simp[out]
 |k+1=>by
  have:=AL k;unfold out
  split<;>simp<;>omega
theorem iJ (k:Nat):(out es v (k+1)).length=(out es v k).length+if fr es k=v then 1 else 0:=by
 conv=>lhs;unfold out
 split<;>simp
theorem FW (h:i<=k):(out es v i).length<=(out es v k).length:=by
 induction k with
 |zero=>
  obtain rfl:i=0:=by omega
  exact aad _
 |succ k ih=>
  by_cases hk:i=k+1
  .subst hk;exact aad _
  .have:=ih (by omega)
   rw[iJ];omega
theorem uY (h:i<k) (hv:fr es i=v):(out es v i).length<(out es v k).length:=by
 have h1:=iJ (es:=es) (v:=v) i;rw[if_pos hv] at h1;have h2:=FW (es:=es) (v:=v) (i:=i+1) (k:=k) h;omega
theorem H9 (h:i<k) (hv:fr es i=v):(out es v k)[(out es v i).length]? =some i:=by
 induction k with
 |zero=>omega
 |succ k ih=>
  by_cases hk:i=k
  .subst hk
   conv=>lhs;arg 1;unfold out
   rw[if_pos hv];simp
  .have h1:=ih (by omega)
   have h2:(out es v i).length<(out es v k).length:=uY (by omega) hv
   conv=>lhs;arg 1;unfold out
   split
   .rw[acF h2];exact h1
   .exact h1
theorem kK (h:(out es v k)[j]? =some i):i<k/\fr es i=v/\(out es v i).length=j:=by
 induction k with
 |zero=>simp[out] at h
 |succ k ih=>
  unfold out at h
  split at h
  .rename_i hv
   by_cases hj:j<(out es v k).length
   .rw[acF hj] at h
    have:=ih h;exact⟨by omega,this.2⟩
   .rw[acM (by omega)] at h
    by_cases hj2:j-(out es v k).length=0
    .rw[hj2] at h
     simp at h;subst h;exact⟨by omega,hv,by omega⟩
    .rw[abv (by simp;omega)] at h
     cases h
  .have:=ih h
   exact⟨by omega,this.2⟩
theorem Di {a b:Nat} (hij:i<j) (hi:(out es v k)[i]? =some a) (hj:(out es v k)[j]? =some b):a<b:=by
 have ha:=kK hi;have hb:=kK hj;rcases adn a b with h|h
 .exact h
 .have:=FW (es:=es) (v:=v) h
  omega
def st (es:List (Int×Int)) (M:Nat):Nat->Nat
 |0=>0
 |v+1=>st es M v+(out es v M).length
theorem M9 {M:Nat} (h:u<v):st es M u+(out es u M).length<=st es M v:=by
 induction v with
 |zero=>omega
 |succ v ih=>
  have e:st es M (v+1)=st es M v+(out es v M).length:=rfl;by_cases hu:u=v
  .subst hu;omega
  .have:=ih (by omega)
   omega
theorem TR (M v:Nat):st es (M+1) v=st es M v+if fr es M<v then 1 else 0:=by
 induction v with
 |zero=>simp[st]
 |succ v ih=>
  have e1:st es (M+1) (v+1)=st es (M+1) v+(out es v (M+1)).length:=rfl;have e2:st es M (v+1)=st es M v+(out es v M).length:=rfl;rw[e1,e2,ih,iJ]
  split<;>split<;>split<;>omega
theorem Yt {n:Nat} (M:Nat) (h:∀i,i<M->fr es i<n):st es M n=M:=by
 induction M with
 |zero=>
  have:∀v,st es 0 v=0:=fun v=>by
   induction v with
   |zero=>rfl
   |succ v ih=>rw[show st es 0 (v+1)=st es 0 v+(out es v 0).length from rfl,ih];rfl
  exact this n
 |succ M ih=>
  rw[TR,ih (fun i hi=>h i (by omega)),if_pos (h M (by omega))]
theorem CS {n M:Nat} (h:∀i,i<M->fr es i<n) (hv:v<n):st es M v+(out es v M).length<=M:=by
 have:=M9 (es:=es) (M:=M) hv;rw[Yt M h] at this;exact this
def pos (es:List (Int×Int)) (M i:Nat):Nat:=st es M (fr es i)+(out es (fr es i) i).length
theorem PU {n M:Nat} (h:∀i,i<M->fr es i<n) (hi:i<M):pos es M i<M:=by
 have h1:=CS h (h i hi);have h2:=uY (es:=es) (k:=M) hi rfl;unfold pos;omega
theorem YB {M:Nat} (hij:i<j) (hj:j<M):pos es M i≠pos es M j:=by
 unfold pos;rcases ae5 (fr es i) (fr es j) with h|h|h
 .have h1:=M9 (es:=es) (M:=M) h
  have h2:=uY (es:=es) (i:=i) (k:=M) (by omega) rfl;omega
 .rw[h]
  have h2:=uY (es:=es) (i:=i) (k:=j) hij h;omega
 .have h1:=M9 (es:=es) (M:=M) h
  have h2:=uY (es:=es) (i:=j) (k:=M) hj rfl;omega
end
structure pU (es:List (Int×Int)) (n M k:Nat) (H Pl T F:List Int):Prop where
 lH:H.length=M
 lP:Pl.length=M
 lT:T.length=M
 lF:F.length=n
 hT:∀i,i<k->T[i]? =some (to es i:Int)
 hP:∀i,i<k->Pl[i]? =some (pos es M i:Int)
 hH:∀i,i<k->H[pos es M i]? =some (i:Int)
 hF:∀v,v<n->F[v]? =some ((st es M v+(out es v k).length:Nat):Int)
theorem pU.at {es:List (Int×Int)} {n M k:Nat} {H Pl T F:List Int} (h:pU es n M k H Pl T F) (hk:fr es k<n):F[fr es k]? =some (pos es M k:Int):=h.hF _ hk
theorem pU.step {es:List (Int×Int)} {n M k:Nat} {H Pl T F:List Int} (h:pU es n M k H Pl T F) (hn:∀i,i<M->fr es i<n) (hk:k<M):
 pU es n M (k+1) (H.set (pos es M k) k) (Pl.set k (pos es M k)) (T.set k (to es k)) (F.set (fr es k) ((pos es M k:Int)+1)):=by
 have hp:=PU hn hk;refine⟨by simp[h.lH],by simp[h.lP],by simp[h.lT],by simp[h.lF],fun i hi=> ?_,fun i hi=> ?_,fun i hi=> ?_,fun v hv=> ?_⟩
 .rw[ab0]
  by_cases e:k=i
  .subst e;rw[if_pos rfl,if_pos (by rw[h.lT];exact hk)]
  .rw[if_neg e];exact h.hT i (by omega)
 .rw[ab0]
  by_cases e:k=i
  .subst e;rw[if_pos rfl,if_pos (by rw[h.lP];exact hk)]
  .rw[if_neg e];exact h.hP i (by omega)
 .rw[ab0]
  by_cases e:k=i
  .subst e;rw[if_pos rfl,if_pos (by rw[h.lH];exact hp)]
  .rw[if_neg (fun e2=>YB (es:=es) (M:=M) (i:=i) (j:=k) (by omega) hk e2.symm)];exact h.hH i (by omega)
 .rw[ab0,iJ]
  by_cases e:fr es k=v
  .subst e
   rw[if_pos rfl,if_pos (by rw[h.lF];exact hv),if_pos rfl];unfold pos
   congr 1
  .rw[if_neg e,if_neg e];exact h.hF v hv
def wA (n:Nat) (es:List (Int×Int)) (v:Int):List Nat:=if 0<=v/\v<n then out es v.toNat (2*es.length) else []
theorem kL {n:Nat} {es:List (Int×Int)} {v:Nat} (h:v<n):wA n es v=out es v (2*es.length):=by
 unfold wA;rw[if_pos ⟨by omega,by omega⟩];simp
theorem Ke {n:Nat} {es:List (Int×Int)} {v:Int} (h:¬(0<=v/\v<n)):wA n es v=[]:=by
 unfold wA;rw[if_neg h]
theorem Ia {n:Nat} {es:List (Int×Int)} {v:Int}:(wA n es v).length<=2*es.length:=by
 unfold wA
 split
 .exact AL _
 .simp
theorem bI {n:Nat} {es:List (Int×Int)} (hv:Si.Val n es) {i:Nat} (hi:i<2*es.length):fr es i<n/\to es i<n:=by
 obtain⟨p,hp⟩:∃p,es[i/2]? =some p:=⟨_,aac (by omega)⟩;have ho:=hv.each _ p hp;unfold Si.ok at ho;unfold fr to;rw[aag,hp];dsimp only[Option.getD_some]
 split<;>omega
theorem eP {es:List (Int×Int)} {k:Nat} {p:Int×Int} (hp:es[k]? =some p):fr es (2*k)=p.1.toNat/\to es (2*k)=p.2.toNat:=by
 unfold fr to;have e:2*k/2=k:=by omega
 have e2:2*k%2=0:=by omega
 rw[e,e2,aag,hp];exact⟨rfl,rfl⟩
theorem pN {es:List (Int×Int)} {k:Nat} {p:Int×Int} (hp:es[k]? =some p):fr es (2*k+1)=p.2.toNat/\to es (2*k+1)=p.1.toNat:=by
 unfold fr to;have e:(2*k+1)/2=k:=by omega
 have e2:(2*k+1)%2=1:=by omega
 rw[e,e2,aag,hp];exact⟨rfl,rfl⟩
def twin (i:Nat):Nat:=if i%2=0 then i+1 else i-1
theorem iW {i m:Nat} (h:i<2*m):twin i<2*m:=by
 unfold twin
 split<;>omega
theorem xS (es:List (Int×Int)) (i:Nat):to es (twin i)=fr es i:=by
 unfold to fr twin;by_cases h:i%2=0
 .have e:(i+1)/2=i/2:=by omega
  have e2:¬((i+1)%2=0):=by omega
  rw[if_pos h,if_pos h,e,if_neg e2]
 .have e:(i-1)/2=i/2:=by omega
  have e2:(i-1)%2=0:=by omega
  rw[if_neg h,if_neg h,e,if_pos e2]
theorem iB (es:List (Int×Int)) (i:Nat):fr es (twin i)=to es i:=by
 unfold to fr twin;by_cases h:i%2=0
 .have e:(i+1)/2=i/2:=by omega
  have e2:¬((i+1)%2=0):=by omega
  rw[if_pos h,if_pos h,e,if_neg e2]
 .have e:(i-1)/2=i/2:=by omega
  have e2:(i-1)%2=0:=by omega
  rw[if_neg h,if_neg h,e,if_pos e2]
theorem FI {n:Int} {es:List (Int×Int)} (hv:Si.Val n es) {i j:Nat} (hij:i<j) (hj:j<2*es.length) (hf:fr es i=fr es j):to es i<to es j:=by
 obtain⟨p,hp⟩:∃p,es[i/2]? =some p:=⟨_,aac (by omega)⟩;obtain⟨q,hq⟩:∃q,es[j/2]? =some q:=⟨_,aac (by omega)⟩;have hop:=hv.each _ p hp;have hoq:=hv.each _ q hq;unfold Si.ok at hop hoq;have hl:i/2=j/2\/Si.lt p q:=by
  by_cases h:i/2=j/2
  .exact .inl h
  .exact .inr (hv.mono (j/2) (i/2) p q (by omega) hp hq)
 have hpq:i/2=j/2->p=q:=fun h=>by
  rw[h,hq] at hp;cases hp;rfl
 have gp:es.getD (i/2) (0,0)=p:=by rw[aag,hp];rfl
 have gq:es.getD (j/2) (0,0)=q:=by rw[aag,hq];rfl
 unfold fr at hf;unfold to;rw[gp,gq] at hf;rw[gp,gq];rcases hl with hl|hl
 .have:=hpq hl
  subst this;have h1:i%2=0:=by omega
  have h2:¬(j%2=0):=by omega
  rw[if_pos h1,if_neg h2] at hf;omega
 .unfold Si.lt at hl
  by_cases h1:i%2=0<;>by_cases h2:j%2=0
  .rw[if_pos h1,if_pos h2] at hf ⊢
   omega
  .rw[if_pos h1,if_neg h2] at hf ⊢
   omega
  .rw[if_neg h1,if_pos h2] at hf ⊢
   omega
  .rw[if_neg h1,if_neg h2] at hf ⊢
   omega
end Cs
end
end Go.Proofs.YtbhdibflpjhpaaaGreat
