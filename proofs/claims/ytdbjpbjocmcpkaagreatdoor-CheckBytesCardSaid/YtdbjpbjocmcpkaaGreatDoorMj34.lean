import Derived.Test.YtdbjpbjocmcpkaaGreatDoorMj08
import Derived.Test.YtdbjpbjocmcpkaaGreatDoorMj33
import Derived.Maps.RangeWalk
import Derived.Maps.OwnOps
set_option maxHeartbeats 4000000
set_option maxRecDepth 100000
namespace Go.Proofs.YtdbjpbjocmcpkaaGreatDoor
section
namespace Fa
open Pl Co
def bY (f:Nat->Int):Nat->Int
 |0=>0
 |n+1=>bY f n+f n
theorem eG {f g:Nat->Int}:∀n,(∀i,i<n->f i=g i)->bY f n=bY g n
 |0,_=>rfl
 |n+1,h=>by
  show bY f n+f n=bY g n+g n;rw[eG n (fun i hi=>h i (by omega)),h n (by omega)]
theorem mI (f g:Nat->Int):∀n,bY (fun i=>f i+g i) n=bY f n+bY g n
 |0=>rfl
 |n+1=>by
  show bY (fun i=>f i+g i) n+(f n+g n)=bY f n+f n+(bY g n+g n);rw[mI f g n];omega
theorem mH (c:Int) (f:Nat->Int):∀n,bY (fun i=>c*f i) n=c*bY f n
 |0=>by simp[bY]
 |n+1=>by
  show bY (fun i=>c*f i) n+c*f n=c*(bY f n+f n);rw[mH c f n,Int.mul_add]
theorem mV {f:Nat->Int}:∀n,(∀i,i<n->f i=0)->bY f n=0
 |0,_=>rfl
 |n+1,h=>by
  show bY f n+f n=0;rw[mV n (fun i hi=>h i (by omega)),h n (by omega)];rfl
theorem Gj {c:Int} {x:Nat}:∀n,x<n->bY (fun i=>if i=x then c else 0) n=c
 |0,h=>by omega
 |n+1,h=>by
  show bY (fun i=>if i=x then c else 0) n+(if n=x then c else 0)=c;by_cases e:n=x
  .rw[if_pos e,mV n (fun i hi=>by rw[if_neg (by omega)])]
   omega
  .rw[if_neg e,Gj n (by omega)]
   omega
theorem zm (p:Nat->Bool):∀n,bY (fun i=>if p i=true then 1 else 0) n=(aC p n:Int)
 |0=>rfl
 |n+1=>by
  show bY (fun i=>if p i=true then 1 else 0) n+(if p n=true then 1 else 0)=((aC p n+if p n=true then 1 else 0:Nat):Int);rw[zm p n]
  split<;>simp
theorem wH:∀n,aC (fun _=>true) n=n
 |0=>rfl
 |n+1=>by
  show aC (fun _=>true) n+1=n+1;rw[wH n]
theorem tQ {N:Nat} {m:Nat->Nat} (hm:Norm N m) {p:Nat->Bool} {g:Nat->Nat}:∀K,(∀x,x<K->p x=true->g x<N)->bY (fun r=>if fix m r=true then (aC (fun x=>p x&&decide (m (g x)=r)) K:Int) else 0) N=(aC p K:Int)
 |0,_=>mV N fun i _=>by split<;>rfl
 |K+1,h=>by
  have ih:=tQ hm (p:=p) (g:=g) K (fun x hx=>h x (by omega));have e:∀r,(if fix m r=true then ((aC (fun x=>p x&&decide (m (g x)=r)) (K+1):Nat):Int) else 0)=(if fix m r=true then ((aC (fun x=>p x&&decide (m (g x)=r)) K:Nat):Int) else 0)+(if r=m (g K) then (if p K=true/\fix m (m (g K))=true then 1 else 0) else 0):=fun r=>by
   have e0:aC (fun x=>p x&&decide (m (g x)=r)) (K+1)=aC (fun x=>p x&&decide (m (g x)=r)) K+if (p K&&decide (m (g K)=r))=true then 1 else 0:=rfl
   rw[e0];by_cases h1:r=m (g K)
   .subst h1
    by_cases h2:p K=true<;>by_cases h3:fix m (m (g K))=true<;>simp[h2,h3]
   .have:¬m (g K)=r:=fun e=>h1 e.symm
    by_cases h3:fix m r=true<;>simp[h1,h3,this]
  rw[eG N (fun r _=>e r),mI,ih];have e3:aC p (K+1)=aC p K+if p K=true then 1 else 0:=rfl
  rw[e3];by_cases h2:p K=true
  .have hg:=h K (by omega) h2
   have hf:fix m (m (g K))=true:=by
    unfold fix;rw[hm.idem _ hg];simp
   rw[Gj N (hm.lt hg)];simp[h2,hf]
  .rw[mV N (fun i _=>by simp[h2])]
   simp[h2]
theorem Gk {m:Nat->Nat} (F:Nat->Int):∀N,bY (fun r=>if fix m r=true then F (aC (fix m) r) else 0) N=bY F (aC (fix m) N)
 |0=>rfl
 |N+1=>by
  show bY (fun r=>if fix m r=true then F (aC (fix m) r) else 0) N+(if fix m N=true then F (aC (fix m) N) else 0)=bY F (aC (fix m) N+if fix m N=true then 1 else 0);rw[Gk F N];by_cases h:fix m N=true
  .rw[if_pos h,if_pos h]
   rfl
  .rw[if_neg h,if_neg h]
   simp
theorem zV {m:Nat->Nat} {a b:Nat} (h:a<b) (ha:fix m a=true):aC (fix m) a<aC (fix m) b:=by
 induction b with
 |zero=>omega
 |succ b ih=>
  have e:aC (fix m) (b+1)=aC (fix m) b+if fix m b=true then 1 else 0:=rfl
  rw[e];by_cases hab:a=b
  .subst hab
   rw[if_pos ha];omega
  .have:=ih (by omega)
   omega
theorem num_eq {N:Nat} {m:Nat->Nat} (hm:Norm N m) {v r:Nat} (hv:v<N) (hr:fix m r=true):num m v=aC (fix m) r↔m v=r:=by
 constructor
 .intro e
  unfold num at e;have hf:fix m (m v)=true:=by
   unfold fix;rw[hm.idem v hv];simp
  rcases ab8 (m v) r with h|h|h
  .have:=zV h hf
   omega
  .exact h
  .have:=zV h hr
   omega
 .intro e
  unfold num;rw[e]
theorem B8 {N:Nat} {m:Nat->Nat} (hm:Norm N m) {v:Nat} (hv:v<N):num m v<aC (fix m) N:=by
 unfold num;refine zV (hm.lt hv) ?_;unfold fix;rw[hm.idem v hv];simp
def gen (a b c:Nat):Int:=if b=0 then 0 else ((2:Int)-a+b-c).tdiv 2
def cV (N:Nat) (es:List (Int×Int)) (j:Nat) (k:Nat):Nat:=aC (fun v=>decide (num (cp N es) v=j)) k
def cE (N:Nat) (es:List (Int×Int)) (j:Nat) (k:Nat):Nat:=aC (fun e=>decide (num (cp N es) (Cs.fr es (2*e))=j)) k
def cF (N:Nat) (es:List (Int×Int)) (m:Nat->Nat) (j:Nat) (k:Nat):Nat:=aC (fun x=>decide (m x=x)&&decide (num (cp N es) (Cs.fr es x)=j)) k
section
variable {N:Nat} {es:List (Int×Int)} {ls:List (List Int)} {m:Nat->Nat}
theorem O3 (h:Ro.jV N es ls) (hm:iN (2*es.length) (ph es ls) m):∃g:Nat,bY (fun j=>gen (cV N es j N) (cE N es j es.length) (cF N es m j (2*es.length))) (cnt N (cp N es))=(g:Int)/\cnt (2*es.length) m+mo N es+N+2*g=2*cnt N (cp N es)+es.length/\g+N<=es.length+cnt N (cp N es):=by
 have hv:=kQ h;have hn:=(Cg (N:=N) (es:=es)).norm;obtain⟨g,hg,hg2⟩:=acs h hm;refine⟨g,?_,hg,hg2⟩;have hc:∀r,r<N->fix (cp N es) r=true->cV N es (aC (fix (cp N es)) r) N=nV N es r/\cE N es (aC (fix (cp N es)) r) es.length=nE N es r/\cF N es m (aC (fix (cp N es)) r) (2*es.length)=nF N es m r:=fun r hr hf=>by
  refine⟨bA _ fun v Dt=> ?_,bA _ fun e he=> ?_,bA _ fun x hx=> ?_⟩
  .rw[ace,decide_eq_true_iff,decide_eq_true_iff]
   exact num_eq hn Dt hf
  .rw[ace,decide_eq_true_iff,decide_eq_true_iff]
   exact num_eq hn (nD hv (by omega)) hf
  .have:=num_eq hn (nD hv hx) hf
   simp only[this]
 rw[<-ME,<-Gk]
 have two:2*bY (fun r=>if fix (cp N es) r=true then gen (cV N es (aC (fix (cp N es)) r) N) (cE N es (aC (fix (cp N es)) r) es.length) (cF N es m (aC (fix (cp N es)) r) (2*es.length)) else 0) N
  =bY (fun r=>((((2*(if fix (cp N es) r=true then (1:Int) else 0))+(-1)*(if fix (cp N es) r=true then (nV N es r:Int) else 0))+(if fix (cp N es) r=true then (nE N es r:Int) else 0))+(-1)*(if fix (cp N es) r=true then (nF N es m r:Int) else 0))+(-1)*(if (!met es r)=true then (1:Int) else 0)) N:=by
  rw[<-mH];refine eG N fun r hr=> ?_
  by_cases hf:fix (cp N es) r=true
  .obtain⟨c1,c2,c3⟩:=hc r hr hf
   have qH:cp N es r=r:=by unfold fix at hf;exact of_decide_eq_true hf
   have ha:=MD h (m:=m) hr qH;simp only[if_pos hf,c1,c2,c3];unfold gen;by_cases he:nE N es r=0
   .have hme:=ha.1.1 he
    obtain⟨k1,k2⟩:=ha.2 he;rw[if_pos he,he,k1,k2,hme];simp
   .have hme:met es r=true:=by
     cases hmr:met es r with
     |true=>rfl
     |false=>exact absurd (ha.1.2 hmr) he
    have hev:=Pk h hm he;rw[if_neg he,hme];have e2:((2:Int)-(nV N es r:Int)+(nE N es r:Int)-(nF N es m r:Int))%2=0:=by omega
    have e3:=Int.mul_tdiv_cancel' (Int.dvd_of_emod_eq_zero e2);rw[e3];simp;omega
  .have hme:met es r=true:=by
    cases hmr:met es r with
    |true=>rfl
    |false=>
     exfalso;apply hf;unfold fix;rw[decide_eq_true_iff];exact(alone hmr hr).2 rfl
   simp[hf,hme]
 rw[mI,mI,mI,mI,mH,mH,mH,mH,zm,zm] at two;have s1:bY (fun r=>if fix (cp N es) r=true then (nV N es r:Int) else 0) N=(N:Int):=by
  have:=tQ hn (p:=fun _=>true) (g:=fun v=>v) N (fun x hx _=>hx);have e:=wH N;rw[e] at this;rw[<-this];refine eG N fun r _=> ?_
  unfold nV;simp only[Bool.true_and]
 have s2:bY (fun r=>if fix (cp N es) r=true then (nE N es r:Int) else 0) N=(es.length:Int):=by
  have:=tQ hn (p:=fun _=>true) (g:=fun e=>Cs.fr es (2*e)) es.length (fun x hx _=>nD hv (by omega));have e:=wH es.length;rw[e] at this;rw[<-this];refine eG N fun r _=> ?_
  unfold nE;simp only[Bool.true_and]
 have s3:bY (fun r=>if fix (cp N es) r=true then (nF N es m r:Int) else 0) N=(cnt (2*es.length) m:Int):=by
  have:=tQ hn (p:=fun x=>decide (m x=x)) (g:=fun x=>Cs.fr es x) (2*es.length) (fun x hx _=>nD hv hx);exact this
 rw[s1,s2,s3] at two;have e1:aC (fun v=> !met es v) N=mo N es:=rfl;have e2:=ME N (cp N es);rw[e1,e2] at two;omega
end
end Fa
end
section
namespace Fa
open Pl Co
def Qg (f:Nat->Nat) (h:Nat):Nat->Nat->List Nat
 |0,_=>[]
 |k+1,c=>if c=h then [] else c::Qg f h k (f c)
def gZ (f:Nat->Nat) (n h:Nat):List Nat:=h::Qg f h n (f h)
def aR (f:Nat->Nat) (n:Nat):Nat->List (List Nat)
 |0=>[]
 |k+1=>if (aR f n k).flatten.contains k then aR f n k else aR f n k++[gZ f n k]
def zl (l:List Nat):List Int:=l.map fun x:Nat=>(x:Int)
def uq (f:Nat->Nat) (n:Nat):List (List Int):=(aR f n n).map zl
theorem l7 (l:List Nat):(zl l).length=l.length:=by simp[zl]
theorem aaD {l:List Nat} {i x:Nat} (h:l[i]? =some x):(zl l)[i]? =some (x:Int):=by unfold zl;rw[abj,h];rfl
def way (f:Nat->Nat) (h p:Nat):List Nat:=(List.range p).map fun i=>it f i h
theorem jG (f:Nat->Nat) (h p:Nat):(way f h p).length=p:=by simp[way]
theorem zh (f:Nat->Nat) (h p:Nat):way f h (p+1)=way f h p++[it f p h]:=by
 unfold way;rw[acL,abt];rfl
structure wL (f:Nat->Nat) (n h p:Nat):Prop where
 pos:0<p
 le:p<=n
 back:it f p h=h
 first:∀i,0<i->i<p->it f i h≠h
section
variable {n:Nat} {f m:Nat->Nat}
theorem xP (hp:kO n f) {h:Nat} (hh:h<n):∃p,wL f n h p:=by
 obtain⟨k,hk,e⟩:=Ds hp.lt hp.inj hh;obtain⟨p,⟨h1,h2⟩,-,hmin⟩:=zL (P:=fun k=>0<k/\it f k h=h) ⟨hk,e⟩;refine⟨p,h1,?_,h2,fun i h3 h4 h5=>hmin i h4 ⟨h3,h5⟩⟩;have hn:(way f h p).Nodup:=by
  unfold List.Nodup way;rw[ac5];refine adq ?_ List.pairwise_lt_range;intro i j hi hj hij e;rw[abq] at hi hj;refine hmin (j-i) (by omega) ⟨by omega,?_⟩;have e2:it f j h=it f i (it f (j-i) h):=by rw[<-eP];congr 1;omega
  rw[e2] at e;exact(Ca hp.lt hp.inj i hh (nr hp.lt _ hh) e).symm
 have:=GK hn (n:=n) (fun y hy=>by
  unfold way at hy;obtain⟨i,_,rfl⟩:=abO.1 hy;exact nr hp.lt i hh)
 rwa[jG] at this
theorem KJ {h p:Nat} (hl:wL f n h p):∀(fu k:Nat),0<k->k<=p->p-k<=fu->Qg f h fu (it f k h)=((List.range (p-k)).map fun i=>it f (k+i) h)
 |0,k,_,h2,h3=>by
  have:p-k=0:=by omega
  rw[this];rfl
 |fu+1,k,h1,h2,h3=>by
  unfold Qg;by_cases e:k=p
  .subst e
   rw[if_pos hl.back];simp
  .rw[if_neg (hl.first k h1 (by omega)),<-lg f k h,KJ hl fu (k+1) (by omega) (by omega) (by omega)]
   have e2:p-k=(p-(k+1))+1:=by omega
   rw[e2,List.range_succ_eq_map,acB,ac6]
   congr 1
   refine abS fun i _=> ?_
   show it f (k+1+i) h=it f (k+(i+1)) h
   congr 1
   omega
theorem pU {h p:Nat} (hl:wL f n h p):gZ f n h=way f h p:=by
 unfold gZ way;have:=KJ hl n 1 (by omega) hl.pos (by have:=hl.le;omega);have e1:it f 1 h=f h:=rfl;rw[e1] at this;rw[this];have e2:p=(p-1)+1:=by have:=hl.pos;omega
 conv=>rhs;rw[e2,List.range_succ_eq_map,acB,ac6]
 congr 1
 refine abS fun i _=> ?_
 show it f (1+i) h=it f (i+1) h
 congr 1
 omega
theorem wL.mod {h p:Nat} (hl:wL f n h p) (k:Nat):it f k h=it f (k%p) h:=by
 have rep:∀t,it f (t*p) h=h:=fun t=>by
  induction t with
  |zero=>rw[Nat.zero_mul];rfl
  |succ t ih=>rw[adF,eP,hl.back,ih]
 have:=Nat.mod_add_div k p
 conv=>lhs;rw[<-this,eP,Nat.mul_comm,rep]
theorem KV {h p x:Nat} (hl:wL f n h p):x∈way f h p↔∃k,it f k h=x:=by
 unfold way;rw[abO];constructor
 .rintro⟨i,_,e⟩
  exact⟨i,e⟩
 .rintro⟨k,e⟩
  refine⟨k%p,abq.2 (acJ _ hl.pos),?_⟩;rw[<-hl.mod k];exact e
theorem ud (hp:kO n f) (ho:iN n f m) {h x:Nat} (hh:h<n):x∈gZ f n h↔x<n/\m x=m h:=by
 obtain⟨p,hl⟩:=xP hp hh;rw[pU hl,KV hl];constructor
 .rintro⟨k,rfl⟩
  have:=nr hp.lt k hh;exact⟨this,((ho.iff h _ hh this).2 ⟨k,rfl⟩).symm⟩
 .rintro⟨h1,h2⟩
  exact(ho.iff h x hh h1).1 h2.symm
theorem qy (hp:kO n f) (ho:iN n f m) {x:Nat}:∀k,k<=n->(x∈(aR f n k).flatten↔x<n/\m x<k)
 |0,_=>by simp[aR]
 |k+1,hk=>by
  have ih:=fun y=>qy hp ho (x:=y) k (by omega)
  have hkn:k<n:=by omega
  have hle:=ho.norm.le k hkn;unfold aR;by_cases e:m k=k
  .rw[if_neg (by rw[ab9,ih k];omega),List.flatten_append,abo,ih x]
   simp only[List.flatten_cons,List.flatten_nil,abP];rw[ud hp ho hkn,e];omega
  .rw[if_pos (by rw[ab9,ih k];omega),ih x]
   constructor
   .rintro⟨h1,h2⟩
    exact⟨h1,by omega⟩
   .rintro⟨h1,h2⟩
    refine⟨h1,?_⟩;have:m x≠k:=fun hc=>by
     have:=ho.norm.idem x h1;rw[hc] at this;exact e this
    omega
theorem qP (hp:kO n f) (ho:iN n f m) {k:Nat} (hk:k<n) (e:m k=k):aR f n (k+1)=aR f n k++[gZ f n k]:=by
 conv=>lhs;unfold aR
 rw[if_neg (by rw[ab9,qy hp ho k (by omega)];omega)]
theorem sP (hp:kO n f) (ho:iN n f m) {k:Nat} (hk:k<n) (e:m k≠k):aR f n (k+1)=aR f n k:=by
 have:=ho.norm.le k hk
 conv=>lhs;unfold aR
 rw[if_pos (by rw[ab9,qy hp ho k (by omega)];omega)]
theorem oA (hp:kO n f) (ho:iN n f m):∀k,k<=n->aR f n k=((List.range k).filter (fix m)).map (gZ f n)
 |0,_=>rfl
 |k+1,hk=>by
  have ih:=oA hp ho k (by omega);rw[acL,adp,abt,<-ih];by_cases e:m k=k
  .rw[qP hp ho (by omega) e]
   have:fix m k=true:=by unfold fix;simpa using e
   simp[this]
  .rw[sP hp ho (by omega) e]
   have:fix m k=false:=by unfold fix;simpa using e
   simp[this]
theorem mz (hp:kO n f) (ho:iN n f m) {k:Nat} (hk:k<=n):(aR f n k).length=aC (fix m) k:=by
 rw[oA hp ho k hk,aa3,dV]
theorem Mv (hp:kO n f) (ho:iN n f m):(uq f n).length=cnt n m:=by
 unfold uq;rw[aa3,mz hp ho (aaF _)];rfl
theorem wD (p:Nat->Bool):∀{n x:Nat},x<n->p x=true->((List.range n).filter p)[aC p x]? =some x
 |0,x,h,_=>by omega
 |n+1,x,h,hx=>by
  rw[acL,adp];by_cases e:x=n
  .subst e
   rw[abk (by rw[dV];exact aaF _),dV,Nat.sub_self];simp[hx]
  .have ih:=wD p (n:=n) (x:=x) (by omega) hx
   rw[aa5 (aaH.1 ih).1];exact ih
theorem Mw (hp:kO n f) (ho:iN n f m) {j:Nat} {l:List Nat} (h:(aR f n n)[j]? =some l):∃r,r<n/\m r=r/\l=gZ f n r/\aC (fix m) r=j:=by
 rw[oA hp ho n (aaF _),abj] at h;obtain⟨r,hr,rfl⟩:=abI.1 h;obtain⟨h1,h2⟩:=acW.1 (aaJ hr);rw[abq] at h1;have h3:m r=r:=by unfold fix at h2;exact of_decide_eq_true h2
 refine⟨r,h1,h3,rfl,?_⟩;have h4:=wD (fix m) h1 h2;have hn:((List.range n).filter (fix m)).Nodup:=adM _ aeB;obtain⟨a1,a2⟩:=aaH.1 hr;obtain⟨b1,b2⟩:=aaH.1 h4;rcases ab8 (aC (fix m) r) j with c|c|c
 .exact absurd (b2.trans a2.symm) (abr.1 hn _ _ b1 a1 c)
 .exact c
 .exact absurd (a2.trans b2.symm) (abr.1 hn _ _ a1 b1 c)
end
end Fa
end
section
namespace Fa
open Pl Co
def hd (l:List Nat):Nat:=l.headD 0
def zF (N:Nat) (es:List (Int×Int)) (fs:List (List Nat)) (j k:Nat):Nat:=aC (fun i=>decide (num (cp N es) (Cs.fr es (hd (fs.getD i [])))=j)) k
theorem Bd (q:Nat->Bool) (l:List Nat):∀k,k<=l.length->aC (fun i=>q (l.getD i 0)) k=((l.take k).filter q).length
 |0,_=>by simp[aC]
 |k+1,hk=>by
  have hx:l[k]? =some l[k]:=by simp
  show aC (fun i=>q (l.getD i 0)) k+(if q (l.getD k 0)=true then 1 else 0)=_;rw[Bd q l k (by omega),acj,hx,adp,aaZ,aaL,hx];by_cases h:q l[k]=true
  .simp[h]
  .simp[h]
theorem MF (q:Nat->Bool) (l:List Nat):aC (fun i=>q (l.getD i 0)) l.length=(l.filter q).length:=by
 rw[Bd q l l.length (aaF _),abQ]
section
variable {N:Nat} {es:List (Int×Int)} {ls:List (List Int)} {m:Nat->Nat}
theorem Xy (h:Ro.jV N es ls) (hm:iN (2*es.length) (ph es ls) m) (j:Nat):zF N es (aR (ph es ls) (2*es.length) (2*es.length)) j (aR (ph es ls) (2*es.length) (2*es.length)).length=cF N es m j (2*es.length):=by
 have e:=oA (xB h) hm (2*es.length) (aaF _);have e1:=MF (fun x=>decide (num (cp N es) (Cs.fr es x)=j)) ((List.range (2*es.length)).filter (fix m));have e2:cF N es m j (2*es.length)=(((List.range (2*es.length)).filter (fix m)).filter (fun x=>decide (num (cp N es) (Cs.fr es x)=j))).length:=by
  unfold cF;rw[dV,List.filter_filter]
  congr 1
  refine List.filter_congr fun x _=> ?_
  unfold fix;exact Bool.and_comm _ _
 rw[e2,<-e1];unfold zF;rw[e,aa3];refine bA _ fun i hi=> ?_
 have e3:hd ((((List.range (2*es.length)).filter (fix m)).map (gZ (ph es ls) (2*es.length))).getD i [])=((List.range (2*es.length)).filter (fix m)).getD i 0:=by
  rw[aaL,aaL,abj,aaE hi];rfl
 rw[e3]
theorem YN {j:Nat}:0<cV N es j N↔j<cnt N (cp N es):=by
 have hn:=(Cg (N:=N) (es:=es)).norm;constructor
 .intro h
  have:∃v,v<N/\num (cp N es) v=j:=aa2 fun hc=>by
   have:cV N es j N=0:=by
    unfold cV;rw[bA (q:=fun e=>decide (e=N)) N (fun i hi=>by
     have h1:¬num (cp N es) i=j:=fun e=>hc ⟨i,hi,e⟩
     have h2:¬i=N:=by omega
     simp[h1,h2]),e7,if_neg (by omega)]
   omega
  obtain⟨v,hv,rfl⟩:=this;exact B8 hn hv
 .intro h
  have h0:j<((List.range N).filter (fix (cp N es))).length:=by rw[<-dV];exact h
  obtain⟨r,hr⟩:∃r,((List.range N).filter (fix (cp N es)))[j]? =some r:=⟨_,aaE h0⟩;obtain⟨h1,h2⟩:=acW.1 (aaJ hr);rw[abq] at h1;have h4:=wD (fix (cp N es)) h1 h2;have hnd:((List.range N).filter (fix (cp N es))).Nodup:=adM _ aeB;obtain⟨a1,a2⟩:=aaH.1 hr;obtain⟨b1,b2⟩:=aaH.1 h4;have hj:aC (fix (cp N es)) r=j:=by
   rcases ab8 (aC (fix (cp N es)) r) j with c|c|c
   .exact absurd (b2.trans a2.symm) (abr.1 hnd _ _ b1 a1 c)
   .exact c
   .exact absurd (a2.trans b2.symm) (abr.1 hnd _ _ a1 b1 c)
  unfold cV;refine wG (x:=r) N h1 ?_;rw[decide_eq_true_iff,<-hj];exact(num_eq hn h1 h2).2 (of_decide_eq_true h2)
end
end Fa
end
section
open Go.Proofs.Tryz
open Go.RowKit Go.Maps
def gu (v:Value):Option (DataW Unit×List MemPlace):=
 match v with
 | .agg cs=>
   match cs.toList with
   |[.int .i64 a,.int .i64 b,.int .i64 c]=>some (.agg [.lit (.int .i64 a),.lit (.int .i64 b),.lit (.int .i64 c)],[])
   |_=>none
 |_=>none
theorem Be (a b c:Int):gu (.agg #[.int .i64 a,.int .i64 b,.int .i64 c])=some (.agg [.lit (.int .i64 a),.lit (.int .i64 b),.lit (.int .i64 c)],[]):=rfl
theorem qQ {v:Value} {y:DataW Unit×List MemPlace} (h:gu v=some y):∃a b c:Int,v= .agg #[.int .i64 a,.int .i64 b,.int .i64 c]/\y=(.agg [.lit (.int .i64 a),.lit (.int .i64 b),.lit (.int .i64 c)],[]):=by
 unfold gu at h
 split at h
 .rename_i cs
  split at h
  .rename_i a b c e
   refine⟨a,b,c,?_,(aa9 h).symm⟩;obtain⟨l⟩:=cs;simp only at e;rw[e]
  .cases h
 .cases h
theorem Qm:Keyed prog 3:=int_keyed Tryz.underlying3
theorem TI (w:World):(zeroValue 315).run prog w= .ok (.agg #[.int .i64 0,.int .i64 0,.int .i64 0]) w:=by kernel_rfl
def cD (a b c:Nat):DataW Unit:= .agg [.lit (.int .i64 (a:Int)),.lit (.int .i64 (b:Int)),.lit (.int .i64 (c:Int))]
def kJ (j:Nat):Lit:= .int .i64 (j:Int)
theorem I8 {i j:Nat} (h:kJ i=kJ j):i=j:=by
 unfold kJ at h;injection h with _ h
 omega
structure PMD (w:World) (b n:Nat) (hs:Nat->Bool) (x y z:Nat->Nat) (D:DataW Unit):Prop where
 own:w.ownsMap prog 3 gu b n D
 at_:∀j,D.atKey (kJ j) (cD 0 0 0)=cD (x j) (y j) (z j)
 has:∀kl,Maps.has D kl=true↔∃j,kl=kJ j/\hs j=true
def PM (w:World) (b n:Nat) (hs:Nat->Bool) (x y z:Nat->Nat):Prop:=∃D,PMD w b n hs x y z D
theorem PM.kept {w w':World} {b n:Nat} {hs:Nat->Bool} {x y z:Nat->Nat} (h:PM w b n hs x y z) (hb:w'.heap[b]? =w.heap[b]?):PM w' b n hs x y z:=by
 obtain⟨D,⟨es,clock,h1,h2⟩,h3,h4⟩:=h;exact⟨D,⟨es,clock,hb.trans h1,h2⟩,h3,h4⟩
theorem PM.lt {w:World} {b n:Nat} {hs:Nat->Bool} {x y z:Nat->Nat} (h:PM w b n hs x y z):b<w.heap.size:=by
 obtain⟨D,h1,_⟩:=h;exact h1.lt
theorem Ge {j:Nat} (h:j<=4611686018427387904):(Lit.int .i64 (j:Int)).wf=true:=by
 have e1:IntKind.i64.min= -9223372036854775808:=rfl;have e2:IntKind.i64.max=9223372036854775807:=rfl;simp only[Lit.wf,abB,decide_eq_true_eq,e1,e2];omega
theorem I7 (j:Nat):WideAt.IsKeyLit (kJ j):=trivial
theorem zg {ops:Array Oper} {rest:List Oper} {o:Oper} {a:Act} {Q:Exit->Act->World->Prop} (hgd:o.guard=none) (m k v:Operand) (ho:o.op=Op.mapUpdate 311 m k v) (w W:World) (b n:Nat) (hs:Nat->Bool) (x y z:Nat->Nat) (h:PM w b n hs x y z) (hW:Below w.heap.size w W)
 (hn:n<=4611686018427387904) (j c1 c2 c3:Nat) (hj:j<=4611686018427387904) (hm:a.eval m= .map (some b)) (hk:a.eval k= .int .i64 (j:Int)) (hv:a.eval v= .agg #[.int .i64 (c1:Int),.int .i64 (c2:Int),.int .i64 (c3:Int)])
 (hK:∀w',PM w' b (n+1) (Co.fZ hs j true) (Co.upd x j c1) (Co.upd y j c2) (Co.upd z j c3)->av (fun k=>k=b) w w'->wpList prog ops Q rest (a.put o.dst undef) w'):wpList prog ops Q (o::rest) a W:=by
 have hlt:=h.lt;obtain⟨D,hD,hat,hhas⟩:=h;have hown:W.ownsMap prog 3 gu b n D:=by
  obtain⟨es,clock,h1,h2⟩:=hD;exact⟨es,clock,(hW.block b hlt).trans h1,h2⟩
 have hmap:=hown.isMap;refine wpList_mapUpdate_own W hgd m k v 311 ho 3 315 Qm Tryz.underlying311 gu b n D hm hown (by unfold maxLen;omega) _ _ (kJ j) hk hv (keyOf_int_mk Tryz.underlying3 (Ge hj)) _ [] (Be _ _ _) ?_;intro w' ho' hg';refine hK w' ⟨_,ho',fun i=> ?_,fun kl=> ?_⟩ ⟨hg'.os.trans hW.os,hg'.tape.trans hW.tape,hg'.output.trans hW.output,aa1 hW.size hg'.size,fun i hi hne=>(hg'.block i (abd hi hW.size) (fun e=>hne (aa9 e))).trans (hW.block i hi)⟩
 .by_cases e:i=j
  .subst e
   rw[atKey_put_same hmap (I7 i),Co.upd_same,Co.upd_same,Co.upd_same];rfl
  .rw[atKey_put_other (fun h=>e (I8 h)),Co.aX _ e,Co.aX _ e,Co.aX _ e]
   exact hat i
 .by_cases e:kl=kJ j
  .subst e
   rw[has_put_same hmap (I7 j)];exact⟨fun _=>⟨j,rfl,Co.fQ _ _ _⟩,fun _=>rfl⟩
  .rw[has_put_other e,hhas]
   constructor
   .rintro⟨i,rfl,hi⟩
    exact⟨i,rfl,by rw[Co.dS _ (fun h=>e (by rw[h]))];exact hi⟩
   .rintro⟨i,rfl,hi⟩
    exact⟨i,rfl,by rwa[Co.dS _ (fun h=>e (by rw[h]))] at hi⟩
theorem ED (b n:Nat) (hs:Nat->Bool) (x y z:Nat->Nat) (j a1 a2 a3:Nat) (w:World) (h:PM w b n hs x y z) (hn:n<=4611686018427387904) (hj:j<=4611686018427387904) (h1:x j+a1<=4611686018427387904) (h2:y j+a2<=4611686018427387904) (h3:z j+a3<=4611686018427387904):
 Calls prog 259 #[.map (some b),.int .i64 (j:Int),.agg #[.int .i64 (a1:Int),.int .i64 (a2:Int),.int .i64 (a3:Int)]] w fun e w'=>e= .returned (.tuple #[])/\PM w' b (n+1) (Co.fZ hs j true) (Co.upd x j (x j+a1)) (Co.upd y j (y j+a2)) (Co.upd z j (z j+a3))/\av (fun k=>k=b) w w':=by
 have hlt:=h.lt;obtain⟨D,hD,hat,hhas⟩:=h;obtain⟨w1,hw1⟩:∃w1,w1=w.alloc (.cells #[.int .i64 (a1:Int),.int .i64 (a2:Int),.int .i64 (a3:Int)] 315):=⟨_,rfl⟩;have hown1:w1.ownsMap prog 3 gu b n D:=by rw[hw1];exact hD.alloc _
 have hkey:keyOf prog 3 (.int .i64 (j:Int))=some (kJ j):=keyOf_int_mk Tryz.underlying3 (Ge hj);obtain⟨v,ps,hrun,hv⟩:=hown1.lookup (t:=311) Qm Tryz.underlying311 (TI w1) (Be 0 0 0) hkey;have e0:(DataW.agg [.lit (.int .i64 0),.lit (.int .i64 0),.lit (.int .i64 0)]:DataW Unit)=cD 0 0 0:=rfl;rw[e0,hat j] at hv;obtain⟨v1,v2,v3,rfl,cG⟩:=qQ hv;unfold cD at cG;simp only[Prod.mk.injEq,DataW.agg.injEq,acK,DataW.lit.injEq,Lit.int.injEq,true_and,and_true] at cG;obtain⟨⟨k1,k2,k3⟩,-⟩:=cG;subst k1 k2 k3;have q1:IntKind.i64.wrap ((x j:Int)+(a1:Int))=(x j:Int)+(a1:Int):=by rw[aaK];omega
 have q2:IntKind.i64.wrap ((y j:Int)+(a2:Int))=(y j:Int)+(a2:Int):=by rw[aaK];omega
 have q3:IntKind.i64.wrap ((z j:Int)+(a3:Int))=(z j:Int)+(a3:Int):=by rw[aaK];omega
 rw[hw1] at hrun;have HP:Hid (PM w b n hs x y z):=⟨D,hD,hat,hhas⟩;clear hD hat hhas hv hw1 hown1 hkey e0;go_enter func259,ntmps259;go_wp2_with (at_mapUpdate;refine zg rfl _ _ _ rfl w _ b n hs x y z HP.out (by repeat (first|exact aaG _ _|refine Below.setCell ?_ (by simp) _|refine adv ?_ (by first|(simp;done)|(simp;omega)) _)) hn j (x j+a1) (y j+a2) (z j+a3) hj rfl rfl rfl ?_;refine aaI ?_);refine ζ ?_;intro w' hp' hw';go_wp2
 go_end0
 exact⟨rfl,hp',hw'⟩
end
end Go.Proofs.YtdbjpbjocmcpkaaGreatDoor
