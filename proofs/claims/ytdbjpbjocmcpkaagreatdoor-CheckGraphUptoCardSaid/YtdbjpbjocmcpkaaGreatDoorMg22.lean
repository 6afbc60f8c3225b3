import Derived.Test.YtdbjpbjocmcpkaaGreatDoorMg21
import Derived.Laws.Append
import Derived.Test.YtdbjpbjocmcpkaaGreatDoorMg19
set_option maxHeartbeats 8000000
set_option maxRecDepth 100000
namespace Go.Proofs.YtdbjpbjocmcpkaaGreatDoor
section
namespace Fa
open Pl Co
def bP (f:Nat->Int):Nat->Int
 |0=>0
 |n+1=>bP f n+f n
theorem dP {f g:Nat->Int}:∀n,(∀i,i<n->f i=g i)->bP f n=bP g n
 |0,_=>rfl
 |n+1,h=>by
  show bP f n+f n=bP g n+g n;rw[dP n (fun i hi=>h i (by omega)),h n (by omega)]
theorem kV (f g:Nat->Int):∀n,bP (fun i=>f i+g i) n=bP f n+bP g n
 |0=>rfl
 |n+1=>by
  show bP (fun i=>f i+g i) n+(f n+g n)=bP f n+f n+(bP g n+g n);rw[kV f g n];omega
theorem kU (c:Int) (f:Nat->Int):∀n,bP (fun i=>c*f i) n=c*bP f n
 |0=>by simp[bP]
 |n+1=>by
  show bP (fun i=>c*f i) n+c*f n=c*(bP f n+f n);rw[kU c f n,Int.mul_add]
theorem lu {f:Nat->Int}:∀n,(∀i,i<n->f i=0)->bP f n=0
 |0,_=>rfl
 |n+1,h=>by
  show bP f n+f n=0;rw[lu n (fun i hi=>h i (by omega)),h n (by omega)];rfl
theorem El {c:Int} {x:Nat}:∀n,x<n->bP (fun i=>if i=x then c else 0) n=c
 |0,h=>by omega
 |n+1,h=>by
  show bP (fun i=>if i=x then c else 0) n+(if n=x then c else 0)=c;by_cases e:n=x
  .rw[if_pos e,lu n (fun i hi=>by rw[if_neg (by omega)])]
   omega
  .rw[if_neg e,El n (by omega)]
   omega
theorem xd (p:Nat->Bool):∀n,bP (fun i=>if p i=true then 1 else 0) n=(aA p n:Int)
 |0=>rfl
 |n+1=>by
  show bP (fun i=>if p i=true then 1 else 0) n+(if p n=true then 1 else 0)=((aA p n+if p n=true then 1 else 0:Nat):Int);rw[xd p n]
  split<;>simp
theorem uI:∀n,aA (fun _=>true) n=n
 |0=>rfl
 |n+1=>by
  show aA (fun _=>true) n+1=n+1;rw[uI n]
theorem rF {N:Nat} {m:Nat->Nat} (hm:Norm N m) {p:Nat->Bool} {g:Nat->Nat}:∀K,(∀x,x<K->p x=true->g x<N)->bP (fun r=>if fix m r=true then (aA (fun x=>p x&&decide (m (g x)=r)) K:Int) else 0) N=(aA p K:Int)
 |0,_=>lu N fun i _=>by split<;>rfl
 |K+1,h=>by
  have ih:=rF hm (p:=p) (g:=g) K (fun x hx=>h x (by omega));have e:∀r,(if fix m r=true then ((aA (fun x=>p x&&decide (m (g x)=r)) (K+1):Nat):Int) else 0)=(if fix m r=true then ((aA (fun x=>p x&&decide (m (g x)=r)) K:Nat):Int) else 0)+(if r=m (g K) then (if p K=true/\fix m (m (g K))=true then 1 else 0) else 0):=fun r=>by
   have e0:aA (fun x=>p x&&decide (m (g x)=r)) (K+1)=aA (fun x=>p x&&decide (m (g x)=r)) K+if (p K&&decide (m (g K)=r))=true then 1 else 0:=rfl
   rw[e0];by_cases h1:r=m (g K)
   .subst h1
    by_cases h2:p K=true<;>by_cases h3:fix m (m (g K))=true<;>simp[h2,h3]
   .have:¬m (g K)=r:=fun e=>h1 e.symm
    by_cases h3:fix m r=true<;>simp[h1,h3,this]
  rw[dP N (fun r _=>e r),kV,ih];have e3:aA p (K+1)=aA p K+if p K=true then 1 else 0:=rfl
  rw[e3];by_cases h2:p K=true
  .have hg:=h K (by omega) h2
   have hf:fix m (m (g K))=true:=by
    unfold fix;rw[hm.idem _ hg];simp
   rw[El N (hm.lt hg)];simp[h2,hf]
  .rw[lu N (fun i _=>by simp[h2])]
   simp[h2]
theorem Em {m:Nat->Nat} (F:Nat->Int):∀N,bP (fun r=>if fix m r=true then F (aA (fix m) r) else 0) N=bP F (aA (fix m) N)
 |0=>rfl
 |N+1=>by
  show bP (fun r=>if fix m r=true then F (aA (fix m) r) else 0) N+(if fix m N=true then F (aA (fix m) N) else 0)=bP F (aA (fix m) N+if fix m N=true then 1 else 0);rw[Em F N];by_cases h:fix m N=true
  .rw[if_pos h,if_pos h]
   rfl
  .rw[if_neg h,if_neg h]
   simp
theorem xN {m:Nat->Nat} {a b:Nat} (h:a<b) (ha:fix m a=true):aA (fix m) a<aA (fix m) b:=by
 induction b with
 |zero=>omega
 |succ b ih=>
  have e:aA (fix m) (b+1)=aA (fix m) b+if fix m b=true then 1 else 0:=rfl
  rw[e];by_cases hab:a=b
  .subst hab
   rw[if_pos ha];omega
  .have:=ih (by omega)
   omega
theorem num_eq {N:Nat} {m:Nat->Nat} (hm:Norm N m) {v r:Nat} (hv:v<N) (hr:fix m r=true):num m v=aA (fix m) r↔m v=r:=by
 constructor
 .intro e
  unfold num at e;have hf:fix m (m v)=true:=by
   unfold fix;rw[hm.idem v hv];simp
  rcases ab3 (m v) r with h|h|h
  .have:=xN h hf
   omega
  .exact h
  .have:=xN h hr
   omega
 .intro e
  unfold num;rw[e]
theorem Ab {N:Nat} {m:Nat->Nat} (hm:Norm N m) {v:Nat} (hv:v<N):num m v<aA (fix m) N:=by
 unfold num;refine xN (hm.lt hv) ?_;unfold fix;rw[hm.idem v hv];simp
def gen (a b c:Nat):Int:=if b=0 then 0 else ((2:Int)-a+b-c).tdiv 2
def cV (N:Nat) (es:List (Int×Int)) (j:Nat) (k:Nat):Nat:=aA (fun v=>decide (num (cp N es) v=j)) k
def cE (N:Nat) (es:List (Int×Int)) (j:Nat) (k:Nat):Nat:=aA (fun e=>decide (num (cp N es) (Cs.fr es (2*e))=j)) k
def cF (N:Nat) (es:List (Int×Int)) (m:Nat->Nat) (j:Nat) (k:Nat):Nat:=aA (fun x=>decide (m x=x)&&decide (num (cp N es) (Cs.fr es x)=j)) k
section
variable {N:Nat} {es:List (Int×Int)} {ls:List (List Int)} {m:Nat->Nat}
theorem Mp (h:Ro.jc N es ls) (hm:gH (2*es.length) (ph es ls) m):∃g:Nat,bP (fun j=>gen (cV N es j N) (cE N es j es.length) (cF N es m j (2*es.length))) (cnt N (cp N es))=(g:Int)/\cnt (2*es.length) m+kK N es+N+2*g=2*cnt N (cp N es)+es.length/\g+N<=es.length+cnt N (cp N es):=by
 have hv:=jI h;have hn:=(Ah (N:=N) (es:=es)).norm;obtain⟨g,hg,hg2⟩:=YM h hm;refine⟨g,?_,hg,hg2⟩;have hc:∀r,r<N->fix (cp N es) r=true->cV N es (aA (fix (cp N es)) r) N=nV N es r/\cE N es (aA (fix (cp N es)) r) es.length=nE N es r/\cF N es m (aA (fix (cp N es)) r) (2*es.length)=nF N es m r:=fun r hr hf=>by
  refine⟨bu _ fun v BA=> ?_,bu _ fun e he=> ?_,bu _ fun x hx=> ?_⟩
  .rw[ach,decide_eq_true_iff,decide_eq_true_iff]
   exact num_eq hn BA hf
  .rw[ach,decide_eq_true_iff,decide_eq_true_iff]
   exact num_eq hn (lU hv (by omega)) hf
  .have:=num_eq hn (lU hv hx) hf
   simp only[this]
 rw[<-Ka,<-Em]
 have two:2*bP (fun r=>if fix (cp N es) r=true then gen (cV N es (aA (fix (cp N es)) r) N) (cE N es (aA (fix (cp N es)) r) es.length) (cF N es m (aA (fix (cp N es)) r) (2*es.length)) else 0) N
  =bP (fun r=>((((2*(if fix (cp N es) r=true then (1:Int) else 0))+(-1)*(if fix (cp N es) r=true then (nV N es r:Int) else 0))+(if fix (cp N es) r=true then (nE N es r:Int) else 0))+(-1)*(if fix (cp N es) r=true then (nF N es m r:Int) else 0))+(-1)*(if (!met es r)=true then (1:Int) else 0)) N:=by
  rw[<-kU];refine dP N fun r hr=> ?_
  by_cases hf:fix (cp N es) r=true
  .obtain⟨c1,c2,c3⟩:=hc r hr hf
   have oM:cp N es r=r:=by unfold fix at hf;exact of_decide_eq_true hf
   have ha:=J9 h (m:=m) hr oM;simp only[if_pos hf,c1,c2,c3];unfold gen;by_cases he:nE N es r=0
   .have hme:=ha.1.1 he
    obtain⟨k1,k2⟩:=ha.2 he;rw[if_pos he,he,k1,k2,hme];simp
   .have hme:met es r=true:=by
     cases hmr:met es r with
     |true=>rfl
     |false=>exact absurd (ha.1.2 hmr) he
    have hev:=MD h hm he;rw[if_neg he,hme];have e2:((2:Int)-(nV N es r:Int)+(nE N es r:Int)-(nF N es m r:Int))%2=0:=by omega
    have e3:=Int.mul_tdiv_cancel' (Int.dvd_of_emod_eq_zero e2);rw[e3];simp;omega
  .have hme:met es r=true:=by
    cases hmr:met es r with
    |true=>rfl
    |false=>
     exfalso;apply hf;unfold fix;rw[decide_eq_true_iff];exact(alone hmr hr).2 rfl
   simp[hf,hme]
 rw[kV,kV,kV,kV,kU,kU,kU,kU,xd,xd] at two;have s1:bP (fun r=>if fix (cp N es) r=true then (nV N es r:Int) else 0) N=(N:Int):=by
  have:=rF hn (p:=fun _=>true) (g:=fun v=>v) N (fun x hx _=>hx);have e:=uI N;rw[e] at this;rw[<-this];refine dP N fun r _=> ?_
  unfold nV;simp only[Bool.true_and]
 have s2:bP (fun r=>if fix (cp N es) r=true then (nE N es r:Int) else 0) N=(es.length:Int):=by
  have:=rF hn (p:=fun _=>true) (g:=fun e=>Cs.fr es (2*e)) es.length (fun x hx _=>lU hv (by omega));have e:=uI es.length;rw[e] at this;rw[<-this];refine dP N fun r _=> ?_
  unfold nE;simp only[Bool.true_and]
 have s3:bP (fun r=>if fix (cp N es) r=true then (nF N es m r:Int) else 0) N=(cnt (2*es.length) m:Int):=by
  have:=rF hn (p:=fun x=>decide (m x=x)) (g:=fun x=>Cs.fr es x) (2*es.length) (fun x hx _=>lU hv hx);exact this
 rw[s1,s2,s3] at two;have e1:aA (fun v=> !met es v) N=kK N es:=rfl;have e2:=Ka N (cp N es);rw[e1,e2] at two;omega
end
end Fa
end
section
namespace Fa
open Pl Co
def Nt (f:Nat->Nat) (h:Nat):Nat->Nat->List Nat
 |0,_=>[]
 |k+1,c=>if c=h then [] else c::Nt f h k (f c)
def fS (f:Nat->Nat) (n h:Nat):List Nat:=h::Nt f h n (f h)
def aR (f:Nat->Nat) (n:Nat):Nat->List (List Nat)
 |0=>[]
 |k+1=>if (aR f n k).flatten.contains k then aR f n k else aR f n k++[fS f n k]
def zl (l:List Nat):List Int:=l.map fun x:Nat=>(x:Int)
def rW (f:Nat->Nat) (n:Nat):List (List Int):=(aR f n n).map zl
theorem kD (l:List Nat):(zl l).length=l.length:=by simp[zl]
theorem W7 {l:List Nat} {i x:Nat} (h:l[i]? =some x):(zl l)[i]? =some (x:Int):=by unfold zl;rw[aaP,h];rfl
def way (f:Nat->Nat) (h p:Nat):List Nat:=(List.range p).map fun i=>it f i h
theorem iJ (f:Nat->Nat) (h p:Nat):(way f h p).length=p:=by simp[way]
theorem wX (f:Nat->Nat) (h p:Nat):way f h (p+1)=way f h p++[it f p h]:=by
 unfold way;rw[acK,abj];rfl
structure uQ (f:Nat->Nat) (n h p:Nat):Prop where
 pos:0<p
 le:p<=n
 back:it f p h=h
 first:∀i,0<i->i<p->it f i h≠h
section
variable {n:Nat} {f m:Nat->Nat}
theorem vO (hp:jG n f) {h:Nat} (hh:h<n):∃p,uQ f n h p:=by
 obtain⟨k,hk,e⟩:=Bz hp.lt hp.inj hh;obtain⟨p,⟨h1,h2⟩,-,hmin⟩:=xD (P:=fun k=>0<k/\it f k h=h) ⟨hk,e⟩;refine⟨p,h1,?_,h2,fun i h3 h4 h5=>hmin i h4 ⟨h3,h5⟩⟩;have hn:(way f h p).Nodup:=by
  unfold List.Nodup way;rw[adp];refine adR ?_ List.pairwise_lt_range;intro i j hi hj hij e;rw[aaJ] at hi hj;refine hmin (j-i) (by omega) ⟨by omega,?_⟩;have e2:it f j h=it f i (it f (j-i) h):=by rw[<-dU];congr 1;omega
  rw[e2] at e;exact(Ad hp.lt hp.inj i hh (lJ hp.lt _ hh) e).symm
 have:=EF hn (n:=n) (fun y hy=>by
  unfold way at hy;obtain⟨i,_,rfl⟩:=abP.1 hy;exact lJ hp.lt i hh)
 rwa[iJ] at this
theorem Ix {h p:Nat} (hl:uQ f n h p):∀(fu k:Nat),0<k->k<=p->p-k<=fu->Nt f h fu (it f k h)=((List.range (p-k)).map fun i=>it f (k+i) h)
 |0,k,_,h2,h3=>by
  have:p-k=0:=by omega
  rw[this];rfl
 |fu+1,k,h1,h2,h3=>by
  unfold Nt;by_cases e:k=p
  .subst e
   rw[if_pos hl.back];simp
  .rw[if_neg (hl.first k h1 (by omega)),<-jW f k h,Ix hl fu (k+1) (by omega) (by omega) (by omega)]
   have e2:p-k=(p-(k+1))+1:=by omega
   rw[e2,List.range_succ_eq_map,ab7,adq]
   congr 1
   refine abT fun i _=> ?_
   show it f (k+1+i) h=it f (k+(i+1)) h
   congr 1
   omega
theorem nU {h p:Nat} (hl:uQ f n h p):fS f n h=way f h p:=by
 unfold fS way;have:=Ix hl n 1 (by omega) hl.pos (by have:=hl.le;omega);have e1:it f 1 h=f h:=rfl;rw[e1] at this;rw[this];have e2:p=(p-1)+1:=by have:=hl.pos;omega
 conv=>rhs;rw[e2,List.range_succ_eq_map,ab7,adq]
 congr 1
 refine abT fun i _=> ?_
 show it f (1+i) h=it f (i+1) h
 congr 1
 omega
theorem uQ.mod {h p:Nat} (hl:uQ f n h p) (k:Nat):it f k h=it f (k%p) h:=by
 have rep:∀t,it f (t*p) h=h:=fun t=>by
  induction t with
  |zero=>rw[Nat.zero_mul];rfl
  |succ t ih=>rw[aed,dU,hl.back,ih]
 have:=Nat.mod_add_div k p
 conv=>lhs;rw[<-this,dU,Nat.mul_comm,rep]
theorem IJ {h p x:Nat} (hl:uQ f n h p):x∈way f h p↔∃k,it f k h=x:=by
 unfold way;rw[abP];constructor
 .rintro⟨i,_,e⟩
  exact⟨i,e⟩
 .rintro⟨k,e⟩
  refine⟨k%p,aaJ.2 (acV _ hl.pos),?_⟩;rw[<-hl.mod k];exact e
theorem rQ (hp:jG n f) (ho:gH n f m) {h x:Nat} (hh:h<n):x∈fS f n h↔x<n/\m x=m h:=by
 obtain⟨p,hl⟩:=vO hp hh;rw[nU hl,IJ hl];constructor
 .rintro⟨k,rfl⟩
  have:=lJ hp.lt k hh;exact⟨this,((ho.iff h _ hh this).2 ⟨k,rfl⟩).symm⟩
 .rintro⟨h1,h2⟩
  exact(ho.iff h x hh h1).1 h2.symm
theorem oC (hp:jG n f) (ho:gH n f m) {x:Nat}:∀k,k<=n->(x∈(aR f n k).flatten↔x<n/\m x<k)
 |0,_=>by simp[aR]
 |k+1,hk=>by
  have ih:=fun y=>oC hp ho (x:=y) k (by omega)
  have hkn:k<n:=by omega
  have hle:=ho.norm.le k hkn;unfold aR;by_cases e:m k=k
  .rw[if_neg (by rw[ab8,ih k];omega),List.flatten_append,abG,ih x]
   simp only[List.flatten_cons,List.flatten_nil,abQ];rw[rQ hp ho hkn,e];omega
  .rw[if_pos (by rw[ab8,ih k];omega),ih x]
   constructor
   .rintro⟨h1,h2⟩
    exact⟨h1,by omega⟩
   .rintro⟨h1,h2⟩
    refine⟨h1,?_⟩;have:m x≠k:=fun hc=>by
     have:=ho.norm.idem x h1;rw[hc] at this;exact e this
    omega
theorem oW (hp:jG n f) (ho:gH n f m) {k:Nat} (hk:k<n) (e:m k=k):aR f n (k+1)=aR f n k++[fS f n k]:=by
 conv=>lhs;unfold aR
 rw[if_neg (by rw[ab8,oC hp ho k (by omega)];omega)]
theorem qP (hp:jG n f) (ho:gH n f m) {k:Nat} (hk:k<n) (e:m k≠k):aR f n (k+1)=aR f n k:=by
 have:=ho.norm.le k hk
 conv=>lhs;unfold aR
 rw[if_pos (by rw[ab8,oC hp ho k (by omega)];omega)]
theorem mI (hp:jG n f) (ho:gH n f m):∀k,k<=n->aR f n k=((List.range k).filter (fix m)).map (fS f n)
 |0,_=>rfl
 |k+1,hk=>by
  have ih:=mI hp ho k (by omega);rw[acK,adQ,abj,<-ih];by_cases e:m k=k
  .rw[oW hp ho (by omega) e]
   have:fix m k=true:=by unfold fix;simpa using e
   simp[this]
  .rw[qP hp ho (by omega) e]
   have:fix m k=false:=by unfold fix;simpa using e
   simp[this]
theorem kM (hp:jG n f) (ho:gH n f m) {k:Nat} (hk:k<=n):(aR f n k).length=aA (fix m) k:=by
 rw[mI hp ho k hk,aaE,dx]
theorem JZ (hp:jG n f) (ho:gH n f m):(rW f n).length=cnt n m:=by
 unfold rW;rw[aaE,kM hp ho (aad _)];rfl
theorem uC (p:Nat->Bool):∀{n x:Nat},x<n->p x=true->((List.range n).filter p)[aA p x]? =some x
 |0,x,h,_=>by omega
 |n+1,x,h,hx=>by
  rw[acK,adQ];by_cases e:x=n
  .subst e
   rw[abb (by rw[dx];exact aad _),dx,Nat.sub_self];simp[hx]
  .have ih:=uC p (n:=n) (x:=x) (by omega) hx
   rw[aaH (aah.1 ih).1];exact ih
theorem J0 (hp:jG n f) (ho:gH n f m) {j:Nat} {l:List Nat} (h:(aR f n n)[j]? =some l):∃r,r<n/\m r=r/\l=fS f n r/\aA (fix m) r=j:=by
 rw[mI hp ho n (aad _),aaP] at h;obtain⟨r,hr,rfl⟩:=abA.1 h;obtain⟨h1,h2⟩:=adb.1 (aai hr);rw[aaJ] at h1;have h3:m r=r:=by unfold fix at h2;exact of_decide_eq_true h2
 refine⟨r,h1,h3,rfl,?_⟩;have h4:=uC (fix m) h1 h2;have hn:((List.range n).filter (fix m)).Nodup:=aeh _ aeA;obtain⟨a1,a2⟩:=aah.1 hr;obtain⟨b1,b2⟩:=aah.1 h4;rcases ab3 (aA (fix m) r) j with c|c|c
 .exact absurd (b2.trans a2.symm) (abo.1 hn _ _ b1 a1 c)
 .exact c
 .exact absurd (a2.trans b2.symm) (abo.1 hn _ _ a1 b1 c)
end
end Fa
end
section
open Go.RowKit
def Qg (l:List Int) (w:World) (e:Ending) (w':World):Prop:=∃v,e= .returned v/\aj w' w.heap.size v l/\Below w.heap.size w w'
end
section
open Go.Proofs.Tryz
open Go.RowKit Go.Sort
structure dY (w:World) (g n:Nat) (f:Nat->Nat):Prop where
 lt:g<w.heap.size
 cell:∀h,h<n->w.cell? ⟨g,Cs.twin h,none⟩=some (.int .i64 (f h:Int))
 even:n%2=0
 few:n<=8388608
 sA:Fa.jG n f
theorem dY.later {w w':World} {g n:Nat} {f:Nat->Nat} (h:dY w g n f) (hb:Below w.heap.size w w'):dY w' g n f:=
 ⟨by have:=hb.size;have:=h.lt;omega,fun x hx=>(hb.cell (p:=⟨g,Cs.twin x,none⟩) h.lt).trans (h.cell x hx),h.even,h.few,h.sA⟩
theorem dY.same {w w':World} {g n:Nat} {f:Nat->Nat} (h:dY w g n f) (hb:w'.heap[g]? =w.heap[g]?) (hs:g<w'.heap.size):dY w' g n f:=
 ⟨hs,fun x hx=>by rw[<-h.cell x hx];simp only[World.cell?];rw[hb],h.even,h.few,h.sA⟩
def tW:Value->Nat
 | .slice _ n _=>n
 |_=>0
theorem JQ (g n:Nat) (f:Nat->Nat) (h:Nat) (w:World) (hs:dY w g n f) (hh:h<n):
 Calls prog 291 #[.slice (some ⟨g,0,none⟩) n n,.int .i64 (h:Int)] w fun e w'=>e= .returned (.int .i64 (f h:Int))/\Below w.heap.size w w':=by
 have bQ:=hs.few;have hev:=hs.even;have Ri:=Cs.kS h (by omega);have hc:=hs.cell h hh;have Dz:Cs.twin h<n:=by
  have:=Cs.eM (i:=h) (m:=n/2) (by omega);omega
 obtain⟨t,ht⟩:∃t,t=Cs.twin h:=⟨_,rfl⟩;rw[<-ht] at Ri hc Dz;have i0:(0:Int)<=(t:Int):=by omega
 have i1:(t:Int)<(n:Int):=by omega
 have HB:=ζ (aae w.heap.size w);clear hs hh ht Dz;go_enter func291,ntmps291;go_wp2;go_ret;exact⟨rfl,HB.out⟩
theorem Li (g n:Nat) (f:Nat->Nat) (h:Nat) (w:World) (hs:dY w g n f) (hh:h<n):
 Calls prog 260 #[.slice (some ⟨g,0,none⟩) n n,.int .i64 (h:Int)] w (Qg (Fa.zl (Fa.fS f n h)) w):=by
 obtain⟨p,hp⟩:=Fa.vO hs.sA hh;rw[Fa.nU hp];have HP:=ζ hp;have HS:=ζ hs;have aaQ:=hp.le;have bQ:=hs.few;have hlt:=fun i=>Pl.lJ hs.sA.lt i hh
 have HF:Hid (∀(W:World) (x:Nat),Below w.heap.size w W->x<n->Calls prog 291 #[.slice (some ⟨g,0,none⟩) n n,.int .i64 (x:Int)] W fun e w'=>e= .returned (.int .i64 (f x:Int))/\Below W.heap.size W w'):=fun W x hb hx=>JQ g n f x W (hs.later hb) hx
 have zX:Hid (aj (w.alloc (.cells #[.int .i64 (h:Int)] 3)) w.heap.size (.slice (some ⟨w.heap.size,0,none⟩) 1 1) (Fa.zl (Fa.way f h 1))):=by
  have:ak (w.alloc (.cells #[.int .i64 (h:Int)] 3)) w.heap.size [(h:Int)]:=heap_alloc_new w _;exact this.own (aad _) rfl (by omega)
 have hb1:Below w.heap.size w (w.alloc (.cells #[.int .i64 (h:Int)] 3)):=(aae _ _).alloc (aad _) _;have aI:=ζ hb1;have rC:=ζ (HF.out _ h hb1 hh);have l5:=ζ hlt;clear hs hh hp hb1 hlt;go_enter func260,ntmps260;go_wp2_with (go_at_call 291;refine rC.out.mono ?_;rintro e w1 ⟨rfl,hb⟩;refine aaj ?_);refine ζ ?_;have kQ:=ζ (zX.out.later hb);have aB:=ζ (aI.out.trans (hb.mono aI.out.size));clear hb;go_wp2;go_loopw [5,6] (fun c5 c6 wr=>∃j:Nat,0<j/\j<=p/\c6= .int .i64 (Pl.it f j h:Int)/\aj wr w.heap.size c5 (Fa.zl (Fa.way f h j))/\Below w.heap.size w wr) (fun c5 _ _=>p-tW c5)
 case atStart=>exact⟨1,by omega,HP.out.pos,rfl,kQ.out,aB.out⟩
 case round=>
  obtain⟨j,hj0,hj,rfl,hO,hb⟩:=hrel;obtain⟨W0,rfl⟩:∃W0,W0=wr:=⟨_,rfl⟩;obtain⟨uo,uc,Rp,-⟩:=hO.form;rw[Fa.kD,Fa.iJ] at Rp;subst Rp;have HO:=ζ hO;have HB:=ζ hb;have hsz:=hb.size;obtain⟨y,hy⟩:∃y,y=Pl.it f j h:=⟨_,rfl⟩;have oG:=l5.out j;rw[<-hy] at oG ⊢;have HY:=ζ hy;by_cases e:y=h
  .have Md:j=p:=by
    rcases abX j p with c|c
    .exact absurd (hy.symm.trans e) (HP.out.first j hj0 c)
    .omega
   have tn:((y:Int) != (h:Int))=false:=by simp[e]
   have HJ:=ζ Md;clear hO hb hy e Md;go_wp2;go_ret;exact⟨_,rfl,by rw[<-HJ.out];exact HO.out,HB.out⟩
  .have Md:j<p:=by
    rcases abX j p with c|c
    .exact c
    .have:j=p:=by omega
     rw[this,HP.out.back] at hy;exact absurd hy e
   have tn:((y:Int) != (h:Int))=true:=by
    have:(y:Int)≠(h:Int):=by omega
    simpa using this
   have HJ:=ζ Md;clear hO hb hy e Md;go_wp2_with (at_builtin;refine bB rfl _ _ rfl W0 w.heap.size _ (Fa.zl (Fa.way f h j)) (y:Int) HO.out hsz (by rw[Fa.kD,Fa.iJ];omega) rfl rfl ?_;refine aaj ?_);refine ζ ?_;intro v' w3 mY hg3 iC hb3;have ry:Hid (aj w3 w.heap.size v' (Fa.zl (Fa.way f h (j+1)))):=by
    rw[Fa.wX,<-HY.out];unfold Fa.zl;rw[abj];exact mY
   have aJ:=ζ (HB.out.trans hb3);obtain⟨vo,vc,bZ,-⟩:=ry.out.form;rw[Fa.kD,Fa.iJ] at bZ;subst bZ;have Ec:=ζ (HF.out w3 y aJ.out oG);clear mY hg3 iC hb3;go_wp2_with (go_at_call 291;refine Ec.out.mono ?_;rintro e w4 ⟨rfl,hb4⟩;refine aaj ?_);refine ζ ?_;have Vu:=ζ (ry.out.later hb4);have dy:=ζ (aJ.out.trans (hb4.mono aJ.out.size));have Sb:f y=Pl.it f (j+1) h:=by rw[Pl.jW,HY.out]
   rw[Sb];clear hb4 Sb;go_wp2;go_roundw
   case rel=>exact⟨j+1,by omega,by have:=HJ.out;omega,rfl,Vu.out,dy.out⟩
   case measure=>have:=HJ.out;simp[tW];omega
end
section
open Go.Proofs.Tryz
open Go.RowKit Go.Sort
theorem aF.gQ {w:World} {g n:Nat} {f f':Nat->Bool} (h:aF w g n f) (e:∀i,i<n->f i=f' i):aF w g n f':=by
 unfold aF at h ⊢;rw[h]
 congr 2
 unfold Co.bools
 congr 1
 exact abT fun i hi=>by rw[e i (aaJ.1 hi)]
theorem My (g n:Nat) (f:Nat->Nat) (w:World) (hs:dY w g n f):
 Calls prog 207 #[.slice (some ⟨g,0,none⟩) n n] w (Qb (Fa.rW f n) w):=by
 obtain⟨i0,hi,hz0,hz1,hz2⟩:=info_parts Tryz.nR;obtain⟨m,ho⟩:=Fa.mD hs.sA;have bQ:=hs.few;have Mg:=hs.lt;have HS:=ζ hs;have HO:=ζ ho;have hmk:∀W,(Instr.makeSlice 237 (.int .i64 (n:Int)) (.int .i64 (n:Int))).run prog W= .ok (.slice (some ⟨W.heap.size,0,none⟩) n n) (W.alloc (.cells (madeCells #[.bool false] n) 4)):=fun W=>by
  have:=run_make (P:=prog) W 237 4 i0 (.bool false) Tryz.underlying237 hi hz0 .i64 .i64 (n:Int) (n:Int) (by omega) (acE _) (by rw[hz2];omega) (by omega);rw[this,hz1];simp[Value.cells]
 obtain⟨w1,hw1⟩:∃w1,w1=w.alloc (.cells (madeCells #[.bool false] n) 4):=⟨_,rfl⟩;have hb1:Below w.heap.size w w1:=by rw[hw1];exact(aae _ _).alloc (aad _) _
 have hs1:w.heap.size<w1.heap.size:=by rw[hw1];simp
 have Eb:Hid (aF w1 w.heap.size n (fun x=>decide (m x<0))):=by rw[hw1];exact(jV rfl n).gQ fun i _=>by simp
 have uT:=ζ (hs.later hb1);have aI:=ζ hb1;clear hs ho hb1;go_enter func207,ntmps207;go_wp2;rw[<-hw1];clear hmk hw1;go_loopw [3,14] (fun c3 c14 wr=>∃(k:Nat) (vs:List Value),k<=n/\c14= .int .i64 (k:Int)/\ay wr w1.heap.size c3 vs ((Fa.aR f n k).map Fa.zl)/\aF wr w.heap.size n (fun x=>decide (m x<k))/\dY wr g n f/\Below w.heap.size w wr/\w1.heap.size<=wr.heap.size) (fun _ c14 _=>n-(intOf c14).toNat)
 case atStart=>exact⟨0,[],aax _,rfl,ay.nil _ _,Eb.out,uT.out,aI.out,aad _⟩
 case round=>
  obtain⟨k,vs,hk,rfl,hR,hI,hS,hb,hsz⟩:=hrel;obtain⟨W0,rfl⟩:∃W0,W0=wr:=⟨_,rfl⟩;obtain⟨uo,q,uc,rfl⟩:∃a q c,u3= .slice a q c:=by
   obtain⟨a,c,e⟩:=bG hR;exact⟨_,_,_,e⟩
  have HR:=ζ hR;have HI:=ζ hI;have zW:=ζ hS;have HB:=ζ hb;have hwk:IntKind.i64.wrap ((k:Int)+1)=(k:Int)+1:=by rw[aam];omega
  by_cases hlt:k<n
  .have aQ:(k:Int)<(n:Int):=by omega
   have hk0:(0:Int)<=(k:Int):=by omega
   have hc:=hI.cell hlt;have hle:=HO.out.norm.le k hlt;by_cases e:m k=k
   .have e1:decide (m k<k)=false:=by simp[e]
    rw[e1] at hc;have HC:=ζ (Li g n f k W0 hS hlt);have HE:=ζ e;clear hR hI hS hb e e1 hle;go_wp2_with (go_at_call 260;refine HC.out.mono ?_;rintro e w2 ⟨v2,rfl,ho2,hb2⟩;refine aaj ?_);refine ζ ?_;obtain⟨fo,fc,oM,Su,-⟩:=ho2.form;rw[Fa.kD] at oM;obtain⟨p,hp⟩:∃p,p=(Fa.fS f n k).length:=⟨_,rfl⟩;rw[<-hp] at oM;subst oM;have kQ:=ζ ho2;have hs2:=hb2.size;have oh:=ζ (HR.out.later hb2);have rz:=ζ (HI.out.later hb2);have D6:=ζ (zW.out.later hb2);have aB:=ζ (HB.out.trans (hb2.mono HB.out.size));have HP:=ζ hp;have DF:p<=n:=by
     obtain⟨p',hl⟩:=Fa.vO zW.out.sA hlt;rw[hp,Fa.nU hl,Fa.iJ];exact hl.le
    clear ho2 hb2 Su hp hc;go_wp2;go_loopw [26] (fun c wr=>∃i:Nat,i<=p/\c= .int .i64 (i:Int)/\aF wr w.heap.size n (fun x=>decide (m x<k)||((Fa.fS f n k).take i).contains x)/\aj wr W0.heap.size (.slice fo p fc) (Fa.zl (Fa.fS f n k))/\ay wr w1.heap.size (.slice uo q uc) vs ((Fa.aR f n k).map Fa.zl)/\dY wr g n f/\Below w.heap.size w wr/\w2.heap.size<=wr.heap.size) (fun c _=>p-(intOf c).toNat)
    case atStart=>exact⟨0,aax _,rfl,rz.out.gQ fun i _=>by simp,kQ.out,oh.out,D6.out,aB.out,aad _⟩
    case round=>
     obtain⟨i,hi',rfl,hI,hO,hR,hS,hb,hsz2⟩:=hrel;obtain⟨W1,rfl⟩:∃W1,W1=wr:=⟨_,rfl⟩;have HI:=ζ hI;have HOO:=ζ hO;have HRR:=ζ hR;have wM:=ζ hS;have wU:=ζ hb;have hwi:IntKind.i64.wrap ((i:Int)+1)=(i:Int)+1:=by rw[aam];omega
     by_cases hip:i<p
     .have agU:(i:Int)<(p:Int):=by omega
      have mj:(0:Int)<=(i:Int):=by omega
      obtain⟨x,hx⟩:∃x,(Fa.fS f n k)[i]? =some x:=⟨_,aac (by rw[<-HP.out];exact hip)⟩;have oH:x<n:=((Fa.rQ zW.out.sA HO.out hlt).1 (aai hx)).1;obtain⟨xo,xc,jB,UB,-⟩:=hO.form;rw[Fa.kD,<-HP.out] at jB;cases jB;obtain⟨b,o,rfl,hcx⟩:=UB i (x:Int) (Fa.W7 hx);have agq:(x:Int)<(n:Int):=by omega
      have hx0:(0:Int)<=(x:Int):=by omega
      have hcb:=hI.cell oH;have hfr:=hI.free x;have jd:Hid (aF (W1.setCell ⟨w.heap.size,x,none⟩ (.bool true)) w.heap.size n (fun y=>decide (m y<k)||((Fa.fS f n k).take (i+1)).contains y)):=by
       refine(hI.set x true).gQ fun y _=> ?_
       have e1:(Fa.fS f n k).take (i+1)=(Fa.fS f n k).take i++[x]:=by
        rw[ab5,hx];rfl
       rw[e1];by_cases ey:y=x
       .subst ey
        rw[Co.eY];simp
       .rw[Co.dr _ ey]
        simp[ey]
      have ag5:=hb.size;have ry:Hid (aj (W1.setCell ⟨w.heap.size,x,none⟩ (.bool true)) W0.heap.size (.slice (some ⟨b,o,none⟩) p fc) (Fa.zl (Fa.fS f n k))):=hO.same fun g' hg _=>eV (fun e=>by have:=(aap hO g' hg).1;omega) _
      have jH:Hid (ay (W1.setCell ⟨w.heap.size,x,none⟩ (.bool true)) w1.heap.size (.slice uo q uc) vs ((Fa.aR f n k).map Fa.zl)):=hR.kept fun b' hb' _=>eV (fun e=>by
       have:w1.heap.size<=b':=by
        rcases hb' with hb'|⟨u,z,hz,hzb⟩
        .exact(aap hR.outer b' hb').1
        .obtain⟨l,hl⟩:=hR.at hz
         exact(aap (hR.row u z l hz hl) b' hzb).1
       omega) _
      have GV:Hid (dY (W1.setCell ⟨w.heap.size,x,none⟩ (.bool true)) g n f):=hS.same (eV (by omega) _) (by simp;omega);have aJ:Hid (Below w.heap.size w (W1.setCell ⟨w.heap.size,x,none⟩ (.bool true))):=hb.setCell (aad _) _;have hs3:(W1.setCell ⟨w.heap.size,x,none⟩ (.bool true)).heap.size=W1.heap.size:=by simp
      have Y3:=ζ hs3;clear hI hO hR hS hb hx UB hs3;go_wp2;go_roundw
      case rel=>exact⟨i+1,by omega,by go_num,jd.out,ry.out,jH.out,GV.out,aJ.out,by rw[Y3.out];exact hsz2⟩
      case measure=>simp[intOf];omega
     .have hd:¬(i:Int)<(p:Int):=by omega
      have hR3:=hR;have jd:Hid (aF W1 w.heap.size n (fun x=>decide (m x<k+1))):=by
       refine hI.gQ fun y hy=> ?_
       have e1:(Fa.fS f n k).take i=Fa.fS f n k:=aaX (by rw[<-HP.out];omega);rw[e1,ach];simp only[abR,decide_eq_true_iff,ab8];rw[Fa.rQ zW.out.sA HO.out hlt,HE.out];omega
      have hrw:∀b',((Value.slice uo q uc).ownBlock=some b'\/cC vs b')->b'<W0.heap.size:=fun b' hb'=>by
       rcases hb' with hb'|⟨u,z,hz,hzb⟩
       .exact(aap HR.out.outer b' hb').2
       .obtain⟨l,hl⟩:=HR.out.at hz
        exact(aap (HR.out.row u z l hz hl) b' hzb).2
      have ru:=ζ hrw;have HOW:Hid (∀b',(Value.slice fo p fc).ownBlock=some b'->W0.heap.size<=b'):=fun b' hb'=>(aap hO b' hb').1
      have hfl:((Fa.aR f n k).map Fa.zl).length<=8388608:=by
       rw[aaE,Fa.kM zW.out.sA HO.out hk];have:=Co.bF (Co.fix m) k;omega
      clear hI hO hR hS hb hrw hR3;go_wp2_with (at_builtin;refine ny rfl _ _ 25 Tryz.underlying25 rfl W1 w1.heap.size (.slice uo q uc) vs ((Fa.aR f n k).map Fa.zl) (.slice fo p fc) (Fa.zl (Fa.fS f n k)) HRR.out (HOO.out.lower hsz) (fun u z b hz hzb e=>by have h1:=ru.out b (.inr ⟨u,z,hz,hzb⟩);have h2:=HOW.out b e;omega) (fun b hb e=>by have h1:=ru.out b (.inl hb);have h2:=HOW.out b e;omega) (by omega) (by omega) rfl rfl ?_;refine aaj ?_);refine ζ ?_;intro v4 w4 hr4 hk4 hv4 hb4;have Jj:=hb4.size;have hbd:∀b',(Value.slice uo q uc).ownBlock=some b'->w1.heap.size<=b':=fun b' hb'=>(aap HRR.out.outer b' hb').1
      have xY:Hid (ay w4 w1.heap.size v4 (vs++[.slice fo p fc]) ((Fa.aR f n (k+1)).map Fa.zl)):=by
       rw[Fa.oW zW.out.sA HO.out hlt HE.out,abj];exact hr4
      have M6:Hid (aF w4 w.heap.size n (fun x=>decide (m x<k+1))):=jd.out.same (hk4 _ jd.out.lt (fun e=>by have:=hbd _ e;omega));have Y3:Hid (dY w4 g n f):=wM.out.same (hk4 _ wM.out.lt (fun e=>by have:=hbd _ e;omega)) (by have:=wM.out.lt;omega);have dy:=ζ (wU.out.trans (hb4.mono (by omega)));have aaz:w1.heap.size<=w4.heap.size:=by omega
      clear hr4 hk4 hv4 hb4 hbd;go_wp2;go_roundw
      case rel=>exact⟨k+1,_,by omega,by go_num,xY.out,M6.out,Y3.out,dy.out,aaz⟩
      case measure=>simp[intOf];omega
   .have e1:decide (m k<k)=true:=by simp;omega
    rw[e1] at hc;have jd:Hid (aF W0 w.heap.size n (fun x=>decide (m x<k+1))):=by
     refine hI.gQ fun y hy=> ?_
     have:m y≠k:=fun h=>by
      have:=HO.out.norm.idem y hy;rw[h] at this;exact e this
     rw[ach,decide_eq_true_iff,decide_eq_true_iff];omega
    have jH:Hid (ay W0 w1.heap.size (.slice uo q uc) vs ((Fa.aR f n (k+1)).map Fa.zl)):=by
     rw[Fa.qP zW.out.sA HO.out hlt e];exact hR
    clear hR hI hS hb e e1 hle;go_wp2;go_roundw
    case rel=>exact⟨k+1,vs,by omega,by go_num,jH.out,jd.out,zW.out,HB.out,hsz⟩
    case measure=>simp[intOf];omega
  .have hd:¬(k:Int)<(n:Int):=by omega
   have hkn:k=n:=by omega
   have jH:Hid (ay W0 w.heap.size (.slice uo q uc) vs (Fa.rW f n)):=by
    have h3:ay W0 w.heap.size (.slice uo q uc) vs ((Fa.aR f n k).map Fa.zl):=hR.lower (by omega);rw[hkn] at h3;exact h3
   clear hR hI hS hb hkn;go_wp2;go_ret;exact⟨_,vs,rfl,jH.out,HB.out⟩
end
section
open Go.RowKit Go.Sort
def MR (n:Int) (es:List (Int×Int)) (ls:List (List Int)) (w:World) (e:Ending) (w':World):Prop:=
 Below w.heap.size w w'/\(((Ro.check n es ls).2≠0/\e= .returned (.tuple #[.slice none 0 0,.int .i64 (Ro.check n es ls).2]))\/
  ((Ro.check n es ls).2=0/\∃g,e= .returned (.tuple #[.slice (some ⟨g,0,none⟩) (2*es.length) (2*es.length),.int .i64 0])/\w.heap.size<=g/\ak w' g (Ro.jy es ls)))
end
section
open Go.Proofs.Tryz
open Go.RowKit Go.Sort
theorem Lj (n:Int) (ao:Option Addr) (ca:Nat) (es:List (Int×Int)) (xo:Option Addr) (xc:Nat) (ls:List (List Int)) (w:World) (he:ah w ao es) (hl:es.length<=4611686018427387904) (hx:bA w xo ls):
 Calls prog 257 #[az n ao es.length ca,.slice xo ls.length xc] w (MR n es ls w):=by
 obtain⟨i0,hi,hz0,hz1,hz2⟩:=info_parts Tryz.b7;have hb0:Below w.heap.size w (w.alloc (.cells #[.int .i64 n,.slice ao es.length ca] 24)):=(aae _ _).alloc (aad _) _;have dI:=ζ (Ik n ao ca es xo xc ls _ (he.later hb0) hl (hx.later hb0));have HX:=ζ hx;have aH:=ζ hb0;unfold az Oi at dI;unfold az;clear he hx hb0;have hch:Ro.check n es ls=((Ro.check n es ls).1,(Ro.check n es ls).2):=rfl;by_cases hc:(Ro.check n es ls).2=0
 .have vX:=Ro.ig.1 hc
  have hval:=Si.aK.1 vX.val;have hlo:=hval.lo;have hhi:=hval.hi;have bQ:=hval.few;have hlen:=vX.len;have Tn:=ζ vX;have HC:=ζ hc;rw[hc] at dI;obtain⟨cv,hcv⟩:∃cv,cv=(Ro.check n es ls).1:=⟨_,rfl⟩;rw[<-hcv] at dI;obtain⟨M,hM⟩:∃M,M=2*es.length:=⟨_,rfl⟩;have hmul:IntKind.i64.wrap (2*(es.length:Int))=(M:Int):=by rw[aam];omega
  have Gl:2*(es.length:Int)=(M:Int):=by omega
  have Yx:M<=8388608:=by omega
  have HM:=ζ hM;clear hch hc vX hval hcv hM;go_enter func257,ntmps257;go_wp2_with (go_at_call 86;refine dI.out.mono ?_;rintro e w1 ⟨rfl,hb⟩;refine aaj ?_);refine ζ ?_;have oQ:w1.heap[w.heap.size]? =some (.cells #[.int .i64 n,.slice ao es.length ca] 24 (0,0)):=(hb.block _ (by simp)).trans (heap_alloc_new w _);obtain⟨g0,g1,-⟩:=af oQ;have vW:w.heap.size<w1.heap.size:=lt_of_block oQ;have aI:=ζ (aH.out.trans (hb.mono aH.out.size));clear hb oQ;go_wp2_with (at_make;refine wpList_make_full _ rfl _ _ 55 rfl w1.heap.size 3 i0 (.int .i64 0) 1 Tryz.underlying55 hi hz0 hz1 _ _ _ _ M rfl rfl rfl rfl (by rw[hz2];omega) (by unfold maxLen;omega) (aad _) ?_;refine aaj ?_);refine ζ ?_;intro w2 hrow hg2;rw[cK] at hrow;have rz:=ζ (dV hrow);have hb2:Below w1.heap.size w1 w2:=(aae _ _).grown hg2 (aad _) (fun j hj=>by cases hj);have aB:=ζ (aI.out.trans (hb2.mono aI.out.size));clear hrow hg2 hb2 g0 g1;go_wp2;go_loopw [29] (fun c wr=>∃k:Nat,k<=ls.length/\c= .int .i64 (k:Int)/\ak wr w1.heap.size (Ro.nx ls k (List.replicate M 0))/\Below w.heap.size w wr) (fun c _=>ls.length-(intOf c).toNat)
  case atStart=>exact⟨0,aax _,rfl,rz.out,aB.out⟩
  case round=>
   obtain⟨k,hk,rfl,hik,hb⟩:=hrel;clear rz;have HI:=ζ hik;have HB:=ζ hb;clear hik hb;by_cases hlt:k<ls.length
   .have aQ:(k:Int)<(ls.length:Int):=by omega
    have hk0:(0:Int)<=(k:Int):=by omega
    obtain⟨l,hlk⟩:∃l,ls[k]? =some l:=⟨_,aac hlt⟩;have hgd:ls.getD k []=l:=by rw[aao,hlk];rfl
    obtain⟨b,o,A,C,rfl,hcell,hL,lN,-⟩:=HX.out k l hlk;have hbl:b<w.heap.size:=block_lt_of_cell hcell;have hcr:=(HB.out.cell (p:=⟨b,o+k,none⟩) hbl).trans hcell;have HL:=ζ hL;have ew:=ζ hlk;have C7:=ζ hcell;have sM:=ζ hgd;clear hcell hL hlk hgd;go_wp2;clear hcr;go_loopw [35] (fun c wr=>∃i:Nat,i<=l.length/\c= .int .i64 (i:Int)/\ak wr w1.heap.size (Ro.row l i (Ro.nx ls k (List.replicate M 0)))/\Below w.heap.size w wr) (fun c _=>l.length-(intOf c).toNat)
    case atStart=>exact⟨0,aax _,rfl,HI.out,HB.out⟩
    case round=>
     clear HI HB;obtain⟨i,hil,rfl,BO,hb⟩:=hrel;have HI:=ζ BO;have HB:=ζ hb;have hcr:=(HB.out.cell (p:=⟨b,o+k,none⟩) hbl).trans C7.out;clear BO hb;by_cases sI:i<l.length
     .have RP:(i:Int)<(l.length:Int):=by omega
      have abh:(0:Int)<=(i:Int):=by omega
      obtain⟨x,eP⟩:∃x,l[i]? =some x:=⟨_,aac sI⟩;obtain⟨j,rfl,hj,-⟩:=Tn.out.half ew.out eP;have X3:j<M:=by have:=HM.out;omega
      obtain⟨q,hq⟩:∃q,q=(i+1)%l.length:=⟨_,rfl⟩;have pV:q<l.length:=by rw[hq];exact acV _ (by omega)
      have UG:((i:Int)+1).tmod (l.length:Int)=(q:Int):=by
       rw[abS (by omega),hq];exact(adt (i+1) l.length).symm
      have aaL:((i:Int)+1)%(l.length:Int)=(q:Int):=by
       rw[hq];exact(adt (i+1) l.length).symm
      obtain⟨y,hy⟩:∃y,l[q]? =some y:=⟨_,aac pV⟩;obtain⟨lb,lo',rfl,lc⟩:=HL.out.elem eP;obtain⟨lb',aag,hle,Q6⟩:=HL.out.elem hy;cases hle;have wh:lb<w.heap.size:=block_lt_of_cell lc;have c1:=(HB.out.cell (p:=⟨lb,lo'+i,none⟩) wh).trans lc;have c2:=(HB.out.cell (p:=⟨lb,lo'+q,none⟩) wh).trans Q6;have hrl:(Ro.row l i (Ro.nx ls k (List.replicate M 0))).length=M:=by rw[Ro.qq,Ro.vM];simp
      obtain⟨z,hz⟩:∃z,(Ro.row l i (Ro.nx ls k (List.replicate M 0)))[j]? =some z:=⟨_,aac (by rw[hrl];exact X3)⟩;have c3:=HI.out.cell hz;have c4:=HI.out.free j;have jd:Hid (ak (wr.setCell ⟨w1.heap.size,j,none⟩ (.int .i64 y)) w1.heap.size (Ro.row l (i+1) (Ro.nx ls k (List.replicate M 0)))):=by
       have h1:=HI.out.set j y;have e:Ro.row l (i+1) (Ro.nx ls k (List.replicate M 0))=(Ro.row l i (Ro.nx ls k (List.replicate M 0))).set j y:=by
        show(Ro.row l i _).set (l.getD i 0).toNat (l.getD ((i+1)%l.length) 0)=_;rw[<-hq,aao,aao,eP,hy];rfl
       rw[e];exact h1
      have hj0:(0:Int)<=(j:Int):=by omega
      have abd:(j:Int)<(M:Int):=by omega
      have Jm:(0:Int)<=(q:Int):=by omega
      have aaM:(q:Int)<(l.length:Int):=by omega
      have hlz:((l.length:Int)==0)=false:=beq_false_of_ne (by omega);have hwq:IntKind.i64.wrap (q:Int)=(q:Int):=by rw[aam];omega
      have hwi:IntKind.i64.wrap ((i:Int)+1)=(i:Int)+1:=by rw[aam];omega
      clear hq hy eP lc Q6 hz hrl;go_wp2;go_roundw
      case rel=>exact⟨i+1,by omega,by go_num,jd.out,by first|exact HB.out.trans (dF (g:=w1.heap.size) _ (by omega))|exact(HB.out.trans (dF (g:=w1.heap.size) _ (by omega))).drew⟩
      case measure=>simp[intOf];omega
     .have RP:¬(i:Int)<(l.length:Int):=by omega
      obtain rfl:i=l.length:=by omega
      have jd:Hid (ak wr w1.heap.size (Ro.nx ls (k+1) (List.replicate M 0))):=by
       show ak wr w1.heap.size (Ro.row (ls.getD k []) (ls.getD k []).length _);rw[sM.out];exact HI.out
      go_wp2;go_roundw
      case rel=>exact⟨k+1,by omega,by go_num,jd.out,HB.out⟩
      case measure=>simp[intOf];omega
   .have aQ:¬(k:Int)<(ls.length:Int):=by omega
    obtain rfl:k=ls.length:=by omega
    go_wp2;go_ret2;refine⟨HB.out,.inr ⟨HC.out,w1.heap.size,by rw[<-HM.out];rfl,by omega,?_⟩⟩;unfold Ro.jy;rw[<-HM.out];exact HI.out
 .obtain⟨cv,hcv⟩:∃cv,cv=(Ro.check n es ls).1:=⟨_,rfl⟩
  obtain⟨cc,hcc⟩:∃cc,cc=(Ro.check n es ls).2:=⟨_,rfl⟩;rw[<-hcv,<-hcc] at dI;rw[<-hcc] at hc;have sP:=ζ hcc;have j1:(cc != 0)=true:=by simp[hc]
  have Zh:=ζ hc;clear hch hcv hcc hc;go_enter func257,ntmps257;go_wp2_with (go_at_call 86;refine dI.out.mono ?_;rintro e w1 ⟨rfl,hb⟩;refine aaj ?_);refine ζ ?_;have aI:=ζ (aH.out.trans (hb.mono aH.out.size));clear hb;go_wp2;go_ret2;refine⟨aI.out,.inl ⟨by rw[<-sP.out];exact Zh.out,by rw[<-sP.out];rfl⟩⟩
end
section
open Go.RowKit Go.Sort
def Fa.all (es:List (Int×Int)) (ls:List (List Int)):List (List Int):=Fa.rW (Fa.ph es ls) (2*es.length)
def adS (c:Int) (R:List (List Int)) (w:World) (e:Ending) (w':World):Prop:=
 Below w.heap.size w w'/\((c≠0/\e= .returned (.tuple #[.slice none 0 0,.int .i64 c]))\/(c=0/\∃v vs,e= .returned (.tuple #[v,.int .i64 0])/\ay w' w.heap.size v vs R))
theorem En {n:Int} {es:List (Int×Int)} {ls:List (List Int)} {w:World} {g:Nat} (h0:(Ro.check n es ls).2=0) (hi:ak w g (Ro.jy es ls)):dY w g (2*es.length) (Fa.ph es ls):=by
 have hr:=Ro.ig.1 h0;have hv:=Si.aK.1 hr.val;obtain⟨m,rfl⟩:∃m:Nat,n=(m:Int):=⟨n.toNat,by have:=hv.lo;omega⟩;have bQ:=hv.few;refine⟨hi.lt,fun x hx=> ?_,by omega,by omega,Fa.vJ hr⟩;rw[Fa.Xe hx];exact hi.cell (Fa.qj hr (Cs.eM hx)).1
theorem Fx (n:Int) (ao:Option Addr) (ca:Nat) (es:List (Int×Int)) (xo:Option Addr) (xc:Nat) (ls:List (List Int)) (w:World) (he:ah w ao es) (hl:es.length<=4611686018427387904) (hx:bA w xo ls):
 Calls Tryz.prog 205 #[az n ao es.length ca,.slice xo ls.length xc] w (MR n es ls w):=by
 have hb0:Below w.heap.size w (w.alloc (.cells #[.int .i64 n,.slice ao es.length ca] 24)):=(aae _ _).alloc (aad _) _;have HN:=ζ (Lj n ao ca es xo xc ls _ (he.later hb0) hl (hx.later hb0));have aH:=ζ hb0;unfold az at HN ⊢;clear he hx hb0;go_enter Tryz.func205,Tryz.ntmps205;go_wp2_with (go_at_call 257;refine HN.out.mono ?_;intro e w1 hp;obtain⟨hb1,⟨hc,rfl⟩|⟨hc,g,rfl,hg,hi⟩⟩:=hp<;>refine aaj ?_)
 all_goals refine ζ ?_
 .have HB:=ζ (aH.out.trans (hb1.mono aH.out.size))
  have HC:=ζ hc;clear hc hb1;go_wp2;go_ret2;exact⟨HB.out,.inl ⟨HC.out,rfl⟩⟩
 .have HB:=ζ (aH.out.trans (hb1.mono aH.out.size))
  have HG:Hid (w.heap.size<=g):=by have:=aH.out.size;show w.heap.size<=g;omega
  have HC:=ζ hc;have HI:=ζ hi;clear hc hb1 hg hi;go_wp2;go_ret2;exact⟨HB.out,.inr ⟨HC.out,g,rfl,HG.out,HI.out⟩⟩
end
section
namespace Fa
open Pl Co
def hd (l:List Nat):Nat:=l.headD 0
def zF (N:Nat) (es:List (Int×Int)) (fs:List (List Nat)) (j k:Nat):Nat:=aA (fun i=>decide (num (cp N es) (Cs.fr es (hd (fs.getD i [])))=j)) k
theorem yX (q:Nat->Bool) (l:List Nat):∀k,k<=l.length->aA (fun i=>q (l.getD i 0)) k=((l.take k).filter q).length
 |0,_=>by simp[aA]
 |k+1,hk=>by
  have hx:l[k]? =some l[k]:=by simp
  show aA (fun i=>q (l.getD i 0)) k+(if q (l.getD k 0)=true then 1 else 0)=_;rw[yX q l k (by omega),ab5,hx,adQ,aar,aao,hx];by_cases h:q l[k]=true
  .simp[h]
  .simp[h]
theorem Kc (q:Nat->Bool) (l:List Nat):aA (fun i=>q (l.getD i 0)) l.length=(l.filter q).length:=by
 rw[yX q l l.length (aad _),abW]
section
variable {N:Nat} {es:List (Int×Int)} {ls:List (List Int)} {m:Nat->Nat}
theorem T9 (h:Ro.jc N es ls) (hm:gH (2*es.length) (ph es ls) m) (j:Nat):zF N es (aR (ph es ls) (2*es.length) (2*es.length)) j (aR (ph es ls) (2*es.length) (2*es.length)).length=cF N es m j (2*es.length):=by
 have e:=mI (vJ h) hm (2*es.length) (aad _);have e1:=Kc (fun x=>decide (num (cp N es) (Cs.fr es x)=j)) ((List.range (2*es.length)).filter (fix m));have e2:cF N es m j (2*es.length)=(((List.range (2*es.length)).filter (fix m)).filter (fun x=>decide (num (cp N es) (Cs.fr es x)=j))).length:=by
  unfold cF;rw[dx,List.filter_filter]
  congr 1
  refine List.filter_congr fun x _=> ?_
  unfold fix;exact Bool.and_comm _ _
 rw[e2,<-e1];unfold zF;rw[e,aaE];refine bu _ fun i hi=> ?_
 have e3:hd ((((List.range (2*es.length)).filter (fix m)).map (fS (ph es ls) (2*es.length))).getD i [])=((List.range (2*es.length)).filter (fix m)).getD i 0:=by
  rw[aao,aao,aaP,aac hi];rfl
 rw[e3]
theorem Vl {j:Nat}:0<cV N es j N↔j<cnt N (cp N es):=by
 have hn:=(Ah (N:=N) (es:=es)).norm;constructor
 .intro h
  have:∃v,v<N/\num (cp N es) v=j:=abp fun hc=>by
   have:cV N es j N=0:=by
    unfold cV;rw[bu (q:=fun e=>decide (e=N)) N (fun i hi=>by
     have h1:¬num (cp N es) i=j:=fun e=>hc ⟨i,hi,e⟩
     have h2:¬i=N:=by omega
     simp[h1,h2]),eE,if_neg (by omega)]
   omega
  obtain⟨v,hv,rfl⟩:=this;exact Ab hn hv
 .intro h
  have h0:j<((List.range N).filter (fix (cp N es))).length:=by rw[<-dx];exact h
  obtain⟨r,hr⟩:∃r,((List.range N).filter (fix (cp N es)))[j]? =some r:=⟨_,aac h0⟩;obtain⟨h1,h2⟩:=adb.1 (aai hr);rw[aaJ] at h1;have h4:=uC (fix (cp N es)) h1 h2;have hnd:((List.range N).filter (fix (cp N es))).Nodup:=aeh _ aeA;obtain⟨a1,a2⟩:=aah.1 hr;obtain⟨b1,b2⟩:=aah.1 h4;have hj:aA (fix (cp N es)) r=j:=by
   rcases ab3 (aA (fix (cp N es)) r) j with c|c|c
   .exact absurd (b2.trans a2.symm) (abo.1 hnd _ _ b1 a1 c)
   .exact c
   .exact absurd (a2.trans b2.symm) (abo.1 hnd _ _ a1 b1 c)
  unfold cV;refine uH (x:=r) N h1 ?_;rw[decide_eq_true_iff,<-hj];exact(num_eq hn h1 h2).2 (of_decide_eq_true h2)
end
end Fa
end
end Go.Proofs.YtdbjpbjocmcpkaaGreatDoor
