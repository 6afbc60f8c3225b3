import Derived.Test.YtdbjpbjocmcpkaaGreatDoorMk23
import Derived.Test.YtdbjpbjocmcpkaaGreatDoorMk08
import Derived.Maps.RangeWalk
import Derived.Maps.OwnOps
set_option maxHeartbeats 8000000
set_option maxRecDepth 100000
namespace Go.Proofs.YtdbjpbjocmcpkaaGreatDoor
section
open Go.Proofs.Tryz
open Go.RowKit
namespace Co
def fix (m:Nat->Nat) (i:Nat):Bool:=decide (m i=i)
def num (m:Nat->Nat) (a:Nat):Nat:=au (fix m) (m a)
theorem E6 (n:Nat) (m:Nat->Nat):au (fix m) n=cnt n m:=rfl
theorem J9 {m:Nat->Nat} {a:Nat} (h:m a=a):num m a=au (fix m) a:=by unfold num;rw[h]
theorem Gn {n:Nat} {m:Nat->Nat} (hn:Norm n m) {a:Nat} (ha:a<n):num m (m a)=num m a:=by unfold num;rw[hn.idem a ha]
theorem zO {m:Nat->Nat} {a:Nat} (h:m a=a):au (fix m) (a+1)=au (fix m) a+1:=by
 conv=>lhs;unfold au
 rw[if_pos (by simpa[fix] using h)]
theorem Ci {m:Nat->Nat} {a:Nat} (h:m a≠a):au (fix m) (a+1)=au (fix m) a:=by
 conv=>lhs;unfold au
 rw[if_neg (by simpa[fix] using h)];rfl
theorem Gw {n:Nat} {m:Nat->Nat} {a:Nat} (h:a<n):q7 n m (a:Int)=(m a:Int):=by
 unfold q7;rw[if_pos ⟨by omega,by omega⟩,abb]
end Co
def NH (n:Nat) (m:Nat->Nat) (w:World) (e:Ending) (w':World):Prop:=
 ∃v,e= .returned v/\av w' w.heap.size v (Co.ints n (Co.num m))/\Below w.heap.size w w'
theorem zy (v:Option Addr) (n:Nat) (m:Nat->Nat) (w:World) (h:e6 w v n m):Calls prog 289 #[.pointer v] w (NH n m w):=by
 obtain⟨i0,hi,hz0,hz1,hz2⟩:=info_parts Tryz.ck;have hn:=h.bound;have NY:=ζ h.norm;have hle:∀W a,a<n->Below w.heap.size w W->Calls prog 308 #[.pointer v,.int .i64 (a:Int)] W fun e w'=>e= .returned (.int .i64 (m a:Int))/\∃k,w'=W.drewN k:=fun W a ha hb=>by
  have:=Gv v n m a W (h.later hb);rw[Co.Gw ha] at this;exact this
 have jC:=ζ hle;clear hle;rcases h with ⟨rfl,rfl⟩|⟨p,gp,gt,rfl,-,P,S,L,r,d,h,-⟩
 .go_enter func289,ntmps289
  go_wp2;go_ret;exact⟨_,rfl,av.nil _ _,aaE _ _⟩
 .have c0:=h.c0
  clear h;go_enter func289,ntmps289;go_wp2_with (at_make;refine wpList_make_full _ rfl _ _ 55 rfl w.heap.size 3 i0 (.int .i64 0) 1 Tryz.underlying55 hi hz0 hz1 _ _ _ _ n rfl rfl rfl rfl (by rw[hz2];omega) (by unfold maxLen;omega) (aaD _) ?_;refine aaH ?_);refine ζ ?_;intro w2 hrow hg2;rw[dz] at hrow;have hik:=fJ hrow;rw[<-Co.xE] at hik;have hb2:Below w.heap.size w w2:=(aaE _ _).grown hg2 (aaD _) (fun j hj=>by cases hj);have zX:=ζ hik;have aC:=ζ hb2;clear hrow hg2 hik hb2;go_wp2;go_loopw [4,17] (fun s c wr=>∃(k:Nat) (F:Nat->Nat),k<=n/\c= .int .i64 (k:Int)/\s= .int .i64 (Co.au (Co.fix m) k:Int)/\(∀i,i<k->F i=Co.num m i)/\aq wr w.heap.size (Co.ints n F)/\Below w.heap.size w wr) (fun _ c _=>n-(intOf c).toNat)
  case atStart=>exact⟨0,_,aaL _,rfl,rfl,fun i hi=>by omega,zX.out,aC.out⟩
  case round=>
   obtain⟨k,F,hk,rfl,rfl,hF,sW,hb⟩:=hrel;have hcl:=Co.bC (Co.fix m) k;by_cases hkn:k<n
   .have hk0:(0:Int)<=(k:Int):=by omega
    have hk1:(k:Int)<(n:Int):=by omega
    have HL:=ζ (jC.out wr k hkn hb);have HF:=ζ hF;have HIS:=ζ sW;have HB:=ζ hb;clear hF sW hb;by_cases hf:m k=k
    .have hd:((m k:Int)==(k:Int))=true:=by simp[hf]
     have xI:=Co.zO hf;have iz:=Co.J9 hf;have Fx:=ζ xI;have WH:=ζ iz;obtain⟨z,hz⟩:∃z,Co.au (Co.fix m) k=z:=⟨_,rfl⟩;rw[hz] at hcl Fx WH ⊢;clear xI iz hz hf;go_wp2_with (go_at_call 308;refine HL.out.mono ?_;rintro e w3 ⟨rfl,q,hw3⟩;have qx:=ζ hw3;clear hw3;refine aaH ?_);refine ζ ?_;have i3:aq w3 w.heap.size (Co.ints n F):=by rw[qx.out];exact HIS.out
     have b3:Below w.heap.size w w3:=by rw[qx.out];exact below_drewN HB.out q
     have cx:=i3.cell (Co.ints_at (f:=F) hkn);have cf:=i3.free;have n1:=i3.set k (z:Int);rw[Co.ints_set z hkn] at n1;have tH:=ζ n1;have aK:=ζ (b3.setCell (p:=⟨w.heap.size,k,none⟩) (aaD _) (.int .i64 (z:Int)));clear i3 b3 n1;go_wp2;go_roundw
     case rel=>
      refine⟨k+1,_,by omega,by go_num,by rw[Fx.out];go_num,fun i hi=> ?_,tH.out,aK.out⟩;by_cases e:i=k
      .subst e;rw[Co.upd_same,WH.out]
      .rw[Co.aU _ e];exact HF.out i (by omega)
     case measure=>simp[intOf];omega
    .have hd:((m k:Int)==(k:Int))=false:=by simp;omega
     have hml:=NY.out.le k hkn;have hmk:m k<k:=by omega
     have xI:=Co.Ci hf;have Fx:=ζ xI;have iz:=Co.Gn NY.out hkn;have Sb:=HF.out (m k) hmk;rw[iz] at Sb;have Xd:=ζ Sb;obtain⟨z,hz⟩:∃z,Co.au (Co.fix m) k=z:=⟨_,rfl⟩;rw[hz] at hcl Fx ⊢;obtain⟨y,hy⟩:∃y,m k=y:=⟨_,rfl⟩;rw[hy] at hmk HL hd Xd;have y0:(0:Int)<=(y:Int):=by omega
     have y1:(y:Int)<(n:Int):=by omega
     clear xI iz Sb hz hf hy hml;go_wp2_with (go_at_call 308;refine HL.out.mono ?_;rintro e w3 ⟨rfl,q,hw3⟩;have qx:=ζ hw3;clear hw3;refine aaH ?_);refine ζ ?_;have i3:aq w3 w.heap.size (Co.ints n F):=by rw[qx.out];exact HIS.out
     have b3:Below w.heap.size w w3:=by rw[qx.out];exact below_drewN HB.out q
     have cx:=i3.cell (Co.ints_at (f:=F) hkn);have cy:=i3.cell (Co.ints_at (f:=F) (show y<n by omega));have cf:=i3.free;have n1:=i3.set k (F y:Int);rw[Co.ints_set (F y) hkn] at n1;have tH:=ζ n1;have aK:=ζ (b3.setCell (p:=⟨w.heap.size,k,none⟩) (aaD _) (.int .i64 (F y:Int)));clear i3 b3 n1;go_wp2;go_roundw
     case rel=>
      refine⟨k+1,_,by omega,by go_num,by rw[Fx.out],fun i hi=> ?_,tH.out,aK.out⟩;by_cases e:i=k
      .subst e;rw[Co.upd_same,Xd.out]
      .rw[Co.aU _ e];exact HF.out i (by omega)
     case measure=>simp[intOf];omega
   .have hd:¬((k:Int)<(n:Int)):=by omega
    obtain rfl:k=n:=by omega
    rw[Co.ur hF] at sW;have HIS:=ζ sW;have HB:=ζ hb;clear hF sW hb;go_wp2;go_ret;exact⟨_,rfl,HIS.out.own (aaD _) (Co.cJ _ _) (by omega),HB.out⟩
end
section
namespace Fa
open Pl Co
def bA (f:Nat->Int):Nat->Int
 |0=>0
 |n+1=>bA f n+f n
theorem cC {f g:Nat->Int}:∀n,(∀i,i<n->f i=g i)->bA f n=bA g n
 |0,_=>rfl
 |n+1,h=>by
  show bA f n+f n=bA g n+g n;rw[cC n (fun i hi=>h i (by omega)),h n (by omega)]
theorem iK (f g:Nat->Int):∀n,bA (fun i=>f i+g i) n=bA f n+bA g n
 |0=>rfl
 |n+1=>by
  show bA (fun i=>f i+g i) n+(f n+g n)=bA f n+f n+(bA g n+g n);rw[iK f g n];omega
theorem iJ (c:Int) (f:Nat->Int):∀n,bA (fun i=>c*f i) n=c*bA f n
 |0=>by simp[bA]
 |n+1=>by
  show bA (fun i=>c*f i) n+c*f n=c*(bA f n+f n);rw[iJ c f n,Int.mul_add]
theorem iR {f:Nat->Int}:∀n,(∀i,i<n->f i=0)->bA f n=0
 |0,_=>rfl
 |n+1,h=>by
  show bA f n+f n=0;rw[iR n (fun i hi=>h i (by omega)),h n (by omega)];rfl
theorem Ag {c:Int} {x:Nat}:∀n,x<n->bA (fun i=>if i=x then c else 0) n=c
 |0,h=>by omega
 |n+1,h=>by
  show bA (fun i=>if i=x then c else 0) n+(if n=x then c else 0)=c;by_cases e:n=x
  .rw[if_pos e,iR n (fun i hi=>by rw[if_neg (by omega)])]
   omega
  .rw[if_neg e,Ag n (by omega)]
   omega
theorem sk (p:Nat->Bool):∀n,bA (fun i=>if p i=true then 1 else 0) n=(au p n:Int)
 |0=>rfl
 |n+1=>by
  show bA (fun i=>if p i=true then 1 else 0) n+(if p n=true then 1 else 0)=((au p n+if p n=true then 1 else 0:Nat):Int);rw[sk p n]
  split<;>simp
theorem qp:∀n,au (fun _=>true) n=n
 |0=>rfl
 |n+1=>by
  show au (fun _=>true) n+1=n+1;rw[qp n]
theorem nW {N:Nat} {m:Nat->Nat} (hm:Norm N m) {p:Nat->Bool} {g:Nat->Nat}:∀K,(∀x,x<K->p x=true->g x<N)->bA (fun r=>if fix m r=true then (au (fun x=>p x&&decide (m (g x)=r)) K:Int) else 0) N=(au p K:Int)
 |0,_=>iR N fun i _=>by split<;>rfl
 |K+1,h=>by
  have ih:=nW hm (p:=p) (g:=g) K (fun x hx=>h x (by omega));have e:∀r,(if fix m r=true then ((au (fun x=>p x&&decide (m (g x)=r)) (K+1):Nat):Int) else 0)=(if fix m r=true then ((au (fun x=>p x&&decide (m (g x)=r)) K:Nat):Int) else 0)+(if r=m (g K) then (if p K=true/\fix m (m (g K))=true then 1 else 0) else 0):=fun r=>by
   have e0:au (fun x=>p x&&decide (m (g x)=r)) (K+1)=au (fun x=>p x&&decide (m (g x)=r)) K+if (p K&&decide (m (g K)=r))=true then 1 else 0:=rfl
   rw[e0];by_cases h1:r=m (g K)
   .subst h1
    by_cases h2:p K=true<;>by_cases h3:fix m (m (g K))=true<;>simp[h2,h3]
   .have:¬m (g K)=r:=fun e=>h1 e.symm
    by_cases h3:fix m r=true<;>simp[h1,h3,this]
  rw[cC N (fun r _=>e r),iK,ih];have e3:au p (K+1)=au p K+if p K=true then 1 else 0:=rfl
  rw[e3];by_cases h2:p K=true
  .have hg:=h K (by omega) h2
   have hf:fix m (m (g K))=true:=by
    unfold fix;rw[hm.idem _ hg];simp
   rw[Ag N (hm.lt hg)];simp[h2,hf]
  .rw[iR N (fun i _=>by simp[h2])]
   simp[h2]
theorem Ah {m:Nat->Nat} (F:Nat->Int):∀N,bA (fun r=>if fix m r=true then F (au (fix m) r) else 0) N=bA F (au (fix m) N)
 |0=>rfl
 |N+1=>by
  show bA (fun r=>if fix m r=true then F (au (fix m) r) else 0) N+(if fix m N=true then F (au (fix m) N) else 0)=bA F (au (fix m) N+if fix m N=true then 1 else 0);rw[Ah F N];by_cases h:fix m N=true
  .rw[if_pos h,if_pos h]
   rfl
  .rw[if_neg h,if_neg h]
   simp
theorem sZ {m:Nat->Nat} {a b:Nat} (h:a<b) (ha:fix m a=true):au (fix m) a<au (fix m) b:=by
 induction b with
 |zero=>omega
 |succ b ih=>
  have e:au (fix m) (b+1)=au (fix m) b+if fix m b=true then 1 else 0:=rfl
  rw[e];by_cases hab:a=b
  .subst hab
   rw[if_pos ha];omega
  .have:=ih (by omega)
   omega
theorem num_eq {N:Nat} {m:Nat->Nat} (hm:Norm N m) {v r:Nat} (hv:v<N) (hr:fix m r=true):num m v=au (fix m) r↔m v=r:=by
 constructor
 .intro e
  unfold num at e;have hf:fix m (m v)=true:=by
   unfold fix;rw[hm.idem v hv];simp
  rcases abF (m v) r with h|h|h
  .have:=sZ h hf
   omega
  .exact h
  .have:=sZ h hr
   omega
 .intro e
  unfold num;rw[e]
theorem vF {N:Nat} {m:Nat->Nat} (hm:Norm N m) {v:Nat} (hv:v<N):num m v<au (fix m) N:=by
 unfold num;refine sZ (hm.lt hv) ?_;unfold fix;rw[hm.idem v hv];simp
def gen (a b c:Nat):Int:=if b=0 then 0 else ((2:Int)-a+b-c).tdiv 2
def cV (N:Nat) (es:List (Int×Int)) (j:Nat) (k:Nat):Nat:=au (fun v=>decide (num (cp N es) v=j)) k
def cE (N:Nat) (es:List (Int×Int)) (j:Nat) (k:Nat):Nat:=au (fun e=>decide (num (cp N es) (Cs.fr es (2*e))=j)) k
def cF (N:Nat) (es:List (Int×Int)) (m:Nat->Nat) (j:Nat) (k:Nat):Nat:=au (fun x=>decide (m x=x)&&decide (num (cp N es) (Cs.fr es x)=j)) k
section
variable {N:Nat} {es:List (Int×Int)} {ls:List (List Int)} {m:Nat->Nat}
theorem G6 (h:Ro.eY N es ls) (hm:eT (2*es.length) (ph es ls) m):∃g:Nat,bA (fun j=>gen (cV N es j N) (cE N es j es.length) (cF N es m j (2*es.length))) (cnt N (cp N es))=(g:Int)/\cnt (2*es.length) m+jP N es+N+2*g=2*cnt N (cp N es)+es.length/\g+N<=es.length+cnt N (cp N es):=by
 have hv:=gy h;have hn:=(vL (N:=N) (es:=es)).norm;obtain⟨g,hg,hg2⟩:=SJ h hm;refine⟨g,?_,hg,hg2⟩;have hc:∀r,r<N->fix (cp N es) r=true->cV N es (au (fix (cp N es)) r) N=nV N es r/\cE N es (au (fix (cp N es)) r) es.length=nE N es r/\cF N es m (au (fix (cp N es)) r) (2*es.length)=nF N es m r:=fun r hr hf=>by
  refine⟨aO _ fun v rq=> ?_,aO _ fun e he=> ?_,aO _ fun x hx=> ?_⟩
  .rw[abO,decide_eq_true_iff,decide_eq_true_iff]
   exact num_eq hn rq hf
  .rw[abO,decide_eq_true_iff,decide_eq_true_iff]
   exact num_eq hn (jo hv (by omega)) hf
  .have:=num_eq hn (jo hv hx) hf
   simp only[this]
 rw[<-E6,<-Ah]
 have two:2*bA (fun r=>if fix (cp N es) r=true then gen (cV N es (au (fix (cp N es)) r) N) (cE N es (au (fix (cp N es)) r) es.length) (cF N es m (au (fix (cp N es)) r) (2*es.length)) else 0) N
  =bA (fun r=>((((2*(if fix (cp N es) r=true then (1:Int) else 0))+(-1)*(if fix (cp N es) r=true then (nV N es r:Int) else 0))+(if fix (cp N es) r=true then (nE N es r:Int) else 0))+(-1)*(if fix (cp N es) r=true then (nF N es m r:Int) else 0))+(-1)*(if (!met es r)=true then (1:Int) else 0)) N:=by
  rw[<-iJ];refine cC N fun r hr=> ?_
  by_cases hf:fix (cp N es) r=true
  .obtain⟨c1,c2,c3⟩:=hc r hr hf
   have xR:cp N es r=r:=by unfold fix at hf;exact of_decide_eq_true hf
   have ha:=E5 h (m:=m) hr xR;simp only[if_pos hf,c1,c2,c3];unfold gen;by_cases he:nE N es r=0
   .have hme:=ha.1.1 he
    obtain⟨k1,k2⟩:=ha.2 he;rw[if_pos he,he,k1,k2,hme];simp
   .have hme:met es r=true:=by
     cases hmr:met es r with
     |true=>rfl
     |false=>exact absurd (ha.1.2 hmr) he
    have hev:=Hr h hm he;rw[if_neg he,hme];have e2:((2:Int)-(nV N es r:Int)+(nE N es r:Int)-(nF N es m r:Int))%2=0:=by omega
    have e3:=Int.mul_tdiv_cancel' (Int.dvd_of_emod_eq_zero e2);rw[e3];simp;omega
  .have hme:met es r=true:=by
    cases hmr:met es r with
    |true=>rfl
    |false=>
     exfalso;apply hf;unfold fix;rw[decide_eq_true_iff];exact(alone hmr hr).2 rfl
   simp[hf,hme]
 rw[iK,iK,iK,iK,iJ,iJ,iJ,iJ,sk,sk] at two;have s1:bA (fun r=>if fix (cp N es) r=true then (nV N es r:Int) else 0) N=(N:Int):=by
  have:=nW hn (p:=fun _=>true) (g:=fun v=>v) N (fun x hx _=>hx);have e:=qp N;rw[e] at this;rw[<-this];refine cC N fun r _=> ?_
  unfold nV;simp only[Bool.true_and]
 have s2:bA (fun r=>if fix (cp N es) r=true then (nE N es r:Int) else 0) N=(es.length:Int):=by
  have:=nW hn (p:=fun _=>true) (g:=fun e=>Cs.fr es (2*e)) es.length (fun x hx _=>jo hv (by omega));have e:=qp es.length;rw[e] at this;rw[<-this];refine cC N fun r _=> ?_
  unfold nE;simp only[Bool.true_and]
 have s3:bA (fun r=>if fix (cp N es) r=true then (nF N es m r:Int) else 0) N=(cnt (2*es.length) m:Int):=by
  have:=nW hn (p:=fun x=>decide (m x=x)) (g:=fun x=>Cs.fr es x) (2*es.length) (fun x hx _=>jo hv hx);exact this
 rw[s1,s2,s3] at two;have e1:au (fun v=> !met es v) N=jP N es:=rfl;have e2:=E6 N (cp N es);rw[e1,e2] at two;omega
end
end Fa
end
section
namespace Fa
open Pl Co
def IZ (f:Nat->Nat) (h:Nat):Nat->Nat->List Nat
 |0,_=>[]
 |k+1,c=>if c=h then [] else c::IZ f h k (f c)
def eW (f:Nat->Nat) (n h:Nat):List Nat:=h::IZ f h n (f h)
def aQ (f:Nat->Nat) (n:Nat):Nat->List (List Nat)
 |0=>[]
 |k+1=>if (aQ f n k).flatten.contains k then aQ f n k else aQ f n k++[eW f n k]
def zl (l:List Nat):List Int:=l.map fun x:Nat=>(x:Int)
def oC (f:Nat->Nat) (n:Nat):List (List Int):=(aQ f n n).map zl
theorem nT (l:List Nat):(zl l).length=l.length:=by simp[zl]
theorem Rc {l:List Nat} {i x:Nat} (h:l[i]? =some x):(zl l)[i]? =some (x:Int):=by unfold zl;rw[aaY,h];rfl
def way (f:Nat->Nat) (h p:Nat):List Nat:=(List.range p).map fun i=>it f i h
theorem kG (f:Nat->Nat) (h p:Nat):(way f h p).length=p:=by simp[way]
theorem JK (f:Nat->Nat) (h p:Nat):way f h (p+1)=way f h p++[it f p h]:=by
 unfold way;rw[acw,abh];rfl
structure tE (f:Nat->Nat) (n h p:Nat):Prop where
 pos:0<p
 le:p<=n
 back:it f p h=h
 first:∀i,0<i->i<p->it f i h≠h
section
variable {n:Nat} {f m:Nat->Nat}
theorem vG (hp:gT n f) {h:Nat} (hh:h<n):∃p,tE f n h p:=by
 obtain⟨k,hk,e⟩:=xD hp.lt hp.inj hh;obtain⟨p,⟨h1,h2⟩,-,hmin⟩:=sI (P:=fun k=>0<k/\it f k h=h) ⟨hk,e⟩;refine⟨p,h1,?_,h2,fun i h3 h4 h5=>hmin i h4 ⟨h3,h5⟩⟩;have hn:(way f h p).Nodup:=by
  unfold List.Nodup way;rw[acj];refine acB ?_ List.pairwise_lt_range;intro i j hi hj hij e;rw[aaX] at hi hj;refine hmin (j-i) (by omega) ⟨by omega,?_⟩;have e2:it f j h=it f i (it f (j-i) h):=by rw[<-dh];congr 1;omega
  rw[e2] at e;exact(BZ hp.lt hp.inj i hh (lK hp.lt _ hh) e).symm
 have:=Az hn (n:=n) (fun y hy=>by
  unfold way at hy;obtain⟨i,_,rfl⟩:=abu.1 hy;exact lK hp.lt i hh)
 rwa[kG] at this
theorem Dz {h p:Nat} (hl:tE f n h p):∀(fu k:Nat),0<k->k<=p->p-k<=fu->IZ f h fu (it f k h)=((List.range (p-k)).map fun i=>it f (k+i) h)
 |0,k,_,h2,h3=>by
  have:p-k=0:=by omega
  rw[this];rfl
 |fu+1,k,h1,h2,h3=>by
  unfold IZ;by_cases e:k=p
  .subst e
   rw[if_pos hl.back];simp
  .rw[if_neg (hl.first k h1 (by omega)),<-jd f k h,Dz hl fu (k+1) (by omega) (by omega) (by omega)]
   have e2:p-k=(p-(k+1))+1:=by omega
   rw[e2,List.range_succ_eq_map,ab9,acI]
   congr 1
   refine aby fun i _=> ?_
   show it f (k+1+i) h=it f (k+(i+1)) h
   congr 1
   omega
theorem oD {h p:Nat} (hl:tE f n h p):eW f n h=way f h p:=by
 unfold eW way;have:=Dz hl n 1 (by omega) hl.pos (by have:=hl.le;omega);have e1:it f 1 h=f h:=rfl;rw[e1] at this;rw[this];have e2:p=(p-1)+1:=by have:=hl.pos;omega
 conv=>rhs;rw[e2,List.range_succ_eq_map,ab9,acI]
 congr 1
 refine aby fun i _=> ?_
 show it f (1+i) h=it f (i+1) h
 congr 1
 omega
theorem tE.mod {h p:Nat} (hl:tE f n h p) (k:Nat):it f k h=it f (k%p) h:=by
 have rep:∀t,it f (t*p) h=h:=fun t=>by
  induction t with
  |zero=>rw[Nat.zero_mul];rfl
  |succ t ih=>rw[ac1,dh,hl.back,ih]
 have:=Nat.mod_add_div k p
 conv=>lhs;rw[<-this,dh,Nat.mul_comm,rep]
theorem Mb {h p x:Nat} (hl:tE f n h p):x∈way f h p↔∃k,it f k h=x:=by
 unfold way;rw[abu];constructor
 .rintro⟨i,_,e⟩
  exact⟨i,e⟩
 .rintro⟨k,e⟩
  refine⟨k%p,aaX.2 (acd _ hl.pos),?_⟩;rw[<-hl.mod k];exact e
theorem sD (hp:gT n f) (ho:eT n f m) {h x:Nat} (hh:h<n):x∈eW f n h↔x<n/\m x=m h:=by
 obtain⟨p,hl⟩:=vG hp hh;rw[oD hl,Mb hl];constructor
 .rintro⟨k,rfl⟩
  have:=lK hp.lt k hh;exact⟨this,((ho.iff h _ hh this).2 ⟨k,rfl⟩).symm⟩
 .rintro⟨h1,h2⟩
  exact(ho.iff h x hh h1).1 h2.symm
theorem lG (hp:gT n f) (ho:eT n f m) {x:Nat}:∀k,k<=n->(x∈(aQ f n k).flatten↔x<n/\m x<k)
 |0,_=>by simp[aQ]
 |k+1,hk=>by
  have ih:=fun y=>lG hp ho (x:=y) k (by omega)
  have hkn:k<n:=by omega
  have hle:=ho.norm.le k hkn;unfold aQ;by_cases e:m k=k
  .rw[if_neg (by rw[ab3,ih k];omega),List.flatten_append,abl,ih x]
   simp only[List.flatten_cons,List.flatten_nil,abp];rw[sD hp ho hkn,e];omega
  .rw[if_pos (by rw[ab3,ih k];omega),ih x]
   constructor
   .rintro⟨h1,h2⟩
    exact⟨h1,by omega⟩
   .rintro⟨h1,h2⟩
    refine⟨h1,?_⟩;have:m x≠k:=fun hc=>by
     have:=ho.norm.idem x h1;rw[hc] at this;exact e this
    omega
theorem rH (hp:gT n f) (ho:eT n f m) {k:Nat} (hk:k<n) (e:m k=k):aQ f n (k+1)=aQ f n k++[eW f n k]:=by
 conv=>lhs;unfold aQ
 rw[if_neg (by rw[ab3,lG hp ho k (by omega)];omega)]
theorem uD (hp:gT n f) (ho:eT n f m) {k:Nat} (hk:k<n) (e:m k≠k):aQ f n (k+1)=aQ f n k:=by
 have:=ho.norm.le k hk
 conv=>lhs;unfold aQ
 rw[if_pos (by rw[ab3,lG hp ho k (by omega)];omega)]
theorem jS (hp:gT n f) (ho:eT n f m):∀k,k<=n->aQ f n k=((List.range k).filter (fix m)).map (eW f n)
 |0,_=>rfl
 |k+1,hk=>by
  have ih:=jS hp ho k (by omega);rw[acw,acA,abh,<-ih];by_cases e:m k=k
  .rw[rH hp ho (by omega) e]
   have:fix m k=true:=by unfold fix;simpa using e
   simp[this]
  .rw[uD hp ho (by omega) e]
   have:fix m k=false:=by unfold fix;simpa using e
   simp[this]
theorem lX (hp:gT n f) (ho:eT n f m) {k:Nat} (hk:k<=n):(aQ f n k).length=au (fix m) k:=by
 rw[jS hp ho k hk,aaP,b9]
theorem ET (hp:gT n f) (ho:eT n f m):(oC f n).length=cnt n m:=by
 unfold oC;rw[aaP,lX hp ho (aaD _)];rfl
theorem qh (p:Nat->Bool):∀{n x:Nat},x<n->p x=true->((List.range n).filter p)[au p x]? =some x
 |0,x,h,_=>by omega
 |n+1,x,h,hx=>by
  rw[acw,acA];by_cases e:x=n
  .subst e
   rw[aa4 (by rw[b9];exact aaD _),b9,Nat.sub_self];simp[hx]
  .have ih:=qh p (n:=n) (x:=x) (by omega) hx
   rw[aaU (aaF.1 ih).1];exact ih
theorem EU (hp:gT n f) (ho:eT n f m) {j:Nat} {l:List Nat} (h:(aQ f n n)[j]? =some l):∃r,r<n/\m r=r/\l=eW f n r/\au (fix m) r=j:=by
 rw[jS hp ho n (aaD _),aaY] at h;obtain⟨r,hr,rfl⟩:=abg.1 h;obtain⟨h1,h2⟩:=ace.1 (aaG hr);rw[aaX] at h1;have h3:m r=r:=by unfold fix at h2;exact of_decide_eq_true h2
 refine⟨r,h1,h3,rfl,?_⟩;have h4:=qh (fix m) h1 h2;have hn:((List.range n).filter (fix m)).Nodup:=acN _ ac4;obtain⟨a1,a2⟩:=aaF.1 hr;obtain⟨b1,b2⟩:=aaF.1 h4;rcases abF (au (fix m) r) j with c|c|c
 .exact absurd (b2.trans a2.symm) (aa8.1 hn _ _ b1 a1 c)
 .exact c
 .exact absurd (a2.trans b2.symm) (aa8.1 hn _ _ a1 b1 c)
end
end Fa
end
section
namespace Fa
open Pl Co
def hd (l:List Nat):Nat:=l.headD 0
def zF (N:Nat) (es:List (Int×Int)) (fs:List (List Nat)) (j k:Nat):Nat:=au (fun i=>decide (num (cp N es) (Cs.fr es (hd (fs.getD i [])))=j)) k
theorem uH (q:Nat->Bool) (l:List Nat):∀k,k<=l.length->au (fun i=>q (l.getD i 0)) k=((l.take k).filter q).length
 |0,_=>by simp[au]
 |k+1,hk=>by
  have hx:l[k]? =some l[k]:=by simp
  show au (fun i=>q (l.getD i 0)) k+(if q (l.getD k 0)=true then 1 else 0)=_;rw[uH q l k (by omega),abG,hx,acA,aaN,aaI,hx];by_cases h:q l[k]=true
  .simp[h]
  .simp[h]
theorem E7 (q:Nat->Bool) (l:List Nat):au (fun i=>q (l.getD i 0)) l.length=(l.filter q).length:=by
 rw[uH q l l.length (aaD _),abn]
section
variable {N:Nat} {es:List (Int×Int)} {ls:List (List Int)} {m:Nat->Nat}
theorem OB (h:Ro.eY N es ls) (hm:eT (2*es.length) (ph es ls) m) (j:Nat):zF N es (aQ (ph es ls) (2*es.length) (2*es.length)) j (aQ (ph es ls) (2*es.length) (2*es.length)).length=cF N es m j (2*es.length):=by
 have e:=jS (vD h) hm (2*es.length) (aaD _);have e1:=E7 (fun x=>decide (num (cp N es) (Cs.fr es x)=j)) ((List.range (2*es.length)).filter (fix m));have e2:cF N es m j (2*es.length)=(((List.range (2*es.length)).filter (fix m)).filter (fun x=>decide (num (cp N es) (Cs.fr es x)=j))).length:=by
  unfold cF;rw[b9,List.filter_filter]
  congr 1
  refine List.filter_congr fun x _=> ?_
  unfold fix;exact Bool.and_comm _ _
 rw[e2,<-e1];unfold zF;rw[e,aaP];refine aO _ fun i hi=> ?_
 have e3:hd ((((List.range (2*es.length)).filter (fix m)).map (eW (ph es ls) (2*es.length))).getD i [])=((List.range (2*es.length)).filter (fix m)).getD i 0:=by
  rw[aaI,aaI,aaY,aaC hi];rfl
 rw[e3]
theorem PD {j:Nat}:0<cV N es j N↔j<cnt N (cp N es):=by
 have hn:=(vL (N:=N) (es:=es)).norm;constructor
 .intro h
  have:∃v,v<N/\num (cp N es) v=j:=aa9 fun hc=>by
   have:cV N es j N=0:=by
    unfold cV;rw[aO (q:=fun e=>decide (e=N)) N (fun i hi=>by
     have h1:¬num (cp N es) i=j:=fun e=>hc ⟨i,hi,e⟩
     have h2:¬i=N:=by omega
     simp[h1,h2]),cS,if_neg (by omega)]
   omega
  obtain⟨v,hv,rfl⟩:=this;exact vF hn hv
 .intro h
  have h0:j<((List.range N).filter (fix (cp N es))).length:=by rw[<-b9];exact h
  obtain⟨r,hr⟩:∃r,((List.range N).filter (fix (cp N es)))[j]? =some r:=⟨_,aaC h0⟩;obtain⟨h1,h2⟩:=ace.1 (aaG hr);rw[aaX] at h1;have h4:=qh (fix (cp N es)) h1 h2;have hnd:((List.range N).filter (fix (cp N es))).Nodup:=acN _ ac4;obtain⟨a1,a2⟩:=aaF.1 hr;obtain⟨b1,b2⟩:=aaF.1 h4;have hj:au (fix (cp N es)) r=j:=by
   rcases abF (au (fix (cp N es)) r) j with c|c|c
   .exact absurd (b2.trans a2.symm) (aa8.1 hnd _ _ b1 a1 c)
   .exact c
   .exact absurd (a2.trans b2.symm) (aa8.1 hnd _ _ a1 b1 c)
  unfold cV;refine qo (x:=r) N h1 ?_;rw[decide_eq_true_iff,<-hj];exact(num_eq hn h1 h2).2 (of_decide_eq_true h2)
end
end Fa
end
section
open Go.Proofs.Tryz
open Go.RowKit Go.Maps
def dH (v:Value):Option (DataW Unit×List MemPlace):=
 match v with
 | .agg cs=>
   match cs.toList with
   |[.int .i64 a,.int .i64 b,.int .i64 c]=>some (.agg [.lit (.int .i64 a),.lit (.int .i64 b),.lit (.int .i64 c)],[])
   |_=>none
 |_=>none
theorem uI (a b c:Int):dH (.agg #[.int .i64 a,.int .i64 b,.int .i64 c])=some (.agg [.lit (.int .i64 a),.lit (.int .i64 b),.lit (.int .i64 c)],[]):=rfl
theorem l5 {v:Value} {y:DataW Unit×List MemPlace} (h:dH v=some y):∃a b c:Int,v= .agg #[.int .i64 a,.int .i64 b,.int .i64 c]/\y=(.agg [.lit (.int .i64 a),.lit (.int .i64 b),.lit (.int .i64 c)],[]):=by
 unfold dH at h
 split at h
 .rename_i cs
  split at h
  .rename_i a b c e
   refine⟨a,b,c,?_,(aaQ h).symm⟩;obtain⟨l⟩:=cs;simp only at e;rw[e]
  .cases h
 .cases h
theorem I7:Keyed prog 3:=int_keyed Tryz.underlying3
theorem Lu (w:World):(zeroValue 315).run prog w= .ok (.agg #[.int .i64 0,.int .i64 0,.int .i64 0]) w:=by kernel_rfl
def cD (a b c:Nat):DataW Unit:= .agg [.lit (.int .i64 (a:Int)),.lit (.int .i64 (b:Int)),.lit (.int .i64 (c:Int))]
def kJ (j:Nat):Lit:= .int .i64 (j:Int)
theorem BX {i j:Nat} (h:kJ i=kJ j):i=j:=by
 unfold kJ at h;injection h with _ h
 omega
structure YU (w:World) (b n:Nat) (hs:Nat->Bool) (x y z:Nat->Nat) (D:DataW Unit):Prop where
 own:w.ownsMap prog 3 dH b n D
 at_:∀j,D.atKey (kJ j) (cD 0 0 0)=cD (x j) (y j) (z j)
 has:∀kl,Maps.has D kl=true↔∃j,kl=kJ j/\hs j=true
def PM (w:World) (b n:Nat) (hs:Nat->Bool) (x y z:Nat->Nat):Prop:=∃D,YU w b n hs x y z D
theorem PM.kept {w w':World} {b n:Nat} {hs:Nat->Bool} {x y z:Nat->Nat} (h:PM w b n hs x y z) (hb:w'.heap[b]? =w.heap[b]?):PM w' b n hs x y z:=by
 obtain⟨D,⟨es,clock,h1,h2⟩,h3,h4⟩:=h;exact⟨D,⟨es,clock,hb.trans h1,h2⟩,h3,h4⟩
theorem PM.lt {w:World} {b n:Nat} {hs:Nat->Bool} {x y z:Nat->Nat} (h:PM w b n hs x y z):b<w.heap.size:=by
 obtain⟨D,h1,_⟩:=h;exact h1.lt
theorem z8 {j:Nat} (h:j<=4611686018427387904):(Lit.int .i64 (j:Int)).wf=true:=by
 have e1:IntKind.i64.min= -9223372036854775808:=rfl;have e2:IntKind.i64.max=9223372036854775807:=rfl;simp only[Lit.wf,aaZ,decide_eq_true_eq,e1,e2];omega
theorem BW (j:Nat):WideAt.IsKeyLit (kJ j):=trivial
theorem rX {ops:Array Oper} {rest:List Oper} {o:Oper} {a:Act} {Q:Exit->Act->World->Prop} (hgd:o.guard=none) (m k v:Operand) (ho:o.op=Op.mapUpdate 311 m k v) (w W:World) (b n:Nat) (hs:Nat->Bool) (x y z:Nat->Nat) (h:PM w b n hs x y z) (hW:Below w.heap.size w W)
 (hn:n<=4611686018427387904) (j c1 c2 c3:Nat) (hj:j<=4611686018427387904) (hm:a.eval m= .map (some b)) (hk:a.eval k= .int .i64 (j:Int)) (hv:a.eval v= .agg #[.int .i64 (c1:Int),.int .i64 (c2:Int),.int .i64 (c3:Int)])
 (hK:∀w',PM w' b (n+1) (Co.bB hs j true) (Co.upd x j c1) (Co.upd y j c2) (Co.upd z j c3)->aj (fun k=>k=b) w w'->wpList prog ops Q rest (a.put o.dst undef) w'):wpList prog ops Q (o::rest) a W:=by
 have hlt:=h.lt;obtain⟨D,hD,hat,hhas⟩:=h;have hown:W.ownsMap prog 3 dH b n D:=by
  obtain⟨es,clock,h1,h2⟩:=hD;exact⟨es,clock,(hW.block b hlt).trans h1,h2⟩
 have hmap:=hown.isMap;refine wpList_mapUpdate_own W hgd m k v 311 ho 3 315 I7 Tryz.underlying311 dH b n D hm hown (by unfold maxLen;omega) _ _ (kJ j) hk hv (keyOf_int_mk Tryz.underlying3 (z8 hj)) _ [] (uI _ _ _) ?_;intro w' ho' hg';refine hK w' ⟨_,ho',fun i=> ?_,fun kl=> ?_⟩ ⟨hg'.os.trans hW.os,hg'.tape.trans hW.tape,hg'.output.trans hW.output,aaM hW.size hg'.size,fun i hi hne=>(hg'.block i (aa0 hi hW.size) (fun e=>hne (aaQ e))).trans (hW.block i hi)⟩
 .by_cases e:i=j
  .subst e
   rw[atKey_put_same hmap (BW i),Co.upd_same,Co.upd_same,Co.upd_same];rfl
  .rw[atKey_put_other (fun h=>e (BX h)),Co.aU _ e,Co.aU _ e,Co.aU _ e]
   exact hat i
 .by_cases e:kl=kJ j
  .subst e
   rw[has_put_same hmap (BW j)];exact⟨fun _=>⟨j,rfl,Co.fS _ _ _⟩,fun _=>rfl⟩
  .rw[has_put_other e,hhas]
   constructor
   .rintro⟨i,rfl,hi⟩
    exact⟨i,rfl,by rw[Co.dS _ (fun h=>e (by rw[h]))];exact hi⟩
   .rintro⟨i,rfl,hi⟩
    exact⟨i,rfl,by rwa[Co.dS _ (fun h=>e (by rw[h]))] at hi⟩
theorem yI (b n:Nat) (hs:Nat->Bool) (x y z:Nat->Nat) (j a1 a2 a3:Nat) (w:World) (h:PM w b n hs x y z) (hn:n<=4611686018427387904) (hj:j<=4611686018427387904) (h1:x j+a1<=4611686018427387904) (h2:y j+a2<=4611686018427387904) (h3:z j+a3<=4611686018427387904):
 Calls prog 259 #[.map (some b),.int .i64 (j:Int),.agg #[.int .i64 (a1:Int),.int .i64 (a2:Int),.int .i64 (a3:Int)]] w fun e w'=>e= .returned (.tuple #[])/\PM w' b (n+1) (Co.bB hs j true) (Co.upd x j (x j+a1)) (Co.upd y j (y j+a2)) (Co.upd z j (z j+a3))/\aj (fun k=>k=b) w w':=by
 have hlt:=h.lt;obtain⟨D,hD,hat,hhas⟩:=h;obtain⟨w1,hw1⟩:∃w1,w1=w.alloc (.cells #[.int .i64 (a1:Int),.int .i64 (a2:Int),.int .i64 (a3:Int)] 315):=⟨_,rfl⟩;have hown1:w1.ownsMap prog 3 dH b n D:=by rw[hw1];exact hD.alloc _
 have hkey:keyOf prog 3 (.int .i64 (j:Int))=some (kJ j):=keyOf_int_mk Tryz.underlying3 (z8 hj);obtain⟨v,ps,hrun,hv⟩:=hown1.lookup (t:=311) I7 Tryz.underlying311 (Lu w1) (uI 0 0 0) hkey;have e0:(DataW.agg [.lit (.int .i64 0),.lit (.int .i64 0),.lit (.int .i64 0)]:DataW Unit)=cD 0 0 0:=rfl;rw[e0,hat j] at hv;obtain⟨v1,v2,v3,rfl,je⟩:=l5 hv;unfold cD at je;simp only[Prod.mk.injEq,DataW.agg.injEq,ab2,DataW.lit.injEq,Lit.int.injEq,true_and,and_true] at je;obtain⟨⟨k1,k2,k3⟩,-⟩:=je;subst k1 k2 k3;have q1:IntKind.i64.wrap ((x j:Int)+(a1:Int))=(x j:Int)+(a1:Int):=by rw[aaK];omega
 have q2:IntKind.i64.wrap ((y j:Int)+(a2:Int))=(y j:Int)+(a2:Int):=by rw[aaK];omega
 have q3:IntKind.i64.wrap ((z j:Int)+(a3:Int))=(z j:Int)+(a3:Int):=by rw[aaK];omega
 rw[hw1] at hrun;have HP:Hid (PM w b n hs x y z):=⟨D,hD,hat,hhas⟩;clear hD hat hhas hv hw1 hown1 hkey e0;go_enter func259,ntmps259;go_wp2_with (at_mapUpdate;refine rX rfl _ _ _ rfl w _ b n hs x y z HP.out (by repeat (first|exact aaE _ _|refine acU ?_ (by simp) _|refine abK ?_ (by first|(simp;done)|(simp;omega)) _)) hn j (x j+a1) (y j+a2) (z j+a3) hj rfl rfl rfl ?_;refine aaH ?_);refine ζ ?_;intro w' hp' hw';go_wp2
 go_end0
 exact⟨rfl,hp',hw'⟩
end
end Go.Proofs.YtdbjpbjocmcpkaaGreatDoor
