import Derived.Test.YtdbjpbjocmcpkaaGreatDoorMk36
import Derived.Test.YtdbjpbjocmcpkaaGreatDoorMk16
import Derived.Deep.Matrix
import Derived.Lib.SlBytesConst
import Derived.Test.YtdbjpbjocmcpkaaGreatDoorMk22
set_option maxHeartbeats 4000000
set_option maxRecDepth 100000
namespace Go.Proofs.YtdbjpbjocmcpkaaGreatDoor
section
namespace Ck
section
variable {es:List (Int×Int)} {n m:Int} (h:Si.Val n es) (h':Si.Val m es)
theorem Jn:Ku.gs es h=Ku.gs es h':=rfl
theorem Jt (e:Nat):Ku.ch es h e=Ku.ch es h' e:=by unfold Ku.ch;rw[Jn h h']
theorem Hf (e:Nat):Ku.First es h e=Ku.First es h' e:=by unfold Ku.First;rw[Jt h h']
theorem yA:∀k,Ku.fO es h k=Ku.fO es h' k
 |0=>rfl
 |k+1=>by
  simp only[Ku.fO];have e:=Hf h h' k;by_cases hf:Ku.First es h' k
  .rw[if_pos hf,if_pos (by rw[e];exact hf),yA k,Jt h h']
  .rw[if_neg hf,if_neg (by rw[e];exact hf),yA k]
theorem JY (k:Nat):Ku.rows es h k=Ku.rows es h' k:=by unfold Ku.rows;rw[yA h h',Jn h h']
end
theorem Np {m:Nat} {es:List (Int×Int)} (hv:Si.Val (m:Int) es) {j:Nat} (h:j<2*es.length):Cs.fr es j<m:=by
 obtain⟨p,hp⟩:∃p,es[j/2]? =some p:=⟨_,aaC (by omega)⟩;have hk:=hv.each _ _ hp;unfold Si.ok at hk;unfold Cs.fr;rw[aaI,hp];simp only[acn]
 split<;>omega
theorem Ns {m:Nat} {es:List (Int×Int)} (hv:Si.Val (m:Int) es) {v:Nat} (h:m<=v):Ku.dg es v=0:=by
 unfold Ku.dg;cases hl:Cs.out es v (2*es.length) with
 |nil=>rfl
 |cons i l=>
  have h1:=Cs.jN (es:=es) (v:=v) (k:=2*es.length) (j:=0) (i:=i) (by rw[hl];rfl);have h2:=Np hv h1.1;omega
theorem near {n:Int} {es:List (Int×Int)} {ar:List (List Int)} (h:Ro.eY n es (Ro.hls es 0 ar)) {u:Nat} {l:List Int} {y:Int} (hl:ar[u]? =some l) (hy:y∈l):∃j,j<2*es.length/\Cs.fr es j=u/\(Cs.to es j:Int)=y:=by
 have h1:=Ro.vH (es:=es) (k:=0) hl;rw[aa7] at h1;have h2:=(h.each u _ h1).lv (Ro.hl es u y) (abu.2 ⟨y,hy,rfl⟩);cases hh:Ro.half es u y (2*es.length) with
 |none=>
  rw[(Ro.B9 hh).1,(Ro.B9 hh).2] at h2;cases h2
 |some j=>exact⟨j,Ro.fy hh⟩
theorem La {m:Nat} {es:List (Int×Int)} {ar:List (List Int)} (h:Ro.eY (m:Int) es (Ro.hls es 0 ar)) {j:Nat} (hj:j<2*es.length):∃l,ar[Cs.fr es j]? =some l/\(Cs.to es j:Int)∈l:=by
 have hv:Si.Val (m:Int) es:=Si.aJ.1 h.val;obtain⟨l,i,h1,h2⟩:=h.place hj (by have:=Np hv hj;omega);have hlen:=(aaF.1 h1).1;rw[Ro.xM] at hlen;obtain⟨l0,h0⟩:∃l0,ar[Cs.fr es j]? =some l0:=⟨_,aaC hlen⟩;have h3:=Ro.vH (es:=es) (k:=0) h0;rw[aa7,h1] at h3;cases h3;refine⟨l0,h0,?_⟩;have hh:=Ro.RY hv hj rfl rfl;exact(Ro.Pd hh).1 (aaG h2.1)
theorem LX {m:Nat} {es fs:List (Int×Int)} {ar:List (List Int)} (h:Ro.eY (m:Int) es (Ro.hls es 0 ar)) (h':Ro.eY (m:Int) fs (Ro.hls fs 0 ar)):fs.length<=es.length:=by
 have hv:Si.Val (m:Int) es:=Si.aJ.1 h.val;have hv':Si.Val (m:Int) fs:=Si.aJ.1 h'.val;have hsub:∀x∈fs,x∈es:=fun x hx=>by
  obtain⟨i,hi⟩:=abf hx;have hil:=(aaF.1 hi).1;have ho:=hv'.each i x hi;unfold Si.ok at ho;have e1:Cs.fr fs (2*i)=x.1.toNat:=by unfold Cs.fr;rw[if_pos (by omega),show 2*i/2=i by omega,aaI,hi];rfl
  have e2:Cs.to fs (2*i)=x.2.toNat:=by unfold Cs.to;rw[if_pos (by omega),show 2*i/2=i by omega,aaI,hi];rfl
  obtain⟨l,hl,hy⟩:=La h' (j:=2*i) (by omega);obtain⟨j,hj,h1,h2⟩:=near h hl hy;obtain⟨p,hp⟩:∃p,es[j/2]? =some p:=⟨_,aaC (by omega)⟩;have hk:=hv.each _ _ hp;unfold Si.ok at hk;rw[e1] at h1;rw[e2] at h2;unfold Cs.fr at h1;unfold Cs.to at h2;rw[aaI,hp] at h1 h2;simp only[acn] at h1 h2;have:p=x:=by
   obtain⟨p1,p2⟩:=p;obtain⟨x1,x2⟩:=x;dsimp only at*
   split at h1
   .rw[if_pos (by assumption)] at h2
    have a1:p1=x1:=by omega
    have a2:p2=x2:=by omega
    rw[a1,a2]
   .rw[if_neg (by assumption)] at h2
    omega
  rw[<-this];exact aaG hp
 have:=ou es fs 0 (Aq hv.up) (Aq hv'.up) hsub;have:=(ot es fs 0).2;omega
theorem K8 {m:Nat} {es:List (Int×Int)} (hv:Si.Val (m:Int) es):Ku.bz es (m+1)=Ku.bz es m:=Ku.vM fun h=>h.1 (Ns hv (aaD _))
theorem Mk {n:Int} {es:List (Int×Int)} (hv:Si.Val n es) (hv':Si.Val (n+1) es):(Ku.kr (n+1) es).2.2.2.1=(Ku.kr n es).2.2.2.1:=by
 obtain⟨m,rfl⟩:∃m:Nat,n=(m:Int):=⟨n.toNat,by have:=hv.lo;omega⟩;have e:Ku.gJ (Ku.rows es hv' es.length) es ((m:Int)+1).toNat=Ku.gJ (Ku.rows es hv es.length) es (m:Int).toNat:=by
  rw[JY hv' hv];have e1:((m:Int)+1).toNat=m+1:=by omega
  rw[e1,abb];unfold Ku.gJ;rw[K8 hv]
 unfold Ku.kr;rw[dif_pos hv',dif_pos hv,e]
theorem Cr {n:Int} {es:List (Int×Int)} {c:Ce.Cert} (h:code n es c=0) (hv':Si.Val (n+1) es):code (n+1) es c=if c.pl=true then 182 else 0:=by
 have hval:Si.valid n es=true:=by
  cases hx:Si.valid n es with
  |true=>rfl
  |false=>rw[oH hx] at h;cases h
 have hmay:may c=true:=by
  cases hx:may c with
  |true=>rfl
  |false=>rw[oG hval hx] at h;cases h
 have hval':=Si.aJ.2 hv';cases hp:c.pl with
 |true=>
  rw[gR hval hmay hp] at h;rw[if_pos rfl,gR hval' hmay hp];have hc:(Ro.check n es (Ro.hls es 0 c.ar)).2=0:=by
   by_cases hc:(Ro.check n es (Ro.hls es 0 c.ar)).2=0
   .exact hc
   .rw[if_pos hc] at h;cases h
  refine if_pos fun h2=> ?_
  have h3:=(Ro.fA.1 hc).len;have h4:=(Ro.fA.1 h2).len;omega
 |false=>
  rw[ju hval hmay hp] at h;rw[if_neg (fun h=>by cases h),ju hval' hmay hp];have hin:∀x∈c.es,x∈es:=by
   apply aa9;intro hn;rw[if_pos hn] at h;cases h
  rw[if_neg (fun hn=>hn hin)] at h ⊢;have hok:Ce.J7 c.es:=by
   have:=(BP hmay).1;unfold Ce.good at this;rw[if_neg (by rw[hp];decide)] at this;exact this.2.1
  have rq:=Si.aJ.1 hval;have pX:Si.Val n c.es:=val_sub rq (iL es c.es 0 ((oq rq hok).2 hin));have Ui:Si.Val (n+1) c.es:=val_sub hv' (iL es c.es 0 ((oq hv' hok).2 hin));rw[Mk pX Ui];exact h
theorem Hs {n:Int} {es fs:List (Int×Int)} {c:Ce.Cert} (h:code n es c=0) (hv':Si.Val n fs) (hsub:∀x∈es,x∈fs):(c.pl=true->es.length<fs.length->code n fs c=182)/\(c.pl=false->code n fs c=0):=by
 have hval:Si.valid n es=true:=by
  cases hx:Si.valid n es with
  |true=>rfl
  |false=>rw[oH hx] at h;cases h
 have hmay:may c=true:=by
  cases hx:may c with
  |true=>rfl
  |false=>rw[oG hval hx] at h;cases h
 have hval':=Si.aJ.2 hv';refine⟨fun hp hl=> ?_,fun hp=> ?_⟩
 .rw[gR hval hmay hp] at h
  rw[gR hval' hmay hp];have hc:(Ro.check n es (Ro.hls es 0 c.ar)).2=0:=by
   by_cases hc:(Ro.check n es (Ro.hls es 0 c.ar)).2=0
   .exact hc
   .rw[if_pos hc] at h;cases h
  obtain⟨m,rfl⟩:∃m:Nat,n=(m:Int):=⟨n.toNat,by have:=hv'.lo;omega⟩;exact if_pos fun h2=>by
   have:=LX (Ro.fA.1 hc) (Ro.fA.1 h2);omega
 .rw[ju hval hmay hp] at h
  rw[ju hval' hmay hp];have hin:∀x∈c.es,x∈es:=by
   apply aa9;intro hn;rw[if_pos hn] at h;cases h
  rw[if_neg (fun hn=>hn hin)] at h;rw[if_neg (fun hn=>hn fun x hx=>hsub x (hin x hx))];exact h
end Ck
end
namespace Ck
theorem wX {p:Int×Int} (h:p.1<p.2):Si.norm p=p:=by
 unfold Si.norm;exact Prod.ext (by show min _ _=_;omega) (by show max _ _=_;omega)
theorem xk {n:Int} {es:List (Int×Int)} (hv:Si.Val n es):Si.made [] es=es:=by
 refine(Si.lI es).same ⟨Aq hv.up,fun e=> ?_⟩;constructor
 .intro he
  obtain⟨j,hj⟩:=abf he;have:=hv.each j e hj;unfold Si.ok at this;exact⟨e,he,by omega,(wX this.2.1).symm⟩
 .rintro⟨p,hp,hne,rfl⟩
  obtain⟨j,hj⟩:=abf hp;have:=hv.each j p hj;unfold Si.ok at this;rw[wX this.2.1];exact hp
theorem Gr {n:Int} {es:List (Int×Int)} (hv:Si.Val n es) (h:n<1048576):Si.mk (n+1) es=(n+1,es,0)/\Si.Val (n+1) es:=by
 have h0:=hv.lo;have hf:=hv.few;have hin:Si.inside (n+1) es=true:=Si.uu fun j p hj=>by
  have:=hv.each j p hj;unfold Si.ok at this;unfold Si.xF;omega
 refine⟨?_,⟨by omega,by omega,hf,fun j p hj=> ?_,hv.up⟩⟩
 .unfold Si.mk
  rw[if_neg (by rw[hin];simp;omega),xk hv,if_neg (by omega)]
 .have:=hv.each j p hj
  unfold Si.ok at this ⊢;omega
theorem O0 (n:Int) (ps:List (Int×Int)):(Si.mk n ps).2.1.length<=ps.length:=by
 unfold Si.mk
 split
 .simp
 .split
  .simp
  .have:=(Si.iC ps []).2
   simpa using this
theorem Ma {n:Int} {es:List (Int×Int)} {q:Int×Int} (hv:Si.Val n es) {N:Int} {fs:List (Int×Int)} {c:Int} (h:Si.mk n (es++[q])=(N,fs,c)) (hc:c=0):N=n/\Si.Val n fs/\∀x∈es,x∈fs:=by
 unfold Si.mk at h
 split at h
 .cases h;cases hc
 .rename_i h1
  split at h
  .cases h;cases hc
  .rename_i h2
   cases h;have hin:Si.inside n (es++[q])=true:=by
    cases hx:Si.inside n (es++[q]) with
    |true=>rfl
    |false=>exact absurd (.inr (.inr hx)) h1
   refine⟨rfl,Si.Kc hv.lo hv.hi (fun j p hj=>Si.GD hin hj) (by omega),fun x hx=> ?_⟩;obtain⟨j,hj⟩:=abf hx;have:=hv.each j x hj;unfold Si.ok at this;exact((Si.lI (es++[q])).2 x).2 ⟨x,by simp[hx],by omega,(wX this.2.1).symm⟩
end Ck
section
open Go.RowKit Go.Sort
namespace Fa
def Uc (j:Nat) (l:List Nat) (acc:List Int):List Int:=l.foldl (fun acc h=>acc.set h (j:Int)) acc
def lay (fs:List (List Nat)):Nat->List Int->List Int
 |0,acc=>acc
 |k+1,acc=>Uc k (fs.getD k []) (lay fs k acc)
def left (es:List (Int×Int)) (ls:List (List Int)):List Int:=lay (aQ (ph es ls) (2*es.length) (2*es.length)) (aQ (ph es ls) (2*es.length) (2*es.length)).length (List.replicate (2*es.length) 0)
section
end
end Fa
end
section
open Go.RowKit Go.Sort
structure nR (n:Int) (ao:Option Addr) (ca:Nat) (es:List (Int×Int)) (b:Bool) (ar:List (List Int)) (xs:List (Int×Int)) (xo eo:Option Addr) (xc ec:Nat) (w V:World):Prop where
 low:Below w.heap.size w V
 g:V.heap[w.heap.size]? =some (.cells #[.int .i64 n,.slice ao es.length ca] 24 (0,0))
 c:V.heap[w.heap.size+1]? =some (.cells #[.bool b,.slice xo ar.length xc,.slice eo xs.length ec] 27 (0,0))
section
variable {n:Int} {ao:Option Addr} {ca:Nat} {es:List (Int×Int)} {b:Bool} {ar:List (List Int)} {xs:List (Int×Int)} {xo eo:Option Addr} {xc ec:Nat} {w V V':World}
theorem nR.later (h:nR n ao ca es b ar xs xo eo xc ec w V) (hb:Below V.heap.size V V'):nR n ao ca es b ar xs xo eo xc ec w V':=⟨h.low.trans (hb.mono h.low.size),(hb.block _ (lt_of_block h.g)).trans h.g,(hb.block _ (lt_of_block h.c)).trans h.c⟩
theorem nR.start:nR n ao ca es b ar xs xo eo xc ec w ((w.alloc (.cells #[.int .i64 n,.slice ao es.length ca] 24)).alloc (.cells #[.bool b,.slice xo ar.length xc,.slice eo xs.length ec] 27)):=by
 refine⟨((aaE _ _).alloc (aaD _) _).alloc (by simp) _,?_,?_⟩
 .rw[aaO _ _ _ (by simp)]
  exact heap_alloc_new w _
 .have:=heap_alloc_new (w.alloc (.cells #[.int .i64 n,.slice ao es.length ca] 24)) (.cells #[.bool b,.slice xo ar.length xc,.slice eo xs.length ec] 27)
  rwa[aa1] at this
theorem nR.all (h:nR n ao ca es b ar xs xo eo xc ec w V):V.cell? ⟨w.heap.size,0,none⟩=some (.int .i64 n)/\V.cell? ⟨w.heap.size,1,none⟩=some (.slice ao es.length ca)/\V.cell? ⟨w.heap.size+1,0,none⟩=some (.bool b)/\V.cell? ⟨w.heap.size+1,1,none⟩=some (.slice xo ar.length xc)/\V.cell? ⟨w.heap.size+1,2,none⟩=some (.slice eo xs.length ec)/\w.heap.size+1<V.heap.size:=by
 obtain⟨g0,g1,-⟩:=af h.g;obtain⟨c0,c1,c2,-⟩:=aR h.c;exact⟨g0,g1,c0,c1,c2,lt_of_block h.c⟩
end
namespace Ck
end Ck
end
section
open Go.RowKit
namespace Ce
structure Small (c:Cert):Prop where
 ar:c.ar.length<=1048576
 es:c.es.length<=4194304
 row:∀l∈c.ar,l.length<=33554432
 txt:(eP c).length<=33554432
end Ce
end
section
open Go.Proofs.Tryz
open Go.ChangeShapes Go.WideShapes Go.ChangeAt Go.RowKit Go.Deep
theorem Hv:prog.cellsOf 27=3:=by kernel_rfl
theorem Fg:prog.cellsOf 25=1:=by kernel_rfl
theorem Hu:prog.cellsOf 55=1:=by kernel_rfl
theorem Hw:prog.cellsOf 4=1:=by kernel_rfl
theorem A6 {H:Type}:∀a b:List (DataW H),Rows.uptoBulkAll (a++b)=Rows.uptoBulkAll a+Rows.uptoBulkAll b
 |[],b=>by simp[Rows.uptoBulkAll]
 |x::a,b=>by
  have:=A6 a b;simp only[abC,Rows.uptoBulkAll,this];omega
theorem K6 {H:Type} (k:IntKind) (A:Option Addr) (L:Nat) (zs:List Int) (hA:A=none->zs=[]):zs.length+1<=Rows.uptoBulk (intRow k A L zs:DataW H):=by
 cases A with
 |none=>
  rw[hA rfl];simp[intRow,Rows.uptoBulk]
 |some a=>
  have h1:=l8 (lits k (zs.take L):List (DataW H));have h2:=l8 (lits k (zs.drop L):List (DataW H));simp only[lits,aaP,abq,acC] at h1 h2;simp only[intRow,Rows.uptoBulk];unfold lits;omega
structure dm (w:World) (pl:Bool) (ao:Option Addr) (ls:List (List Int)) (eo:Option Addr) (ce:Nat) (es:List (Int×Int)):Prop where
 ar:Ce.oK w ao ls
 ed:ah w eo es
 nil:eo=none->ce=0
 sum:(ls.map fun l=>l.length+1).sum+es.length<=1048576
theorem dm.later {w w':World} {pl:Bool} {ao:Option Addr} {ls:List (List Int)} {eo:Option Addr} {ce:Nat} {es:List (Int×Int)} (h:dm w pl ao ls eo ce es) (hb:Below w.heap.size w w'):dm w' pl ao ls eo ce es:=⟨h.ar.later hb,h.ed.later hb,h.nil,h.sum⟩
theorem C8 (ls:List (List Int)):ls.length<=(ls.map fun l=>l.length+1).sum:=by
 induction ls with
 |nil=>simp
 |cons l r ih=>simp;omega
theorem C7 {ls:List (List Int)} {l:List Int} (h:l∈ls):l.length+1<=(ls.map fun l=>l.length+1).sum:=by
 induction ls with
 |nil=>cases h
 |cons x r ih=>
  simp;rcases aaW.1 h with rfl|h
  .omega
  .have:=ih h
   omega
section
variable {H:Type} {enc:TypeId×Value->H} {W:World} {base:Nat}
theorem zu {e:TypeId} {f0 f1 f2:Field} (he:prog.underlying e=some (.struct #[f0,f1,f2])) (o0:f0.offset=0) (o1:f1.offset=1) (o2:f2.offset=2) (t0:f0.type=4) (t1:f1.type=25) (t2:f2.type=22)
 {fuel:Nat} {u v z:Value} {x:DataW H×List MemPlace} (h:DataW.trod enc prog W 0 (fun _=>true) true fuel e [u,v,z]=some x):
 ∃(m:Nat) (y0 y1 y2:DataW H×List MemPlace),DataW.trod enc prog W 0 (fun _=>true) true m 4 [u]=some y0/\DataW.trod enc prog W 0 (fun _=>true) true m 25 [v]=some y1/\DataW.trod enc prog W 0 (fun _=>true) true m 22 [z]=some y2/\x.1= .agg [y0.1,y1.1,y2.1]:=by
 obtain⟨xs,m,_,uZ,hl,hx,hf⟩:=acX he h
 match xs,hx with
 |[y0,y1,y2],_=>
  have g0:=hf 0 f0 rfl;have g1:=hf 1 f1 rfl;have g2:=hf 2 f2 rfl;simp only[o0,o1,o2,t0,t1,t2,Hw,Fg,uL] at g0 g1 g2;exact⟨m,y0,y1,y2,by simpa using g0,by simpa using g1,by simpa using g2,by rw[uZ];rfl⟩
end
end
section
open Go.RowKit
namespace Ce
theorem uP:∀ls:List (List Int),(∀l∈ls,∀x∈l,fN x)->(ls.flatMap bK).length<=10*(ls.map fun l=>l.length+1).sum
 |[],_=>by simp
 |l::r,h=>by
  have h1:=uP r (fun l hl=>h l (by simp[hl]));have h2:=kW l (h l (by simp));rw[List.flatMap_cons,aaN,ab9,List.sum_cons];omega
theorem uQ:∀es:List (Int×Int),(∀p∈es,fN p.1/\fN p.2)->(es.flatMap jq).length<=21*es.length
 |[],_=>by simp
 |p::r,h=>by
  have h1:=uQ r (fun p hp=>h p (by simp[hp]));have h2:=h p (by simp);have h3:=kW [p.1,p.2] (fun x hx=>by
   simp at hx;rcases hx with rfl|rfl
   .exact h2.1
   .exact h2.2)
  rw[<-qj] at h3;rw[List.flatMap_cons,aaN,abY];simp at h3;omega
end Ce
theorem dm.txt {w:World} {pl:Bool} {ao eo:Option Addr} {ce:Nat} {ls:List (List Int)} {es:List (Int×Int)} (h:dm w pl ao ls eo ce es) (hg:Ce.good ⟨pl,ls,es⟩):(Ce.eP ⟨pl,ls,es⟩).length<=30000000:=by
 have hs:=h.sum;have hl:=C8 ls;unfold Ce.good at hg;cases pl with
 |true=>
  rw[if_pos rfl] at hg;obtain⟨h1,h2,h3⟩:=hg;dsimp only at h1 h2 h3;have hb:=Ce.uP ls (fun l hl x hx=>(h2 l hl x hx).1);have hd:=Ce.oF (x:=(ls.length:Int)) ⟨by omega,by omega⟩;have e:(Ce.eP ⟨true,ls,es⟩).length=2+((Ce.dg (ls.length:Int)).length+((ls.flatMap Ce.bK).length+1)):=by
   unfold Ce.eP Ce.E8 Ce.yG;simp;omega
  omega
 |false=>
  rw[if_neg (by simp)] at hg;obtain⟨h1,h2,h3⟩:=hg;dsimp only at h1 h2 h3;have hb:=Ce.uQ es (fun p hp=>⟨(h2.1 p hp).1,(h2.1 p hp).2.1⟩);have hd:=Ce.oF (x:=(es.length:Int)) ⟨by omega,by omega⟩;have e:(Ce.eP ⟨false,ls,es⟩).length=2+((Ce.dg (es.length:Int)).length+((es.flatMap Ce.jq).length+1)):=by
   unfold Ce.eP Ce.E8 Ce.yG;simp;omega
  omega
theorem dm.row {w:World} {pl:Bool} {ao eo:Option Addr} {ce:Nat} {ls:List (List Int)} {es:List (Int×Int)} (h:dm w pl ao ls eo ce es):∀l∈ls,l.length<=1048576:=fun l hl=>by
 have:=C7 hl;have:=h.sum;omega
theorem dm.num {w:World} {pl:Bool} {ao eo:Option Addr} {ce:Nat} {ls:List (List Int)} {es:List (Int×Int)} (h:dm w pl ao ls eo ce es):ls.length<=1048576/\es.length<=1048576:=by
 have:=C8 ls;have:=h.sum;omega
theorem dm.fits {w:World} {pl:Bool} {ao eo:Option Addr} {ce:Nat} {ls:List (List Int)} {es:List (Int×Int)} (h:dm w pl ao ls eo ce es):Ce.Fits ⟨pl,ls,es⟩:=
 ⟨aaM h.num.1 (by omega),aaM h.num.2 (by omega),fun l hl=>aaM (h.row l hl) (by omega),fun hg=>aaM (h.txt hg) (by omega)⟩
theorem dm.SI {w:World} {pl:Bool} {ao eo:Option Addr} {ce:Nat} {ls:List (List Int)} {es:List (Int×Int)} (h:dm w pl ao ls eo ce es):Ce.qB ⟨pl,ls,es⟩:=
 ⟨aaM h.num.1 (by omega),aaM h.num.2 (by omega),fun l hl=>aaM (h.row l hl) (by omega)⟩
theorem dm.copy {w:World} {pl:Bool} {ao eo:Option Addr} {ca ce:Nat} {ls:List (List Int)} {es:List (Int×Int)} (h:dm w pl ao ls eo ce es):
 Calls Tryz.prog 12 #[.agg #[.bool pl,.slice ao ls.length ca,.slice eo es.length ce]] w fun e w'=>Below w.heap.size w w'/\∃v,e= .returned v/\rV w' w.heap.size v ⟨pl,ls,es⟩:=
 Bz h.ar h.ed h.nil (aaM h.num.1 (by omega)) (aaM h.num.2 (by omega))
end
section
open Go.ChangeShapes Go.WideShapes Go.ChangeAt Go.RowKit Go.Deep
theorem bu.Ud {w:World} {xo:Option Addr} {ls:List (List Int)} (h:bu w xo ls):Ce.oK w xo ls:=fun v l hl=>by
 obtain⟨b,o,A,C,e,hc,hL,hn,-⟩:=h v l hl;exact⟨b,o,A,C,e,hc,hL,hn⟩
structure Bf (w:World) (pl:Bool) (ao:Option Addr) (ls:List (List Int)) (eo:Option Addr) (ce:Nat) (es:List (Int×Int)):Prop where
 cert:dm w pl ao ls eo ce es
 rws:bu w ao ls
section
variable {H:Type} {enc:TypeId×Value->H} {W:World} {base:Nat}
theorem sH {fuel:Nat} {v:Value} {x:DataW H×List MemPlace} (h:DataW.trod enc Tryz.prog W 0 (fun _=>true) true fuel 25 [v]=some x) (hsm:Rows.uptoBulk x.1<=1048576):
 ∃ao ca ls,v= .slice ao ls.length ca/\bu W ao ls/\(ls.map fun l=>l.length+1).sum<=Rows.uptoBulk x.1:=by
 rcases open_int_rows Tryz.underlying25 Tryz.underlying55 Tryz.underlying3 Hu K5 h with ⟨hcs,hx⟩|⟨y,l,c,A,L,C,Z,hcs,_,hl,hm,hx,hrow⟩
 .simp at hcs
  subst hcs;exact⟨none,0,[],rfl,fun k l hl=>by simp at hl,by simp⟩
 .simp at hcs
  subst hcs;subst hx;have hz:∀r,r<c->((Z r).take (L r)).length=L r:=fun r hr=>by
   obtain⟨-,h1,-,h3,-⟩:=hrow r hr;rw[abq];omega
  have hsum:∀n,n<=l->(((List.range n).map fun r=>(Z r).take (L r)).map fun l=>l.length+1).sum<=Rows.uptoBulkAll ((List.range n).map fun r=>(intRow .i64 (A r) (L r) (Z r):DataW H)):=fun n=>by
   induction n with
   |zero=>intro _;simp
   |succ n ih=>
    intro hn;rw[acw,abh,abh,abh,List.sum_append,A6];have h1:=ih (by omega);obtain⟨-,h2,-,h3,-,h5,-⟩:=hrow n (by omega);have h4:=K6 (H:=H) .i64 (A n) (L n) (Z n) (fun e=>abo.1 (by rw[h3];exact h5 e));have h6:=hz n (by omega);simp only[ab9,ac2,List.sum_cons,List.sum_nil,Rows.uptoBulkAll,abv];rw[h6];omega
  have hs:=hsum l (aaD _);have hb:Rows.uptoBulkAll ((List.range l).map fun r=>(intRow .i64 (A r) (L r) (Z r):DataW H))<=Rows.uptoBulk (DataW.slice ((List.range l).map fun r=>(intRow .i64 (A r) (L r) (Z r):DataW H)) ((List.range (c-l)).map fun j=>intRow .i64 (A (l+j)) (L (l+j)) (Z (l+j)))):=by
   simp only[Rows.uptoBulk];omega
  refine⟨some y,c,(List.range l).map fun r=>(Z r).take (L r),by simp,fun k q hq=> ?_,aaM hs hb⟩;have hk:k<l:=by
   have:=(aaF.1 hq).1;simpa using this
  have RQ:=C7 (aaG hq);rw[aaY,ab8 hk] at hq;obtain rfl:=aaQ hq;obtain⟨hc,h1,h2,h3,h4,h5,h6⟩:=hrow k (by omega);have hlen:=hz k (by omega);obtain⟨xb,xo,sp⟩:=y;have hsp:sp=none:=by simpa[Addr.add] using ac7 (hrow 0 (by omega)).1
  subst hsp;have e:((⟨xb,xo,none⟩:Addr).add k)=⟨xb,xo+k,none⟩:=by
   by_cases h0:k=0<;>simp[Addr.add,h0]
  rw[e] at hc;refine⟨xb,xo,A k,C k,rfl,by rw[hlen];exact hc,⟨rfl,fun i z hz=> ?_,fun hA=> ?_⟩,?_⟩
  .rw[acg] at hz
   split at hz
   .rename_i hiL
    obtain⟨y,hA⟩:∃y,A k=some y:=by
     cases hA:A k with
     |none=>
      have:=h5 hA;omega
     |some y=>exact⟨y,rfl⟩
    obtain⟨hyb,hcell⟩:=h6 y hA;have vk:=hcell i (by omega);obtain⟨yb,yo,ys⟩:=y;have hys:ys=none:=by simpa[Addr.add] using ac7 (hcell 0 (by omega))
    subst hys;have ei:((⟨yb,yo,none⟩:Addr).add i)=⟨yb,yo+i,none⟩:=by
     by_cases h0:i=0<;>simp[Addr.add,h0]
    rw[ei] at vk;refine⟨yb,yo,hA,?_⟩;rw[vk];have:(Z k).getD i 0=z:=by simp[hz]
    rw[this]
   .cases hz
  .have:=h5 hA
   rw[hlen];exact⟨by omega,this⟩
  .refine⟨?_,?_,?_⟩
   .have:=aaM (aaM RQ (aaM hs hb)) hsm
    omega
   .rw[hlen]
    exact h1
   .unfold maxLen at h2
    omega
theorem vu {v:Value} {d:DataW H} {p:List MemPlace} {ds:List (DataW H)} {j:Nat} (hval:Value.okWide Tryz.prog W .any base 27 v)
 (h:DataW.Trod enc Tryz.prog W 0 (fun _=>true) true 27 v d p) (hk:Rows.uptoSmall H ds=true) (hds:ds[j]? =some d):
 ∃(pl:Bool) (ao:Option Addr) (ca:Nat) (ls:List (List Int)) (eo:Option Addr) (ce:Nat) (es:List (Int×Int)),v= .agg #[.bool pl,.slice ao ls.length ca,.slice eo es.length ce]/\Bf W pl ao ls eo ce es:=by
 have hb:=of_decide_eq_true hk;have hp:=Hz (aaG hds);obtain⟨cs,rfl,hcs⟩:=okWide_struct Tryz.underlying27 hval;rw[Hv] at hcs;obtain⟨fuel,hf⟩:=h;obtain⟨cl⟩:=cs
 match cl,hcs with
 |[u,v,z],_=>
  obtain⟨m,y0,y1,y2,g0,g1,g2,uZ⟩:=zu Tryz.underlying27 rfl rfl rfl rfl rfl rfl hf;have uZ:d= .agg [y0.1,y1.1,y2.1]:=uZ;subst uZ;simp only[Rows.uptoBulk,Rows.uptoBulkAll] at hp;obtain⟨b,e0,-⟩:=DataW.trod_bool Tryz.underlying4 g0;simp at e0;subst e0;obtain⟨ao,ca,ls,rfl,hls,hsum⟩:=sH g1 (by omega);have RM:∃a len cap,z= .slice a len cap:=by
   rcases ada Tryz.underlying22 g2 with ⟨hc,_⟩|⟨ad,l,c,_,_,_,_,hc,_⟩
   .simp at hc;exact⟨_,_,_,hc⟩
   .simp at hc;exact⟨_,_,_,hc⟩
  obtain⟨a,len,cap,rfl⟩:=RM;obtain⟨qs,hq,hd⟩:=Av Tryz.underlying22 qq (fun n cs y hy=>Ab hy) g2;have zE:=hq.hlen;subst zE;refine⟨b,ao,ca,ls,a,cap,qs,rfl,⟨hls.Ud,hq.hat,fun e=>(hq.hnil e).2,?_⟩,hls⟩;have hqs:qs.length<=Rows.uptoBulk y2.1:=by
   rcases hd with ⟨_,rfl⟩|⟨es,rest,hd,hle⟩
   .simp
   .rw[hd]
    have:=l8 es;simp only[Rows.uptoBulk];omega
  omega
end
end
section
open Go.RowKit Go.Sort
theorem bu.lists {w:World} {xo:Option Addr} {ls:List (List Int)} (h:bu w xo ls):Ce.gW w xo ls:=fun v l hl=>by
 obtain⟨b,o,A,C,e,hc,hL,-⟩:=h v l hl;exact⟨b,o,A,C,e,hc,hL.2⟩
theorem rV.Rf {w:World} {B:Nat} {v:Value} {c:Ce.Cert} (h:rV w B v c) (hs:∀l∈c.ar,l.length<=17592186043904):∃ao eo ca ce,Ce.jV w v c ao eo ca ce/\bu w ao c.ar:=by
 obtain⟨va,ve,vs,rfl,hr,ho⟩:=h;obtain⟨yo,yc,rfl,hrw,-⟩:=hr.rws hs;obtain⟨eo,ec,rfl,-,-,he,-⟩:=ho.form;exact⟨yo,eo,yc,ec,⟨rfl,hrw.lists,he⟩,hrw⟩
end
section
open Go.Proofs.Tryz
open Go.RowKit Go.Sort
namespace Ck
def ra:List (List Int):=[[1,2,3],[0,3,2],[0,1,3],[0,2,1]]
def rb:List (List Int):=[[1,2,3],[0,2,3],[0,1,3],[0,1,2]]
def ec:List (Int×Int):=[(0,1),(0,4)]
def gd:Nat->Int:=fun i=>[49,32,49,10,48,32,49,10].getD i 0
theorem Rg:∃x,Pa.raw gd 8= .error x:=⟨_,rfl⟩
theorem TP:Si.Val (4:Nat) e4:=by
 refine⟨by decide,by decide,by decide,fun j p hj=> ?_,fun j p q hp hq=> ?_⟩
 .match j,hj with
  |0,hj=>cases hj;unfold Si.ok;decide
  |1,hj=>cases hj;unfold Si.ok;decide
  |2,hj=>cases hj;unfold Si.ok;decide
  |3,hj=>cases hj;unfold Si.ok;decide
  |4,hj=>cases hj;unfold Si.ok;decide
  |5,hj=>cases hj;unfold Si.ok;decide
 .match j,hp,hq with
  |0,hp,hq=>cases hp;cases hq;unfold Si.lt;decide
  |1,hp,hq=>cases hp;cases hq;unfold Si.lt;decide
  |2,hp,hq=>cases hp;cases hq;unfold Si.lt;decide
  |3,hp,hq=>cases hp;cases hq;unfold Si.lt;decide
  |4,hp,hq=>cases hp;cases hq;unfold Si.lt;decide
theorem vC:Si.valid (4:Int) e4=true:=Si.aJ.2 TP
theorem EG {ar:List (List Int)} (h:∀l∈ar,∀x∈l,(0<=x/\x<=999999999)/\l.headD 0<=x) (hl:ar.length<=1048576):Ce.good ⟨true,ar,[]⟩:=by
 unfold Ce.good;rw[if_pos rfl];exact⟨rfl,fun l h1 x h2=>h l h1 x h2,hl⟩
theorem Rp:may ⟨true,ra,[]⟩=true:=qZ ⟨EG (by decide) (by decide),by decide +kernel⟩
theorem Rn:may ⟨true,rb,[]⟩=true:=qZ ⟨EG (by decide) (by decide),by decide +kernel⟩
theorem Rm:may ⟨false,[],ec⟩=true:=qZ ⟨by
 unfold Ce.good;rw[if_neg (fun h=>by cases h)];refine⟨rfl,⟨by unfold ec Ce.fN;decide,fun i p q hp hq=> ?_⟩,by decide⟩
 match i,hp,hq with
 |0,hp,hq=>cases hp;cases hq;decide,by decide +kernel⟩
theorem A5 {hs:List (List Int)} (h:hs.length=4):Ro.check (4:Int) e4 hs=Ro.iD e4 0 hs:=by
 unfold Ro.check;rw[if_pos vC,if_neg (by rw[h];decide)]
theorem Pz:code 4 e4 ⟨true,ra,[]⟩=0:=by
 rw[gR vC Rp rfl,A5 (by decide),if_neg (by decide),if_pos (by decide)]
theorem Py:code 4 e4 ⟨true,rb,[]⟩=183:=by
 rw[gR vC Rn rfl,A5 (by decide),if_neg (by decide),if_neg (by decide)]
theorem Px:code 4 e4 ⟨false,[],ec⟩=184:=by
 rw[ju vC Rm rfl,if_pos (fun h=>absurd (h (0,4) (by decide)) (by decide))]
theorem Nq (ar:List (List Int)) (h:∀l∈ar,l.length<=3) (hl:ar.length<=4):Ce.qB ⟨true,ar,[]⟩:=⟨by show ar.length<=_;omega,by show 0<=_;omega,fun l h1=>aaM (h l h1) (by omega)⟩
end Ck
theorem DR (w:World) (k:Nat) (hk:w.heap.size=k) (zs:List Int) (f:Nat×Nat) (hz:∀z∈zs,0<=z/\z<=255):
 aM (w.alloc (.cells (zs.map (Value.int .u8)).toArray 5 f)) (some ⟨k,0,none⟩) zs.length (fun i=>zs.getD i 0):=fun i hi=>by
 subst hk;refine⟨?_,_,_,rfl,?_⟩
 .refine hz _ ?_
  show zs.getD i 0∈zs;rw[aaI,aaC hi];simp
 .rw[aa7,cell_of_row _ _ i _ _ _ (heap_alloc_new w _)]
  simp[hi]
theorem DT (w:World) (a b c d:List Int) (ha:a.length=3) (hb:b.length=3) (hc:c.length=3) (hd:d.length=3):
 ∀W,W=((((w.alloc (.cells (a.map (Value.int .i64)).toArray 3)).alloc (.cells (b.map (Value.int .i64)).toArray 3)).alloc (.cells (c.map (Value.int .i64)).toArray 3)).alloc (.cells (d.map (Value.int .i64)).toArray 3)).alloc (.cells #[.slice (some ⟨w.heap.size,0,none⟩) 3 3,.slice (some ⟨w.heap.size+1,0,none⟩) 3 3,.slice (some ⟨w.heap.size+1+1,0,none⟩) 3 3,.slice (some ⟨w.heap.size+1+1+1,0,none⟩) 3 3] 55)->
  bu W (some ⟨w.heap.size+1+1+1+1,0,none⟩) [a,b,c,d]/\Below w.heap.size w W:=by
 rintro W rfl;obtain⟨w1,e1⟩:∃w1,w1=w.alloc (.cells (a.map (Value.int .i64)).toArray 3):=⟨_,rfl⟩;obtain⟨w2,e2⟩:∃w2,w2=w1.alloc (.cells (b.map (Value.int .i64)).toArray 3):=⟨_,rfl⟩;obtain⟨w3,e3⟩:∃w3,w3=w2.alloc (.cells (c.map (Value.int .i64)).toArray 3):=⟨_,rfl⟩;obtain⟨w4,e4⟩:∃w4,w4=w3.alloc (.cells (d.map (Value.int .i64)).toArray 3):=⟨_,rfl⟩;rw[<-e1,<-e2,<-e3,<-e4];have s1:w1.heap.size=w.heap.size+1:=by rw[e1];simp
 have s2:w2.heap.size=w.heap.size+1+1:=by rw[e2,aa1,s1]
 have s3:w3.heap.size=w.heap.size+1+1+1:=by rw[e3,aa1,s2]
 have s4:w4.heap.size=w.heap.size+1+1+1+1:=by rw[e4,aa1,s3]
 have b1:Below w.heap.size w w1:=by rw[e1];exact(aaE _ _).alloc (aaD _) _
 have b2:Below w1.heap.size w1 w2:=by rw[e2];exact(aaE _ _).alloc (aaD _) _
 have b3:Below w2.heap.size w2 w3:=by rw[e3];exact(aaE _ _).alloc (aaD _) _
 have b4:Below w3.heap.size w3 w4:=by rw[e4];exact(aaE _ _).alloc (aaD _) _
 have h0:aq w1 w.heap.size a:=by rw[e1];exact heap_alloc_new w _
 have h1:aq w2 (w.heap.size+1) b:=by rw[e2,<-s1];exact heap_alloc_new w1 _
 have h2:aq w3 (w.heap.size+1+1) c:=by rw[e3,<-s2];exact heap_alloc_new w2 _
 have h3:aq w4 (w.heap.size+1+1+1) d:=by rw[e4,<-s3];exact heap_alloc_new w3 _
 obtain⟨W,hW⟩:∃W,W=w4.alloc (.cells #[.slice (some ⟨w.heap.size,0,none⟩) 3 3,.slice (some ⟨w.heap.size+1,0,none⟩) 3 3,.slice (some ⟨w.heap.size+1+1,0,none⟩) 3 3,.slice (some ⟨w.heap.size+1+1+1,0,none⟩) 3 3] 55):=⟨_,rfl⟩;rw[<-hW];have b5:Below w4.heap.size w4 W:=by rw[hW];exact(aaE _ _).alloc (aaD _) _
 have h4:W.heap[w.heap.size+1+1+1+1]? =some (.cells #[.slice (some ⟨w.heap.size,0,none⟩) 3 3,.slice (some ⟨w.heap.size+1,0,none⟩) 3 3,.slice (some ⟨w.heap.size+1+1,0,none⟩) 3 3,.slice (some ⟨w.heap.size+1+1+1,0,none⟩) 3 3] 55 (0,0)):=by rw[hW,<-s4];exact heap_alloc_new w4 _
 have g3:aq W (w.heap.size+1+1+1) d:=(b5.block _ (by omega)).trans h3;have VZ:=b4.trans (b5.mono b4.size);have g2:aq W (w.heap.size+1+1) c:=(VZ.block _ (by omega)).trans h2;have QI:=b3.trans (VZ.mono b3.size);have g1:aq W (w.heap.size+1) b:=(QI.block _ (by omega)).trans h1;have V0:=b2.trans (QI.mono b2.size);have g0:aq W w.heap.size a:=(V0.block _ (by omega)).trans h0;refine⟨?_,b1.trans (V0.mono b1.size)⟩;intro v l hl
 match v,hl with
 |0,hl=>cases hl;rw[ha];exact⟨_,0,_,_,rfl,by simp[World.cell?,h4],ha▸g0.oQ rfl,by omega,aaD _,by omega⟩
 |1,hl=>cases hl;rw[hb];exact⟨_,0,_,_,rfl,by simp[World.cell?,h4],hb▸g1.oQ rfl,by omega,aaD _,by omega⟩
 |2,hl=>cases hl;rw[hc];exact⟨_,0,_,_,rfl,by simp[World.cell?,h4],hc▸g2.oQ rfl,by omega,aaD _,by omega⟩
 |3,hl=>cases hl;rw[hd];exact⟨_,0,_,_,rfl,by simp[World.cell?,h4],hd▸g3.oQ rfl,by omega,aaD _,by omega⟩
theorem Bi (w:World) (ht:iE w):Calls prog 9 #[] w fun e w'=>e= .returned (.bool true)/\Below w.heap.size w w':=by
 have kc:=fun (w:World) (C:Array Value) (n c:Nat)=>Lib.run_convert_bytes_const (P:=prog) w 35 5 C n c Tryz.underlying35 Tryz.underlying5
 have iG:=ζ (dB ht)
 have Ts:Hid (∀(ar:List (List Int)) (k:Int) (X V:World) (b p:Nat) (pc:Nat),Below w.heap.size w X->Below X.heap.size X V->ah X (some ⟨b,0,none⟩) Ck.e4->bu V (some ⟨p,0,none⟩) ar->(∀l∈ar,l.length<=3)->ar.length=4->Ck.code 4 Ck.e4 ⟨true,ar,[]⟩=k->
  Calls prog 10 #[.agg #[.int .i64 4,.slice (some ⟨b,0,none⟩) 6 6],.agg #[.bool true,.slice (some ⟨p,0,none⟩) 4 pc,.slice none 0 0]] V fun e w'=>e= .returned (.int .i64 k)/\Below V.heap.size V w'):=fun ar k X V b p pc hX hV he hr h3 h4 hk=>by
  subst hk;have hs:Ce.jV V (.agg #[.bool true,.slice (some ⟨p,0,none⟩) 4 pc,.slice none 0 0]) ⟨true,ar,[]⟩ (some ⟨p,0,none⟩) none pc 0:=⟨by rw[h4];rfl,hr.lists,fun j p hj=>by simp at hj⟩;exact lU 4 (some ⟨b,0,none⟩) 6 Ck.e4 ⟨true,ar,[]⟩ _ _ _ _ _ V (he.later hV) (by decide) hs (Ck.Nq ar h3 (by omega)) hr (iG.out _ (hX.trans (hV.mono hX.size)))
 clear ht;go_enter func9,ntmps9;go_wp2_with (go_at_call 28;refine(ny w).mono ?_;rintro e w1 ⟨b1,rfl,cQ,hb1⟩;refine aaH ?_);refine ζ ?_;have Xi:=ζ cQ;have aN:=ζ hb1;clear cQ hb1;have sU:=DT w1 [1,2,3] [0,3,2] [0,1,3] [0,2,1] rfl rfl rfl rfl _ rfl;have yY:=ζ sU;clear sU;go_wp2_with (go_at_call 10;refine(Ts.out Ck.ra 0 w1 _ b1 _ 4 aN.out yY.out.2 Xi.out yY.out.1 (by decide) rfl Ck.Pz).mono ?_;rintro e w2 ⟨rfl,hb2⟩;have aC:=ζ (aN.out.trans ((yY.out.2.trans (hb2.mono yY.out.2.size)).mono aN.out.size));clear hb2;refine aaH ?_);refine ζ ?_;clear yY Xi aN;go_wp2_with (go_at_call 28;refine(ny w2).mono ?_;rintro e w3 ⟨b3,rfl,Vp,hb3⟩;refine aaH ?_);refine ζ ?_;have Xh:=ζ Vp;have aK:=ζ (aC.out.trans (hb3.mono aC.out.size));clear Vp hb3;have hl3:=DT w3 [1,2,3] [0,2,3] [0,1,3] [0,1,2] rfl rfl rfl rfl _ rfl;have zV:=ζ hl3;clear hl3;go_wp2_with (go_at_call 10;refine(Ts.out Ck.rb 183 w3 _ b3 _ 4 aK.out zV.out.2 Xh.out zV.out.1 (by decide) rfl Ck.Py).mono ?_;rintro e w4 ⟨rfl,hb4⟩;have eZ:=ζ (aK.out.trans ((zV.out.2.trans (hb4.mono zV.out.2.size)).mono aK.out.size));clear hb4;refine aaH ?_);refine ζ ?_;clear zV Xh aK Ts;go_wp2_with (go_at_call 28;refine(ny w4).mono ?_;rintro e w5 ⟨b5,rfl,Vn,hb5⟩;refine aaH ?_);refine ζ ?_;have Xg:=ζ Vn;have gY:=ζ (eZ.out.trans (hb5.mono eZ.out.size));clear Vn hb5;have hbl:Below w5.heap.size w5 (w5.alloc (.cells #[.int .i64 0,.int .i64 1,.int .i64 0,.int .i64 4] 66)):=(aaE _ _).alloc (aaD _) _;have Ep:ah (w5.alloc (.cells #[.int .i64 0,.int .i64 1,.int .i64 0,.int .i64 4] 66)) (some ⟨w5.heap.size,0,none⟩) Ck.ec:=mD.at (heap_alloc_new w5 (.cells (dD Ck.ec).toArray 66));have SB:=lU 4 (some ⟨b5,0,none⟩) 6 Ck.e4 ⟨false,[],Ck.ec⟩ (.agg #[.bool false,.slice none 0 0,.slice (some ⟨w5.heap.size,0,none⟩) 2 2]) none (some ⟨w5.heap.size,0,none⟩) 0 2 _ (Xg.out.later hbl) (by decide) ⟨rfl,fun k l hl=>by simp at hl,Ep⟩ ⟨by show 0<=_;omega,by show 2<=_;omega,fun l hl=>by simp at hl⟩ (fun v l hl=>by simp at hl) (iG.out _ (gY.out.trans (hbl.mono gY.out.size)));rw[Ck.Px] at SB;have W9:=ζ SB;have zZ:=ζ hbl;clear hbl Ep SB;go_wp2_with (go_at_call 10;refine W9.out.mono ?_;rintro e w6 ⟨rfl,pZ⟩;have tK:=ζ (gY.out.trans ((zZ.out.trans (pZ.mono zZ.out.size)).mono gY.out.size));clear pZ;refine aaH ?_);refine ζ ?_;clear W9 zZ Xg gY;obtain⟨x,hx⟩:=Ck.Rg;have hbl:Below w6.heap.size w6 (w6.alloc (.cells #[.int .u8 49,.int .u8 32,.int .u8 49,.int .u8 10,.int .u8 48,.int .u8 32,.int .u8 49,.int .u8 10] 5 (8,9))):=(aaE _ _).alloc (aaD _) _;have VL:=Cw (ca:=8) (bo:=none) (m:=0) (cb:=0) (DR w6 _ rfl [49,32,49,10,48,32,49,10] (8,9) (by decide)) (by intro x hx;cases hx;simp) (by decide) (by decide) hx;have ZA:=ζ VL;have zZ:=ζ hbl;clear hbl VL hx;go_wp2_with (go_at_call 14;refine ZA.out.mono ?_;rintro e w7 ⟨rfl,M9⟩;have z7:=ζ (tK.out.trans ((zZ.out.trans (M9.mono zZ.out.size)).mono tK.out.size));clear M9;refine aaH ?_);refine ζ ?_;go_wp2;go_ret;exact⟨rfl,z7.out⟩
end
end Go.Proofs.YtdbjpbjocmcpkaaGreatDoor
