import Derived.Test.YtdbjpbjocmcpkaaGreatDoorMg00
import Derived.Laws.OwnMore
import Derived.Lib.SliceRun
import Derived.Test.YtdbjpbjocmcpkaaGreatDoorRows
import Derived.ProofKit
import Derived.OpenShut
import Derived.SizedLaws
import Derived.Deep.DeepHandedRow
import Derived.Lib.LaidTab
import Derived.Shelf.LaysM
import Derived.Shelf.Lays
import Derived.Shelf.Strconv.AppendIntPublic10
import Derived.Shelf.Slices.Reverse
import Derived.Ground.NamesProg
import Derived.Laws.IdiomStrings
import Derived.Maps.AppendAt
set_option maxHeartbeats 4000000
set_option maxRecDepth 100000
namespace Go.Proofs.YtdbjpbjocmcpkaaGreatDoor
section
namespace Cs
def fr (es:List (Int×Int)) (i:Nat):Nat:=(if i%2=0 then (es.getD (i/2) (0,0)).1 else (es.getD (i/2) (0,0)).2).toNat
def to (es:List (Int×Int)) (i:Nat):Nat:=(if i%2=0 then (es.getD (i/2) (0,0)).2 else (es.getD (i/2) (0,0)).1).toNat
def out (es:List (Int×Int)) (v:Nat):Nat->List Nat
 |0=>[]
 |k+1=>if fr es k=v then out es v k++[k] else out es v k
section
variable {es:List (Int×Int)} {u v i j k:Nat}
theorem qx:∀k,(out es v k).length<=k
 |0=>by simp[out]
 |k+1=>by
  have:=qx k;unfold out
  split<;>simp<;>omega
theorem eB (k:Nat):(out es v (k+1)).length=(out es v k).length+if fr es k=v then 1 else 0:=by
 conv=>lhs;unfold out
 split<;>simp
theorem EC (h:i<=k):(out es v i).length<=(out es v k).length:=by
 induction k with
 |zero=>
  obtain rfl:i=0:=by omega
  exact aad _
 |succ k ih=>
  by_cases hk:i=k+1
  .subst hk;exact aad _
  .have:=ih (by omega)
   rw[eB];omega
theorem rN (h:i<k) (hv:fr es i=v):(out es v i).length<(out es v k).length:=by
 have h1:=eB (es:=es) (v:=v) i;rw[if_pos hv] at h1;have h2:=EC (es:=es) (v:=v) (i:=i+1) (k:=k) h;omega
theorem Nr (h:i<k) (hv:fr es i=v):(out es v k)[(out es v i).length]? =some i:=by
 induction k with
 |zero=>omega
 |succ k ih=>
  by_cases hk:i=k
  .subst hk
   conv=>lhs;arg 1;unfold out
   rw[if_pos hv];simp
  .have h1:=ih (by omega)
   have h2:(out es v i).length<(out es v k).length:=rN (by omega) hv
   conv=>lhs;arg 1;unfold out
   split
   .rw[aaH h2];exact h1
   .exact h1
theorem oB (h:(out es v k)[j]? =some i):i<k/\fr es i=v/\(out es v i).length=j:=by
 induction k with
 |zero=>simp[out] at h
 |succ k ih=>
  unfold out at h
  split at h
  .rename_i hv
   by_cases hj:j<(out es v k).length
   .rw[aaH hj] at h
    have:=ih h;exact⟨by omega,this.2⟩
   .rw[abb (by omega)] at h
    by_cases hj2:j-(out es v k).length=0
    .rw[hj2] at h
     simp at h;subst h;exact⟨by omega,hv,by omega⟩
    .rw[aaV (by simp;omega)] at h
     cases h
  .have:=ih h
   exact⟨by omega,this.2⟩
theorem A6 {a b:Nat} (hij:i<j) (hi:(out es v k)[i]? =some a) (hj:(out es v k)[j]? =some b):a<b:=by
 have ha:=oB hi;have hb:=oB hj;rcases abX a b with h|h
 .exact h
 .have:=EC (es:=es) (v:=v) h
  omega
def st (es:List (Int×Int)) (M:Nat):Nat->Nat
 |0=>0
 |v+1=>st es M v+(out es v M).length
theorem K9 {M:Nat} (h:u<v):st es M u+(out es u M).length<=st es M v:=by
 induction v with
 |zero=>omega
 |succ v ih=>
  have e:st es M (v+1)=st es M v+(out es v M).length:=rfl;by_cases hu:u=v
  .subst hu;omega
  .have:=ih (by omega)
   omega
theorem QD (M v:Nat):st es (M+1) v=st es M v+if fr es M<v then 1 else 0:=by
 induction v with
 |zero=>simp[st]
 |succ v ih=>
  have e1:st es (M+1) (v+1)=st es (M+1) v+(out es v (M+1)).length:=rfl;have e2:st es M (v+1)=st es M v+(out es v M).length:=rfl;rw[e1,e2,ih,eB]
  split<;>split<;>split<;>omega
theorem Uf {n:Nat} (M:Nat) (h:∀i,i<M->fr es i<n):st es M n=M:=by
 induction M with
 |zero=>
  have:∀v,st es 0 v=0:=fun v=>by
   induction v with
   |zero=>rfl
   |succ v ih=>rw[show st es 0 (v+1)=st es 0 v+(out es v 0).length from rfl,ih];rfl
  exact this n
 |succ M ih=>
  rw[QD,ih (fun i hi=>h i (by omega)),if_pos (h M (by omega))]
theorem AH {n M:Nat} (h:∀i,i<M->fr es i<n) (hv:v<n):st es M v+(out es v M).length<=M:=by
 have:=K9 (es:=es) (M:=M) hv;rw[Uf M h] at this;exact this
def pos (es:List (Int×Int)) (M i:Nat):Nat:=st es M (fr es i)+(out es (fr es i) i).length
theorem Np {n M:Nat} (h:∀i,i<M->fr es i<n) (hi:i<M):pos es M i<M:=by
 have h1:=AH h (h i hi);have h2:=rN (es:=es) (k:=M) hi rfl;unfold pos;omega
theorem Uk {M:Nat} (hij:i<j) (hj:j<M):pos es M i≠pos es M j:=by
 unfold pos;rcases ab3 (fr es i) (fr es j) with h|h|h
 .have h1:=K9 (es:=es) (M:=M) h
  have h2:=rN (es:=es) (i:=i) (k:=M) (by omega) rfl;omega
 .rw[h]
  have h2:=rN (es:=es) (i:=i) (k:=j) hij h;omega
 .have h1:=K9 (es:=es) (M:=M) h
  have h2:=rN (es:=es) (i:=j) (k:=M) hj rfl;omega
end
structure mP (es:List (Int×Int)) (n M k:Nat) (H Pl T F:List Int):Prop where
 lH:H.length=M
 lP:Pl.length=M
 lT:T.length=M
 lF:F.length=n
 hT:∀i,i<k->T[i]? =some (to es i:Int)
 hP:∀i,i<k->Pl[i]? =some (pos es M i:Int)
 hH:∀i,i<k->H[pos es M i]? =some (i:Int)
 hF:∀v,v<n->F[v]? =some ((st es M v+(out es v k).length:Nat):Int)
theorem mP.at {es:List (Int×Int)} {n M k:Nat} {H Pl T F:List Int} (h:mP es n M k H Pl T F) (hk:fr es k<n):F[fr es k]? =some (pos es M k:Int):=h.hF _ hk
theorem mP.step {es:List (Int×Int)} {n M k:Nat} {H Pl T F:List Int} (h:mP es n M k H Pl T F) (hn:∀i,i<M->fr es i<n) (hk:k<M):
 mP es n M (k+1) (H.set (pos es M k) k) (Pl.set k (pos es M k)) (T.set k (to es k)) (F.set (fr es k) ((pos es M k:Int)+1)):=by
 have hp:=Np hn hk;refine⟨by simp[h.lH],by simp[h.lP],by simp[h.lT],by simp[h.lF],fun i hi=> ?_,fun i hi=> ?_,fun i hi=> ?_,fun v hv=> ?_⟩
 .rw[aaI]
  by_cases e:k=i
  .subst e;rw[if_pos rfl,if_pos (by rw[h.lT];exact hk)]
  .rw[if_neg e];exact h.hT i (by omega)
 .rw[aaI]
  by_cases e:k=i
  .subst e;rw[if_pos rfl,if_pos (by rw[h.lP];exact hk)]
  .rw[if_neg e];exact h.hP i (by omega)
 .rw[aaI]
  by_cases e:k=i
  .subst e;rw[if_pos rfl,if_pos (by rw[h.lH];exact hp)]
  .rw[if_neg (fun e2=>Uk (es:=es) (M:=M) (i:=i) (j:=k) (by omega) hk e2.symm)];exact h.hH i (by omega)
 .rw[aaI,eB]
  by_cases e:fr es k=v
  .subst e
   rw[if_pos rfl,if_pos (by rw[h.lF];exact hv),if_pos rfl];unfold pos
   congr 1
  .rw[if_neg e,if_neg e];exact h.hF v hv
def yF (n:Nat) (es:List (Int×Int)) (v:Int):List Nat:=if 0<=v/\v<n then out es v.toNat (2*es.length) else []
theorem nH {n:Nat} {es:List (Int×Int)} {v:Nat} (h:v<n):yF n es v=out es v (2*es.length):=by
 unfold yF;rw[if_pos ⟨by omega,by omega⟩];simp
theorem Iw {n:Nat} {es:List (Int×Int)} {v:Int} (h:¬(0<=v/\v<n)):yF n es v=[]:=by
 unfold yF;rw[if_neg h]
theorem dX {n:Nat} {es:List (Int×Int)} (hv:Si.Val n es) {i:Nat} (hi:i<2*es.length):fr es i<n/\to es i<n:=by
 obtain⟨p,hp⟩:∃p,es[i/2]? =some p:=⟨_,aac (by omega)⟩;have ho:=hv.each _ p hp;unfold Si.ok at ho;unfold fr to;rw[aao,hp];dsimp only[Option.getD_some]
 split<;>omega
theorem cY {es:List (Int×Int)} {k:Nat} {p:Int×Int} (hp:es[k]? =some p):fr es (2*k)=p.1.toNat/\to es (2*k)=p.2.toNat:=by
 unfold fr to;have e:2*k/2=k:=by omega
 have e2:2*k%2=0:=by omega
 rw[e,e2,aao,hp];exact⟨rfl,rfl⟩
theorem gw {es:List (Int×Int)} {k:Nat} {p:Int×Int} (hp:es[k]? =some p):fr es (2*k+1)=p.2.toNat/\to es (2*k+1)=p.1.toNat:=by
 unfold fr to;have e:(2*k+1)/2=k:=by omega
 have e2:(2*k+1)%2=1:=by omega
 rw[e,e2,aao,hp];exact⟨rfl,rfl⟩
def twin (i:Nat):Nat:=if i%2=0 then i+1 else i-1
theorem eM {i m:Nat} (h:i<2*m):twin i<2*m:=by
 unfold twin
 split<;>omega
theorem AB (es:List (Int×Int)) (i:Nat):to es (twin i)=fr es i:=by
 unfold to fr twin;by_cases h:i%2=0
 .have e:(i+1)/2=i/2:=by omega
  have e2:¬((i+1)%2=0):=by omega
  rw[if_pos h,if_pos h,e,if_neg e2]
 .have e:(i-1)/2=i/2:=by omega
  have e2:(i-1)%2=0:=by omega
  rw[if_neg h,if_neg h,e,if_pos e2]
theorem fQ (es:List (Int×Int)) (i:Nat):fr es (twin i)=to es i:=by
 unfold to fr twin;by_cases h:i%2=0
 .have e:(i+1)/2=i/2:=by omega
  have e2:¬((i+1)%2=0):=by omega
  rw[if_pos h,if_pos h,e,if_neg e2]
 .have e:(i-1)/2=i/2:=by omega
  have e2:(i-1)%2=0:=by omega
  rw[if_neg h,if_neg h,e,if_pos e2]
theorem Ej {n:Int} {es:List (Int×Int)} (hv:Si.Val n es) {i j:Nat} (hij:i<j) (hj:j<2*es.length) (hf:fr es i=fr es j):to es i<to es j:=by
 obtain⟨p,hp⟩:∃p,es[i/2]? =some p:=⟨_,aac (by omega)⟩;obtain⟨q,hq⟩:∃q,es[j/2]? =some q:=⟨_,aac (by omega)⟩;have hop:=hv.each _ p hp;have hoq:=hv.each _ q hq;unfold Si.ok at hop hoq;have hl:i/2=j/2\/Si.lt p q:=by
  by_cases h:i/2=j/2
  .exact .inl h
  .exact .inr (hv.mono (j/2) (i/2) p q (by omega) hp hq)
 have hpq:i/2=j/2->p=q:=fun h=>by
  rw[h,hq] at hp;cases hp;rfl
 have gp:es.getD (i/2) (0,0)=p:=by rw[aao,hp];rfl
 have gq:es.getD (j/2) (0,0)=q:=by rw[aao,hq];rfl
 unfold fr at hf;unfold to;rw[gp,gq] at hf;rw[gp,gq];rcases hl with hl|hl
 .have:=hpq hl
  subst this;have h1:i%2=0:=by omega
  have h2:¬(j%2=0):=by omega
  rw[if_pos h1,if_neg h2] at hf;omega
 .unfold Si.lt at hl
  by_cases h1:i%2=0<;>by_cases h2:j%2=0
  .rw[if_pos h1,if_pos h2] at hf ⊢
   omega
  .rw[if_pos h1,if_neg h2] at hf ⊢
   omega
  .rw[if_neg h1,if_pos h2] at hf ⊢
   omega
  .rw[if_neg h1,if_neg h2] at hf ⊢
   omega
end Cs
end
section
open Go.RowKit
theorem Tryz.b7:(Tryz.prog.info? 3).map (fun i=>(i.zero,i.size,i.bytes))=some (some (.int .i64 0),1,8):=by kernel_rfl
def ak (w:World) (g:Nat) (l:List Int):Prop:=w.heap[g]? =some (.cells (l.map (Value.int .i64)).toArray 3 (0,0))
section
variable {w w':World} {g:Nat} {l:List Int}
theorem ak.lt (h:ak w g l):g<w.heap.size:=lt_of_block h
theorem ak.cell (h:ak w g l) {i:Nat} {x:Int} (hx:l[i]? =some x):w.cell? ⟨g,i,none⟩=some (.int .i64 x):=by
 unfold ak at h;simp[World.cell?,h,hx]
theorem ak.free (h:ak w g l) (i:Nat):w.frozen? ⟨g,i,none⟩=false:=by
 unfold ak at h;simp[World.frozen?,h]
theorem ak.set (h:ak w g l) (i:Nat) (x:Int):ak (w.setCell ⟨g,i,none⟩ (.int .i64 x)) g (l.set i x):=by
 unfold ak at h ⊢;rw[heap_setCell_same w g i _ _ _ h];simp[List.map_set]
theorem ak.later (h:ak w g l) (hb:Below w.heap.size w w'):ak w' g l:=(hb.block g h.lt).trans h
theorem ak.alloc (h:ak w g l) (o:Obj):ak (w.alloc o) g l:=(aaF w o g h.lt).trans h
end
theorem cK (n:Nat):(madeCells #[.int .i64 0] n).toList=(List.replicate n (0:Int)).map (Value.int .i64):=by
 rw[toList_madeCells_one,ael]
theorem dV {w:World} {B g n:Nat} {xs:List Int} (h:w.ownsRow B 3 1 (.slice (some ⟨g,0,none⟩) n n) n (xs.map (Value.int .i64))):ak w g xs:=by
 rcases h.2 with ⟨h,_⟩|⟨g',cap,cur,e,_,hh,_,_,hs,ht⟩
 .cases h
 cases e;have e1:cur.toList=xs.map (Value.int .i64):=by
  rw[<-ht];exact(aaX (by simp;omega)).symm
 unfold ak;rw[hh,<-e1]
end
section
open Go.RowKit
def aU (w:World) (ao:Option Addr) (l:List Int):Prop:=∀(j:Nat) (x:Int),l[j]? =some x->∃b o:Nat,ao=some ⟨b,o,none⟩/\w.cell? ⟨b,o+j,none⟩=some (.int .i64 x)
theorem aU.later {w w':World} {ao:Option Addr} {l:List Int} (h:aU w ao l) (hb:Below w.heap.size w w'):aU w' ao l:=fun j x hj=>by
 obtain⟨b,o,e,h0⟩:=h j x hj;exact⟨b,o,e,(hb.cell (p:=⟨b,o+j,none⟩) (block_lt_of_cell h0)).trans h0⟩
theorem aU.nil (w:World) (ao:Option Addr):aU w ao []:=fun j p hj=>by simp at hj
theorem ak.at {w:World} {g:Nat} {l:List Int} (h:ak w g l):aU w (some ⟨g,0,none⟩) l:=fun j x hj=>⟨g,0,rfl,by rw[abI];exact h.cell hj⟩
end
section
open Go.RowKit
def aC (w:World) (g:Nat) (l:List Int):Prop:=∃rest:List Value,w.heap[g]? =some (.cells (l.map (Value.int .i64)++rest).toArray 3 (0,0))
section
variable {w w':World} {g:Nat} {l:List Int}
theorem aC.lt (h:aC w g l):g<w.heap.size:=by
 obtain⟨rest,h⟩:=h;exact lt_of_block h
theorem aC.cell (h:aC w g l) {i:Nat} {x:Int} (hx:l[i]? =some x):w.cell? ⟨g,i,none⟩=some (.int .i64 x):=by
 obtain⟨rest,h⟩:=h;have hl:=(aah.1 hx).1;have:(l.map (Value.int .i64)++rest)[i]? =some (.int .i64 x):=by
  rw[aaH (by simpa using hl),aaP,hx];rfl
 simp[World.cell?,h];simpa using this
theorem aC.free (h:aC w g l) (i:Nat):w.frozen? ⟨g,i,none⟩=false:=by
 obtain⟨rest,h⟩:=h;simp[World.frozen?,h]
theorem aC.set (h:aC w g l) {i:Nat} (hi:i<l.length) (x:Int):aC (w.setCell ⟨g,i,none⟩ (.int .i64 x)) g (l.set i x):=by
 obtain⟨rest,h⟩:=h;refine⟨rest,?_⟩;rw[heap_setCell_same w g i _ _ _ h];have e:((l.map (Value.int .i64)++rest).toArray.setIfInBounds i (.int .i64 x))=((l.set i x).map (Value.int .i64)++rest).toArray:=by
  rw[acF,List.set_append_left _ _ (by simpa using hi),List.map_set]
 rw[e]
theorem aC.other (h:aC w g l) {b i:Nat} (hb:g≠b) (x:Value):aC (w.setCell ⟨b,i,none⟩ x) g l:=by
 obtain⟨rest,h⟩:=h;exact⟨rest,(heap_setCell_other w ⟨b,i,none⟩ g x hb).trans h⟩
theorem aC.later (h:aC w g l) (hb:Below w.heap.size w w'):aC w' g l:=by
 have hl:=h.lt;obtain⟨rest,h⟩:=h;exact⟨rest,(hb.block g hl).trans h⟩
theorem aC.alloc (h:aC w g l) (o:Obj):aC (w.alloc o) g l:=by
 have hl:=h.lt;obtain⟨rest,h⟩:=h;exact⟨rest,(aaF w o g hl).trans h⟩
theorem aC.drew (h:aC w g l):aC w.drew g l:=h
theorem ak.ins (h:ak w g l):aC w g l:=⟨[],by rw[abQ];exact h⟩
end
theorem vT {w:World} {B g n c:Nat} {xs:List Int} (h:w.ownsRow B 3 1 (.slice (some ⟨g,0,none⟩) n c) n (xs.map (Value.int .i64))):aC w g xs:=by
 rcases h.2 with ⟨h,_⟩|⟨g',cap,cur,e,_,hh,_,_,hs,ht⟩
 .cases h
 cases e;refine⟨cur.toList.drop (n*1),?_⟩;rw[<-ht,adr];exact hh
structure aq (S:Nat->Prop) (w w':World):Prop where
 os:w'.os=w.os
 tape:w'.tape=w.tape
 output:w'.output=w.output
 size:w.heap.size<=w'.heap.size
 block:∀k,k<w.heap.size->¬S k->w'.heap[k]? =w.heap[k]?
section
variable {S:Nat->Prop} {w w' w0:World}
theorem aq.refl (S:Nat->Prop) (w:World):aq S w w:=⟨rfl,rfl,rfl,aad _,fun _ _ _=>rfl⟩
theorem aq.trans (h:aq S w0 w) (k:aq S w w'):aq S w0 w':=
 ⟨k.os.trans h.os,k.tape.trans h.tape,k.output.trans h.output,aaD h.size k.size,fun i hi hn=>(k.block i (aa5 hi h.size) hn).trans (h.block i hi hn)⟩
theorem aq.setCell (h:aq S w0 w) {b i:Nat} (hb:S b) (x:Value):aq S w0 (w.setCell ⟨b,i,none⟩ x):=
 ⟨h.os,h.tape,h.output,by simpa using h.size,fun k hk hn=>(heap_setCell_other w ⟨b,i,none⟩ k x (fun e=>hn (by rw[e];exact hb))).trans (h.block k hk hn)⟩
theorem aq.drew (h:aq S w0 w):aq S w0 w.drew:=⟨h.os,h.tape,h.output,h.size,h.block⟩
theorem aq.drewN (h:aq S w0 w) (k:Nat):aq S w0 (w.drewN k):=⟨h.os,h.tape,h.output,h.size,h.block⟩
theorem aq.later (h:aq S w0 w) (hb:Below w.heap.size w w'):aq S w0 w':=
 ⟨hb.os.trans h.os,hb.tape.trans h.tape,hb.output.trans h.output,aaD h.size hb.size,fun k hk hn=>(hb.block k (aa5 hk h.size)).trans (h.block k hk hn)⟩
theorem aq.alloc (h:aq S w0 w) (o:Obj):aq S w0 (w.alloc o):=h.later ((aae _ _).alloc (aad _) o)
theorem aq.below {B:Nat} (h:aq S w w') (hB:B<=w.heap.size) (hS:∀k,S k->B<=k):Below B w w':=
 ⟨h.os,h.tape,h.output,h.size,fun k hk=>h.block k (aa5 hk hB) (fun hs=>by have:=hS k hs;omega)⟩
theorem aq.ints {g:Nat} {l:List Int} (h:aq S w w') (hi:aC w g l) (hg:¬S g):aC w' g l:=by
 have hl:=hi.lt;obtain⟨rest,hi⟩:=hi;exact⟨rest,(h.block g hl hg).trans hi⟩
theorem aq.mono {S':Nat->Prop} (h:aq S w w') (hS:∀k,k<w.heap.size->S k->S' k):aq S' w w':=
 ⟨h.os,h.tape,h.output,h.size,fun k hk hn=>h.block k hk (fun hs=>hn (hS k hk hs))⟩
end
end
section
open Go.RowKit
def aj (w:World) (B:Nat) (v:Value) (l:List Int):Prop:=w.ownsRow B 3 1 v l.length (l.map (Value.int .i64))
section
variable {w w':World} {B:Nat} {v:Value} {l:List Int}
theorem aj.nil (w:World) (B:Nat):aj w B (.slice none 0 0) []:=acO _ _ _ _
theorem aj.form (h:aj w B v l):∃ao cap,v= .slice ao l.length cap/\aU w ao l/\(∀x,ao=some x->B<=x.block/\x.block<w.heap.size):=by
 rcases h.2 with ⟨rfl,h0⟩|⟨g,cap,cur,rfl,hB,hh,_⟩
 .refine⟨none,0,by rw[h0],fun j x hj=> ?_,fun x hx=>by cases hx⟩
  have:=(aah.1 hj).1;omega
 .refine⟨_,_,rfl,fun j x hj=> ?_,fun x hx=>by cases hx;exact⟨hB,lt_of_block hh⟩⟩
  refine⟨g,0,rfl,?_⟩;have:=aco h (g:=g) rfl j (.int .i64 x) (by rw[aaP,hj];rfl);have e:((⟨g,0,none⟩:Addr).add j)=⟨g,0+j,none⟩:=by
   by_cases h0:j=0<;>simp[Addr.add,h0]
  rw[e] at this;exact this
theorem aj.same (h:aj w B v l) (hb:∀g,v.ownBlock=some g->g<w.heap.size->w'.heap[g]? =w.heap[g]?):aj w' B v l:=by
 refine⟨h.1,?_⟩;rcases h.2 with h|⟨g,cap,cur,e1,hgB,hh,hr⟩
 .exact .inl h
 .exact .inr ⟨g,cap,cur,e1,hgB,(hb g (by rw[e1];rfl) (lt_of_block hh)).trans hh,hr⟩
theorem aj.later (h:aj w B v l) (hb:Below w.heap.size w w'):aj w' B v l:=h.same fun g _ hl=>hb.block g hl
theorem aj.lower {B':Nat} (h:aj w B v l) (hB:B'<=B):aj w B' v l:=by
 refine⟨h.1,?_⟩;rcases h.2 with h|⟨g,cap,cur,e1,hgB,hr⟩
 .exact .inl h
 .exact .inr ⟨g,cap,cur,e1,aaD hB hgB,hr⟩
theorem ak.own {g n:Nat} (h:ak w g l) (hB:B<=g) (hl:l.length=n) (hm:n<=8388608):aj w B (.slice (some ⟨g,0,none⟩) n n) l:=by
 subst hl;refine⟨by simp,.inr ⟨g,_,_,rfl,hB,h,aad _,by unfold maxLen;omega,by simp,?_⟩⟩;rw[aaX (by simp)]
end
end
section
open Go.RowKit
theorem Cf {l:List Int} {i:Nat} (d:Int) (h:i<l.length):l[i]? =some (l.getD i d):=by
 rw[aao,aac h];rfl
section
variable {w:World}
theorem eV {g b i:Nat} (hne:g≠b) (x:Value):(w.setCell ⟨b,i,none⟩ x).heap[g]? =w.heap[g]? :=heap_setCell_other w ⟨b,i,none⟩ g x hne
theorem ak.lA {g b i:Nat} {l:List Int} (h:ak w g l) (hf:g≠b) (x:Value):ak (w.setCell ⟨b,i,none⟩ x) g l:=(eV hf x).trans h
end
theorem mH {w:World} {R:Nat} {t:TypeId} {a b c d:Value} (h:w.heap[R]? =some (.cells #[a,b,c,d] t (0,0))):w.cell? ⟨R,0,none⟩=some a/\w.cell? ⟨R,1,none⟩=some b/\w.cell? ⟨R,2,none⟩=some c/\w.cell? ⟨R,3,none⟩=some d/\∀i,w.frozen? ⟨R,i,none⟩=false:=by
 refine⟨?_,?_,?_,?_,fun i=> ?_⟩
 .simp[World.cell?,h]
 .simp[World.cell?,h]
 .simp[World.cell?,h]
 .simp[World.cell?,h]
 .simp[World.frozen?,h]
theorem OZ {W:World} {k M:Nat} (h:W.heap.size=k):ak (W.alloc (.cells (madeCells #[.int .i64 0] M) 3)) k (List.replicate M 0):=by
 subst h;unfold ak;rw[heap_alloc_new,<-cK]
theorem alloc_at {W:World} {k:Nat} {o:Obj} (h:W.heap.size=k):(W.alloc o).heap[k]? =some o:=by
 subst h;exact heap_alloc_new W o
end
section
open Go.Proofs.Tryz
open Go.ChangeShapes Go.WideShapes Go.ChangeAt Go.RowKit
theorem own:ownKnob prog.godebug=none:=by kernel_rfl
theorem laidOut:laidOutB prog=true:=by kernel_rfl
theorem P0:prog.cellsOf 3=1:=by kernel_rfl
def xV (k:IntKind) (bytes:Nat) (w:World) (a:Option Addr) (len cap:Nat) (zs:List Int):Prop:=
 (a=none/\len=0/\cap=0/\zs=[])\/
 ∃x,a=some x/\len<=cap/\cap*bytes<=140737488351232/\zs.length=cap/\(∀i,i<zs.length->w.cell? (x.add i)=some (.int k (zs.getD i 0)))/\∀n∈zs,(Lit.int k n).wf=true
theorem xV.take {k:IntKind} {bytes:Nat} {w:World} {a:Option Addr} {len cap:Nat} {zs:List Int} (h:xV k bytes w a len cap zs):(zs.take len).length=len:=by
 rcases h with ⟨_,rfl,_,rfl⟩|⟨_,_,hl,_,hz,_⟩
 .rfl
 .simp;omega
theorem xV.small {k:IntKind} {bytes:Nat} {w:World} {a:Option Addr} {len cap:Nat} {zs:List Int} (h:xV k bytes w a len cap zs):len*bytes<=140737488351232:=by
 rcases h with ⟨_,rfl,_,rfl⟩|⟨_,_,hl,hm,_⟩
 .simp
 .exact aaD (Nat.mul_le_mul_right bytes hl) hm
theorem Fk {ops:Array Oper} {rest:List Oper} {o:Oper} {a:Act} {Q:Exit->Act->World->Prop} (hgd:o.guard=none) (s x:Operand) (t:TypeId)
 (ho:o.op= .call { callee:= .builtin .append,args:= #[s,x],argTypes:= #[t,t] }) (e:TypeId) (k:IntKind) (i0:TypeInfo) (bytes:Nat) (hu:prog.underlying t=some (.slice e)) (hi:prog.info? e=some i0)
 (hz0:i0.zero=some (.int k 0)) (hz1:i0.size=1) (hz2:i0.bytes=bytes) (hpos:0<bytes) (W:World) (ao:Option Addr) (len cap:Nat) (zs:List Int) (hs:a.eval s= .slice (some ⟨W.heap.size,0,none⟩) 0 0) (hx:a.eval x= .slice ao len cap)
 (hrow:xV k bytes W ao len cap zs)
 (h:∀gb c w',w'.ownsRow W.heap.size e 1 (.slice (some ⟨gb,0,none⟩) len c) len ((zs.take len).map (Value.int k))->W.heap.size<=gb->gb<w'.heap.size->len<=c->Below W.heap.size W w'->wpList prog ops Q rest (a.put o.dst (.slice (some ⟨gb,0,none⟩) len c)) w'):
 wpList prog ops Q (o::rest) a (W.alloc (.cells #[] e)):=by
 have oK:(W.alloc (.cells #[] e)).ownsRow W.heap.size e 1 (.slice (some ⟨W.heap.size,0,none⟩) 0 0) 0 []:=World.ownsRow_made W #[] 0 (aad _) (aax _) rfl;have hb0:Below W.heap.size W (W.alloc (.cells #[] e)):=(aae _ _).alloc (aad _) _;have htk:=hrow.take;have hsm:=hrow.small;rcases hrow with ⟨rfl,rfl,rfl,rfl⟩|⟨y,rfl,hl,hm,hz,hc,hw⟩
 .refine wpList_append_own_none hgd s x t ho W.heap.size e i0 1 hu hi _ 0 [] hs oK hx ?_
  exact h _ _ _ oK (aad _) (by simp) (aad _) hb0
 .have hlb:len<=140737488351232:=aaD (Nat.le_mul_of_pos_right len hpos) hsm
  refine wpList_append_own _ hgd s x t ho W.heap.size e i0 (.int k 0) 1 bytes hu hi hz0 hz1 hz2 rfl (by decide) _ 0 [] hs oK y len cap ((zs.take len).map (Value.int k)) hx (by rw[aaE,htk];omega) ?_ (ints_oneCell k _) (by unfold maxLen;omega) (by rw[abI];omega) (by simp) ?_
  .intro j u hj
   rw[aaP,aci] at hj;by_cases hjl:j<len
   .rw[if_pos hjl] at hj
    have hlt:j<zs.length:=by omega
    rw[aac hlt] at hj;simp at hj;subst hj;have UW:=hc j hlt;rw[aao,aac hlt] at UW;exact(acn W _ none).cell UW (by simp)
   .rw[if_neg hjl] at hj
    simp at hj
  .intro v' w' hown' hg hiff
   rw[abI,abi] at hown';rcases hown'.2 with ⟨hnil,_⟩|⟨gb,c,cur,rfl,hgb,hh,hlc,_⟩
   .have:=(hiff.1 hnil).1
    cases this
   .exact h gb c w' hown' hgb (lt_of_block hh) hlc (hb0.grown hg (by simp) (fun q hq=>by cases hq;exact aad _))
end
section
open Go.ChangeShapes Go.WideShapes Go.ChangeAt Go.RowKit
theorem P6 {H:Type} (d:DataW H):1<=Rows.uptoBulk d:=by
 cases d with
 |lit l=>cases l<;>simp[Rows.uptoBulk]
 |nil=>simp[Rows.uptoBulk]
 |ptr d=>simp[Rows.uptoBulk]
 |slice elems spare=>simp[Rows.uptoBulk]
 |agg parts=>simp[Rows.uptoBulk]
 |iface t d=>simp[Rows.uptoBulk]
 |map entries=>simp[Rows.uptoBulk]
 |held h=>simp[Rows.uptoBulk]
theorem MK {H:Type} {d:DataW H} {l:List (DataW H)} (h:d∈l):Rows.uptoBulk d<=Rows.uptoBulkAll l:=by
 induction l with
 |nil=>cases h
 |cons x r ih=>
  simp only[Rows.uptoBulkAll];cases aaU.1 h with
  |inl e=>subst e;omega
  |inr e=>have:=ih e;omega
theorem o7 {H:Type} (l:List (DataW H)):l.length<=Rows.uptoBulkAll l:=by
 induction l with
 |nil=>simp[Rows.uptoBulkAll]
 |cons x r ih=>have:=P6 x;simp only[Rows.uptoBulkAll,abl];omega
end
section
open Go.RowKit
structure xT (w:World) (ao:Option Addr) (n ca:Nat) (l:List Int):Prop where
 len:l.length=n
 ints:aU w ao l
 none:ao=none->n=0/\ca=0
section
variable {w w':World} {ao:Option Addr} {n ca:Nat} {l:List Int}
theorem xT.later (h:xT w ao n ca l) (hb:Below w.heap.size w w'):xT w' ao n ca l:=⟨h.len,h.ints.later hb,h.none⟩
theorem ak.sD {g:Nat} (h:ak w g l) (hl:l.length=n):xT w (some ⟨g,0,.none⟩) n ca l:=⟨hl,h.at,fun e=>by cases e⟩
theorem aj.sD {B:Nat} {v:Value} (h:aj w B v l):∃ao ca,v= .slice ao l.length ca/\xT w ao l.length ca l/\(∀x,ao=some x->B<=x.block/\x.block<w.heap.size):=by
 rcases h.2 with ⟨rfl,h0⟩|⟨g,cap,cur,rfl,hB,hh,_⟩
 .refine⟨.none,0,by rw[h0],⟨rfl,fun j x hj=> ?_,fun _=>⟨h0,rfl⟩⟩,fun x hx=>by cases hx⟩
  have:=(aah.1 hj).1;omega
 .obtain⟨ao,ca,e,ha,hb⟩:=h.form
  cases e;exact⟨_,_,rfl,⟨rfl,ha,fun e=>by cases e⟩,hb⟩
end
end
section
open Go.RowKit
def bA (w:World) (xo:Option Addr) (ls:List (List Int)):Prop:=
 ∀(v:Nat) (l:List Int),ls[v]? =some l->∃b o A C,xo=some ⟨b,o,none⟩/\w.cell? ⟨b,o+v,none⟩=some (.slice A l.length C)/\xT w A l.length C l/\l.length<=17592186043904/\l.length<=C/\C<=9223372036854775807
theorem bA.later {w w':World} {xo:Option Addr} {ls:List (List Int)} (h:bA w xo ls) (hb:Below w.heap.size w w'):bA w' xo ls:=fun v l hl=>by
 obtain⟨b,o,A,C,e,hc,hL,hn⟩:=h v l hl;exact⟨b,o,A,C,e,(hb.cell (p:=⟨b,o+v,none⟩) (block_lt_of_cell hc)).trans hc,hL.later hb,hn⟩
theorem xT.elem {w:World} {A:Option Addr} {n C:Nat} {l:List Int} (h:xT w A n C l) {i:Nat} {x:Int} (hx:l[i]? =some x):∃b o,A=some ⟨b,o,.none⟩/\w.cell? ⟨b,o+i,.none⟩=some (.int .i64 x):=h.ints i x hx
end
section
open Go.RowKit
def eG (w:World) (b:Nat) (ao:Option Addr) (n cap p:Nat):Prop:=
 w.heap[b]? =some (.cells #[.slice ao n cap,.int .i64 p] 254 (0,0))
def posOf (w:World) (b:Nat):Nat:=match w.cell? ⟨b,1,none⟩ with
 |some (.int _ x)=>x.toNat
 |_=>0
section
variable {w w':World} {b:Nat} {ao:Option Addr} {n cap p:Nat} {g:Nat->Int}
theorem eG.lt (h:eG w b ao n cap p):b<w.heap.size:=lt_of_block h
theorem eG.text (h:eG w b ao n cap p):w.cell? ⟨b,0,none⟩=some (.slice ao n cap):=by unfold eG at h;simp[World.cell?,h]
theorem eG.place (h:eG w b ao n cap p):w.cell? ⟨b,1,none⟩=some (.int .i64 p):=by unfold eG at h;simp[World.cell?,h]
theorem eG.free (h:eG w b ao n cap p) (i:Nat):w.frozen? ⟨b,i,none⟩=false:=by unfold eG at h;simp[World.frozen?,h]
theorem eG.pos (h:eG w b ao n cap p):posOf w b=p:=by simp[posOf,h.place]
theorem eG.set (h:eG w b ao n cap p) (q:Nat):eG (w.setCell ⟨b,1,none⟩ (.int .i64 q)) b ao n cap q:=by
 unfold eG at h ⊢;rw[heap_setCell_same w b 1 _ _ _ h];simp
theorem eG.alloc (h:eG w b ao n cap p) (o:Obj):eG (w.alloc o) b ao n cap p:=(aaF w o b h.lt).trans h
theorem eG.kept {r:Option Nat} (h:eG w b ao n cap p) (hg:w.grownBy w' r) (hr:some b≠r):eG w' b ao n cap p:=(hg.block b h.lt hr).trans h
theorem eG.drewN (h:eG w b ao n cap p) (k:Nat):eG (w.drewN k) b ao n cap p:=h
theorem eG.mz (h:eG w b ao n cap p) {B:Nat} (hB:b≠B) (x0 x1 x2 x3:Value):eG (mz w B x0 x1 x2 x3) b ao n cap p:=(yB hB x0 x1 x2 x3).trans h
end
end
end Go.Proofs.YtdbjpbjocmcpkaaGreatDoor
namespace Go.Proofs
open Go.Shelf
def Tryz.Dr:Go.Shelf.Ren:=⟨fun|176=>76|249=>119|288=>171|283=>228|284=>229|285=>230|286=>231|129=>166|317=>266|318=>267|319=>268|320=>269|337=>292|338=>293|n=>n,fun|37=>35|2=>2|3=>3|53=>269|4=>4|9=>9|171=>329|0=>0|173=>331|212=>363|51=>267|5=>5|20=>20|213=>364|46=>194|232=>388|233=>389|n=>n,fun|17=>0|18=>1|19=>2|n=>n⟩
theorem Tryz.O3:Go.Proofs.LaysM.n176 Tryz.prog Tryz.Dr:={
 mixed:=by kernel_rfl
 f129:=Tryz.func166.trans (congrArg some (by kernel_rfl))
 f176:=Tryz.func76.trans (congrArg some (by kernel_rfl))
 f249:=Tryz.func119.trans (congrArg some (by kernel_rfl))
 f283:=Tryz.func228.trans (congrArg some (by kernel_rfl))
 f284:=Tryz.func229.trans (congrArg some (by kernel_rfl))
 f285:=Tryz.func230.trans (congrArg some (by kernel_rfl))
 f286:=Tryz.func231.trans (congrArg some (by kernel_rfl))
 f288:=Tryz.func171.trans (congrArg some (by kernel_rfl))
 f317:=Tryz.func266.trans (congrArg some (by kernel_rfl))
 f318:=Tryz.func267.trans (congrArg some (by kernel_rfl))
 f319:=Tryz.func268.trans (congrArg some (by kernel_rfl))
 f320:=Tryz.func269.trans (congrArg some (by kernel_rfl))
 f337:=Tryz.func292.trans (congrArg some (by kernel_rfl))
 f338:=Tryz.func293.trans (congrArg some (by kernel_rfl))
 t0:=Tryz.underlying0
 a0:=Tryz.isAgg0
 z0:=Tryz.sizeOf0
 v0:=Tryz.zeroValue0
 t2:=Tryz.underlying2
 a2:=Tryz.isAgg2
 z2:=Tryz.sizeOf2
 v2:=Tryz.zeroValue2
 t3:=Tryz.underlying3
 a3:=Tryz.isAgg3
 z3:=Tryz.sizeOf3
 v3:=Tryz.zeroValue3
 t4:=Tryz.underlying4
 a4:=Tryz.isAgg4
 z4:=Tryz.sizeOf4
 v4:=Tryz.zeroValue4
 t5:=Tryz.underlying5
 a5:=Tryz.isAgg5
 z5:=Tryz.sizeOf5
 v5:=Tryz.zeroValue5
 t9:=Tryz.underlying9
 a9:=Tryz.isAgg9
 z9:=Tryz.sizeOf9
 v9:=Tryz.zeroValue9
 t20:=Tryz.underlying20
 a20:=Tryz.isAgg20
 z20:=Tryz.sizeOf20
 v20:=Tryz.zeroValue20
 t37:=Tryz.underlying35
 a37:=Tryz.isAgg35
 z37:=Tryz.sizeOf35
 v37:=Tryz.zeroValue35
 t46:=Tryz.underlying194
 a46:=Tryz.isAgg194
 z46:=Tryz.sizeOf194
 v46:=Tryz.zeroValue194
 t51:=Tryz.underlying267
 a51:=Tryz.isAgg267
 z51:=Tryz.sizeOf267
 v51:=Tryz.zeroValue267
 t53:=Tryz.underlying269
 a53:=Tryz.isAgg269
 z53:=Tryz.sizeOf269
 v53:=Tryz.zeroValue269
 t171:=Tryz.underlying329
 a171:=Tryz.isAgg329
 z171:=Tryz.sizeOf329
 v171:=Tryz.zeroValue329
 t173:=Tryz.underlying331
 a173:=Tryz.isAgg331
 z173:=Tryz.sizeOf331
 v173:=Tryz.zeroValue331
 t212:=Tryz.underlying363
 a212:=Tryz.isAgg363
 z212:=Tryz.sizeOf363
 v212:=Tryz.zeroValue363
 t213:=Tryz.underlying364
 a213:=Tryz.isAgg364
 z213:=Tryz.sizeOf364
 t232:=Tryz.underlying388
 a232:=Tryz.isAgg388
 z232:=Tryz.sizeOf388
 v232:=Tryz.zeroValue388
 t233:=Tryz.underlying389
 a233:=Tryz.isAgg389
 z233:=Tryz.sizeOf389
 v233:=Tryz.zeroValue389
 g17:=by kernel_rfl
 g18:=by kernel_rfl
 g19:=by kernel_rfl
 i0:=by kernel_rfl
 i2:=by kernel_rfl
 i3:=by kernel_rfl
 i4:=by kernel_rfl
 i5:=by kernel_rfl
 i9:=by kernel_rfl
 i20:=by kernel_rfl
 i37:=by kernel_rfl
 i46:=by kernel_rfl
 i51:=by kernel_rfl
 i53:=by kernel_rfl
 i171:=by kernel_rfl
 i173:=by kernel_rfl
 i212:=by kernel_rfl
 i232:=by kernel_rfl
 i233:=by kernel_rfl
 m17:=by kernel_rfl
 m18:=by kernel_rfl
 m19:=by kernel_rfl }
theorem Tryz.lz (B n:Nat) (i:Int) (h0: -9223372036854775808≤i) (h1:i≤9223372036854775807) (sv:Value) (xs:List Value) (w:World) (hown:w.ownsRow B 5 1 sv n xs) (hBw:B≤w.heap.size) (hlim:n+21≤140737488355328)
 (htab:Lib.TabBelow Tryz.prog B w "internal/strconv.uint64pow10" .u64 Lib.pow10Tab):
 Calls Tryz.prog 76 #[sv,.int .i64 i,.int .i64 10] w fun e w'=>∃v',e= .returned v'∧w'.ownsRow B 5 1 v' (n+(Lib.itoa i).length) (xs++Lib.byteCells (Lib.itoa i))∧RowKit.Below B w w'∧Lib.OthersKept 5 none w w':=Any.strconv_AppendInt_10 Tryz.O3 B n i h0 h1 sv xs w hown hBw hlim htab
def Tryz.Ga:Go.Shelf.Ren:=⟨fun|112=>93|n=>n,fun|28=>55|3=>3|4=>4|0=>0|n=>n,fun|n=>n⟩
theorem Tryz.Q7:Go.Proofs.Lays.n112 Tryz.prog Tryz.Ga:={
 mixed:=by kernel_rfl
 f112:=Tryz.func93.trans (congrArg some (by kernel_rfl))
 t0:=Tryz.underlying0
 a0:=Tryz.isAgg0
 z0:=Tryz.sizeOf0
 v0:=Tryz.zeroValue0
 t3:=Tryz.underlying3
 a3:=Tryz.isAgg3
 z3:=Tryz.sizeOf3
 v3:=Tryz.zeroValue3
 t4:=Tryz.underlying4
 a4:=Tryz.isAgg4
 z4:=Tryz.sizeOf4
 v4:=Tryz.zeroValue4
 t28:=Tryz.underlying55
 a28:=Tryz.isAgg55
 z28:=Tryz.sizeOf55
 v28:=Tryz.zeroValue55 }
theorem Tryz.slices_Reverse_int (blk off cap:Nat) (zs:List Int) (w:World) (hH:Sort.Holds (Value.int .i64) w blk off zs.toArray) (hsz:zs.length≤9223372036854775807):
 Calls Tryz.prog 93 #[.slice (some ⟨blk,off,none⟩) zs.length cap] w fun e w'=>
  e= .returned (.tuple #[])∧∃n,w'=Sort.putRow (Value.int .i64) (Sort.ahead w n) blk off zs.reverse.toArray:=Any.slices_Reverse_int Tryz.Q7 blk off cap zs w hH hsz
end Go.Proofs
namespace Go.Proofs.YtdbjpbjocmcpkaaGreatDoor
section
open Go.Proofs.Tryz
open Go.RowKit
def kO (w:World):Prop:=Lib.TabIs prog w "internal/strconv.uint64pow10" .u64 Lib.pow10Tab
def eK (z:Nat->Int):Nat->List UInt8
 |0=>[]
 |k+1=>(if 0<k then eK z k++[32] else eK z k)++Lib.itoa (z k)
theorem qB (z:Nat->Int) (n:Nat) (hz:∀i,i<n->-9223372036854775808<=z i/\z i<=9223372036854775807):∀k,k<=n->(eK z k).length<=22*k
 |0,_=>by simp[eK]
 |k+1,hk=>by
  have ih:=qB z n hz k (by omega);have:=aen (z k) (hz k (by omega)).1 (hz k (by omega)).2;simp only[eK];by_cases h:0<k
  .rw[if_pos h];simp;omega
  .rw[if_neg h];simp;omega
def q8 (w:World) (ao:Option Addr) (n:Nat) (z:Nat->Int):Prop:=
 ∀i,i<n->(-9223372036854775808<=z i/\z i<=9223372036854775807)/\∃tb to,ao=some ⟨tb,to,none⟩/\w.cell? ⟨tb,to+i,none⟩=some (.int .i64 (z i))
theorem q8.later {w w':World} {ao:Option Addr} {n:Nat} {z:Nat->Int} (h:q8 w ao n z) (hg:Below w.heap.size w w'):q8 w' ao n z:=by
 intro i hi;obtain⟨hb,tb,to,e,hc⟩:=h i hi;exact⟨hb,tb,to,e,(hg.cell (p:=⟨tb,to+i,none⟩) (block_lt_of_cell hc)).trans hc⟩
theorem Tryz.Pg:(prog.info? 5).map (fun i=>(i.zero,i.size,i.bytes))=some (some (.int .u8 0),1,1):=by kernel_rfl
theorem IG (W:World) (v:Value) (e:TypeId):∀j u,[v][j]? =some u->(W.alloc (.cells #[v] e)).cell? ((⟨W.heap.size,0,none⟩:Addr).add j)=some u:=by
 intro j u' hj
 match j,hj with
 |0,hj=>simp at hj;subst hj;simp[Addr.add]
theorem FY (ao:Option Addr) (n cap:Nat) (z:Nat->Int) (w:World) (hz:q8 w ao n z) (hn:n<=100000000) (ht:kO w):
 Calls prog 39 #[.slice ao n cap] w fun e w'=>e= .returned (.string ⟨(eK z n++[10]).toArray⟩)/\Below w.heap.size w w':=by
 obtain⟨i0,hi,hz0,hz1,hz2⟩:=info_parts Tryz.Pg;have hT:=aeb ht;have HL:=ζ (qB z n (fun i hi=>(hz i hi).1));have HZ:=ζ hz;have HT:=ζ hT;clear hz ht hT;go_enter func39,ntmps39;go_wp2;go_loopw [3,8] (fun v c wr=>∃k:Nat,k<=n/\c= .int .i64 k/\wr.ownsRow w.heap.size 5 1 v (eK z k).length (Lib.byteCells (eK z k))/\Below w.heap.size w wr) (fun _ c _=>n-(intOf c).toNat)
 case atStart=>exact⟨0,aax _,rfl,acO _ _ _ _,aae _ _⟩
 case round=>
  obtain⟨k,hk,rfl,hown,hb⟩:=hrel;have dW:=HL.out k hk;have hBw:=hb.size;by_cases hlt:k<n
  .have aQ:(k:Int)<(n:Int):=by omega
   obtain⟨⟨b0,b1⟩,tb,to,rfl,cq⟩:=(HZ.out.later hb) k hlt;have HS:=ζ (show eK z (k+1)=(if 0<k then eK z k++[32] else eK z k)++Lib.itoa (z k) from rfl);generalize eK z k=L at*;have HC:=ζ cq;by_cases h0:0<k
   .have h0i:(0:Int)<(k:Int):=by omega
    go_wp2_with (at_builtin;refine wpList_append_own _ rfl _ _ 35 rfl w.heap.size 5 i0 (.int .u8 0) 1 1 Tryz.underlying35 hi hz0 hz1 hz2 rfl (by decide) _ _ _ rfl (hown.alloc _) ⟨wr.heap.size,0,none⟩ 1 1 [.int .u8 32] rfl rfl (IG _ _ _) (by intro u' uq;simp at uq;subst uq;rfl) (by unfold maxLen;omega) (by omega) (by simp;omega) ?_;refine aaj ?_);refine ζ ?_;intro v1 w1 hown1 hg1 _;have hb1:Below w.heap.size w w1:=(hb.alloc hBw _).grown hg1 (by simp;omega) (fun q hq=>(hown.lt q hq).1);go_wp2_with (go_at_call 76;refine(Tryz.lz w.heap.size (L.length+1) (z k) b0 b1 v1 _ w1 hown1 hb1.size (by omega) (HT.out.on hb1)).mono ?_;rintro e w2 ⟨v2,rfl,hown2,hb2,-⟩;refine aaj ?_);refine ζ ?_;have Ss:=hb1.trans hb2;clear hown1 hg1 hb1 hb2 cq;go_wp2;go_roundw
    case rel=>
     refine⟨k+1,by omega,by go_num,?_,Ss⟩;have e1:(L++[32]++Lib.itoa (z k)).length=L.length+1+(Lib.itoa (z k)).length:=by simp;omega
     have e2:Lib.byteCells (L++[32]++Lib.itoa (z k))=Lib.byteCells L++[.int .u8 32]++Lib.byteCells (Lib.itoa (z k)):=by simp[Lib.byteCells]
     rw[HS.out,if_pos h0,e1,e2];exact hown2
    case measure=>simp[intOf];omega
   .have h0i:¬((0:Int)<(k:Int)):=by omega
    go_wp2_with (go_at_call 76;refine(Tryz.lz w.heap.size L.length (z k) b0 b1 _ _ wr hown hBw (by omega) (HT.out.on hb)).mono ?_;rintro e w2 ⟨v2,rfl,hown2,hb2,-⟩;refine aaj ?_);refine ζ ?_;have Ss:=hb.trans hb2;clear hb2 cq;go_wp2;go_roundw
    case rel=>
     refine⟨k+1,by omega,by go_num,?_,Ss⟩;rw[HS.out,if_neg h0];simpa[Lib.byteCells] using hown2
    case measure=>simp[intOf];omega
  .have hd:¬((k:Int)<(n:Int)):=by omega
   have hkn:k=n:=by omega
   subst hkn;obtain⟨L,hL⟩:∃L,L=eK z k:=⟨_,rfl⟩;rw[<-hL] at hown dW;have om:=ζ hL;clear hL;go_wp2_with (at_builtin;refine wpList_append_own _ rfl _ _ 35 rfl w.heap.size 5 i0 (.int .u8 0) 1 1 Tryz.underlying35 hi hz0 hz1 hz2 rfl (by decide) _ _ _ rfl (hown.alloc _) ⟨wr.heap.size,0,none⟩ 1 1 [.int .u8 10] rfl rfl (IG _ _ _) (by intro u' uq;simp at uq;subst uq;rfl) (by unfold maxLen;omega) (by omega) (by simp;omega) ?_;refine aaj ?_);refine ζ ?_;intro v1 w1 hown1 hg1 _;have hb1:Below w.heap.size w w1:=(hb.alloc hBw _).grown hg1 (by simp;omega) (fun q hq=>(hown.lt q hq).1);have eL:Lib.byteCells L++[Value.int .u8 10]=Lib.byteCells (L++[10]):=by simp[Lib.byteCells]
   rw[eL] at hown1;rcases hown1.2 with ⟨-,h0⟩|⟨gb,c1,cur,rfl,-⟩
   .omega
   .have hcv:=run_convert_bytes_back (P:=prog) w1 35 9 5 ⟨gb,0,none⟩ c1 (L++[10]) Tryz.underlying35 Tryz.underlying5 Tryz.underlying9 (fun j hj=>hown1.cells (g:=gb) rfl j _ (by rw[Lib.byteCells,aaP,aac hj];rfl))
    have eln:(L++[(10:UInt8)]).length=L.length+1:=by simp
    rw[eln] at hcv;clear eln;have HOW:=ζ hown1;clear hown1 hg1;go_wp2;go_ret;rw[<-om.out];exact⟨rfl,hb1⟩
end
section
open Go.RowKit
theorem Tryz.lK:(Tryz.prog.info? 55).map (fun i=>(i.zero,i.size,i.bytes))=some (some (.slice none 0 0),1,24):=by kernel_rfl
theorem rL {W:World} {base:Nat} {e:TypeId} {size:Nat} {v:Value} {k:Nat} {xs:List Value} (h:W.ownsRow base e size v (k+1) xs):∃g cap,v= .slice (some ⟨g,0,none⟩) (k+1) cap:=by
 rcases h.2 with ⟨_,h0⟩|⟨g,cap,_,rfl,_⟩
 .omega
 .exact⟨g,cap,rfl⟩
structure ay (w:World) (B:Nat) (v:Value) (vs:List Value) (ls:List (List Int)):Prop where
 len:vs.length=ls.length
 outer:w.ownsRow B 55 1 v ls.length vs
 row:∀(u:Nat) (x:Value) (l:List Int),vs[u]? =some x->ls[u]? =some l->aj w B x l
 apart:∀(u u':Nat) (x x':Value) (b:Nat),u≠u'->vs[u]? =some x->vs[u']? =some x'->x.ownBlock=some b->x'.ownBlock≠some b
 far:∀(u:Nat) (x:Value) (b:Nat),vs[u]? =some x->x.ownBlock=some b->v.ownBlock≠some b
section
variable {w w':World} {B:Nat} {v:Value} {vs:List Value} {ls:List (List Int)}
theorem ay.at (h:ay w B v vs ls) {u:Nat} {x:Value} (hx:vs[u]? =some x):∃l,ls[u]? =some l:=⟨_,aac (by rw[<-h.len];exact(aah.1 hx).1)⟩
theorem ay.at' (h:ay w B v vs ls) {u:Nat} {l:List Int} (hl:ls[u]? =some l):∃x,vs[u]? =some x:=⟨_,aac (by rw[h.len];exact(aah.1 hl).1)⟩
theorem bV {e:TypeId} {s n:Nat} {xs:List Value} (h:w.ownsRow B e s v n xs) (hb:∀g,v.ownBlock=some g->B<=g->g<w.heap.size->w'.heap[g]? =w.heap[g]?):w'.ownsRow B e s v n xs:=by
 refine⟨h.1,?_⟩;rcases h.2 with h|⟨g,cap,cur,e1,hgB,hh,hr⟩
 .exact .inl h
 .exact .inr ⟨g,cap,cur,e1,hgB,(hb g (by rw[e1];rfl) hgB (lt_of_block hh)).trans hh,hr⟩
theorem ay.same (h:ay w B v vs ls) (hb:∀g,B<=g->g<w.heap.size->w'.heap[g]? =w.heap[g]?):ay w' B v vs ls:=
 ⟨h.len,bV h.outer fun g _ h1 h2=>hb g h1 h2,fun u x l hx hl=>bV (h.row u x l hx hl) fun g _ h1 h2=>hb g h1 h2,h.apart,h.far⟩
theorem ay.later (h:ay w B v vs ls) (hb:Below w.heap.size w w'):ay w' B v vs ls:=h.same fun g _ hg=>hb.block g hg
theorem ay.nil (w:World) (B:Nat):ay w B (.slice none 0 0) [] []:=⟨rfl,acO _ _ _ _,fun u x l hx=>by simp at hx,fun u u' x x' b _ hx=>by simp at hx,fun u x b hx=>by simp at hx⟩
theorem ay.lower {B':Nat} (h:ay w B v vs ls) (hB:B'<=B):ay w B' v vs ls:=by
 refine⟨h.len,⟨h.outer.1,?_⟩,fun u x l hx hl=>(h.row u x l hx hl).lower hB,h.apart,h.far⟩;rcases h.outer.2 with h|⟨g,cap,cur,e1,hgB,hr⟩
 .exact .inl h
 .exact .inr ⟨g,cap,cur,e1,aaD hB hgB,hr⟩
theorem ay.grow {W w1:World} {x v':Value} {l:List Int} (h:ay W B v vs ls) (hx:aj W B x l) (hx1:∀(u:Nat) (y:Value) (b:Nat),vs[u]? =some y->y.ownBlock=some b->x.ownBlock≠some b) (hx2:∀b,v.ownBlock=some b->x.ownBlock≠some b)
 {tmp:Obj} (hown:w1.ownsRow B 55 1 v' (ls.length+1) (vs++[x])) (hgrow:(W.alloc tmp).grownBy w1 v.ownBlock) (hat:v'.ownBlock=v.ownBlock\/v'.ownBlock=some (W.heap.size+1)):
 ay w1 B v' (vs++[x]) (ls++[l]):=by
 have hsame:∀g,v.ownBlock≠some g->g<W.heap.size->w1.heap[g]? =W.heap[g]? :=fun g hne hg=>by
  rw[hgrow.block g (by rw[abk];omega) (fun e=>hne e.symm)];exact aaF W tmp g hg
 have hold:∀u y k,vs[u]? =some y->ls[u]? =some k->aj w1 B y k:=fun u y k hy hk=>(h.row u y k hy hk).same fun g hg hl=>hsame g (h.far u y g hy hg) hl
 have zK:aj w1 B x l:=hx.same fun g hg hl=>hsame g (fun e=>hx2 g e hg) hl
 have hlt:∀y k b,aj W B y k->y.ownBlock=some b->b<W.heap.size:=fun y k b ho hb=>(aap ho b hb).2
 have eR:∀u y,(vs++[x])[u]? =some y->(u<vs.length/\vs[u]? =some y)\/(u=vs.length/\y=x):=fun u y hy=>by
  by_cases hu:u<vs.length
  .rw[aaH hu] at hy
   exact .inl ⟨hu,hy⟩
  .rw[abb (by omega)] at hy
   have hl:=(aah.1 hy).1;have e:u-vs.length=0:=by simp at hl;omega
   rw[e] at hy;exact .inr ⟨by omega,(aaG hy).symm⟩
 refine⟨by simp[h.len],by rw[aar];exact hown,fun u y k hy hk=> ?_,fun u u' y y' b hne hy hy' hb=> ?_,fun u y b hy hb=> ?_⟩
 .rcases eR u y hy with ⟨hu,h1⟩|⟨hu,rfl⟩
  .rw[aaH (by rw[<-h.len];exact hu)] at hk
   exact hold u y k h1 hk
  .rw[hu,h.len,abb (aad _),Nat.sub_self] at hk
   obtain rfl:=aaG hk;exact zK
 .rcases eR u y hy with ⟨hu,h1⟩|⟨hu,rfl⟩<;>rcases eR u' y' hy' with ⟨uq,h2⟩|⟨uq,rfl⟩
  .exact h.apart u u' y y' b hne h1 h2 hb
  .exact hx1 u y b h1 hb
  .intro hc
   exact hx1 u' y' b h2 hc hb
  .omega
 .intro hc
  rcases hat with e|e
  .rw[e] at hc
   rcases eR u y hy with ⟨hu,h1⟩|⟨hu,rfl⟩
   .exact h.far u y b h1 hb hc
   .exact hx2 b hc hb
  .rw[e] at hc
   have fP:=aaG hc;rcases eR u y hy with ⟨hu,h1⟩|⟨hu,rfl⟩
   .obtain⟨k,hk⟩:=h.at h1
    have:=hlt y k b (h.row u y k h1 hk) hb;omega
   .have:=hlt y l b hx hb
    omega
end
end
section
open Go.RowKit
theorem OB {w:World} {B:Nat} {v:Value} {vs:List Value} {ls:List (List Int)} (h:ay w B v vs ls) (hn:0<ls.length):∃g c,v= .slice (some ⟨g,0,none⟩) ls.length c:=by
 rcases h.outer.2 with ⟨rfl,h0⟩|⟨g,cap,cur,rfl,_⟩
 .omega
 .exact⟨g,cap,rfl⟩
theorem bG {w:World} {B:Nat} {v:Value} {vs:List Value} {ls:List (List Int)} (h:ay w B v vs ls):∃ao c,v= .slice ao ls.length c:=by
 rcases h.outer.2 with ⟨rfl,h0⟩|⟨g,cap,cur,rfl,_⟩
 .exact⟨none,0,by rw[h0]⟩
 .exact⟨_,cap,rfl⟩
end
section
open Go.RowKit Go.Sort
theorem La {U:World} (B:Nat) (v:Value) (vs:List Value) (m:Nat) (xa:Option Addr) (xn xc:Nat) (hR:U.ownsRow B 55 1 v m vs) (hB:B<=U.heap.size) (g:Nat) (hg:U.heap[g]? =some (.cells #[.slice xa xn xc] 55 (0,0))) (hl:m<=4398046511000):
 ∃v' w',(∀(o:Oper) (ev:Operand->Value) (s x:Operand),o.op= .call { callee:= .builtin .append,args:= #[s,x],argTypes:= #[25,25] }->o.type=25->ev s=v->ev x= .slice (some ⟨g,0,none⟩) 1 1->(execOp ev o).run Tryz.prog U= .ok (.value v') w')/\w'.ownsRow B 55 1 v' (m+1) (vs++[.slice xa xn xc])/\U.grownBy w' v.ownBlock/\(v'.ownBlock=v.ownBlock\/v'.ownBlock=some U.heap.size):=by
 obtain⟨i1,hi1,hy0,hy1,hy2⟩:=info_parts Tryz.lK;obtain⟨v',w',hr,h2,h3,_,h5⟩:=run_append_own_at (P:=Tryz.prog) U B 25 25 55 i1 (.slice none 0 0) 1 24 Tryz.underlying25 hi1 hy0 hy1 hy2 rfl (by decide) v m vs hR ⟨g,0,none⟩ 1 1 [.slice xa xn xc] rfl (adB hg) (by simp[Value.oneCell']) (by unfold maxLen;omega) (by omega) hB;refine⟨v',w',fun o ev s x ho ht hs hx=> ?_,h2,h3,h5⟩;unfold execOp;simp only[ho,ht,resolve,invoke,builtin,aew,aex,ad4,ad7,ab7,adH,hs,hx,hr]
end
end Go.Proofs.YtdbjpbjocmcpkaaGreatDoor
