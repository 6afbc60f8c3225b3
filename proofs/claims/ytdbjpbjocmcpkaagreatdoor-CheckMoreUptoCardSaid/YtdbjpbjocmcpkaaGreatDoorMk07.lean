import Derived.Test.YtdbjpbjocmcpkaaGreatDoorMk06
import Derived.Test.YtdbjpbjocmcpkaaGreatDoorMk01
set_option maxHeartbeats 8000000
set_option maxRecDepth 100000
namespace Go.Proofs.YtdbjpbjocmcpkaaGreatDoor
section
namespace Cs
def fr (es:List (Int×Int)) (i:Nat):Nat:=(if i%2=0 then (es.getD (i/2) (0,0)).1 else (es.getD (i/2) (0,0)).2).toNat
def to (es:List (Int×Int)) (i:Nat):Nat:=(if i%2=0 then (es.getD (i/2) (0,0)).2 else (es.getD (i/2) (0,0)).1).toNat
def out (es:List (Int×Int)) (v:Nat):Nat->List Nat
 |0=>[]
 |k+1=>if fr es k=v then out es v k++[k] else out es v k
section
variable {es:List (Int×Int)} {u v i j k:Nat}
theorem ud:∀k,(out es v k).length<=k
 |0=>by simp[out]
 |k+1=>by
  have:=ud k;unfold out
  split<;>simp<;>omega
theorem dK (k:Nat):(out es v (k+1)).length=(out es v k).length+if fr es k=v then 1 else 0:=by
 conv=>lhs;unfold out
 split<;>simp
theorem Aw (h:i<=k):(out es v i).length<=(out es v k).length:=by
 induction k with
 |zero=>
  obtain rfl:i=0:=by omega
  exact aaD _
 |succ k ih=>
  by_cases hk:i=k+1
  .subst hk;exact aaD _
  .have:=ih (by omega)
   rw[dK];omega
theorem og (h:i<k) (hv:fr es i=v):(out es v i).length<(out es v k).length:=by
 have h1:=dK (es:=es) (v:=v) i;rw[if_pos hv] at h1;have h2:=Aw (es:=es) (v:=v) (i:=i+1) (k:=k) h;omega
theorem IX (h:i<k) (hv:fr es i=v):(out es v k)[(out es v i).length]? =some i:=by
 induction k with
 |zero=>omega
 |succ k ih=>
  by_cases hk:i=k
  .subst hk
   conv=>lhs;arg 1;unfold out
   rw[if_pos hv];simp
  .have h1:=ih (by omega)
   have h2:(out es v i).length<(out es v k).length:=og (by omega) hv
   conv=>lhs;arg 1;unfold out
   split
   .rw[aaU h2];exact h1
   .exact h1
theorem jN (h:(out es v k)[j]? =some i):i<k/\fr es i=v/\(out es v i).length=j:=by
 induction k with
 |zero=>simp[out] at h
 |succ k ih=>
  unfold out at h
  split at h
  .rename_i hv
   by_cases hj:j<(out es v k).length
   .rw[aaU hj] at h
    have:=ih h;exact⟨by omega,this.2⟩
   .rw[aa4 (by omega)] at h
    by_cases hj2:j-(out es v k).length=0
    .rw[hj2] at h
     simp at h;subst h;exact⟨by omega,hv,by omega⟩
    .rw[aaS (by simp;omega)] at h
     cases h
  .have:=ih h
   exact⟨by omega,this.2⟩
theorem wT {a b:Nat} (hij:i<j) (hi:(out es v k)[i]? =some a) (hj:(out es v k)[j]? =some b):a<b:=by
 have ha:=jN hi;have hb:=jN hj;rcases abk a b with h|h
 .exact h
 .have:=Aw (es:=es) (v:=v) h
  omega
def st (es:List (Int×Int)) (M:Nat):Nat->Nat
 |0=>0
 |v+1=>st es M v+(out es v M).length
theorem F9 {M:Nat} (h:u<v):st es M u+(out es u M).length<=st es M v:=by
 induction v with
 |zero=>omega
 |succ v ih=>
  have e:st es M (v+1)=st es M v+(out es v M).length:=rfl;by_cases hu:u=v
  .subst hu;omega
  .have:=ih (by omega)
   omega
theorem LG (M v:Nat):st es (M+1) v=st es M v+if fr es M<v then 1 else 0:=by
 induction v with
 |zero=>simp[st]
 |succ v ih=>
  have e1:st es (M+1) (v+1)=st es (M+1) v+(out es v (M+1)).length:=rfl;have e2:st es M (v+1)=st es M v+(out es v M).length:=rfl;rw[e1,e2,ih,dK]
  split<;>split<;>split<;>omega
theorem OI {n:Nat} (M:Nat) (h:∀i,i<M->fr es i<n):st es M n=M:=by
 induction M with
 |zero=>
  have:∀v,st es 0 v=0:=fun v=>by
   induction v with
   |zero=>rfl
   |succ v ih=>rw[show st es 0 (v+1)=st es 0 v+(out es v 0).length from rfl,ih];rfl
  exact this n
 |succ M ih=>
  rw[LG,ih (fun i hi=>h i (by omega)),if_pos (h M (by omega))]
theorem wz {n M:Nat} (h:∀i,i<M->fr es i<n) (hv:v<n):st es M v+(out es v M).length<=M:=by
 have:=F9 (es:=es) (M:=M) hv;rw[OI M h] at this;exact this
def pos (es:List (Int×Int)) (M i:Nat):Nat:=st es M (fr es i)+(out es (fr es i) i).length
theorem IV {n M:Nat} (h:∀i,i<M->fr es i<n) (hi:i<M):pos es M i<M:=by
 have h1:=wz h (h i hi);have h2:=og (es:=es) (k:=M) hi rfl;unfold pos;omega
theorem OT {M:Nat} (hij:i<j) (hj:j<M):pos es M i≠pos es M j:=by
 unfold pos;rcases abF (fr es i) (fr es j) with h|h|h
 .have h1:=F9 (es:=es) (M:=M) h
  have h2:=og (es:=es) (i:=i) (k:=M) (by omega) rfl;omega
 .rw[h]
  have h2:=og (es:=es) (i:=i) (k:=j) hij h;omega
 .have h1:=F9 (es:=es) (M:=M) h
  have h2:=og (es:=es) (i:=j) (k:=M) hj rfl;omega
end
structure jZ (es:List (Int×Int)) (n M k:Nat) (H Pl T F:List Int):Prop where
 lH:H.length=M
 lP:Pl.length=M
 lT:T.length=M
 lF:F.length=n
 hT:∀i,i<k->T[i]? =some (to es i:Int)
 hP:∀i,i<k->Pl[i]? =some (pos es M i:Int)
 hH:∀i,i<k->H[pos es M i]? =some (i:Int)
 hF:∀v,v<n->F[v]? =some ((st es M v+(out es v k).length:Nat):Int)
theorem jZ.at {es:List (Int×Int)} {n M k:Nat} {H Pl T F:List Int} (h:jZ es n M k H Pl T F) (hk:fr es k<n):F[fr es k]? =some (pos es M k:Int):=h.hF _ hk
theorem jZ.step {es:List (Int×Int)} {n M k:Nat} {H Pl T F:List Int} (h:jZ es n M k H Pl T F) (hn:∀i,i<M->fr es i<n) (hk:k<M):
 jZ es n M (k+1) (H.set (pos es M k) k) (Pl.set k (pos es M k)) (T.set k (to es k)) (F.set (fr es k) ((pos es M k:Int)+1)):=by
 have hp:=IV hn hk;refine⟨by simp[h.lH],by simp[h.lP],by simp[h.lT],by simp[h.lF],fun i hi=> ?_,fun i hi=> ?_,fun i hi=> ?_,fun v hv=> ?_⟩
 .rw[aaR]
  by_cases e:k=i
  .subst e;rw[if_pos rfl,if_pos (by rw[h.lT];exact hk)]
  .rw[if_neg e];exact h.hT i (by omega)
 .rw[aaR]
  by_cases e:k=i
  .subst e;rw[if_pos rfl,if_pos (by rw[h.lP];exact hk)]
  .rw[if_neg e];exact h.hP i (by omega)
 .rw[aaR]
  by_cases e:k=i
  .subst e;rw[if_pos rfl,if_pos (by rw[h.lH];exact hp)]
  .rw[if_neg (fun e2=>OT (es:=es) (M:=M) (i:=i) (j:=k) (by omega) hk e2.symm)];exact h.hH i (by omega)
 .rw[aaR,dK]
  by_cases e:fr es k=v
  .subst e
   rw[if_pos rfl,if_pos (by rw[h.lF];exact hv),if_pos rfl];unfold pos
   congr 1
  .rw[if_neg e,if_neg e];exact h.hF v hv
def uf (n:Nat) (es:List (Int×Int)) (v:Int):List Nat:=if 0<=v/\v<n then out es v.toNat (2*es.length) else []
theorem kO {n:Nat} {es:List (Int×Int)} {v:Nat} (h:v<n):uf n es v=out es v (2*es.length):=by
 unfold uf;rw[if_pos ⟨by omega,by omega⟩];simp
theorem Dy {n:Nat} {es:List (Int×Int)} {v:Int} (h:¬(0<=v/\v<n)):uf n es v=[]:=by
 unfold uf;rw[if_neg h]
theorem dG {n:Nat} {es:List (Int×Int)} (hv:Si.Val n es) {i:Nat} (hi:i<2*es.length):fr es i<n/\to es i<n:=by
 obtain⟨p,hp⟩:∃p,es[i/2]? =some p:=⟨_,aaC (by omega)⟩;have ho:=hv.each _ p hp;unfold Si.ok at ho;unfold fr to;rw[aaI,hp];dsimp only[Option.getD_some]
 split<;>omega
theorem eu {es:List (Int×Int)} {k:Nat} {p:Int×Int} (hp:es[k]? =some p):fr es (2*k)=p.1.toNat/\to es (2*k)=p.2.toNat:=by
 unfold fr to;have e:2*k/2=k:=by omega
 have e2:2*k%2=0:=by omega
 rw[e,e2,aaI,hp];exact⟨rfl,rfl⟩
theorem jQ {es:List (Int×Int)} {k:Nat} {p:Int×Int} (hp:es[k]? =some p):fr es (2*k+1)=p.2.toNat/\to es (2*k+1)=p.1.toNat:=by
 unfold fr to;have e:(2*k+1)/2=k:=by omega
 have e2:(2*k+1)%2=1:=by omega
 rw[e,e2,aaI,hp];exact⟨rfl,rfl⟩
def twin (i:Nat):Nat:=if i%2=0 then i+1 else i-1
theorem dV {i m:Nat} (h:i<2*m):twin i<2*m:=by
 unfold twin
 split<;>omega
theorem wk (es:List (Int×Int)) (i:Nat):to es (twin i)=fr es i:=by
 unfold to fr twin;by_cases h:i%2=0
 .have e:(i+1)/2=i/2:=by omega
  have e2:¬((i+1)%2=0):=by omega
  rw[if_pos h,if_pos h,e,if_neg e2]
 .have e:(i-1)/2=i/2:=by omega
  have e2:(i-1)%2=0:=by omega
  rw[if_neg h,if_neg h,e,if_pos e2]
theorem jl (es:List (Int×Int)) (i:Nat):fr es (twin i)=to es i:=by
 unfold to fr twin;by_cases h:i%2=0
 .have e:(i+1)/2=i/2:=by omega
  have e2:¬((i+1)%2=0):=by omega
  rw[if_pos h,if_pos h,e,if_neg e2]
 .have e:(i-1)/2=i/2:=by omega
  have e2:(i-1)%2=0:=by omega
  rw[if_neg h,if_neg h,e,if_pos e2]
theorem Ad {n:Int} {es:List (Int×Int)} (hv:Si.Val n es) {i j:Nat} (hij:i<j) (hj:j<2*es.length) (hf:fr es i=fr es j):to es i<to es j:=by
 obtain⟨p,hp⟩:∃p,es[i/2]? =some p:=⟨_,aaC (by omega)⟩;obtain⟨q,hq⟩:∃q,es[j/2]? =some q:=⟨_,aaC (by omega)⟩;have hop:=hv.each _ p hp;have hoq:=hv.each _ q hq;unfold Si.ok at hop hoq;have hl:i/2=j/2\/Si.lt p q:=by
  by_cases h:i/2=j/2
  .exact .inl h
  .exact .inr (hv.mono (j/2) (i/2) p q (by omega) hp hq)
 have hpq:i/2=j/2->p=q:=fun h=>by
  rw[h,hq] at hp;cases hp;rfl
 have gp:es.getD (i/2) (0,0)=p:=by rw[aaI,hp];rfl
 have gq:es.getD (j/2) (0,0)=q:=by rw[aaI,hq];rfl
 unfold fr at hf;unfold to;rw[gp,gq] at hf;rw[gp,gq];rcases hl with hl|hl
 .have:=hpq hl
  subst this;have h1:i%2=0:=by omega
  have h2:¬(j%2=0):=by omega
  rw[if_pos h1,if_neg h2] at hf;omega
 .unfold Si.lt at hl
  by_cases h1:i%2=0<;>by_cases h2:j%2=0
  .rw[if_pos h1,if_pos h2] at hf ⊢
   omega
  .rw[if_pos h1,if_neg h2] at hf ⊢
   omega
  .rw[if_neg h1,if_pos h2] at hf ⊢
   omega
  .rw[if_neg h1,if_neg h2] at hf ⊢
   omega
end Cs
end
section
open Go.RowKit
def Cs.iy (n:Nat) (es:List (Int×Int)) (x:Int):List Int:=(Cs.uf n es x).map fun i:Nat=>(i:Int)
theorem Cs.J6 {n:Nat} {es:List (Int×Int)} {x:Int}:(Cs.iy n es x).length=(Cs.uf n es x).length:=by simp[Cs.iy]
def Cs.KO (es:List (Int×Int)) (x:Int):Int:=if 0<=x/\x<2*(es.length:Int) then (Cs.fr es x.toNat:Int) else -1
def Cs.toI (es:List (Int×Int)) (x:Int):Int:=if 0<=x/\x<2*(es.length:Int) then (Cs.to es x.toNat:Int) else -1
theorem Cs.oA {es:List (Int×Int)} {i:Nat} (h:i<2*es.length):Cs.KO es i=(Cs.fr es i:Int):=by
 unfold Cs.KO;rw[if_pos (by omega)];simp
theorem Cs.toI_in {es:List (Int×Int)} {i:Nat} (h:i<2*es.length):Cs.toI es i=(Cs.to es i:Int):=by
 unfold Cs.toI;rw[if_pos (by omega)];simp
theorem Cs.Pu {es:List (Int×Int)} {x:Int} (h:¬(0<=x/\x<2*(es.length:Int))):Cs.KO es x= -1:=by unfold Cs.KO;rw[if_neg h]
theorem Cs.toI_no {es:List (Int×Int)} {x:Int} (h:¬(0<=x/\x<2*(es.length:Int))):Cs.toI es x= -1:=by unfold Cs.toI;rw[if_neg h]
theorem Cs.BN (u:Nat):u ^^^ 1=Cs.twin u:=by
 have h1:(u ^^^ 1)/2=u/2:=by rw[Nat.xor_div_two];simp
 have h2:(u ^^^ 1)%2=(u+1)%2:=by
  have:=Nat.xor_mod_two_pow (a:=u) (b:=1) (n:=1);simp at this;rw[this];rcases abt u with h|h<;>rw[h]<;>simp<;>omega
 unfold Cs.twin
 split<;>omega
theorem Cs.kF (u:Nat) (hu:u<4611686018427387904):bits .xor .i64 (u:Int) 1=(Cs.twin u:Int):=by
 have h1:(BitVec.ofInt 64 (u:Int)).toNat=u:=by
  rw[BitVec.ofInt_natCast,BitVec.toNat_ofNat];exact abd (by omega)
 have h2:(BitVec.ofInt 64 (1:Int)).toNat=1:=by decide
 show IntKind.i64.wrap ((BitVec.ofInt 64 (u:Int) ^^^ BitVec.ofInt 64 (1:Int)).toNat:Int)=_;have h3:=Cs.BN u;have h4:Cs.twin u<=u+1:=by unfold Cs.twin;split<;>omega
 rw[BitVec.toNat_xor,h1,h2,aaK,h3];omega
end
namespace Ro
def lv (es:List (Int×Int)) (h:Int) (v:Nat):Bool:=decide (0<=h)&&decide (h<2*(es.length:Int))&&(Cs.KO es h==(v:Int))
def gi (es:List (Int×Int)) (v:Nat):List Int->List Int->Int
 |_,[]=>0
 |pre,h::t=>if lv es h v then (if h∈pre then 112 else gi es v (pre++[h]) t) else 111
def fE (es:List (Int×Int)) (v:Nat):Nat:=(Cs.out es v (2*es.length)).length
def rY (es:List (Int×Int)) (v:Nat) (l:List Int):Int:=if gi es v [] l≠0 then gi es v [] l else if l.length<fE es v then 113 else 0
def iD (es:List (Int×Int)):Nat->List (List Int)->Nat×Int
 |_,[]=>(0,0)
 |v,l::ls=>if rY es v l≠0 then (v,rY es v l) else iD es (v+1) ls
noncomputable def check (n:Int) (es:List (Int×Int)) (ls:List (List Int)):Nat×Int:=if Si.valid n es=true then (if (ls.length:Int)≠n then (0,110) else iD es 0 ls) else (0,1)
end Ro
section
namespace Ro
structure Sd (es:List (Int×Int)) (f:Nat->Bool) (v:Nat) (D pre:List Int):Prop where
 tell:∀j:Nat,f j=true↔(j:Int)∈D\/(j:Int)∈pre
 low:∀x∈D,∃u:Nat,u<v/\lv es x u=true
 here:∀x∈pre,lv es x v=true
theorem O1 {es:List (Int×Int)} {x:Int} {u v:Nat} (h:lv es x u=true) (h2:lv es x v=true):u=v:=by
 unfold lv at h h2;simp at h h2;omega
theorem ow {es:List (Int×Int)} {x:Int} {v:Nat} (h:lv es x v=true):∃j:Nat,x=(j:Int)/\j<2*es.length/\Cs.fr es j=v:=by
 unfold lv at h;simp at h;obtain⟨j,rfl⟩:∃j:Nat,x=(j:Int):=⟨x.toNat,by omega⟩;have hj:j<2*es.length:=by omega
 rw[Cs.oA hj] at h;exact⟨j,rfl,hj,by omega⟩
theorem Rq {es:List (Int×Int)} {j v:Nat} (hj:j<2*es.length) (h:Cs.fr es j=v):lv es (j:Int) v=true:=by
 unfold lv;rw[Cs.oA hj];simp;omega
theorem Sd.start (es:List (Int×Int)):Sd es (fun _=>false) 0 [] []:=⟨fun j=>by simp,fun x hx=>by simp at hx,fun x hx=>by simp at hx⟩
theorem Sd.twice {es:List (Int×Int)} {f:Nat->Bool} {v j:Nat} {D pre:List Int} (h:Sd es f v D pre) (hl:lv es (j:Int) v=true):f j=true↔(j:Int)∈pre:=by
 rw[h.tell];constructor
 .rintro(h1|h1)
  .obtain⟨u,hu,h2⟩:=h.low _ h1
   have:=O1 hl h2;omega
  .exact h1
 .exact Or.inr
theorem Sd.put {es:List (Int×Int)} {f:Nat->Bool} {v j:Nat} {D pre:List Int} (h:Sd es f v D pre) (hl:lv es (j:Int) v=true):Sd es (Co.bB f j true) v D (pre++[(j:Int)]):=by
 refine⟨fun i=> ?_,h.low,fun x hx=> ?_⟩
 .by_cases e:i=j
  .subst e
   rw[Co.fS];simp
  .rw[Co.dS _ e,h.tell]
   have e2:¬(i:Int)=(j:Int):=by omega
   simp[e2]
 .rcases abl.1 hx with h1|h1
  .exact h.here x h1
  .obtain rfl:=aa6.1 h1
   exact hl
theorem Sd.next {es:List (Int×Int)} {f:Nat->Bool} {v:Nat} {D pre:List Int} (h:Sd es f v D pre):Sd es f (v+1) (D++pre) []:=by
 refine⟨fun i=> ?_,fun x hx=> ?_,fun x hx=>by simp at hx⟩
 .rw[h.tell]
  simp
 .rcases abl.1 hx with h1|h1
  .obtain⟨u,hu,h2⟩:=h.low x h1
   exact⟨u,by omega,h2⟩
  .exact⟨v,by omega,h.here x h1⟩
section
variable {es:List (Int×Int)} {v:Nat} {pre t:List Int} {h:Int}
theorem tq (hl:lv es h v=false):gi es v pre (h::t)=111:=by simp[gi,hl]
theorem qi (hl:lv es h v=true) (hp:h∈pre):gi es v pre (h::t)=112:=by simp[gi,hl,hp]
theorem vJ (hl:lv es h v=true) (hp:h∉pre):gi es v pre (h::t)=gi es v (pre++[h]) t:=by simp[gi,hl,hp]
end
theorem jw {es:List (Int×Int)} {k:Nat} {l:List Int} {ls:List (List Int)} {c:Int} (h:rY es k l=c) (hc:c≠0):iD es k (l::ls)=(k,c):=by
 unfold iD;rw[h,if_pos hc]
theorem Ct {es:List (Int×Int)} {k:Nat} {l:List Int} {ls:List (List Int)} (h:rY es k l=0):iD es k (l::ls)=iD es (k+1) ls:=by
 conv=>lhs;unfold iD
 rw[h,if_neg (by simp)]
theorem qF {es:List (Int×Int)} {k:Nat} {l:List Int} {c:Int} (h:gi es k [] l=c) (hc:c≠0):rY es k l=c:=by
 unfold rY;rw[h,if_pos hc]
theorem qE {es:List (Int×Int)} {k:Nat} {l:List Int} (h:gi es k [] l=0) (hd:l.length<fE es k):rY es k l=113:=by
 unfold rY;rw[h,if_neg (by simp),if_pos hd]
theorem Bj {es:List (Int×Int)} {k:Nat} {l:List Int} (h:gi es k [] l=0) (hd:¬l.length<fE es k):rY es k l=0:=by
 unfold rY;rw[h,if_neg (by simp),if_neg hd]
theorem A4 {es:List (Int×Int)}:∀{k:Nat} {ls:List (List Int)},(iD es k ls).2=0->(iD es k ls).1=0
 |_,[],_=>rfl
 |k,l::ls,h=>by
  unfold iD at h ⊢
  split at h
  .rename_i hc
   exact absurd h hc
  .rename_i hc
   rw[if_neg hc];exact A4 h
theorem Fe {n:Int} {es:List (Int×Int)} {ls:List (List Int)} (h:(check n es ls).2=0):(check n es ls).1=0:=by
 unfold check at h ⊢
 split at h
 .rename_i h1
  rw[if_pos h1]
  split at h
  .cases h
  .rename_i h2
   rw[if_neg h2];exact A4 h
 .cases h
theorem drop_cons {α:Type} {l:List α} {i:Nat} {x:α} (h:l[i]? =some x):l.drop i=x::l.drop (i+1):=by
 obtain⟨hi,rfl⟩:=aaF.1 h;exact acY hi
theorem gF {α:Type} {l:List α} {i:Nat} {x:α} (h:l[i]? =some x):l.take (i+1)=l.take i++[x]:=by
 rw[abG,h];rfl
end Ro
end
namespace Ro
def row (l:List Int):Nat->List Int->List Int
 |0,acc=>acc
 |k+1,acc=>(row l k acc).set (l.getD k 0).toNat (l.getD ((k+1)%l.length) 0)
def nx (ls:List (List Int)):Nat->List Int->List Int
 |0,acc=>acc
 |k+1,acc=>row (ls.getD k []) (ls.getD k []).length (nx ls k acc)
def gZ (es:List (Int×Int)) (ls:List (List Int)):List Int:=nx ls ls.length (List.replicate (2*es.length) 0)
theorem qN (l:List Int):∀k acc,(row l k acc).length=acc.length
 |0,_=>rfl
 |k+1,acc=>by
  unfold row;rw[abV,qN l k]
theorem vE (ls:List (List Int)):∀k acc,(nx ls k acc).length=acc.length
 |0,_=>rfl
 |k+1,acc=>by
  unfold nx;rw[qN,vE ls k]
theorem xe (es:List (Int×Int)) (ls:List (List Int)):(gZ es ls).length=2*es.length:=by
 unfold gZ;rw[vE];simp
theorem Jq {es:List (Int×Int)} {v:Nat}:∀{t pre:List Int},gi es v pre t=0->(∀x∈t,lv es x v=true)/\t.Nodup/\∀x∈t,x∉pre
 |[],pre,_=>⟨fun x hx=>by simp at hx,List.nodup_nil,fun x hx=>by simp at hx⟩
 |h::t,pre,h0=>by
  cases hl:lv es h v with
  |false=>rw[tq hl] at h0;cases h0
  |true=>
   by_cases hp:h∈pre
   .rw[qi hl hp] at h0;cases h0
   .rw[vJ hl hp] at h0
    obtain⟨i1,i2,i3⟩:=Jq h0;refine⟨fun x hx=> ?_,?_,fun x hx=> ?_⟩
    .rcases aaW.1 hx with rfl|hx
     .exact hl
     .exact i1 x hx
    .rw[acK]
     exact⟨fun hm=>i3 h hm (by simp),i2⟩
    .rcases aaW.1 hx with rfl|hx
     .exact hp
     .intro hm
      exact i3 x hx (by simp[hm])
theorem Jr {es:List (Int×Int)} {v:Nat}:∀{t pre:List Int},(∀x∈t,lv es x v=true)->t.Nodup->(∀x∈t,x∉pre)->gi es v pre t=0
 |[],_,_,_,_=>rfl
 |h::t,pre,h1,h2,h3=>by
  rw[acK] at h2;rw[vJ (h1 h (by simp)) (h3 h (by simp))];refine Jr (fun x hx=>h1 x (by simp[hx])) h2.2 fun x hx hm=> ?_
  rcases abl.1 hm with h4|h4
  .exact h3 x (by simp[hx]) h4
  .rw[aa6] at h4
   subst h4;exact h2.1 hx
structure mh (es:List (Int×Int)) (v:Nat) (l:List Int):Prop where
 lv:∀x∈l,lv es x v=true
 once:l.Nodup
 all:fE es v<=l.length
theorem CX {es:List (Int×Int)} {v:Nat} {l:List Int}:rY es v l=0↔mh es v l:=by
 constructor
 .intro h
  unfold rY at h
  split at h
  .rename_i h1;exact absurd h h1
  .rename_i h1
   have h1:gi es v [] l=0:=by simpa using h1
   obtain⟨a,b,-⟩:=Jq h1
   split at h
   .cases h
   .exact⟨a,b,by omega⟩
 .intro h
  exact Bj (Jr h.lv h.once fun x _ hx=>by simp at hx) (by have:=h.all;omega)
theorem yB {es:List (Int×Int)}:∀{k:Nat} {ls:List (List Int)},(iD es k ls).2=0↔∀v l,ls[v]? =some l->mh es (k+v) l
 |k,[]=>by simp[iD]
 |k,l::ls=>by
  by_cases h0:rY es k l=0
  .rw[Ct h0,yB]
   constructor
   .intro h v m hm
    cases v with
    |zero=>simp at hm;subst hm;exact CX.1 h0
    |succ v=>
     have:=h v m (by simpa using hm);rwa[show k+1+v=k+(v+1) by omega] at this
   .intro h v m hm
    have:=h (v+1) m (by simpa using hm);rwa[show k+(v+1)=k+1+v by omega] at this
  .rw[jw rfl h0]
   constructor
   .intro h;exact absurd h h0
   .intro h
    have:=h 0 l rfl;exact absurd (CX.2 this) h0
structure eY (n:Int) (es:List (Int×Int)) (ls:List (List Int)):Prop where
 val:Si.valid n es=true
 len:(ls.length:Int)=n
 each:∀v l,ls[v]? =some l->mh es v l
theorem fA {n:Int} {es:List (Int×Int)} {ls:List (List Int)}:(check n es ls).2=0↔eY n es ls:=by
 unfold check;constructor
 .intro h
  split at h
  .rename_i hv
   split at h
   .cases h
   .rename_i hl
    have hl:(ls.length:Int)=n:=by omega
    have:=yB.1 h;exact⟨hv,hl,fun v l hvl=>by have:=this v l hvl;rwa[aa7] at this⟩
  .cases h
 .intro h
  rw[if_pos h.val,if_neg (by have:=h.len;omega),yB];intro v l hvl;rw[aa7];exact h.each v l hvl
theorem eY.half {n:Int} {es:List (Int×Int)} {ls:List (List Int)} (h:eY n es ls) {v i:Nat} {l:List Int} {x:Int} (hl:ls[v]? =some l) (hx:l[i]? =some x):∃j:Nat,x=(j:Int)/\j<2*es.length/\Cs.fr es j=v:=
 ow ((h.each v l hl).lv x (aaG hx))
end Ro
section
namespace Ro
theorem gO {es:List (Int×Int)} {v j k:Nat}:j∈Cs.out es v k↔j<k/\Cs.fr es j=v:=by
 constructor
 .intro h
  obtain⟨i,hi⟩:=acE.1 h;have:=Cs.jN hi;exact⟨this.1,this.2.1⟩
 .rintro⟨h,hv⟩
  exact aaG (Cs.IX h hv)
section
variable {es:List (Int×Int)} {v:Nat} {l:List Int}
theorem mh.sub (h:mh es v l):l⊆(Cs.out es v (2*es.length)).map (fun j:Nat=>(j:Int)):=by
 intro x hx;obtain⟨j,rfl,hj,hf⟩:=ow (h.lv x hx);exact abu.2 ⟨j,gO.2 ⟨hj,hf⟩,rfl⟩
theorem mh.len (h:mh es v l):l.length=fE es v:=by
 have h1:=h.once.length_le_of_subset h.sub;rw[aaP] at h1;have h2:=h.all;unfold fE at h2 ⊢;omega
theorem mh.mem (h:mh es v l) {j:Nat} (hj:j<2*es.length) (hf:Cs.fr es j=v):(j:Int)∈l:=by
 refine acZ fun hn=> ?_
 have hN:((j:Int)::l).Nodup:=acK.2 ⟨hn,h.once⟩;have h1:=hN.length_le_of_subset (l₂:=(Cs.out es v (2*es.length)).map (fun j:Nat=>(j:Int))) (by
  intro x hx;rcases aaW.1 hx with rfl|hx
  .exact abu.2 ⟨j,gO.2 ⟨hj,hf⟩,rfl⟩
  .exact h.sub hx)
 rw[aaP,abY,h.len] at h1;unfold fE at h1;omega
end
theorem AA {l:List Int} (h:l.Nodup) {i j:Nat} {x:Int} (hi:l[i]? =some x) (hj:l[j]? =some x):i=j:=by
 obtain⟨h1,rfl⟩:=aaF.1 hi;obtain⟨h2,e⟩:=aaF.1 hj;rcases abF i j with c|c|c
 .exact absurd e.symm (aa8.1 h i j h1 h2 c)
 .exact c
 .exact absurd e (aa8.1 h j i h2 h1 c)
theorem lJ {α:Type} {l:List α} {i:Nat} {x:α} (h:l[i]? =some x):i<l.length:=(aaF.1 h).1
theorem yl {l:List Int} {i:Nat} {x:Int} (h:l[i]? =some x):l.getD i 0=x:=by simp[List.getD,h]
theorem fL {l:List Int} {i:Nat} (h:i<l.length):l[i]? =some (l.getD i 0):=by simp[List.getD,h]
theorem wI {l:List Int} {j:Nat}:∀{k:Nat} {acc:List Int},k<=l.length->(∀i,i<k->(l.getD i 0).toNat≠j)->(row l k acc)[j]? =acc[j]?
 |0,_,_,_=>rfl
 |k+1,acc,hk,h=>by
  rw[row,acp (h k (by omega))];exact wI (by omega) fun i hi=>h i (by omega)
theorem IP {l:List Int} (hN:l.Nodup) (h0:∀x∈l,0<=x) {i:Nat}:∀{k:Nat} {acc:List Int},k<=l.length->i<k->(l.getD i 0).toNat<acc.length->(row l k acc)[(l.getD i 0).toNat]? =some (l.getD ((i+1)%l.length) 0)
 |0,_,_,h,_=>by omega
 |k+1,acc,hk,hi,hb=>by
  rw[row];by_cases e:i=k
  .subst e
   rw[List.getElem?_set_self (by rw[qN];exact hb)]
  .have hne:(l.getD k 0).toNat≠(l.getD i 0).toNat:=by
    intro hc;have a1:=fL (l:=l) (i:=i) (by omega);have a2:=fL (l:=l) (i:=k) (by omega);have b1:=h0 _ (aaG a1);have b2:=h0 _ (aaG a2);have hc2:l.getD k 0=l.getD i 0:=by omega
    rw[hc2] at a2;exact e (AA hN a1 a2)
   rw[acp hne];exact IP hN h0 (by omega) (by omega) hb
section
variable {n:Int} {es:List (Int×Int)} {ls:List (List Int)}
theorem eY.OY (h:eY n es ls) {v:Nat} {l:List Int} (hl:ls[v]? =some l):∀x∈l,0<=x:=fun x hx=>by
 obtain⟨j,rfl,-,-⟩:=ow ((h.each v l hl).lv x hx);omega
theorem LU (h:eY n es ls) {v i:Nat} {l:List Int} (hl:ls[v]? =some l) (hi:i<l.length):∀{k:Nat} {acc:List Int},acc.length=2*es.length->k<=ls.length->v<k->(nx ls k acc)[(l.getD i 0).toNat]? =some (l.getD ((i+1)%l.length) 0)
 |0,_,_,_,h=>by omega
 |k+1,acc,ha,hk,hv=>by
  obtain⟨j,hj,Pg,hjf⟩:=h.half hl (fL hi);rw[nx];by_cases e:v=k
  .subst e
   have e2:ls.getD v []=l:=by simp[List.getD,hl]
   rw[e2];exact IP (h.each v l hl).once (h.OY hl) (aaD _) hi (by rw[vE,ha,hj];simpa using Pg)
  .have hk1:k<ls.length:=by omega
   have hlk:ls[k]? =some (ls.getD k []):=by simp[List.getD,hk1]
   rw[wI (aaD _) ?_]
   .exact LU h hl hi ha (by omega) (by omega)
   .intro i' hi' hc
    obtain⟨j',hj',-,aal⟩:=h.half hlk (fL hi');rw[hj,hj'] at hc;have:j'=j:=by simpa using hc
    subst this;omega
theorem eY.next (h:eY n es ls) {v i:Nat} {l:List Int} {x:Int} (hl:ls[v]? =some l) (hx:l[i]? =some x):(gZ es ls)[x.toNat]? =some (l.getD ((i+1)%l.length) 0):=by
 have hi:=lJ hx;have hv:=lJ hl;have:=LU h hl hi (k:=ls.length) (acc:=List.replicate (2*es.length) 0) (by simp) (aaD _) hv;rw[yl hx] at this;exact this
theorem eY.place (h:eY n es ls) {j:Nat} (hj:j<2*es.length) (hf:(Cs.fr es j:Int)<n):∃(l:List Int) (i:Nat),ls[Cs.fr es j]? =some l/\l[i]? =some (j:Int)/\l.length=fE es (Cs.fr es j):=by
 have hlt:Cs.fr es j<ls.length:=by have:=h.len;omega
 have hl:ls[Cs.fr es j]? =some ls[Cs.fr es j]:=by simp[hlt]
 obtain⟨i,hi⟩:=acE.1 ((h.each _ _ hl).mem hj rfl);exact⟨_,i,hl,hi,(h.each _ _ hl).len⟩
theorem eY.OZ (h:eY n es ls) {j:Nat} (hj:j<2*es.length) (hf:(Cs.fr es j:Int)<n):∃t:Nat,(gZ es ls)[j]? =some (t:Int)/\t<2*es.length/\Cs.fr es t=Cs.fr es j:=by
 obtain⟨l,i,hl,hi,-⟩:=h.place hj hf;have h1:=h.next hl hi
 have hil:=lJ hi;obtain⟨t,ht,RH,RJ⟩:=h.half hl (fL (i:=(i+1)%l.length) (acd _ (by omega)));rw[ht] at h1;exact⟨t,by simpa using h1,RH,RJ⟩
theorem L9 {a b d:Nat} (ha:a<d) (hb:b<d) (h:(a+1)%d=(b+1)%d):a=b:=by
 rcases abk (a+1) d with h1|h1<;>rcases abk (b+1) d with h2|h2
 .rw[abd h1,abd h2] at h
  omega
 .have:b+1=d:=by omega
  rw[abd h1,this,Nat.mod_self] at h;omega
 .have:a+1=d:=by omega
  rw[abd h2,this,Nat.mod_self] at h;omega
 .omega
theorem eY.inj (h:eY n es ls) (hfr:∀j,j<2*es.length->(Cs.fr es j:Int)<n) {a b:Nat} {t:Int} (ha:(gZ es ls)[a]? =some t) (hb:(gZ es ls)[b]? =some t):a=b:=by
 have hal:a<2*es.length:=by have:=lJ ha;rwa[xe] at this
 have hbl:b<2*es.length:=by have:=lJ hb;rwa[xe] at this
 obtain⟨l,i,hl,hi,-⟩:=h.place hal (hfr a hal);obtain⟨l',i',hl',hi',-⟩:=h.place hbl (hfr b hbl);have h1:=h.next hl hi
 have h2:=h.next hl' hi'
 simp only[abb] at h1 h2;have e1:t=l.getD ((i+1)%l.length) 0:=by rw[ha] at h1;exact aaQ h1
 have e2:t=l'.getD ((i'+1)%l'.length) 0:=by rw[hb] at h2;exact aaQ h2
 have hil:=lJ hi;have MU:=lJ hi';have a1:=fL (l:=l) (i:=(i+1)%l.length) (acd _ (by omega));have a2:=fL (l:=l') (i:=(i'+1)%l'.length) (acd _ (by omega));rw[<-e1] at a1;rw[<-e2] at a2;obtain⟨u,hu,-,nj⟩:=h.half hl a1;obtain⟨u',zC,-,hf2⟩:=h.half hl' a2;have X8:u=u':=by omega
 subst X8;have Yt:Cs.fr es a=Cs.fr es b:=by omega
 rw[<-Yt,hl] at hl';cases hl';have:=L9 hil MU (AA (h.each _ _ hl).once a1 a2);subst this;rw[hi] at hi';have:=aaQ hi';omega
theorem eY.step (h:eY n es ls) {v i s:Nat} {l:List Int} (hl:ls[v]? =some l) (hi:i<l.length):∃t t':Nat,l[(i+s)%l.length]? =some (t:Int)/\l[(i+(s+1))%l.length]? =some (t':Int)/\t<2*es.length/\Cs.fr es t=v/\(gZ es ls)[t]? =some (t':Int):=by
 have a1:=fL (l:=l) (i:=(i+s)%l.length) (acd _ (by omega));have a2:=fL (l:=l) (i:=(i+(s+1))%l.length) (acd _ (by omega));obtain⟨t,ht,RH,RJ⟩:=h.half hl a1;obtain⟨t',ht',-,-⟩:=h.half hl a2;have h1:=h.next hl a1
 rw[ht] at a1 h1;rw[ht'] at a2;refine⟨t,t',a1,a2,RH,RJ,?_⟩;have e:((i+s)%l.length+1)%l.length=(i+(s+1))%l.length:=by
  rw[ac8,acq]
 rw[e,yl a2] at h1;simpa using h1
end
end Ro
end
section
open Go.RowKit
namespace Si
theorem rM (l:List Int) (v:Int):(bump l v).length=l.length:=by simp[bump]
theorem yw (n:Int) (es:List (Int×Int)) (p:Int×Int):eA n (es++[p])=bump (bump (eA n es) p.1) p.2:=by simp[eA,List.foldl_append]
theorem lZ (n:Int) (es:List (Int×Int)):(eA n es).length=n.toNat:=by
 unfold eA
 suffices h:∀(es:List (Int×Int)) (l:List Int),(es.foldl (fun l e=>bump (bump l e.1) e.2) l).length=l.length by rw[h];simp
 intro es
 induction es with
 |nil=>intro l;rfl
 |cons e es ih=>intro l;rw[List.foldl_cons,ih,rM,rM]
def yJ (m:Int) (l:List Int):Prop:=∀(j:Nat) (x:Int),l[j]? =some x->0<=x/\x<=m
theorem yJ.bump {m:Int} {l:List Int} (h:yJ m l) (v:Int):yJ (m+1) (bump l v):=by
 intro j x hx;unfold Si.bump at hx;rw[aaR] at hx;by_cases hv:v.toNat=j
 .rw[if_pos hv] at hx
  split at hx
  .cases hx
   rename_i hl
   have e:l[v.toNat]? =some l[v.toNat]:=aaC hl;have:=h _ _ e;rw[aaI,e];dsimp only[Option.getD_some];omega
  .cases hx
 .rw[if_neg hv] at hx
  have:=h j x hx;omega
theorem Hp (n:Int) (es:List (Int×Int)):yJ (2*es.length) (eA n es):=by
 unfold eA
 suffices h:∀(es:List (Int×Int)) (l:List Int) (m:Int),yJ m l->yJ (m+2*es.length) (es.foldl (fun l e=>Si.bump (Si.bump l e.1) e.2) l) by
  have:=h es (List.replicate n.toNat 0) 0 (fun j x hx=>by
   rw[abB] at hx
   split at hx
   .cases hx;omega
   .cases hx)
  simpa using this
 intro es
 induction es with
 |nil=>intro l m h;simpa using h
 |cons e es ih=>
  intro l m h;have:=ih _ _ ((h.bump e.1).bump e.2);rw[List.foldl_cons];have e1:m+2*((e::es).length:Int)=m+1+1+2*(es.length:Int):=by simp;omega
  rw[e1];exact this
end Si
end
section
open Go.Proofs.Tryz
open Go.RowKit Go.Sort
def Oz (n:Int) (es:List (Int×Int)) (w:World) (e:Ending) (w':World):Prop:=
 ((Si.valid n es=true/\∃g m:Nat,n=(m:Int)/\e= .returned (.tuple #[.slice (some ⟨g,0,none⟩) m m,.int .i64 0])/\w.heap.size<=g/\aq w' g (Si.eA n es))\/(Si.valid n es=false/\e= .returned (.tuple #[.slice none 0 0,.int .i64 1])))/\Below w.heap.size w w'
theorem Si.rN {l:List Int} {u:Nat} {x:Int} (h:l[u]? =some x):Si.bump l (u:Int)=l.set u (x+1):=by
 unfold Si.bump;rw[abb,aaI,h];rfl
theorem rI (n:Int) (ao:Option Addr) (cap:Nat) (es:List (Int×Int)) (w:World) (he:ah w ao es) (hl:es.length<=4611686018427387904):
 Calls prog 173 #[aD n ao es.length cap] w (Oz n es w):=by
 obtain⟨i0,hi,hz0,hz1,hz2⟩:=info_parts Tryz.ck;have HE:=ζ he;have xG:=fun W (hb:Below w.heap.size w W)=>lu n ao cap es W (he.later hb) hl
 unfold aD at xG ⊢;have jA:=ζ xG;clear he xG;have jg:Below w.heap.size w (w.alloc (.cells #[.int .i64 n,.slice ao es.length cap] 24)):=(aaE _ _).alloc (aaD _) _;have fQ:=ζ jg;clear jg;cases hv:Si.valid n es with
 |false=>
  rw[hv] at jA;have HV:=ζ hv;clear hv;go_enter func173,ntmps173;go_wp2_with (go_at_call 38;refine(jA.out _ fQ.out).mono ?_;rintro e w' ⟨rfl,hb⟩;refine aaH ?_);refine ζ ?_;have HB:=ζ (fQ.out.trans (hb.mono fQ.out.size));clear hb;go_wp2;go_ret2;exact⟨.inr ⟨HV.out,rfl⟩,HB.out⟩
 |true=>
  rw[hv] at jA;have hval:=Si.aJ.1 hv;have dA:=hval.few;have hlo:=hval.lo;have hhi:=hval.hi;obtain⟨m,rfl⟩:∃m:Nat,n=(m:Int):=⟨n.toNat,by omega⟩;have iB:=ζ hval;have HV:=ζ hv;clear hval hv;go_enter func173,ntmps173;go_wp2_with (go_at_call 38;refine(jA.out _ fQ.out).mono ?_;rintro e w' ⟨rfl,hb⟩;refine aaH ?_);refine ζ ?_;have hG:w'.heap[w.heap.size]? =some (.cells #[.int .i64 m,.slice ao es.length cap] 24 (0,0)):=(hb.block _ (by simp)).trans (heap_alloc_new w _);have HB:=ζ (fQ.out.trans (hb.mono fQ.out.size));have GI:=lt_of_block hG;obtain⟨g0,g1,-⟩:=af hG;clear hb hG;go_wp2_with (at_make;refine wpList_make_full _ rfl _ _ 55 rfl w'.heap.size 3 i0 (.int .i64 0) 1 Tryz.underlying55 hi hz0 hz1 _ _ _ _ m rfl rfl rfl rfl (by rw[hz2];omega) (by unfold maxLen;omega) (aaD _) ?_;refine aaH ?_);refine ζ ?_;intro w2 hrow hg2;rw[dz] at hrow;have hik:=fJ hrow;have hb2:Below w'.heap.size w' w2:=(aaE _ _).grown hg2 (aaD _) (fun j hj=>by cases hj);have aC:=ζ (HB.out.trans (hb2.mono HB.out.size));have k1:=(hb2.cell (p:=⟨w.heap.size,1,none⟩) GI).trans g1;have hs2:w'.heap.size<w2.heap.size:=hik.lt;have Zz:Hid (aq w2 w'.heap.size (Si.eA m [])):=by
   show aq _ _ _;have:Si.eA m []=List.replicate m 0:=by simp[Si.eA]
   rw[this];exact hik
  have X5:w.heap.size<=w'.heap.size:=by omega
  have Z6:w.heap.size<w2.heap.size:=by omega
  clear hrow hg2 hb2 hik g0 g1;go_wp2;go_loopw [16] (fun c wr=>∃(k:Nat) (l:List Int),k<=es.length/\c= .int .i64 k/\l=Si.eA m (es.take k)/\aq wr w'.heap.size l/\Below w.heap.size w wr) (fun c _=>es.length-(intOf c).toNat)
  case atStart=>exact⟨0,_,aaL _,rfl,by simp,Zz.out,aC.out⟩
  case round=>
   obtain⟨k,l,hk,rfl,hl0,hik,hb⟩:=hrel;have hsw:=hik.lt;have hs0:=hb.size;have fY:l.length=m:=by rw[hl0,Si.lZ];simp
   have vg:Si.yJ (2*k) l:=by
    rw[hl0];have:=Si.Hp m (es.take k);have e:(es.take k).length=k:=by simp;omega
    rw[e] at this;exact this
   have W5:=ζ hik;have aK:=ζ hb;have yZ:=ζ hl0;clear hl0;by_cases hlt:k<es.length
   .have aX:(k:Int)<(es.length:Int):=by omega
    have hk0:(0:Int)<=(k:Int):=by omega
    obtain⟨p,hp⟩:∃p,es[k]? =some p:=⟨_,aaC hlt⟩;obtain⟨b,o,rfl,c0,c1⟩:=(HE.out.later hb) k p hp;have hbl:b<wr.heap.size:=block_lt_of_cell c0;have sP:Si.eA m (es.take (k+1))=Si.bump (Si.bump l p.1) p.2:=by rw[Si.e9 hp,Si.yw,<-yZ.out]
    have hok:=iB.out.each k p hp;unfold Si.ok at hok;obtain⟨pu,pv⟩:=p;dsimp only at c0 c1 sP hok;obtain⟨u,rfl⟩:∃u:Nat,pu=(u:Int):=⟨pu.toNat,by omega⟩;obtain⟨v,rfl⟩:∃v:Nat,pv=(v:Int):=⟨pv.toNat,by omega⟩;obtain⟨x,hx⟩:∃x,l[u]? =some x:=⟨_,aaC (by omega)⟩;obtain⟨y,hy⟩:∃y,l[v]? =some y:=⟨_,aaC (by omega)⟩;have hxb:=vg u x hx;have hyb:=vg v y hy;have hne:u≠v:=by omega
    have Qc:Si.eA m (es.take (k+1))=(l.set u (x+1)).set v (y+1):=by
     rw[sP,Si.rN hx,Si.rN (x:=y) (by rw[aaR,if_neg hne];exact hy)]
    have tF:=ζ Qc;have hcx:=hik.cell hx;have hcy:=hik.cell hy;have hfr:=hik.free;have hi1:=hik.set u (x+1);have aau:=hi1.cell (i:=v) (x:=y) (by rw[aaR,if_neg hne];exact hy);have Qp:=hi1.free;have zX:=ζ ((hi1.set v (y+1)).alloc (.cells #[.int .i64 u,.int .i64 v] 66));have u0:(0:Int)<=(u:Int):=by omega
    have v0:(0:Int)<=(v:Int):=by omega
    have um:(u:Int)<(m:Int):=by omega
    have vm:(v:Int)<(m:Int):=by omega
    clear sP Qc vg hok hx hy hb hik hi1 hp;go_wp2;go_roundw
    case rel=>exact⟨k+1,_,by omega,by go_num,tF.out.symm,zX.out,((aK.out.setCell (by simp;omega) _).setCell (by simp;omega) _).alloc (by simp;omega) _⟩
    case measure=>simp[intOf];omega
   .have hd:¬((k:Int)<(es.length:Int)):=by omega
    have hle:l=Si.eA m es:=by rw[yZ.out,aa3 (by omega)]
    have jC:=ζ hle;clear hle hb hik vg;go_wp2;go_ret2;refine⟨.inl ⟨HV.out,w'.heap.size,m,rfl,rfl,X5,?_⟩,aK.out⟩;rw[<-jC.out];exact W5.out
end
section
open Go.RowKit Go.Sort
def Co.met (es:List (Int×Int)) (v:Nat):Bool:=es.any fun e=>e.1==(v:Int)||e.2==(v:Int)
end
section
namespace Pl
theorem sA:∀{l1 l2:List Nat},l1.Nodup->(∀x∈l1,x∈l2)->l1.length<=l2.length
 |[],_,_,_=>aaL _
 |a::l1,l2,hn,hs=>by
  have ha:a∈l2:=hs a List.mem_cons_self;obtain⟨hna,hn'⟩:=acK.1 hn;have h1:=sA (l1:=l1) (l2:=l2.erase a) hn' (fun x hx=>(List.mem_erase_of_ne (fun e=>hna (by rw[<-e];exact hx))).2 (hs x (aco _ hx)));have h2:=List.length_erase_of_mem ha;have h3:=List.length_pos_of_mem ha;show l1.length+1<=l2.length;omega
theorem Az {l:List Nat} {n:Nat} (h:l.Nodup) (hl:∀x∈l,x<n):l.length<=n:=by
 have:=sA h (l2:=List.range n) (fun x hx=>aaX.2 (hl x hx));rwa[List.length_range] at this
def it (f:Nat->Nat):Nat->Nat->Nat
 |0,x=>x
 |k+1,x=>it f k (f x)
theorem dh (f:Nat->Nat):∀(a b x:Nat),it f (a+b) x=it f a (it f b x)
 |_,0,_=>rfl
 |a,b+1,x=>dh f a b (f x)
theorem jd (f:Nat->Nat) (k x:Nat):it f (k+1) x=f (it f k x):=by
 rw[Nat.add_comm,dh];rfl
section
variable {n:Nat} {f:Nat->Nat} (hf:∀x,x<n->f x<n) (hi:∀x y,x<n->y<n->f x=f y->x=y)
include hf
theorem lK:∀(k:Nat) {x:Nat},x<n->it f k x<n
 |0,_,hx=>hx
 |k+1,_,hx=>lK k (hf _ hx)
include hi
theorem BZ:∀(k:Nat) {x y:Nat},x<n->y<n->it f k x=it f k y->x=y
 |0,_,_,_,_,h=>h
 |k+1,x,y,hx,hy,h=>hi x y hx hy (BZ k (hf x hx) (hf y hy) h)
theorem xD {x:Nat} (hx:x<n):∃k,0<k/\it f k x=x:=by
 have:∃i j,i<j/\it f i x=it f j x:=aa9 fun hn=>by
  have h1:((List.range (n+1)).map fun i=>it f i x).Nodup:=by
   unfold List.Nodup;rw[acj];refine acB ?_ List.pairwise_lt_range;intro i j _ _ hij e;exact hn ⟨i,j,hij,e⟩
  have h2:=Az h1 (n:=n) (fun y hy=>by
   obtain⟨i,_,rfl⟩:=abu.1 hy;exact lK hf i hx)
  rw[aaP,List.length_range] at h2;omega
 obtain⟨i,j,hij,e⟩:=this;refine⟨j-i,by omega,?_⟩;have e2:it f j x=it f i (it f (j-i) x):=by rw[<-dh];congr 1;omega
 rw[e2] at e;exact(BZ hf hi i hx (lK hf _ hx) e).symm
theorem xC {x:Nat} (hx:x<n) (b:Nat):∃c,it f c (it f b x)=x:=by
 obtain⟨k,hk,e⟩:=xD hf hi hx;have rep:∀t,it f (t*k) x=x:=fun t=>by
  induction t with
  |zero=>rw[Nat.zero_mul];rfl
  |succ t ih=>rw[ac1,dh,e,ih]
 refine⟨b*k-b,?_⟩;have:b<=b*k:=Nat.le_mul_of_pos_right b hk;rw[<-dh,show b*k-b+b=b*k by omega];exact rep b
end
open Classical in
noncomputable def firsts (n:Nat) (f:Nat->Nat):List Nat:=(List.range n).filter fun h=>decide (∀k,h<=it f k h)
open Classical in
theorem fD {n:Nat} {f:Nat->Nat} {h:Nat}:h∈firsts n f↔h<n/\∀k,h<=it f k h:=by
 unfold firsts;rw[ace,aaX,decide_eq_true_iff]
section
variable {n:Nat} {f:Nat->Nat} (hf:∀x,x<n->f x<n) (hi:∀x y,x<n->y<n->f x=f y->x=y)
include hf
theorem s9 {x:Nat} (hx:x<n):∃k,it f k x∈firsts n f:=by
 have key:∀(d k:Nat),it f k x<=d->∃k,it f k x∈firsts n f:=by
  intro d
  induction d with
  |zero=>
   intro k hk;exact⟨k,fD.2 ⟨lK hf k hx,fun j=>by omega⟩⟩
  |succ d ih=>
   intro k hk;by_cases h:∀j,it f k x<=it f j (it f k x)
   .exact⟨k,fD.2 ⟨lK hf k hx,h⟩⟩
   .have:∃j,it f j (it f k x)<it f k x:=aa9 fun hn=>h fun j=>Nat.le_of_not_lt fun hlt=>hn ⟨j,hlt⟩
    obtain⟨j,hj⟩:=this;exact ih (j+k) (by rw[dh];omega)
 exact key _ 0 (aaD _)
include hi
theorem zP {x y a b:Nat} (hx:x∈firsts n f) (hy:y∈firsts n f) (h:it f a x=it f b y):x=y:=by
 obtain⟨sO,hx⟩:=fD.1 hx;obtain⟨XZ,hy⟩:=fD.1 hy;obtain⟨c,hc⟩:=xC hf hi XZ b;obtain⟨d,hd⟩:=xC hf hi sO a;have h1:=hx (c+a);rw[dh,h,hc] at h1;have h2:=hy (d+b);rw[dh,<-h,hd] at h2;omega
end
end Pl
end
end Go.Proofs.YtdbjpbjocmcpkaaGreatDoor
