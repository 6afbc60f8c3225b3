import Derived.Test.YtdjmnpmdmjclhabGreatMg00
import Derived.Laws.OwnMore
import Derived.Maps.AppendAt
import Derived.ArgAppend
import Derived.Deep.DeepAppendRoom
import Derived.Deep.QuietTactic
import Derived.BigQuiet
import Derived.BigRegion
namespace Go.Proofs.YtdjmnpmdmjclhabGreat
section
namespace Cs
def fr (es:List (Int×Int)) (i:Nat):Nat:=(if i%2=0 then (es.getD (i/2) (0,0)).1 else (es.getD (i/2) (0,0)).2).toNat
def to (es:List (Int×Int)) (i:Nat):Nat:=(if i%2=0 then (es.getD (i/2) (0,0)).2 else (es.getD (i/2) (0,0)).1).toNat
def out (es:List (Int×Int)) (v:Nat):Nat→List Nat
 |0=>[]
 |k+1=>if fr es k=v then out es v k++[k] else out es v k
section
variable {es:List (Int×Int)} {u v i j k:Nat}
theorem kU:∀k,(out es v k).length≤k
 |0=>by simp[out]
 |k+1=>by
  have:=kU k
  unfold out
  split<;>simp<;>omega
theorem gF (k:Nat):(out es v (k+1)).length=(out es v k).length+if fr es k=v then 1 else 0:=by
 conv=>lhs;unfold out
 split<;>simp
theorem NX (h:i≤k):(out es v i).length≤(out es v k).length:=by
 induction k with
 |zero=>
  obtain rfl:i=0:=by omega
  exact aad _
 |succ k ih=>
  by_cases hk:i=k+1
  ·subst hk;exact aad _
  ·have:=ih (by omega)
   rw[gF]
   omega
theorem rX (h:i<k) (hv:fr es i=v):(out es v i).length<(out es v k).length:=by
 have h1:=gF (es:=es) (v:=v) i
 rw[if_pos hv] at h1
 have h2:=NX (es:=es) (v:=v) (i:=i+1) (k:=k) h
 omega
theorem Mr (h:i<k) (hv:fr es i=v):(out es v k)[(out es v i).length]? =some i:=by
 induction k with
 |zero=>omega
 |succ k ih=>
  by_cases hk:i=k
  ·subst hk
   conv=>lhs;arg 1;unfold out
   rw[if_pos hv]
   simp
  ·have h1:=ih (by omega)
   have h2:(out es v i).length<(out es v k).length:=rX (by omega) hv
   conv=>lhs;arg 1;unfold out
   split
   ·rw[abI h2];exact h1
   ·exact h1
theorem nD (h:(out es v k)[j]? =some i):i<k∧fr es i=v∧(out es v i).length=j:=by
 induction k with
 |zero=>simp[out] at h
 |succ k ih=>
  unfold out at h
  split at h
  ·rename_i hv
   by_cases hj:j<(out es v k).length
   ·rw[abI hj] at h
    have:=ih h
    exact⟨by omega,this.2⟩
   ·rw[ab2 (by omega)] at h
    by_cases hj2:j-(out es v k).length=0
    ·rw[hj2] at h
     simp at h
     subst h
     exact⟨by omega,hv,by omega⟩
    ·rw[aat (by simp;omega)] at h
     cases h
  ·have:=ih h
   exact⟨by omega,this.2⟩
def st (es:List (Int×Int)) (M:Nat):Nat→Nat
 |0=>0
 |v+1=>st es M v+(out es v M).length
theorem J0 {M:Nat} (h:u<v):st es M u+(out es u M).length≤st es M v:=by
 induction v with
 |zero=>omega
 |succ v ih=>
  have e:st es M (v+1)=st es M v+(out es v M).length:=rfl
  by_cases hu:u=v
  ·subst hu;omega
  ·have:=ih (by omega)
   omega
theorem PR (M v:Nat):st es (M+1) v=st es M v+if fr es M<v then 1 else 0:=by
 induction v with
 |zero=>simp[st]
 |succ v ih=>
  have e1:st es (M+1) (v+1)=st es (M+1) v+(out es v (M+1)).length:=rfl
  have e2:st es M (v+1)=st es M v+(out es v M).length:=rfl
  rw[e1,e2,ih,gF]
  split<;>split<;>split<;>omega
theorem UM {n:Nat} (M:Nat) (h:∀i,i<M→fr es i<n):st es M n=M:=by
 induction M with
 |zero=>
  have:∀v,st es 0 v=0:=fun v=>by
   induction v with
   |zero=>rfl
   |succ v ih=>rw[show st es 0 (v+1)=st es 0 v+(out es v 0).length from rfl,ih];rfl
  exact this n
 |succ M ih=>
  rw[PR,ih (fun i hi=>h i (by omega)),if_pos (h M (by omega))]
theorem Ae {n M:Nat} (h:∀i,i<M→fr es i<n) (hv:v<n):st es M v+(out es v M).length≤M:=by
 have:=J0 (es:=es) (M:=M) hv
 rw[UM M h] at this
 exact this
def pos (es:List (Int×Int)) (M i:Nat):Nat:=st es M (fr es i)+(out es (fr es i) i).length
theorem Mp {n M:Nat} (h:∀i,i<M→fr es i<n) (hi:i<M):pos es M i<M:=by
 have h1:=Ae h (h i hi)
 have h2:=rX (es:=es) (k:=M) hi rfl
 unfold pos
 omega
theorem UT {M:Nat} (hij:i<j) (hj:j<M):pos es M i≠pos es M j:=by
 unfold pos
 rcases adw (fr es i) (fr es j) with h|h|h
 ·have h1:=J0 (es:=es) (M:=M) h
  have h2:=rX (es:=es) (i:=i) (k:=M) (by omega) rfl
  omega
 ·rw[h]
  have h2:=rX (es:=es) (i:=i) (k:=j) hij h
  omega
 ·have h1:=J0 (es:=es) (M:=M) h
  have h2:=rX (es:=es) (i:=j) (k:=M) hj rfl
  omega
end
structure nO (es:List (Int×Int)) (n M k:Nat) (H Pl T F:List Int):Prop where
 lH:H.length=M
 lP:Pl.length=M
 lT:T.length=M
 lF:F.length=n
 hT:∀i,i<k→T[i]? =some (to es i:Int)
 hP:∀i,i<k→Pl[i]? =some (pos es M i:Int)
 hH:∀i,i<k→H[pos es M i]? =some (i:Int)
 hF:∀v,v<n→F[v]? =some ((st es M v+(out es v k).length:Nat):Int)
theorem nO.at {es:List (Int×Int)} {n M k:Nat} {H Pl T F:List Int} (h:nO es n M k H Pl T F) (hk:fr es k<n):F[fr es k]? =some (pos es M k:Int):=h.hF _ hk
theorem nO.step {es:List (Int×Int)} {n M k:Nat} {H Pl T F:List Int} (h:nO es n M k H Pl T F) (hn:∀i,i<M→fr es i<n) (hk:k<M):
 nO es n M (k+1) (H.set (pos es M k) k) (Pl.set k (pos es M k)) (T.set k (to es k)) (F.set (fr es k) ((pos es M k:Int)+1)):=by
 have hp:=Mp hn hk
 refine⟨by simp[h.lH],by simp[h.lP],by simp[h.lT],by simp[h.lF],fun i hi=> ?_,fun i hi=> ?_,fun i hi=> ?_,fun v hv=> ?_⟩
 ·rw[aaq]
  by_cases e:k=i
  ·subst e;rw[if_pos rfl,if_pos (by rw[h.lT];exact hk)]
  ·rw[if_neg e];exact h.hT i (by omega)
 ·rw[aaq]
  by_cases e:k=i
  ·subst e;rw[if_pos rfl,if_pos (by rw[h.lP];exact hk)]
  ·rw[if_neg e];exact h.hP i (by omega)
 ·rw[aaq]
  by_cases e:k=i
  ·subst e;rw[if_pos rfl,if_pos (by rw[h.lH];exact hp)]
  ·rw[if_neg (fun e2=>UT (es:=es) (M:=M) (i:=i) (j:=k) (by omega) hk e2.symm)];exact h.hH i (by omega)
 ·rw[aaq,gF]
  by_cases e:fr es k=v
  ·subst e
   rw[if_pos rfl,if_pos (by rw[h.lF];exact hv),if_pos rfl]
   unfold pos
   congr 1
  ·rw[if_neg e,if_neg e];exact h.hF v hv
def yj (n:Nat) (es:List (Int×Int)) (v:Int):List Nat:=if 0≤v∧v<n then out es v.toNat (2*es.length) else []
theorem oA {n:Nat} {es:List (Int×Int)} {v:Nat} (h:v<n):yj n es v=out es v (2*es.length):=by
 unfold yj
 rw[if_pos ⟨by omega,by omega⟩]
 simp
theorem Qe {n:Nat} {es:List (Int×Int)} {v:Int} (h:¬(0≤v∧v<n)):yj n es v=[]:=by
 unfold yj
 rw[if_neg h]
theorem E5 {n:Nat} {es:List (Int×Int)} {v:Int}:(yj n es v).length≤2*es.length:=by
 unfold yj
 split
 ·exact kU _
 ·simp
theorem bH {n:Nat} {es:List (Int×Int)} (hv:Si.Val n es) {i:Nat} (hi:i<2*es.length):fr es i<n∧to es i<n:=by
 obtain⟨p,hp⟩:∃p,es[i/2]? =some p:=⟨_,aac (by omega)⟩
 have ho:=hv.each _ p hp
 unfold Si.ok at ho
 unfold fr to
 rw[aai,hp]
 dsimp only[Option.getD_some]
 split<;>omega
theorem iY {es:List (Int×Int)} {k:Nat} {p:Int×Int} (hp:es[k]? =some p):fr es (2*k)=p.1.toNat∧to es (2*k)=p.2.toNat:=by
 unfold fr to
 have e:2*k/2=k:=by omega
 have e2:2*k%2=0:=by omega
 rw[e,e2,aai,hp]
 exact⟨rfl,rfl⟩
theorem nH {es:List (Int×Int)} {k:Nat} {p:Int×Int} (hp:es[k]? =some p):fr es (2*k+1)=p.2.toNat∧to es (2*k+1)=p.1.toNat:=by
 unfold fr to
 have e:(2*k+1)/2=k:=by omega
 have e2:(2*k+1)%2=1:=by omega
 rw[e,e2,aai,hp]
 exact⟨rfl,rfl⟩
def twin (i:Nat):Nat:=if i%2=0 then i+1 else i-1
theorem uL {i m:Nat} (h:i<2*m):twin i<2*m:=by
 unfold twin
 split<;>omega
theorem PK (es:List (Int×Int)) (i:Nat):to es (twin i)=fr es i:=by
 unfold to fr twin
 by_cases h:i%2=0
 ·have e:(i+1)/2=i/2:=by omega
  have e2:¬((i+1)%2=0):=by omega
  rw[if_pos h,if_pos h,e,if_neg e2]
 ·have e:(i-1)/2=i/2:=by omega
  have e2:(i-1)%2=0:=by omega
  rw[if_neg h,if_neg h,e,if_pos e2]
theorem BJ (es:List (Int×Int)) (i:Nat):fr es (twin i)=to es i:=by
 unfold to fr twin
 by_cases h:i%2=0
 ·have e:(i+1)/2=i/2:=by omega
  have e2:¬((i+1)%2=0):=by omega
  rw[if_pos h,if_pos h,e,if_neg e2]
 ·have e:(i-1)/2=i/2:=by omega
  have e2:(i-1)%2=0:=by omega
  rw[if_neg h,if_neg h,e,if_pos e2]
end Cs
end
section
namespace Df
structure St where
 par:List Int
 az:List Int
 ord:List Int
 aJ:List Int
deriving DecidableEq
abbrev St.height (s:St) (v:Nat):Int:=s.az.getD v (-1)
abbrev St.dir (s:St) (e:Nat):Int:=s.aJ.getD e (-1)
abbrev St.left (s:St):Nat:=s.aJ.count (-1)
def St.reach (s:St) (v:Nat) (h height:Int):St:=⟨s.par.set v h,s.az.set v height,s.ord++[(v:Int)],s.aJ⟩
def St.mark (s:St) (h:Nat):St:=⟨s.par,s.az,s.ord,s.aJ.set (h/2) (h:Int)⟩
def St.go (es:List (Int×Int)) (s:St) (h:Nat):St:=(s.mark h).reach (Cs.to es h) h (s.height (Cs.fr es h)+1)
inductive R (es:List (Int×Int)):Nat→St→List Nat→St→Prop
 |nil (s:St):R es 0 s [] s
 |old {k:Nat} {s s':St} {h:Nat} {L:List Nat} (hw:s.dir (h/2)≠-1) (hr:R es k s L s'):R es (k+1) s (h::L) s'
 |back {k:Nat} {s s':St} {h:Nat} {L:List Nat} (hw:s.dir (h/2)= -1) (hv:s.height (Cs.to es h)≠-1) (hr:R es k (s.mark h) L s'):R es (k+1) s (h::L) s'
 |tree {j k:Nat} {s s1 s':St} {h:Nat} {L:List Nat} (hw:s.dir (h/2)= -1) (hv:s.height (Cs.to es h)= -1) (h1:R es j (s.go es h) (Cs.out es (Cs.to es h) (2*es.length)) s1) (h2:R es k s1 L s'):R es (j+k+2) s (h::L) s'
theorem R.unique {es:List (Int×Int)} {k:Nat} {s s':St} {L:List Nat} (h:R es k s L s'):∀{k':Nat} {s'':St},R es k' s L s''→k=k'∧s'=s'':=by
 induction h with
 |nil s=>intro k' s'' h;cases h;exact⟨rfl,rfl⟩
 |old hw hr ih=>
  intro k' s'' h
  cases h with
  |old hw' hr'=>obtain⟨rfl,rfl⟩:=ih hr';exact⟨rfl,rfl⟩
  |back hw'=>exact absurd hw' hw
  |tree hw'=>exact absurd hw' hw
 |back hw hv hr ih=>
  intro k' s'' h
  cases h with
  |old hw'=>exact absurd hw hw'
  |back hw' hv' hr'=>obtain⟨rfl,rfl⟩:=ih hr';exact⟨rfl,rfl⟩
  |tree hw' hv'=>exact absurd hv' hv
 |tree hw hv h1 h2 ih1 ih2=>
  intro k' s'' h
  cases h with
  |old hw'=>exact absurd hw hw'
  |back hw' hv'=>exact absurd hv hv'
  |tree hw' hv' h1' h2'=>
   obtain⟨rfl,rfl⟩:=ih1 h1'
   obtain⟨rfl,rfl⟩:=ih2 h2'
   exact⟨rfl,rfl⟩
structure Bd (n:Nat) (es:List (Int×Int)) (r:Nat) (s:St):Prop where
 lp:s.par.length=n
 lh:s.az.length=n
 lo:s.aJ.length=es.length
 ho:∀e,e<es.length→s.dir e= -1∨(s.dir e=2*(e:Int)∨s.dir e=2*(e:Int)+1)
 hh:∀v,v<n→-1≤s.height v∧s.height v+(s.left:Int)≤es.length
 hr:s.ord.length+s.left≤es.length+r
 hp:∀v,v<n→-1≤s.par.getD v 0∧s.par.getD v 0<2*(es.length:Int)
 hu:∀v,v<n→s.height v= -1→s.par.getD v 0= -1
 hd:∀x∈s.ord,0≤x∧x<(n:Int)
section
variable {n r:Nat} {es:List (Int×Int)} {s s':St} {h v:Nat}
theorem Bd.few (b:Bd n es r s):s.left≤es.length:=by
 have:=adi (a:=(-1:Int)) (l:=s.aJ)
 rw[b.lo] at this
 exact this
theorem ko (b:Bd n es r s) (hh:h<2*es.length) (hw:s.dir (h/2)= -1):(s.mark h).left+1=s.left:=by
 have hl:h/2<s.aJ.length:=by rw[b.lo];omega
 have e:s.aJ[h/2]= -1:=by
  have:=hw
  unfold St.dir at this
  rw[aai,aac hl] at this
  exact this
 have hpos:0<s.aJ.count (-1):=abM.2 (by rw[←e];exact aaX hl)
 unfold St.left St.mark
 dsimp only
 rw[ac2 hl,e,if_pos (by decide),if_neg (by simp)]
 omega
theorem jy (b:Bd n es r s) (hh:h<2*es.length) (e:Nat):(s.mark h).dir e=if e=h/2 then (h:Int) else s.dir e:=by
 have hl:h/2<s.aJ.length:=by rw[b.lo];omega
 unfold St.dir St.mark
 dsimp only
 rw[aai,aaq]
 by_cases e1:h/2=e
 ·rw[if_pos e1,if_pos hl,if_pos e1.symm];rfl
 ·rw[if_neg e1,if_neg (fun e2=>e1 e2.symm),aai]
theorem Bd.mark (b:Bd n es r s) (hl:h<2*es.length) (hw:s.dir (h/2)= -1):Bd n es r (s.mark h):=by
 have hm:=ko b hl hw
 refine⟨b.lp,b.lh,by simp[St.mark,b.lo],fun e he=> ?_,fun v hv=> ?_,?_,b.hp,b.hu,b.hd⟩
 ·rw[jy b hl]
  by_cases e1:e=h/2
  ·rw[if_pos e1];omega
  ·rw[if_neg e1];exact b.ho e he
 ·have:=b.hh v hv
  exact⟨this.1,by show s.height v+((s.mark h).left:Int)≤_;omega⟩
 ·have:=b.hr
  show s.ord.length+(s.mark h).left≤_
  omega
theorem bM (b:Bd n es r s) (hv:v<n) (x y:Int) (u:Nat):(s.reach v x y).height u=if u=v then y else s.height u:=by
 have hl:v<s.az.length:=by rw[b.lh];omega
 unfold St.height St.reach
 dsimp only
 rw[aai,aaq]
 by_cases e1:v=u
 ·rw[if_pos e1,if_pos hl,if_pos e1.symm];rfl
 ·rw[if_neg e1,if_neg (fun e2=>e1 e2.symm),aai]
theorem Av (b:Bd n es r s) (hv:v<n) (x y:Int) (u:Nat):(s.reach v x y).par.getD u 0=if u=v then x else s.par.getD u 0:=by
 have hl:v<s.par.length:=by rw[b.lp];omega
 unfold St.reach
 dsimp only
 rw[aai,aaq]
 by_cases e1:v=u
 ·rw[if_pos e1,if_pos hl,if_pos e1.symm];rfl
 ·rw[if_neg e1,if_neg (fun e2=>e1 e2.symm),aai]
theorem Bd.reach {r':Nat} (b:Bd n es r s) (hv:v<n) {x y:Int} (hx: -1≤x∧x<2*(es.length:Int)) (hy:0≤y) (hy2:y+(s.left:Int)≤es.length) (hr:s.ord.length+1+s.left≤es.length+r'):Bd n es r' (s.reach v x y):=by
 refine⟨by simp[St.reach,b.lp],by simp[St.reach,b.lh],b.lo,b.ho,fun u hu=> ?_,?_,fun u hu=> ?_,fun u hu hn=> ?_,fun z hz=> ?_⟩
 ·rw[bM b hv]
  show _∧_+(s.left:Int)≤_
  by_cases e:u=v
  ·rw[if_pos e];omega
  ·rw[if_neg e];exact b.hh u hu
 ·show(s.ord++[(v:Int)]).length+s.left≤_
  rw[aaA,abn]
  exact hr
 ·rw[Av b hv]
  by_cases e:u=v
  ·rw[if_pos e];exact hx
  ·rw[if_neg e];exact b.hp u hu
 ·rw[bM b hv] at hn
  by_cases e:u=v
  ·rw[if_pos e] at hn;omega
  ·rw[if_neg e] at hn
   rw[Av b hv,if_neg e]
   exact b.hu u hu hn
 ·have hz':z∈s.ord++[(v:Int)]:=hz
  rcases aal.1 hz' with h|h
  ·exact b.hd z h
  ·rw[aao] at h
   subst h
   omega
theorem Bd.root (b:Bd n es r s) (hv:v<n):Bd n es (r+1) (s.reach v (-1) 0):=by
 have:=b.few
 have:=b.hr
 exact b.reach hv (by omega) (by omega) (by omega) (by omega)
theorem Bd.go (b:Bd n es r s) (hval:Si.Val n es) (hl:h<2*es.length) (hw:s.dir (h/2)= -1):Bd n es r (s.go es h):=by
 have hm:=ko b hl hw
 have hb:=b.mark hl hw
 obtain⟨hf,ht⟩:=Cs.bH hval hl
 have h1:=b.hh _ hf
 have h2:=b.hr
 have e:(s.mark h).ord=s.ord:=rfl
 unfold St.go
 exact hb.reach ht (by omega) (by omega) (by omega) (by rw[e];omega)
theorem eZ {v k:Nat}:∀x∈Cs.out es v k,x<k:=fun x hx=>by
 obtain⟨j,hj⟩:=ab8 hx
 exact(Cs.nD hj).1
theorem R.bd {k:Nat} {L:List Nat} (hval:Si.Val n es) (h:R es k s L s'):(∀x∈L,x<2*es.length)→Bd n es r s→Bd n es r s':=by
 induction h with
 |nil s=>exact fun _ b=>b
 |old hw hr ih=>exact fun hl b=>ih (fun x hx=>hl x (aah _ hx)) b
 |back hw hv hr ih=>exact fun hl b=>ih (fun x hx=>hl x (aah _ hx)) (b.mark (hl _ aag) hw)
 |tree hw hv h1 h2 ih1 ih2=>exact fun hl b=>ih2 (fun x hx=>hl x (aah _ hx)) (ih1 eZ (b.go hval (hl _ aag) hw))
theorem total (hval:Si.Val n es):∀(u:Nat) (L:List Nat) (s:St),s.left≤u→Bd n es r s→(∀x∈L,x<2*es.length)→∃k s',R es k s L s'∧s'.left≤s.left:=by
 intro u
 induction u with
 |zero=>
  intro L
  induction L with
  |nil=>exact fun s _ _ _=>⟨0,s,.nil s,aad _⟩
  |cons h L ih=>
   intro s hu b hl
   by_cases hw:s.dir (h/2)= -1
   ·have:=ko b (hl h aag) hw
    omega
   ·obtain⟨k,s',h1,h2⟩:=ih s hu b (fun x hx=>hl x (aah _ hx))
    exact⟨k+1,s',.old hw h1,h2⟩
 |succ u ihu=>
  intro L
  induction L with
  |nil=>exact fun s _ _ _=>⟨0,s,.nil s,aad _⟩
  |cons h L ih=>
   intro s hu b hl
   have hh:=hl h aag
   have hL:∀x∈L,x<2*es.length:=fun x hx=>hl x (aah _ hx)
   by_cases hw:s.dir (h/2)= -1
   ·have hm:=ko b hh hw
    by_cases hv:s.height (Cs.to es h)= -1
    ·have hle:(s.go es h).left=(s.mark h).left:=rfl
     obtain⟨j,s1,h1,h2⟩:=ihu (Cs.out es (Cs.to es h) (2*es.length)) (s.go es h) (by omega) (b.go hval hh hw) eZ
     obtain⟨k,s',h3,h4⟩:=ihu L s1 (by omega) (h1.bd hval eZ (b.go hval hh hw)) hL
     exact⟨_,s',.tree hw hv h1 h3,by omega⟩
    ·obtain⟨k,s',h1,h2⟩:=ihu L (s.mark h) (by omega) (b.mark hh hw) hL
     exact⟨_,s',.back hw hv h1,by omega⟩
   ·obtain⟨k,s',h1,h2⟩:=ih s hu b hL
    exact⟨k+1,s',.old hw h1,h2⟩
end
def St.start (n m:Nat):St:=⟨List.replicate n (-1),List.replicate n (-1),[],List.replicate m (-1)⟩
theorem ND (n:Nat) (es:List (Int×Int)):Bd n es 0 (St.start n es.length):=by
 have hc:(St.start n es.length).left=es.length:=by unfold St.left St.start;simp
 have hg:∀(m v:Nat),(List.replicate m (-1:Int)).getD v (-1)= -1:=fun m v=>by
  rw[aai,aaI]
  split<;>rfl
 refine⟨by simp[St.start],by simp[St.start],by simp[St.start],fun e _=> .inl (hg _ e),fun v _=> ?_,?_,fun v hv=> ?_,fun v hv _=> ?_,fun x hx=> ?_⟩
 ·have:(St.start n es.length).height v= -1:=hg n v
  rw[this,hc]
  omega
 ·rw[hc];simp[St.start]
 ·have:(St.start n es.length).par.getD v 0= -1:=by simp[St.start,hv]
  rw[this]
  omega
 ·simp[St.start,hv]
 ·simp[St.start] at hx
inductive Wk (n:Nat) (es:List (Int×Int)):Nat→St→Prop
 |zero:Wk n es 0 (St.start n es.length)
 |pass {i:Nat} {s:St} (h:Wk n es i s) (hv:s.height i≠-1):Wk n es (i+1) s
 |walk {i k:Nat} {s s':St} (h:Wk n es i s) (hv:s.height i= -1) (hr:R es k (s.reach i (-1) 0) (Cs.out es i (2*es.length)) s'):Wk n es (i+1) s'
theorem Wk.unique {n:Nat} {es:List (Int×Int)} {i:Nat} {s:St} (h:Wk n es i s):∀{s':St},Wk n es i s'→s=s':=by
 induction h with
 |zero=>intro s' h;cases h;rfl
 |pass h hv ih=>
  intro s' h'
  cases h' with
  |pass h'' hv'=>exact ih h''
  |walk h'' hv' hr=>
   obtain rfl:=ih h''
   exact absurd hv' hv
 |walk h hv hr ih=>
  intro s' h'
  cases h' with
  |pass h'' hv'=>
   obtain rfl:=ih h''
   exact absurd hv hv'
  |walk h'' hv' hr'=>
   obtain rfl:=ih h''
   exact(hr.unique hr').2
theorem Wk.bd {n:Nat} {es:List (Int×Int)} (hval:Si.Val n es) {i:Nat} {s:St} (h:Wk n es i s):i≤n→Bd n es i s:=by
 induction h with
 |zero=>exact fun _=>ND n es
 |pass h hv ih=>
  intro hi
  have b:=ih (by omega)
  exact⟨b.lp,b.lh,b.lo,b.ho,b.hh,by have:=b.hr;omega,b.hp,b.hu,b.hd⟩
 |walk h hv hr ih=>exact fun hi=>hr.bd hval eZ ((ih (by omega)).root (by omega))
end Df
end
section
open Go.RowKit
theorem Tryz.bO:(Tryz.prog.info? 3).map (fun i=>(i.zero,i.size,i.bytes))=some (some (.int .i64 0),1,8):=by kernel_rfl
def aq (w:World) (g:Nat) (l:List Int):Prop:=w.heap[g]? =some (.cells (l.map (Value.int .i64)).toArray 3 (0,0))
section
variable {w w':World} {g:Nat} {l:List Int}
theorem aq.lt (h:aq w g l):g<w.heap.size:=lt_of_block h
theorem aq.cell (h:aq w g l) {i:Nat} {x:Int} (hx:l[i]? =some x):w.cell? ⟨g,i,none⟩=some (.int .i64 x):=by
 unfold aq at h
 simp[World.cell?,h,hx]
theorem aq.free (h:aq w g l) (i:Nat):w.frozen? ⟨g,i,none⟩=false:=by
 unfold aq at h
 simp[World.frozen?,h]
theorem aq.set (h:aq w g l) (i:Nat) (x:Int):aq (w.setCell ⟨g,i,none⟩ (.int .i64 x)) g (l.set i x):=by
 unfold aq at h ⊢
 rw[heap_setCell_same w g i _ _ _ h]
 simp
theorem aq.later (h:aq w g l) (hb:Below w.heap.size w w'):aq w' g l:=(hb.block g h.lt).trans h
theorem aq.alloc (h:aq w g l) (o:Obj):aq (w.alloc o) g l:=(aap w o g h.lt).trans h
end
theorem cD (n:Nat):(madeCells #[.int .i64 0] n).toList=(List.replicate n (0:Int)).map (Value.int .i64):=by
 rw[toList_madeCells_one,ads]
theorem dy {w:World} {B g n:Nat} {xs:List Int} (h:w.ownsRow B 3 1 (.slice (some ⟨g,0,none⟩) n n) n (xs.map (Value.int .i64))):aq w g xs:=by
 rcases h.2 with ⟨h,_⟩|⟨g',cap,cur,e,_,hh,_,_,hs,ht⟩
 ·cases h
 cases e
 have e1:cur.toList=xs.map (Value.int .i64):=by
  rw[←ht]
  exact(abk (by simp;omega)).symm
 unfold aq
 rw[hh,←e1]
end
section
open Go.RowKit
def aF (w:World) (g:Nat) (l:List Int):Prop:=∃rest:List Value,w.heap[g]? =some (.cells (l.map (Value.int .i64)++rest).toArray 3 (0,0))
section
variable {w w':World} {g:Nat} {l:List Int}
theorem aF.lt (h:aF w g l):g<w.heap.size:=by
 obtain⟨rest,h⟩:=h
 exact lt_of_block h
theorem aF.cell (h:aF w g l) {i:Nat} {x:Int} (hx:l[i]? =some x):w.cell? ⟨g,i,none⟩=some (.int .i64 x):=by
 obtain⟨rest,h⟩:=h
 have hl:=(aas.1 hx).1
 have:(l.map (Value.int .i64)++rest)[i]? =some (.int .i64 x):=by
  rw[abI (by simpa using hl),aay,hx]
  rfl
 simp[World.cell?,h]
 simpa using this
theorem aF.free (h:aF w g l) (i:Nat):w.frozen? ⟨g,i,none⟩=false:=by
 obtain⟨rest,h⟩:=h
 simp[World.frozen?,h]
theorem aF.set (h:aF w g l) {i:Nat} (hi:i<l.length) (x:Int):aF (w.setCell ⟨g,i,none⟩ (.int .i64 x)) g (l.set i x):=by
 obtain⟨rest,h⟩:=h
 refine⟨rest,?_⟩
 rw[heap_setCell_same w g i _ _ _ h]
 have e:((l.map (Value.int .i64)++rest).toArray.setIfInBounds i (.int .i64 x))=((l.set i x).map (Value.int .i64)++rest).toArray:=by
  rw[adu,List.set_append_left _ _ (by simpa using hi),acT]
 rw[e]
theorem aF.other (h:aF w g l) {b i:Nat} (hb:g≠b) (x:Value):aF (w.setCell ⟨b,i,none⟩ x) g l:=by
 obtain⟨rest,h⟩:=h
 exact⟨rest,(heap_setCell_other w ⟨b,i,none⟩ g x hb).trans h⟩
theorem aF.later (h:aF w g l) (hb:Below w.heap.size w w'):aF w' g l:=by
 have hl:=h.lt
 obtain⟨rest,h⟩:=h
 exact⟨rest,(hb.block g hl).trans h⟩
theorem aF.alloc (h:aF w g l) (o:Obj):aF (w.alloc o) g l:=by
 have hl:=h.lt
 obtain⟨rest,h⟩:=h
 exact⟨rest,(aap w o g hl).trans h⟩
theorem aF.drew (h:aF w g l):aF w.drew g l:=h
theorem aq.ins (h:aq w g l):aF w g l:=⟨[],by rw[abf];exact h⟩
end
theorem pS {w:World} {B g n c:Nat} {xs:List Int} (h:w.ownsRow B 3 1 (.slice (some ⟨g,0,none⟩) n c) n (xs.map (Value.int .i64))):aF w g xs:=by
 rcases h.2 with ⟨h,_⟩|⟨g',cap,cur,e,_,hh,_,_,hs,ht⟩
 ·cases h
 cases e
 refine⟨cur.toList.drop (n*1),?_⟩
 rw[←ht,acR]
 exact hh
structure aC (S:Nat→Prop) (w w':World):Prop where
 os:w'.os=w.os
 tape:w'.tape=w.tape
 output:w'.output=w.output
 size:w.heap.size≤w'.heap.size
 block:∀k,k<w.heap.size→¬S k→w'.heap[k]? =w.heap[k]?
section
variable {S:Nat→Prop} {w w' w0:World}
theorem aC.refl (S:Nat→Prop) (w:World):aC S w w:=⟨rfl,rfl,rfl,aad _,fun _ _ _=>rfl⟩
theorem aC.trans (h:aC S w0 w) (k:aC S w w'):aC S w0 w':=
 ⟨k.os.trans h.os,k.tape.trans h.tape,k.output.trans h.output,abb h.size k.size,fun i hi hn=>(k.block i (aa7 hi h.size) hn).trans (h.block i hi hn)⟩
theorem aC.setCell (h:aC S w0 w) {b i:Nat} (hb:S b) (x:Value):aC S w0 (w.setCell ⟨b,i,none⟩ x):=
 ⟨h.os,h.tape,h.output,by simpa using h.size,fun k hk hn=>(heap_setCell_other w ⟨b,i,none⟩ k x (fun e=>hn (by rw[e];exact hb))).trans (h.block k hk hn)⟩
theorem aC.drew (h:aC S w0 w):aC S w0 w.drew:=⟨h.os,h.tape,h.output,h.size,h.block⟩
theorem aC.drewN (h:aC S w0 w) (k:Nat):aC S w0 (w.drewN k):=⟨h.os,h.tape,h.output,h.size,h.block⟩
theorem aC.later (h:aC S w0 w) (hb:Below w.heap.size w w'):aC S w0 w':=
 ⟨hb.os.trans h.os,hb.tape.trans h.tape,hb.output.trans h.output,abb h.size hb.size,fun k hk hn=>(hb.block k (aa7 hk h.size)).trans (h.block k hk hn)⟩
theorem aC.alloc (h:aC S w0 w) (o:Obj):aC S w0 (w.alloc o):=h.later ((aae _ _).alloc (aad _) o)
theorem aC.below {B:Nat} (h:aC S w w') (hB:B≤w.heap.size) (hS:∀k,S k→B≤k):Below B w w':=
 ⟨h.os,h.tape,h.output,h.size,fun k hk=>h.block k (aa7 hk hB) (fun hs=>by have:=hS k hs;omega)⟩
theorem aC.ints {g:Nat} {l:List Int} (h:aC S w w') (hi:aF w g l) (hg:¬S g):aF w' g l:=by
 have hl:=hi.lt
 obtain⟨rest,hi⟩:=hi
 exact⟨rest,(h.block g hl hg).trans hi⟩
theorem aC.mono {S':Nat→Prop} (h:aC S w w') (hS:∀k,k<w.heap.size→S k→S' k):aC S' w w':=
 ⟨h.os,h.tape,h.output,h.size,fun k hk hn=>h.block k hk (fun hs=>hn (hS k hk hs))⟩
end
end
section
open Go.RowKit
def cK (w:World) (ao:Option Addr) (l:List Int):Prop:=∀(j:Nat) (x:Int),l[j]? =some x→∃b o:Nat,ao=some ⟨b,o,none⟩∧w.cell? ⟨b,o+j,none⟩=some (.int .i64 x)
theorem cK.later {w w':World} {ao:Option Addr} {l:List Int} (h:cK w ao l) (hb:Below w.heap.size w w'):cK w' ao l:=fun j x hj=>by
 obtain⟨b,o,e,h0⟩:=h j x hj
 exact⟨b,o,e,(hb.cell (p:=⟨b,o+j,none⟩) (block_lt_of_cell h0)).trans h0⟩
theorem cK.nil (w:World) (ao:Option Addr):cK w ao []:=fun j p hj=>by simp at hj
theorem aq.at {w:World} {g:Nat} {l:List Int} (h:aq w g l):cK w (some ⟨g,0,none⟩) l:=fun j x hj=>⟨g,0,rfl,by rw[abv];exact h.cell hj⟩
end
section
open Go.RowKit
def aP (w:World) (B:Nat) (v:Value) (l:List Int):Prop:=w.ownsRow B 3 1 v l.length (l.map (Value.int .i64))
section
variable {w w':World} {B:Nat} {v:Value} {l:List Int}
theorem aP.nil (w:World) (B:Nat):aP w B (.slice none 0 0) []:=acO _ _ _ _
theorem aP.form (h:aP w B v l):∃ao cap,v= .slice ao l.length cap∧cK w ao l∧(∀x,ao=some x→B≤x.block∧x.block<w.heap.size):=by
 rcases h.2 with ⟨rfl,h0⟩|⟨g,cap,cur,rfl,hB,hh,_⟩
 ·refine⟨none,0,by rw[h0],fun j x hj=> ?_,fun x hx=>by cases hx⟩
  have:=(aas.1 hj).1
  omega
 ·refine⟨_,_,rfl,fun j x hj=> ?_,fun x hx=>by cases hx;exact⟨hB,lt_of_block hh⟩⟩
  refine⟨g,0,rfl,?_⟩
  have:=abj h (g:=g) rfl j (.int .i64 x) (by rw[aay,hj];rfl)
  have e:((⟨g,0,none⟩:Addr).add j)=⟨g,0+j,none⟩:=by
   by_cases h0:j=0<;>simp[Addr.add,h0]
  rw[e] at this
  exact this
theorem aP.same (h:aP w B v l) (hb:∀g,v.ownBlock=some g→g<w.heap.size→w'.heap[g]? =w.heap[g]?):aP w' B v l:=by
 refine⟨h.1,?_⟩
 rcases h.2 with h|⟨g,cap,cur,e1,hgB,hh,hr⟩
 ·exact .inl h
 ·exact .inr ⟨g,cap,cur,e1,hgB,(hb g (by rw[e1];rfl) (lt_of_block hh)).trans hh,hr⟩
theorem aP.later (h:aP w B v l) (hb:Below w.heap.size w w'):aP w' B v l:=h.same fun g _ hl=>hb.block g hl
theorem aP.lower {B':Nat} (h:aP w B v l) (hB:B'≤B):aP w B' v l:=by
 refine⟨h.1,?_⟩
 rcases h.2 with h|⟨g,cap,cur,e1,hgB,hr⟩
 ·exact .inl h
 ·exact .inr ⟨g,cap,cur,e1,abb hB hgB,hr⟩
theorem aq.own {g n:Nat} (h:aq w g l) (hB:B≤g) (hl:l.length=n) (hm:n≤8388608):aP w B (.slice (some ⟨g,0,none⟩) n n) l:=by
 subst hl
 refine⟨by simp,.inr ⟨g,_,_,rfl,hB,h,aad _,by unfold maxLen;omega,by simp,?_⟩⟩
 rw[abk (by simp)]
end
end
section
open Go.RowKit
set_option maxRecDepth 100000 in
set_option maxHeartbeats 4000000 in
theorem zZ (n:Nat) (w:World) (hn:n≤8388608):
 Calls Tryz.prog 72 #[.int .i64 (n:Int)] w fun e w'=>∃g,e= .returned (.slice (some ⟨g,0,none⟩) n n)∧w.heap.size≤g∧aq w' g (List.replicate n (-1))∧Below w.heap.size w w':=by
 obtain⟨i0,hi,hz0,hz1,hz2⟩:=info_parts Tryz.bO
 go_enter Tryz.func72,Tryz.ntmps72
 go_wp2_with (at_make;refine wpList_make_full _ rfl _ _ 27 rfl w.heap.size 3 i0 (.int .i64 0) 1 Tryz.underlying27 hi hz0 hz1 _ _ _ _ n rfl rfl rfl rfl (by rw[hz2];omega) (by unfold maxLen;omega) (aad _) ?_;refine aaB ?_)
 refine Nu.hid ?_
 intro w2 hrow hg2
 rw[cD] at hrow
 have hik:=dy hrow
 have hb2:Below w.heap.size w w2:=(aae _ _).grown hg2 (aad _) (fun j hj=>by cases hj)
 have fX:=Nu.hid hik
 have ct:=Nu.hid hb2
 clear hrow hg2 hik hb2
 go_wp2
 go_loopw [9] (fun c wr=>∃(k:Nat) (S:List Int),k≤n∧c= .int .i64 k∧S.length=n∧(∀v,v<k→S[v]? =some (-1))∧aq wr w.heap.size S∧Below w.heap.size w wr) (fun c _=>n-(intOf c).toNat)
 case atStart=>exact⟨0,_,aax _,rfl,by simp,fun v hv=>by omega,fX.out,ct.out⟩
 case round=>
  obtain⟨k,S,hk,rfl,La,hS,iD,hb⟩:=hrel
  have hsz:=iD.lt
  have HS:=Nu.hid hS
  have HIS:=Nu.hid iD
  have HB:=Nu.hid hb
  by_cases hkn:k<n
  ·have hk0:(0:Int)≤(k:Int):=by omega
   have hk1:(k:Int)<(n:Int):=by omega
   obtain⟨x,hx⟩:∃x,S[k]? =some x:=⟨_,aac (by omega)⟩
   have c0:=iD.cell hx
   have c1:=iD.free k
   have Po:=Nu.hid (iD.set k (-1))
   have JB:=Nu.hid (hb.setCell (p:=⟨w.heap.size,k,none⟩) (aad _) (.int .i64 (-1)))
   clear hS iD hb hx
   go_wp2
   go_roundw
   case rel=>
    refine⟨k+1,S.set k (-1),by omega,by go_num,by simp[La],fun v hv=> ?_,Po.out,JB.out⟩
    rw[aaq]
    by_cases e:k=v
    ·subst e
     rw[if_pos rfl,if_pos (by omega)]
    ·rw[if_neg e]
     exact HS.out v (by omega)
   case measure=>simp[intOf];omega
  ·have hd:¬((k:Int)<(n:Int)):=by omega
   have e:S=List.replicate n (-1):=by
    refine aa6 fun v=> ?_
    by_cases hv:v<n
    ·rw[hS v (by omega),aaI,if_pos hv]
    ·rw[aat (by omega),aat (by simp;omega)]
   subst e
   clear hS iD hb
   go_wp2
   go_ret
   exact⟨w.heap.size,rfl,aad _,HIS.out,HB.out⟩
end
section
open Go.RowKit
theorem Tryz.AZ:(Tryz.prog.info? 27).map (fun i=>(i.zero,i.size,i.bytes))=some (some (.slice none 0 0),1,24):=by kernel_rfl
theorem iB {W:World} {base:Nat} {e:TypeId} {size:Nat} {v:Value} {k:Nat} {xs:List Value} (h:W.ownsRow base e size v (k+1) xs):∃g cap,v= .slice (some ⟨g,0,none⟩) (k+1) cap:=by
 rcases h.2 with ⟨_,h0⟩|⟨g,cap,_,rfl,_⟩
 ·omega
 ·exact⟨g,cap,rfl⟩
structure bW (w:World) (B:Nat) (v:Value) (vs:List Value) (ls:List (List Int)):Prop where
 len:vs.length=ls.length
 outer:w.ownsRow B 27 1 v ls.length vs
 row:∀(u:Nat) (x:Value) (l:List Int),vs[u]? =some x→ls[u]? =some l→aP w B x l
 apart:∀(u u':Nat) (x x':Value) (b:Nat),u≠u'→vs[u]? =some x→vs[u']? =some x'→x.ownBlock=some b→x'.ownBlock≠some b
 far:∀(u:Nat) (x:Value) (b:Nat),vs[u]? =some x→x.ownBlock=some b→v.ownBlock≠some b
section
variable {w w':World} {B:Nat} {v:Value} {vs:List Value} {ls:List (List Int)}
theorem bW.at (h:bW w B v vs ls) {u:Nat} {x:Value} (hx:vs[u]? =some x):∃l,ls[u]? =some l:=⟨_,aac (by rw[←h.len];exact(aas.1 hx).1)⟩
theorem bW.S5 (h:bW w B v vs ls) {u:Nat} {l:List Int} (hl:ls[u]? =some l):∃x,vs[u]? =some x:=⟨_,aac (by rw[h.len];exact(aas.1 hl).1)⟩
theorem mz {e:TypeId} {s n:Nat} {xs:List Value} (h:w.ownsRow B e s v n xs) (hb:∀g,v.ownBlock=some g→B≤g→g<w.heap.size→w'.heap[g]? =w.heap[g]?):w'.ownsRow B e s v n xs:=by
 refine⟨h.1,?_⟩
 rcases h.2 with h|⟨g,cap,cur,e1,hgB,hh,hr⟩
 ·exact .inl h
 ·exact .inr ⟨g,cap,cur,e1,hgB,(hb g (by rw[e1];rfl) hgB (lt_of_block hh)).trans hh,hr⟩
theorem bW.same (h:bW w B v vs ls) (hb:∀g,B≤g→g<w.heap.size→w'.heap[g]? =w.heap[g]?):bW w' B v vs ls:=
 ⟨h.len,mz h.outer fun g _ h1 h2=>hb g h1 h2,fun u x l hx hl=>mz (h.row u x l hx hl) fun g _ h1 h2=>hb g h1 h2,h.apart,h.far⟩
theorem bW.later (h:bW w B v vs ls) (hb:Below w.heap.size w w'):bW w' B v vs ls:=h.same fun g _ hg=>hb.block g hg
theorem bW.nil (w:World) (B:Nat):bW w B (.slice none 0 0) [] []:=⟨rfl,acO _ _ _ _,fun u x l hx=>by simp at hx,fun u u' x x' b _ hx=>by simp at hx,fun u x b hx=>by simp at hx⟩
theorem bW.lower {B':Nat} (h:bW w B v vs ls) (hB:B'≤B):bW w B' v vs ls:=by
 refine⟨h.len,⟨h.outer.1,?_⟩,fun u x l hx hl=>(h.row u x l hx hl).lower hB,h.apart,h.far⟩
 rcases h.outer.2 with h|⟨g,cap,cur,e1,hgB,hr⟩
 ·exact .inl h
 ·exact .inr ⟨g,cap,cur,e1,abb hB hgB,hr⟩
theorem bW.put {W w1:World} {u g c:Nat} {x x':Value} {l l':List Int} (h:bW W B (.slice (some ⟨g,0,none⟩) ls.length c) vs ls) (hx:vs[u]? =some x) (hl:ls[u]? =some l)
 {tmp:Obj} (hown:aP w1 B x' l') (hgrow:(W.alloc tmp).grownBy w1 x.ownBlock) (hat:x'.ownBlock=x.ownBlock∨x'.ownBlock=some (W.heap.size+1)):
 w1.cell? ⟨g,u,none⟩=some x∧w1.frozen? ⟨g,u,none⟩=false∧bW (w1.setCell ⟨g,u,none⟩ x') B (.slice (some ⟨g,0,none⟩) ls.length c) (vs.set u x') (ls.set u l')∧Below B W (w1.setCell ⟨g,u,none⟩ x'):=by
 have nT:=(aas.1 hx).1
 have C6:x.ownBlock≠some g:=fun e=>h.far u x g hx e rfl
 obtain⟨hgB,mS⟩:=aa9 h.outer g rfl
 have hsz:W.heap.size≤w1.heap.size:=by
  have:=hgrow.size
  rw[aaM] at this
  omega
 have hsame:∀b,x.ownBlock≠some b→b<W.heap.size→w1.heap[b]? =W.heap[b]? :=fun b hne hb=>by
  rw[hgrow.block b (by rw[aaM];omega) (fun e=>hne e.symm)]
  exact aap W tmp b hb
 have ho1:w1.ownsRow B 27 1 (.slice (some ⟨g,0,none⟩) ls.length c) ls.length vs:=mz h.outer fun b hb _ hl=>by
  obtain rfl:g=b:=by simpa[Value.ownBlock] using hb
  exact hsame g C6 hl
 have hst:=ho1.stored u x'
 have hc:=abj ho1 (g:=g) rfl u x hx
 have ea:((⟨g,0,none⟩:Addr).add u)=⟨g,u,none⟩:=by
  by_cases h0:u=0<;>simp[Addr.add,h0]
 rw[ea] at hc
 have hng:x'.ownBlock≠some g:=by
  rcases hat with e|e
  ·rw[e];exact C6
  ·rw[e]
   intro e2
   have:=aak e2
   omega
 have D8:∀b,b≠g→(w1.setCell ⟨g,u,none⟩ x').heap[b]? =w1.heap[b]? :=fun b hb=>heap_setCell_other w1 ⟨g,u,none⟩ b x' hb
 have hxB:∀b,x.ownBlock=some b→B≤b:=fun b hb=>(aa9 (h.row u x l hx hl) b hb).1
 refine⟨hc,ho1.frozenAt u,⟨by simp[h.len],by rw[aaT];exact hst.1,fun a y k ha hk=> ?_,fun a a' y y' b hne ha ha' hb=> ?_,fun a y b ha hb=> ?_⟩,?_⟩
 ·rw[aaq] at ha hk
  by_cases e:u=a
  ·subst e
   rw[if_pos rfl,if_pos nT] at ha
   rw[if_pos rfl,if_pos (by rw[←h.len];exact nT)] at hk
   cases ha
   cases hk
   exact hown.same fun b hb _=>D8 b (fun e=>hng (by rw[hb,e]))
  ·rw[if_neg e] at ha hk
   refine(h.row a y k ha hk).same fun b hb hl=> ?_
   rw[D8 b (fun e=>h.far a y b ha hb (by rw[e];rfl)),hsame b (fun e2=>h.apart u a x y b e hx ha e2 hb) hl]
 ·rw[aaq] at ha ha'
  have hnew:∀(z:Nat) (q:Value) (b:Nat),u≠z→vs[z]? =some q→x'.ownBlock=some b→q.ownBlock≠some b:=fun z q b hz hq hb=>by
   rcases hat with e2|e2
   ·rw[e2] at hb
    exact h.apart u z x q b hz hx hq hb
   ·rw[e2] at hb
    have Vy:=aak hb
    intro hc
    obtain⟨k,hk⟩:=h.at hq
    have:=(aa9 (h.row z q k hq hk) b hc).2
    omega
  by_cases e:u=a
  ·subst e
   rw[if_pos rfl,if_pos nT] at ha
   cases ha
   rw[if_neg hne] at ha'
   exact hnew a' y' b hne ha' hb
  ·rw[if_neg e] at ha
   by_cases e':u=a'
   ·subst e'
    rw[if_pos rfl,if_pos nT] at ha'
    cases ha'
    intro hc
    exact hnew a y b (aaR hne) ha hc hb
   ·rw[if_neg e'] at ha'
    exact h.apart a a' y y' b hne ha ha' hb
 ·rw[aaq] at ha
  by_cases e:u=a
  ·subst e
   rw[if_pos rfl,if_pos nT] at ha
   cases ha
   intro hc
   obtain rfl:g=b:=by simpa[Value.ownBlock] using hc
   exact hng hb
  ·rw[if_neg e] at ha
   exact h.far a y b ha hb
 ·refine⟨hgrow.os,hgrow.tape,hgrow.output,by simpa using hsz,fun k hk=> ?_⟩
  rw[D8 k (by omega),hsame k (fun e=>by have:=hxB k e;omega) (by omega)]
end
end
section
open Go.RowKit
theorem Kh {w:World} {B g p c:Nat} {xs:List Value} {z:Value} (h:w.ownsRow B 3 1 (.slice (some ⟨g,0,none⟩) (p+1) c) (p+1) (xs++[z])) (hx:xs.length=p):w.ownsRow B 3 1 (.slice (some ⟨g,0,none⟩) p c) p xs:=by
 rcases h.2 with ⟨h',_⟩|⟨g',cap,cur,e,hB,hh,hc,hm,hs,ht⟩
 ·cases h'
 ·cases e
  refine⟨by omega,.inr ⟨g,c,cur,rfl,hB,hh,by omega,hm,hs,?_⟩⟩
  have e1:cur.toList.take (p*1)=(cur.toList.take ((p+1)*1)).take (p*1):=by rw[adJ];congr 1;omega
  rw[e1,ht,adn (by omega),abk (by omega)]
section
end
end
section
open Go.RowKit
structure iw (w:World) (b o:Nat) (cs:Array Value) (T:TypeId) (B:Nat) (v:Value) (K:List Int):Prop where
 blk:w.heap[b]? =some (.cells cs T (0,0))
 at_:cs[o]? =some v
 own:aP w B v K
 far:v.ownBlock≠some b
section
variable {w w':World} {b o B:Nat} {cs:Array Value} {T:TypeId} {v:Value} {K:List Int}
theorem iw.cell (h:iw w b o cs T B v K):w.cell? ⟨b,o,none⟩=some v:=by
 simp[World.cell?,h.blk,h.at_]
theorem iw.free (h:iw w b o cs T B v K):w.frozen? ⟨b,o,none⟩=false:=by
 simp[World.frozen?,h.blk]
theorem iw.lt (h:iw w b o cs T B v K):b<w.heap.size:=lt_of_block h.blk
theorem aP.DM {x:Int} (h:aP w B v (K++[x])):∃g c,v= .slice (some ⟨g,0,none⟩) (K.length+1) c∧w.cell? ⟨g,K.length,none⟩=some (.int .i64 x)∧K.length+1≤c∧B≤g∧g<w.heap.size:=by
 unfold aP at h
 rw[aaA,abn,abl] at h
 obtain⟨g,c,rfl⟩:=iB h
 have hc:=abj h (g:=g) rfl K.length (.int .i64 x) (by simp)
 have ea:((⟨g,0,none⟩:Addr).add K.length)=⟨g,K.length,none⟩:=by
  by_cases h0:K.length=0<;>simp[Addr.add,h0]
 rw[ea] at hc
 refine⟨g,c,rfl,hc,?_,aa9 h g rfl⟩
 rcases h.2 with ⟨h',_⟩|⟨g',cap,cur,e,_,_,hcc,_⟩
 ·cases h'
 ·cases e;exact hcc
theorem aP.front {x:Int} {g c:Nat} (h:aP w B (.slice (some ⟨g,0,none⟩) (K.length+1) c) (K++[x])):aP w B (.slice (some ⟨g,0,none⟩) K.length c) K:=by
 unfold aP at h ⊢
 rw[aaA,abn,abl] at h
 exact Kh h (by simp)
end
def sI (b o:Nat) (cs:Array Value) (T:TypeId) (B:Nat) (v:Value) (K:List Int) (w:World) (e:Ending) (w':World):Prop:=
 e= .returned (.tuple #[])∧∃v',iw w' b o (cs.setIfInBounds o v') T B v' K∧(v'.ownBlock=v.ownBlock∨∃g,v'.ownBlock=some g∧w.heap.size≤g)∧aC (fun k=>k=b∨v.ownBlock=some k) w w'
theorem Mj {cs:Array Value} {o:Nat} {v v':Value} (h:cs[o]? =some v):(cs.setIfInBounds o v')[o]? =some v':=by
 have:=(aam.1 h).1
 simp[this]
set_option maxRecDepth 100000 in
set_option maxHeartbeats 4000000 in
theorem wQ (b o:Nat) (cs:Array Value) (T:TypeId) (B:Nat) (v:Value) (K:List Int) (x:Int) (w:World) (h:iw w b o cs T B v K) (hB:B≤w.heap.size) (hl:K.length≤17592186044000):
 Calls Tryz.prog 76 #[.pointer (some ⟨b,o,none⟩),.int .i64 x] w (sI b o cs T B v (K++[x]) w):=by
 obtain⟨i0,hi,hz0,hz1,hz2⟩:=info_parts Tryz.bO
 have c0:=h.cell
 have HH:=Nu.hid h
 have hlt:=h.lt
 have hrow:w.ownsRow B 3 1 v K.length (K.map (Value.int .i64)):=h.own
 have j8:=Nu.hid hrow
 clear h hrow
 go_enter Tryz.func76,Tryz.ntmps76
 go_wp2_with (at_builtin;refine wpList_append_own_at _ rfl _ _ 27 rfl B 3 i0 (.int .i64 0) 1 8 Tryz.underlying27 hi hz0 hz1 hz2 rfl (by decide) _ _ _ rfl (abo j8.out _) ⟨w.heap.size,0,none⟩ 1 1 [.int .i64 x] rfl rfl (cell_one_new _ _ _) (by simp[Value.oneCell']) (by unfold maxLen;omega) (by omega) (by simp;omega) ?_;refine aaB ?_)
 refine Nu.hid ?_
 intro v' w1 hown hg _ hat
 have hb1:w1.heap[b]? =some (.cells cs T (0,0)):=by
  rw[hg.block b (by rw[aaM];omega) (fun e=>HH.out.far e.symm)]
  exact(aap w _ b hlt).trans HH.out.blk
 have c1:w1.cell? ⟨b,o,none⟩=some v:=by simp[World.cell?,hb1,HH.out.at_]
 have f1:w1.frozen? ⟨b,o,none⟩=false:=by simp[World.frozen?,hb1]
 have vr:v'.ownBlock=v.ownBlock∨v'.ownBlock=some (w.heap.size+1):=by simpa using hat
 have q8:v'.ownBlock≠some b:=by
  rcases vr with e|e
  ·rw[e];exact HH.out.far
  ·rw[e];intro e2;have:=aak e2;omega
 have hz:aP w1 B v' (K++[x]):=by
  unfold aP
  rw[aaA,abl]
  exact hown
 have bI:Hid (sI b o cs T B v (K++[x]) w (.returned (.tuple #[])) (w1.setCell ⟨b,o,none⟩ v')):=by
  refine⟨rfl,v',⟨heap_setCell_same w1 b o _ _ _ hb1,Mj HH.out.at_,hz.same fun g hgg _=>heap_setCell_other w1 ⟨b,o,none⟩ g _ (fun e=>q8 (by rw[hgg];exact congrArg some e)),q8⟩,?_,?_⟩
  ·rcases vr with e|e
   ·exact .inl e
   ·exact .inr ⟨_,e,by omega⟩
  ·refine⟨hg.os,hg.tape,hg.output,?_,fun k hk hn=> ?_⟩
   ·have:=hg.size
    rw[aaM] at this
    simp
    omega
   ·rw[heap_setCell_other w1 ⟨b,o,none⟩ k _ (fun e=>hn (.inl e)),hg.block k (by rw[aaM];omega) (fun e=>hn (.inr e.symm))]
    exact aap w _ k hk
 obtain⟨g,cap,hv⟩:=iB hown
 subst hv
 clear hown hg hat vr q8 hz hb1 HH j8
 go_wp2
 go_end0
 exact bI.out
set_option maxRecDepth 100000 in
set_option maxHeartbeats 4000000 in
theorem mX (b o:Nat) (cs:Array Value) (T:TypeId) (B:Nat) (v:Value) (K:List Int) (w:World) (h:iw w b o cs T B v K):
 Calls Tryz.prog 74 #[.pointer (some ⟨b,o,none⟩)] w fun e w'=>e= .returned (.bool (decide (K.length=0)))∧w'=w:=by
 have c0:=h.cell
 obtain⟨ao,cap,rfl,_,_⟩:=h.own.form
 clear h
 by_cases hk:K.length=0
 ·rw[hk] at c0
  have hd:decide (K.length=0)=true:=by simp[hk]
  rw[hd]
  clear hd hk
  go_enter Tryz.func74,Tryz.ntmps74
  go_wp2
  go_ret
  exact⟨rfl,rfl⟩
 ·have hd:decide (K.length=0)=false:=by simp[hk]
  have he:((K.length:Int)==0)=false:=by simp only[beq_eq_false_iff_ne,ne_eq];omega
  rw[hd]
  clear hd hk
  go_enter Tryz.func74,Tryz.ntmps74
  go_wp2
  go_ret
  exact⟨rfl,rfl⟩
set_option maxRecDepth 100000 in
set_option maxHeartbeats 4000000 in
theorem Gt (b o:Nat) (cs:Array Value) (T:TypeId) (B:Nat) (v:Value) (K:List Int) (x:Int) (w:World) (h:iw w b o cs T B v (K++[x])) (hl:K.length≤17592186044000):
 Calls Tryz.prog 104 #[.pointer (some ⟨b,o,none⟩)] w fun e w'=>e= .returned (.int .i64 x)∧∃k,w'=w.drewN k:=by
 have c0:=h.cell
 obtain⟨g,c,rfl,c1,h2,_⟩:=h.own.DM
 obtain⟨p,hp⟩:∃p,K.length=p:=⟨_,rfl⟩
 rw[hp] at c0 c1 h2 hl
 clear h hp
 have e1:((p:Int)+1)-1=(p:Int):=by omega
 have e2:(0:Int)≤(p:Int):=by omega
 have e3:(p:Int)<(p:Int)+1:=by omega
 go_enter Tryz.func104,Tryz.ntmps104
 go_wp2_with fail
 go_quiet (fail)
 go_wp2
 go_ret
 exact⟨rfl,nq,rfl⟩
def vN (b o:Nat) (cs:Array Value) (T:TypeId) (B:Nat) (v:Value) (K:List Int) (x:Int) (w:World) (e:Ending) (w':World):Prop:=
 e= .returned (.int .i64 x)∧∃v',iw w' b o (cs.setIfInBounds o v') T B v' K∧v'.ownBlock=v.ownBlock∧aC (fun k=>k=b) w w'
set_option maxRecDepth 100000 in
set_option maxHeartbeats 4000000 in
theorem GX (b o:Nat) (cs:Array Value) (T:TypeId) (B:Nat) (v:Value) (K:List Int) (x:Int) (w:World) (h:iw w b o cs T B v (K++[x])) (hl:K.length≤17592186044000):
 Calls Tryz.prog 75 #[.pointer (some ⟨b,o,none⟩)] w (vN b o cs T B v K x w):=by
 have HT:=Nu.hid (Gt b o cs T B v K x w h hl)
 have hH:=h
 have c0:=h.cell
 obtain⟨g,c,rfl,c1,h2,_⟩:=h.own.DM
 have f0:=h.free
 have hown:=hH.own.front
 have q8:=hH.far
 have bI:Hid (∀k,vN b o cs T B (.slice (some ⟨g,0,none⟩) (K.length+1) c) K x w (.returned (.int .i64 x)) ((w.drewN k).setCell ⟨b,o,none⟩ (.slice (some ⟨g,0,none⟩) K.length c))):=by
  intro k
  have hgb:g≠b:=fun e=>q8 (congrArg some e)
  refine⟨rfl,_,⟨heap_setCell_same (w.drewN k) b o _ _ _ hH.blk,Mj hH.at_,?_,q8⟩,rfl,?_⟩
  ·refine hown.same fun g' hg' _=> ?_
   obtain rfl:g=g':=aak hg'
   exact heap_setCell_other (w.drewN k) ⟨b,o,none⟩ g _ hgb
  ·exact((aC.refl (fun k=>k=b) w).drewN k).setCell rfl _
 obtain⟨p,hp⟩:∃p,K.length=p:=⟨_,rfl⟩
 rw[hp] at c0 c1 h2 bI hl
 clear h hp hH hown q8 c1
 have e1:((p:Int)+1)-1=(p:Int):=by omega
 have e2:(0:Int)≤(p:Int):=by omega
 have e3:(p:Int)≤(c:Int):=by omega
 go_enter Tryz.func75,Tryz.ntmps75
 go_wp2_with (go_at_call 104;refine HT.out.mono ?_;rintro e w1 ⟨rfl,k1,rfl⟩)
 go_big_region
 go_wp2
 go_ret
 exact bI.out _
end
section
open Go.RowKit
def Cs.gM (n:Nat) (es:List (Int×Int)) (x:Int):List Int:=(Cs.yj n es x).map fun i:Nat=>(i:Int)
theorem Cs.DW {n:Nat} {es:List (Int×Int)} {x:Int}:(Cs.gM n es x).length=(Cs.yj n es x).length:=by simp[Cs.gM]
def Cs.FE (es:List (Int×Int)) (x:Int):Int:=if 0≤x∧x<2*(es.length:Int) then (Cs.fr es x.toNat:Int) else -1
def Cs.Gu (es:List (Int×Int)) (x:Int):Int:=if 0≤x∧x<2*(es.length:Int) then (Cs.to es x.toNat:Int) else -1
theorem Cs.jP {es:List (Int×Int)} {i:Nat} (h:i<2*es.length):Cs.FE es i=(Cs.fr es i:Int):=by
 unfold Cs.FE
 rw[if_pos (by omega)]
 simp
theorem Cs.kL {es:List (Int×Int)} {i:Nat} (h:i<2*es.length):Cs.Gu es i=(Cs.to es i:Int):=by
 unfold Cs.Gu
 rw[if_pos (by omega)]
 simp
theorem Cs.zQ {es:List (Int×Int)} {x:Int} (h:¬(0≤x∧x<2*(es.length:Int))):Cs.FE es x= -1:=by unfold Cs.FE;rw[if_neg h]
theorem Cs.Mi {es:List (Int×Int)} {x:Int} (h:¬(0≤x∧x<2*(es.length:Int))):Cs.Gu es x= -1:=by unfold Cs.Gu;rw[if_neg h]
theorem Cs.Fa (u:Nat):u ^^^ 1=Cs.twin u:=by
 have h1:(u ^^^ 1)/2=u/2:=by rw[Nat.xor_div_two];simp
 have h2:(u ^^^ 1)%2=(u+1)%2:=by
  have:=Nat.xor_mod_two_pow (a:=u) (b:=1) (n:=1)
  simp at this
  rw[this]
  rcases acn u with h|h<;>rw[h]<;>simp<;>omega
 unfold Cs.twin
 split<;>omega
theorem Cs.wB (u:Nat) (hu:u<4611686018427387904):bits .xor .i64 (u:Int) 1=(Cs.twin u:Int):=by
 have h1:(BitVec.ofInt 64 (u:Int)).toNat=u:=by
  rw[BitVec.ofInt_natCast,BitVec.toNat_ofNat];exact Nat.mod_eq_of_lt (by omega)
 have h2:(BitVec.ofInt 64 (1:Int)).toNat=1:=by decide
 show IntKind.i64.wrap ((BitVec.ofInt 64 (u:Int) ^^^ BitVec.ofInt 64 (1:Int)).toNat:Int)=_
 have h3:=Cs.Fa u
 have h4:Cs.twin u≤u+1:=by unfold Cs.twin;split<;>omega
 rw[BitVec.toNat_xor,h1,h2,aa1,h3]
 omega
end
end Go.Proofs.YtdjmnpmdmjclhabGreat
