import Derived.Test.YtdjmnpmdmjclhabGreatMg00
import Init
import Derived.Test.YtdjmnpmdmjclhabGreatMg01
import Derived.Deep.QuietTactic
import Derived.BigQuiet
import Derived.BigRegion
import Derived.Laws.AppendOwnNone
import Derived.Shelf.Abstract
import Derived.Lib.SliceRun
import Derived.Test.YtdjmnpmdmjclhabGreatMg04
namespace Go.Proofs.YtdjmnpmdmjclhabGreat
section
namespace Bu
def less (ks:List Int) (x:Int):Nat:=ks.countP (fun z=>decide (z<x))
def rk (ks:List Int) (i:Nat):Nat:=less ks (ks.getD i 0)+(ks.take i).count (ks.getD i 0)
def pG (ks:List Int):List Int:=(List.range ks.length).map fun i=>(rk ks i:Int)
def bad (most z:Int):Bool:=decide (z<0)||decide (most<z)
def fault (most:Int) (ks:List Int):Int:=if most<0∨4194304<most then 2 else if ks.any (bad most) then 60 else 0
theorem nQ (ks:List Int):(pG ks).length=ks.length:=by simp[pG]
theorem DU {ks:List Int} {i:Nat} (h:i<ks.length):(pG ks)[i]? =some (rk ks i:Int):=by simp[pG,h]
theorem B4 {ks:List Int} {i:Nat} {x:Int} (h:ks[i]? =some x):ks.getD i 0=x:=by simp[h]
theorem getD_at {ks:List Int} {i:Nat} (h:i<ks.length):ks[i]? =some (ks.getD i 0):=by simp[aac h]
theorem sU {ks:List Int} {i:Nat} {x:Int} (h:ks[i]? =some x):ks.take (i+1)=ks.take i++[x]:=by rw[abL,h];rfl
theorem iM {ks:List Int} {i:Nat} {x:Int} (h:ks[i]? =some x) (y:Int):(ks.take (i+1)).count y=(ks.take i).count y+(if x=y then 1 else 0):=by
 rw[sU h,ady]
 by_cases e:x=y
 ·subst e;simp
 ·simp[e]
theorem AV (ks:List Int) (x:Int):less ks (x+1)=less ks x+ks.count x:=by
 induction ks with
 |nil=>rfl
 |cons a r ih=>
  unfold less at ih ⊢
  simp only[List.countP_cons,List.count_cons,ih]
  by_cases h1:a<x
  ·have h2:a<x+1:=by omega
   have h3:¬a=x:=by omega
   simp[h1,h2,h3];omega
  ·by_cases h3:a=x
   ·subst h3
    have h2:a<a+1:=by omega
    simp[h2];omega
   ·have h2:¬a<x+1:=by omega
    simp[h1,h2,h3]
theorem Ks (ks:List Int) {x y:Int} (h:x≤y):less ks x≤less ks y:=by
 unfold less
 exact List.countP_mono_left fun z _ hz=>by simp at hz ⊢;omega
theorem Hp (ks:List Int) (x:Int):less ks x≤ks.length:=List.countP_le_length
theorem BR (ks:List Int) {i j:Nat} (h:i≤j) (x:Int):(ks.take i).count x≤(ks.take j).count x:=by
 have e:ks.take i=(ks.take j).take i:=by rw[adJ];congr 1;omega
 rw[e]
 exact List.Sublist.count_le _ (List.take_sublist _ _)
theorem zA (ks:List Int) (i:Nat) (x:Int):(ks.take i).count x≤ks.count x:=List.Sublist.count_le _ (List.take_sublist _ _)
theorem BQ {ks:List Int} {i j:Nat} {x:Int} (h:ks[i]? =some x) (hj:i<j):(ks.take i).count x<(ks.take j).count x:=by
 have h1:=iM h x
 have h2:=BR ks (i:=i+1) (j:=j) (by omega) x
 rw[if_pos rfl] at h1
 omega
theorem ud {ks:List Int} {i:Nat} {x:Int} (h:ks[i]? =some x):(ks.take i).count x<ks.count x:=by
 have h1:=iM h x
 have h2:=zA ks (i+1) x
 rw[if_pos rfl] at h1
 omega
theorem wK {ks:List Int} {i:Nat} {x:Int} (h:ks[i]? =some x):rk ks i=less ks x+(ks.take i).count x:=by unfold rk;rw[B4 h]
def Ahead (ks:List Int) (i j:Nat):Prop:=ks.getD i 0<ks.getD j 0∨(ks.getD i 0=ks.getD j 0∧i<j)
theorem DN {ks:List Int} {i:Nat} {x:Int} (h:ks[i]? =some x):rk ks i<less ks (x+1):=by
 rw[wK h,AV]
 have:=ud h
 omega
theorem wL {ks:List Int} {i j:Nat} (hi:i<ks.length) (hj:j<ks.length) (h:Ahead ks i j):rk ks i<rk ks j:=by
 have ei:=getD_at hi
 have ej:=getD_at hj
 rcases h with h|⟨h,hlt⟩
 ·have h1:=DN ei
  have h2:=Ks ks (x:=ks.getD i 0+1) (y:=ks.getD j 0) (by omega)
  rw[wK ej]
  omega
 ·rw[wK ei,wK ej,←h]
  have:=BQ ei hlt
  omega
theorem EY {ks:List Int} {i:Nat} (hi:i<ks.length):rk ks i<ks.length:=by
 have h1:=DN (getD_at hi)
 have h2:=Hp ks (ks.getD i 0+1)
 omega
theorem Ew (ks:List Int) {i j:Nat} (h:i≠j):Ahead ks i j∨Ahead ks j i:=by
 unfold Ahead
 omega
theorem Mn {ks:List Int} {i j:Nat} (hi:i<ks.length) (hj:j<ks.length) (h:rk ks i=rk ks j):i=j:=by
 rcases Nat.decEq i j with e|e
 ·rcases Ew ks e with a|a
  ·have:=wL hi hj a;omega
  ·have:=wL hj hi a;omega
 ·exact e
theorem pig:∀(n:Nat) (f:Nat→Nat),(∀i,i<n→f i<n)→(∀i j,i<n→j<n→f i=f j→i=j)→∀k,k<n→∃i,i<n∧f i=k:=by
 intro n
 induction n with
 |zero=>intro f _ _ k hk;omega
 |succ n ih=>
  intro f hf hinj k hk
  have hg:=ih (fun i:Nat=>if f i=n then f n else f i) (fun i hi=>by
   by_cases e:f i=n
   ·rw[if_pos e]
    have h1:=hf n (by omega)
    have h2:f n≠n:=fun e2=>by
     have:=hinj i n (by omega) (by omega) (e.trans e2.symm)
     omega
    omega
   ·rw[if_neg e]
    have:=hf i (by omega)
    omega) (fun i j hi hj he=>by
   by_cases e1:f i=n
   ·by_cases e2:f j=n
    ·exact hinj i j (by omega) (by omega) (e1.trans e2.symm)
    ·rw[if_pos e1,if_neg e2] at he
     have:=hinj n j (by omega) (by omega) he
     omega
   ·by_cases e2:f j=n
    ·rw[if_neg e1,if_pos e2] at he
     have:=hinj i n (by omega) (by omega) he
     omega
    ·rw[if_neg e1,if_neg e2] at he
     exact hinj i j (by omega) (by omega) he)
  have hn:=hf n (by omega)
  by_cases e:f n=k
  ·exact⟨n,by omega,e⟩
  ·by_cases e2:k=n
   ·obtain⟨i,hi,h⟩:=hg (f n) (by omega)
    by_cases e3:f i=n
    ·exact⟨i,by omega,by omega⟩
    ·rw[if_neg e3] at h
     have:=hinj i n (by omega) (by omega) h
     omega
   ·obtain⟨i,hi,h⟩:=hg k (by omega)
    by_cases e3:f i=n
    ·rw[if_pos e3] at h
     exact absurd h e
    ·rw[if_neg e3] at h
     exact⟨i,by omega,h⟩
theorem Ap (ks:List Int) {k:Nat} (hk:k<ks.length):∃i,i<ks.length∧rk ks i=k:=
 pig ks.length (rk ks) (fun _ hi=>EY hi) (fun _ _ hi hj h=>Mn hi hj h) k hk
structure Sorted {α:Type} (ks:List Int) (xs S:List α):Prop where
 len:S.length=ks.length
 put:∀i,i<ks.length→S[rk ks i]? =xs[i]?
structure Laid {α:Type} (ks:List Int) (xs S:List α) (n:Nat):Prop where
 len:S.length=ks.length
 put:∀i,i<n→S[rk ks i]? =xs[i]?
theorem Laid.step {α:Type} {ks:List Int} {xs S:List α} {n:Nat} (h:Laid ks xs S n) (hn:n<ks.length) {x:α} (hx:xs[n]? =some x):Laid ks xs (S.set (rk ks n) x) (n+1):=by
 refine⟨by rw[aaT];exact h.len,fun i hi=> ?_⟩
 have hr:=EY hn
 rw[aaq]
 by_cases e:i=n
 ·subst e
  rw[if_pos rfl,if_pos (by rw[h.len];exact hr),hx]
 ·rw[if_neg (fun e2=>e (Mn (by omega) hn e2.symm)),h.put i (by omega)]
def abp (ks:List Int) (n:Nat) (k:Int):List Int:=((List.range n).filter fun i=>ks.getD i 0==k).map fun i:Nat=>(i:Int)
def grp (ks:List Int) (k:Int):List Int:=abp ks ks.length k
def In (m:Int) (ks:List Int):Prop:=∀z∈ks,0≤z∧z≤m
def groups (ks:List Int) (K:Nat):List (List Int):=(List.range K).map fun k:Nat=>grp ks (k:Int)
def flat (ks:List Int) (K:Nat):List Int:=(groups ks K).flatten
theorem Kr {m:Int} {ks:List Int} (h:In m ks):less ks 0=0:=by
 unfold less
 rw[List.countP_eq_zero]
 intro z hz
 have:=h z hz
 simp
 omega
def places (n:Nat):List Int:=(List.range n).map fun i:Nat=>(i:Int)
theorem tY {most:Int} {ks:List Int} (h:most<0∨4194304<most):fault most ks=2:=if_pos h
theorem tZ {most:Int} {ks:List Int} (h:¬(most<0∨4194304<most)) (h2:ks.any (bad most)=true):fault most ks=60:=by unfold fault;rw[if_neg h,if_pos h2]
theorem rC {most:Int} {ks:List Int} (h:¬(most<0∨4194304<most)) (h2:ks.any (bad most)=false):fault most ks=0:=by
 unfold fault
 rw[if_neg h,h2]
 rfl
theorem FI (most:Int) (ks:List Int):((most<0∨4194304<most)∧fault most ks=2)∨(¬(most<0∨4194304<most)∧ks.any (bad most)=true∧fault most ks=60)∨(¬(most<0∨4194304<most)∧ks.any (bad most)=false∧fault most ks=0):=by
 by_cases h:most<0∨4194304<most
 ·exact .inl ⟨h,tY h⟩
 ·cases h2:ks.any (bad most)
  ·exact .inr (.inr ⟨h,rfl,rC h h2⟩)
  ·exact .inr (.inl ⟨h,rfl,tZ h h2⟩)
theorem We {most:Int} {ks:List Int} (h:ks.any (bad most)=false):In most ks:=fun z hz=>by
 have:=List.any_eq_false.1 h z hz
 unfold bad at this
 simp at this
 omega
theorem B5 {most:Int} {ks:List Int} {i:Nat} {x:Int} (h:ks[i]? =some x) (hp:(ks.take i).any (bad most)=false) (hx:bad most x=false):(ks.take (i+1)).any (bad most)=false:=by
 rw[sU h,List.any_append,hp]
 simp[hx]
theorem M9 {most:Int} {ks:List Int} {i:Nat} {x:Int} (h:ks[i]? =some x) (hx:bad most x=true):ks.any (bad most)=true:=abU.2 ⟨x,aaG h,hx⟩
theorem Jg {most x:Int} (h:x<0∨most<x):bad most x=true:=by unfold bad;simp;omega
theorem M7 {most x:Int} (h:¬(x<0∨most<x)):bad most x=false:=by unfold bad;simp;omega
end Bu
end
section
open Go.RowKit
def Bu.Max (l:List Int) (k:Nat) (m:Int):Prop:=(∃j,j<k∧l[j]? =some m)∧∀(j:Nat) (z:Int),j<k→l[j]? =some z→z≤m
theorem Bu.Max.more {l:List Int} {k:Nat} {m y:Int} (h:Bu.Max l k m) (hy:l[k]? =some y):Bu.Max l (k+1) (if y>m then y else m):=by
 obtain⟨⟨j,hj,e⟩,h2⟩:=h
 by_cases c:y>m
 ·rw[if_pos c]
  refine⟨⟨k,by omega,hy⟩,fun i z hi hz=> ?_⟩
  by_cases hk:i=k
  ·subst hk;rw[hy] at hz;cases hz;exact abE _
  ·have:=h2 i z (by omega) hz;omega
 ·rw[if_neg c]
  refine⟨⟨j,by omega,e⟩,fun i z hi hz=> ?_⟩
  by_cases hk:i=k
  ·subst hk;rw[hy] at hz;cases hz;omega
  ·exact h2 i z (by omega) hz
set_option maxRecDepth 100000 in
set_option maxHeartbeats 4000000 in
theorem Qm (ao:Option Addr) (ca n:Nat) (l:List Int) (w:World) (hn:l.length=n) (h0:0<n) (hl:n≤17592186043904) (ha:cK w ao l):
 Calls Tryz.prog 164 #[.slice ao n ca] w fun e w'=>∃m,e= .returned (.int .i64 m)∧Bu.Max l n m∧w'=w:=by
 obtain⟨x,hx⟩:∃x,l[0]? =some x:=⟨_,aac (by omega)⟩
 obtain⟨b,o,rfl,c0⟩:=ha 0 x hx
 have HA:=Nu.hid ha
 have HN:=Nu.hid hn
 have HX:=Nu.hid hx
 have i0:(0:Int)<(n:Int):=by omega
 have i1:¬((n:Int)<1):=by omega
 rw[Nat.add_zero] at c0
 clear ha hn hx
 go_enter Tryz.func164,Tryz.ntmps164
 go_wp2
 go_loopw [3,4] (fun mv c wr=>∃(k:Nat) (m:Int),0<k∧k≤n∧c= .int .i64 k∧mv= .int .i64 m∧Bu.Max l k m∧wr=w) (fun _ c _=>n-(intOf c).toNat)
 case atStart=>exact⟨1,x,by omega,by omega,rfl,rfl,⟨⟨0,by omega,HX.out⟩,fun j z hj hz=>by
  obtain rfl:j=0:=by omega
  rw[HX.out] at hz
  cases hz
  exact abE _⟩,rfl⟩
 case round=>
  obtain⟨k,m,hk0,hk,rfl,rfl,hm,rfl⟩:=hrel
  have HM:=Nu.hid hm
  clear hm
  by_cases hlt:k<n
  ·have lV:(k:Int)<(n:Int):=by omega
   have hki:(0:Int)≤(k:Int):=by omega
   obtain⟨y,hy⟩:∃y,l[k]? =some y:=⟨_,aac (by have:=HN.out;omega)⟩
   obtain⟨b',o',e',ck⟩:=HA.out k y hy
   cases e'
   have HY:=Nu.hid hy
   clear hy
   obtain⟨q,hq⟩:∃q,q=(if y>m then y else m):=⟨_,rfl⟩
   have HQ:=Nu.hid (HM.out.more HY.out)
   rw[←hq] at HQ
   go_wp2
   rw[←hq]
   go_roundw
   case rel=>exact⟨k+1,q,by omega,by omega,by go_num,rfl,HQ.out,trivial⟩
   case measure=>simp[intOf];omega
  ·have hd:¬((k:Int)<(n:Int)):=by omega
   obtain rfl:k=n:=by omega
   go_wp2
   go_ret
   exact⟨m,rfl,HM.out,rfl⟩
end
section
open Go.RowKit
structure Bu.Gk (ks:List Int) (i K:Nat) (C:List Int):Prop where
 len:C.length=K
 put:∀k,k<K→C[k]? =some ((ks.take i).count (k:Int):Int)
theorem Bu.Gk.start (ks:List Int) (K:Nat):Bu.Gk ks 0 K (List.replicate K 0):=⟨by simp,fun k hk=>by simp[hk]⟩
theorem Bu.Gk.step {ks:List Int} {i K k:Nat} {C:List Int} (h:Bu.Gk ks i K C) (hi:ks[i]? =some (k:Int)) (hk:k<K):Bu.Gk ks (i+1) K (C.set k (((ks.take i).count (k:Int):Int)+1)):=by
 refine⟨by rw[aaT];exact h.len,fun j hj=> ?_⟩
 rw[aaq,Bu.iM hi]
 by_cases e:k=j
 ·subst e
  rw[if_pos rfl,if_pos (by rw[h.len];exact hk),if_pos rfl]
  simp
 ·rw[if_neg e,if_neg (by omega),h.put j hj]
  simp
def UH (m0:Int) (ks:List Int) (w:World) (e:Ending) (w':World):Prop:=
 (ks=[]∧e= .returned (.slice none 0 0)∧w'=w)∨
 ∃(g K:Nat) (C:List Int),0<ks.length∧e= .returned (.slice (some ⟨g,0,none⟩) K K)∧w.heap.size≤g∧g<w'.heap.size∧aF w' g C∧Bu.Gk ks ks.length K C∧(K:Int)≤m0+1∧(∀z∈ks,z<(K:Int))∧Below w.heap.size w w'
set_option maxRecDepth 100000 in
set_option maxHeartbeats 4000000 in
theorem Ja (ao:Option Addr) (ca n:Nat) (ks:List Int) (w:World) (hn:ks.length=n) (hl:n≤17592186043904) (ha:cK w ao ks) (m0:Int) (hm0:m0≤4194304) (hin:Bu.In m0 ks):
 Calls Tryz.prog 156 #[.slice ao n ca] w (UH m0 ks w):=by
 by_cases h0:n=0
 ·subst h0
  go_enter Tryz.func156,Tryz.ntmps156
  go_wp2
  go_ret
  exact .inl ⟨abu.1 hn,rfl,rfl⟩
 obtain⟨i0,hi,hz0,hz1,hz2⟩:=info_parts Tryz.bO
 have HM:=Nu.hid (Qm ao ca n ks w hn (by omega) hl ha)
 have HA:=Nu.hid ha
 have HN:=Nu.hid hn
 have sO:=Nu.hid hin
 have j0:((n:Int)==0)=false:=by simp;omega
 clear ha hn hin
 go_enter Tryz.func156,Tryz.ntmps156
 go_wp2_with (go_at_call 164;refine HM.out.mono ?_;rintro e w1 ⟨m,rfl,hm,hw1⟩;obtain rfl:=hw1.symm;have HMX:=Nu.hid hm;clear hm;refine aaB ?_)
 refine Nu.hid ?_
 have hmb:0≤m∧m≤m0:=by
  obtain⟨⟨j,hj,e⟩,-⟩:=HMX.out
  exact sO.out m (aaG e)
 obtain⟨M,rfl⟩:∃M:Nat,m=(M:Int):=⟨m.toNat,by omega⟩
 have lY:Hid (∀z∈ks,z<((M+1:Nat):Int)):=fun z hz=>by
  obtain⟨j,hj,rfl⟩:=List.getElem_of_mem hz
  have:=HMX.out.2 j _ (by have:=HN.out;omega) (aac hj)
  omega
 clear HM
 go_wp2_with (at_make;refine wpList_make_full _ rfl _ _ 27 rfl w.heap.size 3 i0 (.int .i64 0) 1 Tryz.underlying27 hi hz0 hz1 _ _ _ _ (M+1) rfl rfl rfl rfl (by rw[hz2];omega) (by unfold maxLen;omega) (aad _) ?_;refine aaB ?_)
 refine Nu.hid ?_
 intro w2 hrow hg2
 rw[cD] at hrow
 have hik:=(dy hrow).ins
 have hb2:Below w.heap.size w w2:=(aae _ _).grown hg2 (aad _) (fun j hj=>by cases hj)
 have fX:=Nu.hid hik
 have ct:=Nu.hid hb2
 clear hrow hg2 hik hb2
 obtain⟨K,hK⟩:∃K,M+1=K:=⟨_,rfl⟩
 rw[hK] at fX lY ⊢
 have xP:Hid ((K:Int)≤m0+1):=by show _≤_;omega
 have hK2:K≤4194305:=by omega
 clear hK hmb
 go_wp2
 go_loopw [15] (fun c wr=>∃(i:Nat) (C:List Int),i≤n∧c= .int .i64 i∧Bu.Gk ks i K C∧aF wr w.heap.size C∧Below w.heap.size w wr) (fun c _=>n-(intOf c).toNat)
 case atStart=>exact⟨0,_,aax _,rfl,Bu.Gk.start ks K,fX.out,ct.out⟩
 case round=>
  obtain⟨i,C,hin,rfl,hC,C2,hb⟩:=hrel
  have hsz:=C2.lt
  have HC:=Nu.hid hC
  have HIC:=Nu.hid C2
  have HB:=Nu.hid hb
  by_cases hlt:i<n
  ·have hk0:(0:Int)≤(i:Int):=by omega
   have hk1:(i:Int)<(n:Int):=by omega
   obtain⟨x,hx⟩:∃x,ks[i]? =some x:=⟨_,aac (by have:=HN.out;omega)⟩
   have hx0:=sO.out x (aaG hx)
   have hx1:=lY.out x (aaG hx)
   obtain⟨k,rfl⟩:∃k:Nat,x=(k:Int):=⟨x.toNat,by omega⟩
   have Vp:k<K:=by omega
   obtain⟨b,o,rfl,c0⟩:=(HA.out.later HB.out) i _ hx
   have oF:=hC.put k Vp
   have hcl:((ks.take i).count (k:Int))≤i:=abb adi (by simp;omega)
   have jS:=Nu.hid (hC.step hx Vp)
   obtain⟨q,hq⟩:∃q,(ks.take i).count (k:Int)=q:=⟨_,rfl⟩
   rw[hq] at oF hcl jS
   have Cn:=Nu.hid (C2.set (i:=k) (by rw[hC.len];exact Vp) ((q:Int)+1))
   have JB:=Nu.hid (hb.setCell (p:=⟨w.heap.size,k,none⟩) (aad _) (.int .i64 ((q:Int)+1)))
   have c1:=C2.cell oF
   have f1:=C2.free k
   have k0:(0:Int)≤(k:Int):=by omega
   have k1:(k:Int)<(K:Int):=by omega
   clear hC C2 hb hx oF hq
   go_wp2
   go_roundw
   case rel=>exact⟨i+1,_,by omega,by go_num,jS.out,Cn.out,JB.out⟩
   case measure=>simp[intOf];omega
  ·have hd:¬((i:Int)<(n:Int)):=by omega
   obtain rfl:i=n:=by omega
   clear hC C2 hb
   go_wp2
   go_ret
   exact .inr ⟨w.heap.size,K,C,by have:=HN.out;omega,rfl,aad _,hsz,HIC.out,by rw[HN.out];exact HC.out,xP.out,lY.out,HB.out⟩
end
section
open Go.RowKit
structure Bu.JE (ks:List Int) (i K:Nat) (F:List Int):Prop where
 len:F.length=K
 put:∀k,k<K→F[k]? =some ((Bu.less ks (k:Int)+(ks.take i).count (k:Int):Nat):Int)
theorem Bu.JE.step {ks:List Int} {i K k:Nat} {F:List Int} (h:Bu.JE ks i K F) (hi:ks[i]? =some (k:Int)) (hk:k<K):Bu.JE ks (i+1) K (F.set k ((Bu.rk ks i:Int)+1)):=by
 refine⟨by rw[aaT];exact h.len,fun j hj=> ?_⟩
 rw[aaq,Bu.iM hi,Bu.wK hi]
 by_cases e:k=j
 ·subst e
  rw[if_pos rfl,if_pos (by rw[h.len];exact hk),if_pos rfl]
  congr 1
 ·rw[if_neg e,if_neg (by omega),h.put j hj]
  congr 1
structure Bu.Half (ks:List Int) (k K:Nat) (F:List Int):Prop where
 len:F.length=K
 lo:∀j,j<k→F[j]? =some (Bu.less ks (j:Int):Int)
 hi:∀j,k≤j→j<K→F[j]? =some (ks.count (j:Int):Int)
theorem Bu.Half.step {ks:List Int} {k K:Nat} {F:List Int} (h:Bu.Half ks k K F) (hk:k<K):Bu.Half ks (k+1) K (F.set k (Bu.less ks (k:Int):Int)):=by
 refine⟨by rw[aaT];exact h.len,fun j hj=> ?_,fun j hj hjK=> ?_⟩
 ·rw[aaq]
  by_cases e:k=j
  ·subst e;rw[if_pos rfl,if_pos (by rw[h.len];exact hk)]
  ·rw[if_neg e,h.lo j (by omega)]
 ·rw[aaq,if_neg (by omega),h.hi j (by omega) hjK]
def Wi (ks:List Int) (w:World) (e:Ending) (w':World):Prop:=
 ∃g:Nat,e= .returned (.slice (some ⟨g,0,none⟩) ks.length ks.length)∧w.heap.size≤g∧aq w' g (Bu.pG ks)∧Below w.heap.size w w'
theorem aq.other {w:World} {g:Nat} {l:List Int} (h:aq w g l) {b i:Nat} (hb:g≠b) (x:Value):aq (w.setCell ⟨b,i,none⟩ x) g l:=(heap_setCell_other w ⟨b,i,none⟩ g x hb).trans h
theorem qC {α:Type} {l R:List α} {i:Nat} {x:α} (hl:R.length=l.length) (h:∀j,j<i→R[j]? =l[j]?) (hx:l[i]? =some x):∀j,j<i+1→(R.set i x)[j]? =l[j]? :=fun j hj=>by
 have hil:=(aas.1 hx).1
 rw[aaq]
 by_cases e:i=j
 ·subst e;rw[if_pos rfl,if_pos (by omega),hx]
 ·rw[if_neg e,h j (by omega)]
set_option maxRecDepth 100000 in
set_option maxHeartbeats 8000000 in
theorem Kc (ao:Option Addr) (ca n:Nat) (ks:List Int) (w:World) (hn:ks.length=n) (hl:n≤17592186043904) (ha:cK w ao ks) (hin:Bu.In 4194304 ks):
 Calls Tryz.prog 134 #[.slice ao n ca] w (Wi ks w):=by
 obtain⟨i0,hi,hz0,hz1,hz2⟩:=info_parts Tryz.bO
 have HM:=Nu.hid (Ja ao ca n ks w hn hl ha 4194304 (by decide) hin)
 have HA:=Nu.hid ha
 have HN:=Nu.hid hn
 have sO:=Nu.hid hin
 clear ha hn hin
 by_cases h0:n=0
 ·subst h0
  have T9:Hid (Calls Tryz.prog 156 #[.slice ao 0 ca] w fun e w'=>e= .returned (.slice none 0 0)∧w'=w):=HM.out.mono (by
   rintro e w1 (⟨-,h1,h2⟩|⟨g,K,C,h1,-⟩)
   ·exact⟨h1,h2⟩
   ·have:=HN.out;omega)
  clear HM
  go_enter Tryz.func134,Tryz.ntmps134
  go_wp2_with (go_at_call 156;refine T9.out.mono ?_;rintro e w1 ⟨rfl,hw1⟩;obtain rfl:=hw1.symm;refine aaB ?_)
  refine Nu.hid ?_
  go_wp2
  go_loopw [4,14] (fun a c wr=>c= .int .i64 0∧wr=w) (fun _ c _=>0)
  case atStart=>exact⟨rfl,rfl⟩
  case round=>
   obtain⟨rfl,rfl⟩:=hrel
   go_wp2_with (at_make;refine wpList_make_full _ rfl _ _ 27 rfl wr.heap.size 3 i0 (.int .i64 0) 1 Tryz.underlying27 hi hz0 hz1 _ _ _ _ 0 rfl rfl rfl rfl (by rw[hz2];omega) (by unfold maxLen;omega) (aad _) ?_;refine aaB ?_)
   refine Nu.hid ?_
   intro w2 hrow hg2
   rw[cD] at hrow
   have fX:=Nu.hid (dy hrow)
   have ct:Hid (Below wr.heap.size wr w2):=(aae _ _).grown hg2 (aad _) (fun j hj=>by cases hj)
   clear hrow hg2
   go_wp2
   go_loopw [32] (fun c wx=>c= .int .i64 0∧wx=w2) (fun c _=>0)
   case atStart=>exact⟨rfl,rfl⟩
   case round=>
    obtain⟨rfl,rfl⟩:=hrel
    go_wp2
    go_ret
    refine⟨_,by rw[HN.out];rfl,aad _,?_,ct.out⟩
    have:Bu.pG ks=[]:=abu.1 (by rw[Bu.nQ,HN.out])
    rw[this]
    exact fX.out
 ·have T9:Hid (Calls Tryz.prog 156 #[.slice ao n ca] w fun e w'=>∃(g K:Nat) (C:List Int),e= .returned (.slice (some ⟨g,0,none⟩) K K)∧w.heap.size≤g∧g<w'.heap.size∧aF w' g C∧Bu.Gk ks ks.length K C∧(K:Int)≤4194304+1∧(∀z∈ks,z<(K:Int))∧Below w.heap.size w w'):=HM.out.mono (by
   rintro e w1 (⟨h1,-⟩|⟨g,K,C,-,h⟩)
   ·exact absurd (by rw[←HN.out,h1];rfl) h0
   ·exact⟨g,K,C,h⟩)
  clear HM
  go_enter Tryz.func134,Tryz.ntmps134
  go_wp2_with (go_at_call 156;refine T9.out.mono ?_;rintro e w1 ⟨g,K,C,rfl,hg,mS,C2,hC,hK,yy,hb1⟩;refine aaB ?_)
  refine Nu.hid ?_
  have lY:=Nu.hid yy
  have aY:=Nu.hid hb1
  have H0:Hid (Bu.Half ks 0 K C):=⟨hC.len,fun j hj=>by omega,fun j _ hj=>by have:=hC.put j hj;rw[acg] at this;exact this⟩
  have Zg:=Nu.hid C2
  have HZ:Hid (Bu.less ks 0=0):=Bu.Kr sO.out
  clear yy hb1 hC C2 T9
  go_wp2
  go_loopw [4,14] (fun a c wr=>∃(k:Nat) (F:List Int),k≤K∧c= .int .i64 k∧a= .int .i64 (Bu.less ks (k:Int):Int)∧Bu.Half ks k K F∧aF wr g F∧Below w.heap.size w wr) (fun _ c _=>K-(intOf c).toNat)
  case atStart=>exact⟨0,C,aax _,rfl,by rw[show((0:Nat):Int)=0 by rfl,HZ.out];rfl,H0.out,Zg.out,aY.out⟩
  case round=>
   obtain⟨k,F,Vp,rfl,rfl,hF,zn,hb⟩:=hrel
   have hsz:=zn.lt
   have HF:=Nu.hid hF
   have HIF:=Nu.hid zn
   have HB:=Nu.hid hb
   have eK:=Bu.Hp ks (k:Int)
   rw[HN.out] at eK
   by_cases hlt:k<K
   ·have hk0:(0:Int)≤(k:Int):=by omega
    have hk1:(k:Int)<(K:Int):=by omega
    have oF:=hF.hi k (aad _) hlt
    have hcl:ks.count (k:Int)≤n:=by rw[←HN.out];exact adi
    have jS:=Nu.hid (hF.step hlt)
    have hls:=Bu.AV ks (k:Int)
    obtain⟨q,hq⟩:∃q,ks.count (k:Int)=q:=⟨_,rfl⟩
    obtain⟨r,hr⟩:∃r,Bu.less ks (k:Int)=r:=⟨_,rfl⟩
    rw[hq] at oF hcl hls
    rw[hr] at eK hls jS ⊢
    have HLS:Hid (Bu.less ks ((k+1:Nat):Int)=r+q):=by
     have e:((k+1:Nat):Int)=(k:Int)+1:=by omega
     show _=_
     rw[e]
     exact hls
    have Cn:=Nu.hid (zn.set (i:=k) (by rw[hF.len];exact hlt) (r:Int))
    have JB:=Nu.hid (hb.setCell (p:=⟨g,k,none⟩) (by exact hg) (.int .i64 (r:Int)))
    have c1:=zn.cell oF
    have f1:=zn.free k
    clear hF zn hb oF hq hr hls
    go_wp2
    go_roundw
    case rel=>exact⟨k+1,_,by omega,by go_num,by rw[HLS.out];go_num,jS.out,Cn.out,JB.out⟩
    case measure=>simp[intOf];omega
   ·have hd:¬((k:Int)<(K:Int)):=by omega
    obtain rfl:k=K:=by omega
    have H1:Hid (Bu.JE ks 0 k F):=⟨hF.len,fun j hj=>by rw[hF.lo j hj];simp⟩
    clear hF zn hb
    go_wp2_with (at_make;refine wpList_make_full _ rfl _ _ 27 rfl wr.heap.size 3 i0 (.int .i64 0) 1 Tryz.underlying27 hi hz0 hz1 _ _ _ _ n rfl rfl rfl rfl (by rw[hz2];omega) (by unfold maxLen;omega) (aad _) ?_;refine aaB ?_)
    refine Nu.hid ?_
    intro w2 hrow hg2
    rw[cD] at hrow
    have fX:=Nu.hid (dy hrow)
    have hb2:Below wr.heap.size wr w2:=(aae _ _).grown hg2 (aad _) (fun j hj=>by cases hj)
    have agU:=Nu.hid (HIF.out.later hb2)
    have ct:=Nu.hid (HB.out.trans (hb2.mono HB.out.size))
    have hsw:=HB.out.size
    obtain⟨G,hG⟩:∃G,G=wr.heap.size:=⟨_,rfl⟩
    rw[←hG] at fX hsz hsw ⊢
    have hgG:g≠G:=by omega
    have hGg:G≠g:=by omega
    clear hrow hg2 hb2 HIF H0 Zg hG
    go_wp2
    go_loopw [32] (fun c wx=>∃(i:Nat) (F R:List Int),i≤n∧c= .int .i64 i∧Bu.JE ks i k F∧R.length=n∧(∀j,j<i→R[j]? =(Bu.pG ks)[j]?)∧aF wx g F∧aq wx G R∧Below w.heap.size w wx) (fun c _=>n-(intOf c).toNat)
    case atStart=>exact⟨0,F,_,aax _,rfl,H1.out,by simp,fun j hj=>by omega,agU.out,fX.out,ct.out⟩
    case round=>
     obtain⟨i,F',R,hin,rfl,hF,De,hR,zn,C1,hb⟩:=hrel
     have HR:=Nu.hid hR
     have Pt:=Nu.hid C1
     have dm:=Nu.hid hb
     by_cases hlt:i<n
     ·have hk0:(0:Int)≤(i:Int):=by omega
      have hk1:(i:Int)<(n:Int):=by omega
      obtain⟨x,hx⟩:∃x,ks[i]? =some x:=⟨_,aac (by have:=HN.out;omega)⟩
      have hx0:=sO.out x (aaG hx)
      have hx1:=lY.out x (aaG hx)
      obtain⟨z,rfl⟩:∃z:Nat,x=(z:Int):=⟨x.toNat,by omega⟩
      have KC:z<k:=by omega
      obtain⟨b,o,rfl,c0⟩:=(HA.out.later dm.out) i _ hx
      have oF:=hF.put z KC
      rw[←Bu.wK hx] at oF
      have hrl:=Bu.EY (ks:=ks) (i:=i) (by rw[HN.out];exact hlt)
      rw[HN.out] at hrl
      have KP:=Bu.DU (ks:=ks) (i:=i) (by rw[HN.out];exact hlt)
      have jS:=Nu.hid (hF.step hx KC)
      obtain⟨q,hq⟩:∃q,Bu.rk ks i=q:=⟨_,rfl⟩
      rw[hq] at oF hrl jS KP
      obtain⟨y,hy⟩:∃y,R[i]? =some y:=⟨_,aac (by omega)⟩
      have qy:=Nu.hid (qC (by rw[De,Bu.nQ,HN.out]) hR KP)
      have c1:=zn.cell oF
      have c2:=C1.cell hy
      have f2:=C1.free i
      have hF2:=zn.other (i:=i) hgG (.int .i64 (q:Int))
      have hR2:=C1.set i (q:Int)
      have c3:=hF2.cell oF
      have f3:=hF2.free z
      have Um:=Nu.hid (hF2.set (i:=z) (by rw[hF.len];exact KC) ((q:Int)+1))
      have TI:=Nu.hid (hR2.other (i:=z) hGg (.int .i64 ((q:Int)+1)))
      have gJ:=Nu.hid ((hb.setCell (p:=⟨G,i,none⟩) (by show _≤G;omega) (.int .i64 (q:Int))).setCell (p:=⟨g,z,none⟩) (by exact hg) (.int .i64 ((q:Int)+1)))
      have z0:(0:Int)≤(z:Int):=by omega
      have z1:(z:Int)<(k:Int):=by omega
      have TH:Hid ((R.set i (q:Int)).length=n):=by show _=_;simp[De]
      clear hF zn C1 hb hR hx oF hq KP hy hF2 hR2
      go_wp2
      go_roundw
      case rel=>exact⟨i+1,_,_,by omega,by go_num,jS.out,TH.out,qy.out,Um.out,TI.out,gJ.out⟩
      case measure=>simp[intOf];omega
     ·have hd:¬((i:Int)<(n:Int)):=by omega
      obtain rfl:i=n:=by omega
      clear hF zn C1 hb
      go_wp2
      go_ret
      refine⟨G,by rw[HN.out];rfl,hsw,?_,dm.out⟩
      have e:R=Bu.pG ks:=aa6 fun j=>by
       by_cases hj:j<i
       ·exact HR.out j hj
       ·rw[aat (by omega),aat (by rw[Bu.nQ,HN.out];omega)]
      rw[←e]
      exact Pt.out
end
section
open Go.RowKit
theorem qp {P:Program} (w:World) (d:Nat) (t:TypeId) (kf:Nat) (bs:Array Value) {ps rs:Array TypeId} {vd:Bool} (h:P.underlying t=some (.func ps rs vd)):
 (Op.equalIn (d+1) t (.func (.func kf) #[] bs) .nilFunc).run P w= .ok false w:=by
 simp[Op.equalIn,run_underlying h]
theorem uP {P:Program} (w:World) (t:TypeId) (kf:Nat) (bs:Array Value) {ps rs:Array TypeId} {vd:Bool} (h:P.underlying t=some (.func ps rs vd)):(binOp .eql t (.func (.func kf) #[] bs) .nilFunc).run P w= .ok (.bool false) w:=by
 simp only[binOp]
 simp[Op.equal,Op.maxDepth,qp w 9999 t kf bs h]
def Ey (most:Int) (ks:List Int) (w:World) (e:Ending) (w':World):Prop:=
 ((Bu.fault most ks≠0∧e= .returned (.tuple #[.slice none 0 0,.int .i64 (Bu.fault most ks)]))∨
  (Bu.fault most ks=0∧∃g:Nat,e= .returned (.tuple #[.slice (some ⟨g,0,none⟩) ks.length ks.length,.int .i64 0])∧w.heap.size≤g∧aq w' g ks))∧Below w.heap.size w w'
set_option maxRecDepth 100000 in
set_option maxHeartbeats 8000000 in
theorem Fe (kf:Nat) (bs:Array Value) (key:Int→Int) (most:Int) (ao:Option Addr) (ca n:Nat) (xs ks:List Int) (w:World) (hn:xs.length=n) (hl:n≤17592186043904) (ha:cK w ao xs) (hks:ks=xs.map key)
 (Ec:∀(args:Array Value) (w:World),(callFunc kf args).run Tryz.prog w= .ok (.enter kf args) w) (dZ:∀W x,Below w.heap.size w W→x∈xs→Calls Tryz.prog kf (#[.int .i64 x]++bs) W fun e w'=>e= .returned (.int .i64 (key x))∧Below W.heap.size W w'):
 Calls Tryz.prog 133 #[.slice ao n ca,.func (.func kf) #[] bs,.int .i64 most] w (Ey most ks w):=by
 obtain⟨i0,hi,hz0,hz1,hz2⟩:=info_parts Tryz.bO
 have HA:=Nu.hid ha
 have HN:=Nu.hid hn
 have Cx:=Nu.hid dZ
 have HKS:=Nu.hid hks
 have hnil:=fun w=>uP (P:=Tryz.prog) w 114 kf bs Tryz.underlying114
 have HLEN:Hid (ks.length=n):=by show _=_;rw[hks,aa3,hn]
 clear ha hn dZ hks
 by_cases h1:most<0
 ·have HF:Hid (Bu.fault most ks=2):=Bu.tY (.inl h1)
  go_enter Tryz.func133,Tryz.ntmps133
  go_wp2
  go_ret2
  exact⟨.inl ⟨by rw[HF.out];decide,by rw[HF.out];rfl⟩,aae _ _⟩
 by_cases h2:4194304<most
 ·have HF:Hid (Bu.fault most ks=2):=Bu.tY (.inr h2)
  go_enter Tryz.func133,Tryz.ntmps133
  go_wp2
  go_ret2
  exact⟨.inl ⟨by rw[HF.out];decide,by rw[HF.out];rfl⟩,aae _ _⟩
 have TJ:Hid (¬(most<0∨4194304<most)):=by show ¬_;omega
 go_enter Tryz.func133,Tryz.ntmps133
 go_wp2_with (at_make;refine wpList_make_full _ rfl _ _ 27 rfl w.heap.size 3 i0 (.int .i64 0) 1 Tryz.underlying27 hi hz0 hz1 _ _ _ _ n rfl rfl rfl rfl (by rw[hz2];omega) (by unfold maxLen;omega) (aad _) ?_;refine aaB ?_)
 refine Nu.hid ?_
 intro w2 hrow hg2
 rw[cD] at hrow
 have fX:=Nu.hid (dy hrow)
 have ct:Hid (Below w.heap.size w w2):=(aae _ _).grown hg2 (aad _) (fun j hj=>by cases hj)
 clear hrow hg2
 go_wp2
 go_loopw [27] (fun c wr=>∃(i:Nat) (R:List Int),i≤n∧c= .int .i64 i∧R.length=n∧(∀j,j<i→R[j]? =ks[j]?)∧(ks.take i).any (Bu.bad most)=false∧aq wr w.heap.size R∧Below w.heap.size w wr) (fun c _=>n-(intOf c).toNat)
 case atStart=>exact⟨0,_,aax _,rfl,by simp,fun j hj=>by omega,by simp,fX.out,ct.out⟩
 case round=>
  obtain⟨i,R,hin,rfl,De,hR,Ei,C1,hb⟩:=hrel
  have HR:=Nu.hid hR
  have Pt:=Nu.hid C1
  have HB:=Nu.hid hb
  have Zp:=Nu.hid Ei
  by_cases hlt:i<n
  ·have hk0:(0:Int)≤(i:Int):=by omega
   have hk1:(i:Int)<(n:Int):=by omega
   obtain⟨x,hx⟩:∃x,xs[i]? =some x:=⟨_,aac (by have:=HN.out;omega)⟩
   have qw:ks[i]? =some (key x):=by rw[HKS.out,aay,hx];rfl
   obtain⟨b,o,rfl,c0⟩:=(HA.out.later HB.out) i _ hx
   have HC:=Nu.hid (Cx.out wr x hb (aaG hx))
   obtain⟨y,hy⟩:∃y,R[i]? =some y:=⟨_,aac (by omega)⟩
   generalize key x=z at qw HC
   have Ga:=Nu.hid qw
   have HY:=Nu.hid hy
   clear hR C1 hb Ei hx qw hy
   go_wp2_with (go_at_fn kf;refine HC.out.mono ?_;rintro e w3 ⟨rfl,hb3⟩;refine aaB ?_)
   refine Nu.hid ?_
   have dm:=Nu.hid (HB.out.trans (hb3.mono HB.out.size))
   have Ea:=Pt.out.later hb3
   clear hb3
   by_cases q1:z<0
   ·have HF:Hid (Bu.fault most ks=60):=Bu.tZ TJ.out (Bu.M9 Ga.out (Bu.Jg (.inl q1)))
    clear Ea
    go_wp2
    go_ret2
    exact⟨.inl ⟨by rw[HF.out];decide,by rw[HF.out];rfl⟩,dm.out⟩
   by_cases q2:most<z
   ·have HF:Hid (Bu.fault most ks=60):=Bu.tZ TJ.out (Bu.M9 Ga.out (Bu.Jg (.inr q2)))
    clear Ea
    go_wp2
    go_ret2
    exact⟨.inl ⟨by rw[HF.out];decide,by rw[HF.out];rfl⟩,dm.out⟩
   have c2:=Ea.cell HY.out
   have f2:=Ea.free i
   have F9:=Nu.hid (Bu.B5 Ga.out Zp.out (Bu.M7 (by omega)))
   have TI:=Nu.hid (Ea.set i z)
   have gJ:=Nu.hid (dm.out.setCell (p:=⟨w.heap.size,i,none⟩) (aad _) (.int .i64 z))
   have qy:=Nu.hid (qC (by rw[De,HLEN.out]) HR.out Ga.out)
   have TH:Hid ((R.set i z).length=n):=by show _=_;simp[De]
   clear Ea
   go_wp2
   go_roundw
   case rel=>exact⟨i+1,_,by omega,by go_num,TH.out,qy.out,F9.out,TI.out,gJ.out⟩
   case measure=>simp[intOf];omega
  ·have hd:¬((i:Int)<(n:Int)):=by omega
   obtain rfl:i=n:=by omega
   clear hR C1 hb Ei
   go_wp2
   go_ret2
   have hks:ks.take i=ks:=abk (by have:=HLEN.out;omega)
   have e:R=ks:=aa6 fun j=>by
    by_cases hj:j<i
    ·exact HR.out j hj
    ·rw[aat (by omega),aat (by have:=HLEN.out;omega)]
   have Ei:=Zp.out
   rw[hks] at Ei
   refine⟨.inr ⟨Bu.rC TJ.out Ei,w.heap.size,?_,aad _,?_⟩,HB.out⟩
   ·rw[HLEN.out];rfl
   ·rw[←e];exact Pt.out
end
section
open Go.RowKit
theorem Ll {most:Int} {ks:List Int} (h:Bu.fault most ks=0):0≤most∧most≤4194304∧Bu.In most ks∧Bu.In 4194304 ks:=by
 rcases Bu.FI most ks with ⟨_,h1⟩|⟨_,_,h1⟩|⟨h1,h2,_⟩
 ·omega
 ·omega
 ·have h3:=Bu.We h2
  exact⟨by omega,by omega,h3,fun z hz=>by have:=h3 z hz;omega⟩
end
section
open Go.RowKit
set_option maxRecDepth 100000 in
set_option maxHeartbeats 4000000 in
theorem Jf (ao:Option Addr) (n ca:Nat) (l:List Int) (w:World) (h:gI w ao n ca l) (hn:n≤17592186043904):
 Calls Tryz.prog 87 #[.slice ao n ca] w fun e w'=>∃bo cb,e= .returned (.slice bo n cb)∧gI w' bo n cb l∧Below w.heap.size w w':=by
 have HR:=Nu.hid h
 have hnil:=fun w=>ac9 (P:=Tryz.prog) w 27 3 ao n ca 0 0 Tryz.underlying27
 rcases ao with _|y
 ·obtain⟨rfl,rfl⟩:=h.none rfl
  clear h
  go_enter Tryz.func87,Tryz.ntmps87
  go_wp2
  go_ret
  exact⟨none,0,rfl,HR.out,aae _ _⟩
 ·clear h
  go_enter Tryz.func87,Tryz.ntmps87
  go_wp2_with (at_builtin;refine wC rfl _ _ rfl w (some y) n ca l rfl rfl HR.out hn ?_;refine aaB ?_)
  refine Nu.hid ?_
  intro gb c w1 hrow hgb hlt hc hb
  have HX:=Nu.hid hrow
  have HB:=Nu.hid hb
  clear hrow hb hgb
  go_wp2
  go_ret
  refine⟨some ⟨gb,0,none⟩,c,rfl,?_,HB.out⟩
  have hi:=pS HX.out
  exact⟨HR.out.len,fun j x hj=>⟨gb,0,rfl,by rw[abv];exact hi.cell hj⟩,fun e=>by cases e⟩
def O4 (most:Int) (ks xs:List Int) (w:World) (e:Ending) (w':World):Prop:=
 ((Bu.fault most ks≠0∧e= .returned (.tuple #[.slice none 0 0,.int .i64 (Bu.fault most ks)]))∨
  (Bu.fault most ks=0∧∃(g:Nat) (S:List Int),e= .returned (.tuple #[.slice (some ⟨g,0,none⟩) xs.length xs.length,.int .i64 0])∧w.heap.size≤g∧aq w' g S∧Bu.Sorted ks xs S))∧Below w.heap.size w w'
set_option maxRecDepth 100000 in
set_option maxHeartbeats 8000000 in
theorem EU (kf:Nat) (bs:Array Value) (key:Int→Int) (most:Int) (ao:Option Addr) (ca n:Nat) (xs ks:List Int) (w:World) (hl:n≤17592186043904) (ha:gI w ao n ca xs) (hks:ks=xs.map key)
 (Ec:∀(args:Array Value) (w:World),(callFunc kf args).run Tryz.prog w= .ok (.enter kf args) w) (dZ:∀W x,Below w.heap.size w W→x∈xs→Calls Tryz.prog kf (#[.int .i64 x]++bs) W fun e w'=>e= .returned (.int .i64 (key x))∧Below W.heap.size W w'):
 Calls Tryz.prog 100 #[.slice ao n ca,.func (.func kf) #[] bs,.int .i64 most] w (O4 most ks xs w):=by
 obtain⟨i0,hi,hz0,hz1,hz2⟩:=info_parts Tryz.bO
 have HN:=Nu.hid ha.len
 have HLEN:Hid (ks.length=n):=by show _=_;rw[hks,aa3,ha.len]
 have Ge:=Nu.hid (Jf ao n ca xs w ha hl)
 have HK:Hid (∀W bo cb,gI W bo n cb xs→Below w.heap.size w W→Calls Tryz.prog 133 #[.slice bo n cb,.func (.func kf) #[] bs,.int .i64 most] W (Ey most ks W)):=fun W bo cb h hb=>
  Fe kf bs key most bo cb n xs ks W h.len hl h.ints hks Ec (fun W2 x hb2 hx=>dZ W2 x (hb.trans (hb2.mono hb.size)) hx)
 clear ha dZ Ec hks
 go_enter Tryz.func100,Tryz.ntmps100
 go_wp2_with (go_at_call 87;refine Ge.out.mono ?_;rintro e w1 ⟨bo,cb,rfl,hst,hb1⟩;have HST:=Nu.hid hst;have aY:=Nu.hid hb1;clear hst hb1;refine aaB ?_)
 refine Nu.hid ?_
 have Dx:=Nu.hid (HK.out w1 bo cb HST.out aY.out)
 clear HK Ge
 by_cases hf:Bu.fault most ks=0
 ·have HF:=Nu.hid hf
  have cj:=(Ll hf).2.2.2
  have ahd:=Nu.hid cj
  have xP:Hid (Calls Tryz.prog 133 #[.slice bo n cb,.func (.func kf) #[] bs,.int .i64 most] w1 fun e w'=>∃g:Nat,e= .returned (.tuple #[.slice (some ⟨g,0,none⟩) n n,.int .i64 0])∧w1.heap.size≤g∧aq w' g ks∧Below w1.heap.size w1 w'):=Dx.out.mono (by
   rintro e w' ⟨⟨h1,_⟩|⟨_,g,h2,h3,h4⟩,hb⟩
   ·exact absurd HF.out h1
   ·rw[HLEN.out] at h2
    exact⟨g,h2,h3,h4,hb⟩)
  clear Dx hf cj
  go_wp2_with (go_at_call 133;refine xP.out.mono ?_;rintro e w2 ⟨g,rfl,hg,hkb,hb2⟩;have HKB:=Nu.hid hkb;have ct:=Nu.hid (aY.out.trans (hb2.mono aY.out.size));have Ez:=Nu.hid (HST.out.later hb2);clear hkb hb2 hg;refine aaB ?_)
  refine Nu.hid ?_
  clear xP HST aY
  go_wp2_with (at_make;refine wpList_make_full _ rfl _ _ 27 rfl w2.heap.size 3 i0 (.int .i64 0) 1 Tryz.underlying27 hi hz0 hz1 _ _ _ _ n rfl rfl rfl rfl (by rw[hz2];omega) (by unfold maxLen;omega) (aad _) ?_;refine aaB ?_)
  refine Nu.hid ?_
  intro w3 hrow hg3
  rw[cD] at hrow
  have hb3:Below w2.heap.size w2 w3:=(aae _ _).grown hg3 (aad _) (fun j hj=>by cases hj)
  have uE:=Nu.hid (dy hrow)
  have YW:=Nu.hid (Ez.out.later hb3)
  have Zc:=Nu.hid (HKB.out.later hb3)
  have dm:=Nu.hid (ct.out.trans (hb3.mono ct.out.size))
  have QL:=ct.out.size
  have XH:∀x,bo=some x→0<n→x.block<w2.heap.size:=fun x hx h0=>by
   obtain⟨z,hz⟩:∃z,xs[0]? =some z:=⟨_,aac (by have:=HN.out;omega)⟩
   obtain⟨b,o,e,hc⟩:=Ez.out.ints 0 z hz
   rw[hx] at e
   cases e
   exact block_lt_of_cell hc
  have Tz:=Nu.hid XH
  obtain⟨G,hG⟩:∃G,G=w2.heap.size:=⟨_,rfl⟩
  rw[←hG] at uE Tz QL ⊢
  have HRK:=Nu.hid (Kc (some ⟨g,0,none⟩) n n ks w3 HLEN.out hl Zc.out.at ahd.out)
  clear hrow hg3 hb3 Ez HKB ct hG XH
  go_wp2_with (go_at_call 134;refine HRK.out.mono ?_;rintro e w4 ⟨gr,rfl,hgr,hrb,hb4⟩;rw[HLEN.out];have HRB:=Nu.hid hrb;have agn:=Nu.hid (YW.out.later hb4);have Ma:=Nu.hid (uE.out.later hb4);have ali:=aa7 uE.out.lt hgr;have gJ:=Nu.hid (dm.out.trans (hb4.mono dm.out.size));clear hrb hb4 hgr;refine aaB ?_)
  refine Nu.hid ?_
  clear HRK YW uE dm Zc
  go_wp2
  go_loopw [32] (fun c wr=>∃(i:Nat) (S:List Int),i≤n∧c= .int .i64 i∧Bu.Laid ks xs S i∧gI wr bo n cb xs∧aq wr gr (Bu.pG ks)∧aq wr G S∧Below w.heap.size w wr) (fun c _=>n-(intOf c).toNat)
  case atStart=>exact⟨0,_,aax _,rfl,⟨by rw[HLEN.out];simp,fun i hi=>by omega⟩,agn.out,HRB.out,Ma.out,gJ.out⟩
  case round=>
   obtain⟨i,S,hin,rfl,hS,hst,hrb,iD,hb⟩:=hrel
   have HS:=Nu.hid hS
   have HIS:=Nu.hid iD
   have HB:=Nu.hid hb
   by_cases hlt:i<n
   ·have hk0:(0:Int)≤(i:Int):=by omega
    have hk1:(i:Int)<(n:Int):=by omega
    have KP:=Bu.DU (ks:=ks) (i:=i) (by rw[HLEN.out];exact hlt)
    have hrl:=Bu.EY (ks:=ks) (i:=i) (by rw[HLEN.out];exact hlt)
    rw[HLEN.out] at hrl
    obtain⟨x,hx⟩:∃x,xs[i]? =some x:=⟨_,aac (by have:=HN.out;omega)⟩
    have jS:=Nu.hid (hS.step (by rw[HLEN.out];exact hlt) hx)
    obtain⟨q,hq⟩:∃q,Bu.rk ks i=q:=⟨_,rfl⟩
    rw[hq] at KP hrl jS
    obtain⟨y,hy⟩:∃y,S[q]? =some y:=⟨_,aac (by rw[hS.len,HLEN.out];exact hrl)⟩
    obtain⟨b,o,hbo,c0⟩:=hst.ints i x hx
    have hbG:b≠G:=by
     have:=Tz.out _ hbo (by omega)
     dsimp only at this
     have:=Ma.out
     intro e
     subst e
     omega
    have c1:=hrb.cell KP
    have c2:=iD.cell hy
    have f2:=iD.free q
    have agm:Hid (gI (wr.setCell ⟨G,q,none⟩ (.int .i64 x)) bo n cb xs):=⟨hst.len,fun j z hj=>by
     obtain⟨b',o',e',hc⟩:=hst.ints j z hj
     refine⟨b',o',e',?_⟩
     rw[hbo] at e'
     cases e'
     rw[←hc]
     simp[World.cell?,heap_setCell_other wr ⟨G,q,none⟩ b _ hbG],hst.none⟩
    have agw:=Nu.hid (hrb.other (i:=q) (show gr≠G by omega) (.int .i64 x))
    have agP:=Nu.hid (iD.set q x)
    have jX:=Nu.hid (hb.setCell (p:=⟨G,q,none⟩) QL (.int .i64 x))
    have q0:(0:Int)≤(q:Int):=by omega
    have q1:(q:Int)<(n:Int):=by omega
    subst hbo
    clear hS hst hrb iD hb hx KP hq hy Tz
    go_wp2
    go_roundw
    case rel=>exact⟨i+1,_,by omega,by go_num,jS.out,agm.out,agw.out,agP.out,jX.out⟩
    case measure=>simp[intOf];omega
   ·have hd:¬((i:Int)<(n:Int)):=by omega
    obtain rfl:i=n:=by omega
    clear hS hst hrb iD hb
    go_wp2
    go_ret2
    refine⟨.inr ⟨HF.out,G,S,by rw[HN.out];rfl,QL,HIS.out,⟨HS.out.len,fun j hj=>HS.out.put j (by have:=HLEN.out;omega)⟩⟩,HB.out⟩
 ·have HF:=Nu.hid hf
  have xP:Hid (Calls Tryz.prog 133 #[.slice bo n cb,.func (.func kf) #[] bs,.int .i64 most] w1 fun e w'=>e= .returned (.tuple #[.slice none 0 0,.int .i64 (Bu.fault most ks)])∧Below w1.heap.size w1 w'):=Dx.out.mono (by
   rintro e w' ⟨⟨_,h1⟩|⟨h1,_⟩,hb⟩
   ·exact⟨h1,hb⟩
   ·exact absurd h1 HF.out)
  obtain⟨q,hq⟩:∃q,Bu.fault most ks=q:=⟨_,rfl⟩
  rw[hq] at xP hf
  have j0:(q != 0)=true:=by simp[hf]
  have HQ:=Nu.hid hq
  clear Dx hq
  go_wp2_with (go_at_call 133;refine xP.out.mono ?_;rintro e w2 ⟨rfl,hb2⟩;have ct:=Nu.hid (aY.out.trans (hb2.mono aY.out.size));clear hb2;refine aaB ?_)
  refine Nu.hid ?_
  go_wp2
  go_ret2
  exact⟨.inl ⟨HF.out,by rw[HQ.out];rfl⟩,ct.out⟩
end
end Go.Proofs.YtdjmnpmdmjclhabGreat
