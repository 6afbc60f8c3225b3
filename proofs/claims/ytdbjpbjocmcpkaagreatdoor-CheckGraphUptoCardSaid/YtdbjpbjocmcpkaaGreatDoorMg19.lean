import Derived.Test.YtdbjpbjocmcpkaaGreatDoorMg18
set_option maxHeartbeats 8000000
set_option maxRecDepth 100000
namespace Go.Proofs.YtdbjpbjocmcpkaaGreatDoor
section
open Go.RowKit Go.Sort Go.Maps
namespace Ku
theorem Ub {S:Gs} {l:List Nat} {v:Nat} (h:v∈vs S l):∃x∈l,v=S.fr x\/v=S.to x:=by
 cases l with
 |nil=>simp[vs] at h
 |cons a l=>
  simp only[vs,aaU,abP] at h;rcases h with rfl|⟨x,hx,rfl⟩
  .exact⟨a,List.mem_cons_self,.inl rfl⟩
  .exact⟨x,aaU.2 hx,.inr rfl⟩
theorem Cn.nd0 {S:Gs} {l:List Nat} (c:Cn S l):l.Nodup:=by
 rcases c.kind with o|o
 .exact o.nodup
 .exact o.1.nd
theorem H9 {n:Int} {es:List (Int×Int)} (hv:Si.Val n es):Small (rows es hv es.length):=by
 have hf:=hv.few;have hh:=hv.hi;refine⟨by rw[kF];have:=qU (es:=es) (hv:=hv) es.length;omega,fun l hl=> ?_⟩;obtain⟨t,ht⟩:=aaS hl;obtain⟨c,hc,rfl⟩:=qp ht;have ng:=wE (aad _) (aai hc);have h1:=fk ng.nd0 ng.lt;have h3:(gs es hv).M=2*es.length:=rfl;rw[h3] at h1;have hne:=ng.ne;have h2:=acq.2 hne;rw[bL,bC hne];refine⟨by omega,by omega,fun x hx=> ?_⟩;obtain⟨v,uk,rfl⟩:=abP.1 hx;obtain⟨y,hy,e⟩:=Ub uk;have oG:y<2*es.length:=ng.lt y hy;have key:∀z,z<2*es.length->((Cs.fr es z:Nat):Int)<n:=fun z hz=>by
  obtain⟨m,rfl⟩:∃m:Nat,n=(m:Int):=⟨n.toNat,by have:=hv.lo;omega⟩;have:=(Cs.dX hv hz).1;omega
 rcases e with rfl|rfl
 .have:=key y oG
  show(0:Int)<=((Cs.fr es y:Nat):Int)/\((Cs.fr es y:Nat):Int)<1048576;omega
 .have:=key (Cs.twin y) ((gs es hv).tl y oG)
  show(0:Int)<=((Cs.fr es (Cs.twin y):Nat):Int)/\((Cs.fr es (Cs.twin y):Nat):Int)<1048576;omega
theorem nN {es:List (Int×Int)} {v:Nat}:∀{k:Nat},v∈aW es k↔v<k/\dg es v≠0/\dg es v≠2
 |0=>by simp[aW]
 |k+1=>by
  by_cases h:dg es k≠0/\dg es k≠2
  .rw[qW h,abG,nN (k:=k),abg]
   constructor
   .rintro(⟨h1,h2⟩|rfl)
    .exact⟨by omega,h2⟩
    .exact⟨by omega,h⟩
   .rintro⟨h1,h2⟩
    by_cases e:v=k
    .exact .inr e
    .exact .inl ⟨by omega,h2⟩
  .rw[Aj h,nN (k:=k)]
   constructor
   .rintro⟨h1,h2⟩
    exact⟨by omega,h2⟩
   .rintro⟨h1,h2⟩
    refine⟨?_,h2⟩;rcases Nat.lt_succ_iff_lt_or_eq.1 h1 with h3|rfl
    .exact h3
    .exact absurd h2 h
theorem Ai (es:List (Int×Int)):∀k,(aW es k).Pairwise (· <·)
 |0=>List.Pairwise.nil
 |k+1=>by
  by_cases h:dg es k≠0/\dg es k≠2
  .rw[qW h,adw]
   exact⟨Ai es k,by simp,fun a ha b hb=>by rw[abg.1 hb];exact(nN.1 ha).1⟩
  .rw[Aj h]
   exact Ai es k
theorem S1 {l:List Nat} (h:l.Pairwise (· <·)):(ZL l).Pairwise (· <·):=by
 unfold ZL;rw[adp];exact h.imp fun h=>by omega
theorem xL {L:List Int} (h:L.Pairwise (· <·)) {i j:Nat} (hij:i<j) (hj:j<L.length):gI L i<gI L j:=by
 have:=abo.1 h i j (by omega) hj hij;rw[bK (aac (by omega:i<L.length)),bK (aac hj)];exact this
theorem Uv {a b:Int} (h:a<b):key (a,b)=(a,b):=by
 unfold key;rw[if_neg (by dsimp only;omega)]
theorem Gb {a b c d:Int} (h1:¬(a=c/\b=d)) (h2:¬(a=d/\b=c)):key (a,b)≠key (c,d):=by
 unfold key;dsimp only;intro h
 split at h<;>split at h<;>(simp only[Prod.mk.injEq] at h;omega)
theorem NB {p:Int×Int} (h1:0<=p.1/\p.1<1048576) (h2:0<=p.2/\p.2<1048576):fW (key p):=by
 unfold key fW
 split<;>(first|omega|(dsimp only;omega))
def pq (ps:List (Int×Int)):Prop:=∀(t t':Nat) (p p':Int×Int),t≠t'->ps[t]? =some p->ps[t']? =some p'->key p≠key p'
theorem yK {ps:List (Int×Int)} (h:ps.Pairwise fun p q=>key p≠key q):pq ps:=fun t t' p p' hne hp hp'=>by
 obtain⟨h1,e1⟩:=aah.1 hp;obtain⟨h2,e2⟩:=aah.1 hp';have H:=abo.1 h;rcases Nat.lt_or_gt_of_ne hne with hlt|hlt
 .have:=H t t' h1 h2 hlt
  rw[e1,e2] at this;exact this
 .have:=H t' t h2 h1 hlt
  rw[e1,e2] at this;exact fun e=>this e.symm
theorem uB {L:List Int} (h:L.length=5):∃a b c d e,L=[a,b,c,d,e]:=by
 match L,h with
 |[a,b,c,d,e],_=>exact⟨a,b,c,d,e,rfl⟩
theorem mq {L:List Int} (h:L.length=3):∃a b c,L=[a,b,c]:=by
 match L,h with
 |[a,b,c],_=>exact⟨a,b,c,rfl⟩
theorem QO (a b c d e:Int):cU [a,b,c,d,e] 5=[(a,b),(a,c),(a,d),(a,e),(b,c),(b,d),(b,e),(c,d),(c,e),(d,e)]:=rfl
theorem SN (a b c x y z:Int):cout [a,b,c] [x,y,z] 3=[(a,x),(a,y),(a,z),(b,x),(b,y),(b,z),(c,x),(c,y),(c,z)]:=rfl
theorem Io {L:List Int} (h5:L.length=5) (hu:L.Pairwise (· <·)) (hs:∀x∈L,0<=x/\x<1048576):(∀p∈cU L 5,fW (key p))/\pq (cU L 5):=by
 obtain⟨a,b,c,d,e,rfl⟩:=uB h5;rw[QO];simp only[aaU,abL,or_false,forall_eq_or_imp,forall_eq] at hs;simp only[abY,aaU,abL,or_false,forall_eq_or_imp,forall_eq] at hu;obtain⟨s1,s2,s3,s4,s5⟩:=hs;obtain⟨⟨u1,u2,u3,u4⟩,⟨u5,u6,u7⟩,⟨u8,u9⟩,u10,-⟩:=hu;refine⟨?_,yK ?_⟩
 .simp only[aaU,abL,or_false,forall_eq_or_imp,forall_eq]
  refine⟨?_,?_,?_,?_,?_,?_,?_,?_,?_,?_⟩<;>exact NB (by assumption) (by assumption)
 .simp only[abY,aaU,abL,or_false,forall_eq_or_imp,forall_eq,false_implies,implies_true,List.Pairwise.nil,and_true]
  refine⟨⟨?_,?_,?_,?_,?_,?_,?_,?_,?_⟩,⟨?_,?_,?_,?_,?_,?_,?_,?_⟩,⟨?_,?_,?_,?_,?_,?_,?_⟩,⟨?_,?_,?_,?_,?_,?_⟩,⟨?_,?_,?_,?_,?_⟩,⟨?_,?_,?_,?_⟩,⟨?_,?_,?_⟩,⟨?_,?_⟩,?_⟩<;>exact Gb (by omega) (by omega)
theorem jz {R:List (List Int)} {L:List Int} {x:Int}:∀{k:Nat},x∈aL R L k->∃i,i<k/\x=gI L i/\mg R L i=false
 |0,h=>by simp[aL] at h
 |k+1,h=>by
  cases hj:mg R L k with
  |true=>
   rw[(jS hj).1] at h;obtain⟨i,hi,e⟩:=jz h;exact⟨i,by omega,e⟩
  |false=>
   rw[(kI hj).1,abG,abg] at h;rcases h with h|h
   .obtain⟨i,hi,e⟩:=jz h
    exact⟨i,by omega,e⟩
   .exact⟨k,by omega,h,hj⟩
theorem kY {R:List (List Int)} {L:List Int} {x:Int}:∀{k:Nat},x∈bI R L k->∃i,i<k/\x=gI L i/\mg R L i=true
 |0,h=>by simp[bI] at h
 |k+1,h=>by
  cases hj:mg R L k with
  |false=>
   rw[(kI hj).2] at h;obtain⟨i,hi,e⟩:=kY h;exact⟨i,by omega,e⟩
  |true=>
   rw[(jS hj).2,abG,abg] at h;rcases h with h|h
   .obtain⟨i,hi,e⟩:=kY h
    exact⟨i,by omega,e⟩
   .exact⟨k,by omega,h,hj⟩
theorem rP {R:List (List Int)} {L:List Int} (hu:L.Pairwise (· <·)):∀{k:Nat},k<=L.length->(aL R L k).Pairwise (· <·)
 |0,_=>List.Pairwise.nil
 |k+1,hk=>by
  cases hj:mg R L k with
  |true=>
   rw[(jS hj).1];exact rP hu (by omega)
  |false=>
   rw[(kI hj).1,adw];refine⟨rP hu (by omega),by simp,fun a ha b hb=> ?_⟩;obtain⟨i,hi,rfl,-⟩:=jz ha;rw[abg.1 hb];exact xL hu hi (by omega)
theorem wz {R:List (List Int)} {L:List Int} (hu:L.Pairwise (· <·)):∀{k:Nat},k<=L.length->(bI R L k).Pairwise (· <·)
 |0,_=>List.Pairwise.nil
 |k+1,hk=>by
  cases hj:mg R L k with
  |false=>
   rw[(kI hj).2];exact wz hu (by omega)
  |true=>
   rw[(jS hj).2,adw];refine⟨wz hu (by omega),by simp,fun a ha b hb=> ?_⟩;obtain⟨i,hi,rfl,-⟩:=kY ha;rw[abg.1 hb];exact xL hu hi (by omega)
theorem xA {R:List (List Int)} {L:List Int} (hu:L.Pairwise (· <·)) {x y:Int} (hx:x∈aL R L L.length) (hy:y∈bI R L L.length):x≠y:=by
 obtain⟨i,hi,rfl,h1⟩:=jz hx;obtain⟨j,hj,rfl,h2⟩:=kY hy;intro e;rcases ab3 i j with h|rfl|h
 .have:=xL hu h hj
  omega
 .rw[h1] at h2
  cases h2
 .have:=xL hu h hi
  omega
theorem J7 {R:List (List Int)} {L:List Int} (h6:L.length=6) (hu:L.Pairwise (· <·)) (hs:∀x∈L,0<=x/\x<1048576) (h3:(aL R L 6).length=3):(∀p∈cout (aL R L 6) (bI R L 6) 3,fW (key p))/\pq (cout (aL R L 6) (bI R L 6) 3):=by
 have hn:=jw R L 6;obtain⟨a,b,c,eN⟩:=mq h3;obtain⟨x,y,z,eF⟩:=mq (L:=bI R L 6) (by omega);have uN:=rP (R:=R) hu (k:=6) (by omega);have uF:=wz (R:=R) hu (k:=6) (by omega);have ap:∀p∈aL R L 6,∀q∈bI R L 6,p≠q:=fun p hp q hq=>xA (R:=R) hu (by rw[h6];exact hp) (by rw[h6];exact hq)
 have sN:∀p∈aL R L 6,0<=p/\p<1048576:=fun p hp=>by
  obtain⟨i,hi,rfl,-⟩:=jz hp;exact rU hs (by omega)
 have sF:∀p∈bI R L 6,0<=p/\p<1048576:=fun p hp=>by
  obtain⟨i,hi,rfl,-⟩:=kY hp;exact rU hs (by omega)
 rw[eN] at uN ap sN ⊢;rw[eF] at uF ap sF ⊢;rw[SN];simp only[aaU,abL,or_false,forall_eq_or_imp,forall_eq] at sN sF ap;simp only[abY,aaU,abL,or_false,forall_eq_or_imp,forall_eq] at uN uF;obtain⟨s1,s2,s3⟩:=sN;obtain⟨t1,t2,t3⟩:=sF;obtain⟨⟨a1,a2,a3⟩,⟨a4,a5,a6⟩,a7,a8,a9⟩:=ap;obtain⟨⟨u1,u2⟩,u3,-⟩:=uN;obtain⟨⟨v1,v2⟩,v3,-⟩:=uF;refine⟨?_,yK ?_⟩
 .simp only[aaU,abL,or_false,forall_eq_or_imp,forall_eq]
  refine⟨?_,?_,?_,?_,?_,?_,?_,?_,?_⟩<;>exact NB (by assumption) (by assumption)
 .simp only[abY,aaU,abL,or_false,forall_eq_or_imp,forall_eq,false_implies,implies_true,List.Pairwise.nil,and_true]
  refine⟨⟨?_,?_,?_,?_,?_,?_,?_,?_⟩,⟨?_,?_,?_,?_,?_,?_,?_⟩,⟨?_,?_,?_,?_,?_,?_⟩,⟨?_,?_,?_,?_,?_⟩,⟨?_,?_,?_,?_⟩,⟨?_,?_,?_⟩,⟨?_,?_⟩,?_⟩<;>exact Gb (by omega) (by omega)
end Ku
end
section
open Go.RowKit Go.Sort Go.Maps
namespace Ku
open Classical in
noncomputable def Ds (R:List (List Int)) (kd:Int) (br:List Int) (ps:List (Int×Int)):Option (Int×List Int×List (List Int)):=if All R ps then some (kd,br,ps.map (pathOf R)) else none
open Classical in
noncomputable def je (R:List (List Int)) (es:List (Int×Int)) (m:Nat):Option (Int×List Int×List (List Int)):=
 if (aW es m).length=5/\(∀v∈aW es m,dg es v=4) then Ds R 1 (ZL (aW es m)) (cU (ZL (aW es m)) 5)
 else if (aW es m).length=6/\(∀v∈aW es m,dg es v=3)/\(aL R (ZL (aW es m)) 6).length=3 then Ds R 2 (aL R (ZL (aW es m)) 6++bI R (ZL (aW es m)) 6) (cout (aL R (ZL (aW es m)) 6) (bI R (ZL (aW es m)) 6) 3)
 else none
def W5 (o:Option (Int×List Int×List (List Int))) (w:World) (e:Ending) (w':World):Prop:=
 match o with
 |none=>e= .returned (.tuple #[jK,.bool false,.int .i64 0])
 |some (kd,br,ps)=>∃bv pv vs,e= .returned (.tuple #[.agg #[.int .i64 kd,bv,pv],.bool true,.int .i64 0])/\aj w' w.heap.size bv br/\ay w' w.heap.size pv vs ps/\∀b,bv.ownBlock=some b->pv.ownBlock≠some b/\¬cC vs b
def S3 (n:Int) (es:List (Int×Int)) (w:World) (e:Ending) (w':World):Prop:=
 ((Si.valid n es=false/\e= .returned (.tuple #[jK,.bool false,.int .i64 1]))\/∃(m:Nat) (hv:Si.Val n es),n=(m:Int)/\W5 (je (rows es hv es.length) es m) w e w')/\Below w.heap.size w w'
theorem IX {B:Nat} {cs:List Value} {R:List (List Int)} {kd:Int} {bv:Value} {ps:List (Int×Int)} {w5 w6 w X:World} {e5:Ending} (hk:mM B cs R kd bv ps w5 e5 w6) {br:List Int} (zN:aj w6 w.heap.size bv br) (hB:w.heap.size<=B) {c1 c2:Nat}
 (hX:∀b,b≠c1->b≠c2->X.heap[b]? =w6.heap[b]?) (hc:∀b,(bv.ownBlock=some b\/cC cs b\/w5.heap.size<=b)->b≠c1/\b≠c2) (hap:∀(b:Nat) (k v pv r:Value),bv.ownBlock=some b->e5= .returned (.tuple #[.agg #[k,v,pv],r])->pv.ownBlock≠some b/\¬cC cs b) {k v p r:Value} (he:e5= .returned (.tuple #[.agg #[k,v,p],r])):
 W5 (Ds R kd br ps) w (.returned (.tuple #[.agg #[k,v,p],r,.int .i64 0])) X:=by
 unfold Ds;rcases hk.1 with ⟨h1,h2⟩|⟨h1,pv,vs,h2,h3,h4,h5⟩
 .rw[if_neg h1]
  rw[h2] at he;unfold jK at he;cases he;rfl
 .rw[if_pos h1]
  have Wm:=hap;rw[h2] at he Wm;cases he;refine⟨_,_,vs,rfl,zN.same fun g hg _=> ?_,(h3.lower hB).kept fun b hb _=> ?_,fun b hb=> ?_⟩
  .obtain⟨a1,a2⟩:=hc g (.inl hg)
   exact hX g a1 a2
  .obtain⟨a1,a2⟩:=hc b (by
    rcases hb with hb|hb
    .exact .inr (.inr (h4 b hb))
    .exact .inr (.inl (h5 b hb)))
   exact hX b a1 a2
  .obtain⟨a1,a2⟩:=Wm b _ _ _ _ hb rfl
   exact⟨a1,fun h=>a2 (h5 b h)⟩
theorem nB {u:World} {k8:Nat} (x y z:Value) (b:Nat) (hb:b≠k8):(((u.setCell ⟨k8,0,none⟩ x).setCell ⟨k8,1,none⟩ y).setCell ⟨k8,2,none⟩ z).heap[b]? =u.heap[b]? :=by
 rw[heap_setCell_other _ ⟨k8,2,none⟩ b _ hb,heap_setCell_other _ ⟨k8,1,none⟩ b _ hb,heap_setCell_other _ ⟨k8,0,none⟩ b _ hb]
theorem FI {R:List (List Int)} {es:List (Int×Int)} {m:Nat} (h:(aW es m).length=5) (hd:∀v∈aW es m,dg es v=4):je R es m=Ds R 1 (ZL (aW es m)) (cU (ZL (aW es m)) 5):=if_pos ⟨h,hd⟩
theorem FH {R:List (List Int)} {es:List (Int×Int)} {m:Nat} (h:(aW es m).length=6) (hd:∀v∈aW es m,dg es v=3) (h3:(aL R (ZL (aW es m)) 6).length=3):je R es m=Ds R 2 (aL R (ZL (aW es m)) 6++bI R (ZL (aW es m)) 6) (cout (aL R (ZL (aW es m)) 6) (bI R (ZL (aW es m)) 6) 3):=by
 unfold je;rw[if_neg (by omega),if_pos ⟨h,hd,h3⟩]
theorem vC {R:List (List Int)} {es:List (Int×Int)} {m:Nat} (h5:¬((aW es m).length=5/\∀v∈aW es m,dg es v=4)) (h6:¬((aW es m).length=6/\(∀v∈aW es m,dg es v=3)/\(aL R (ZL (aW es m)) 6).length=3)):je R es m=none:=by
 unfold je;rw[if_neg h5,if_neg h6]
theorem AL (P:Prop):∃r:Bool,r=true↔P:=by
 by_cases h:P
 .exact⟨true,by simp[h]⟩
 .exact⟨false,by simp[h]⟩
end Ku
end
section
open Go.Proofs.Tryz
open Go.RowKit Go.Sort Go.Maps
namespace Ku
theorem AA {w:World} {k j:Nat} {t:TypeId} {a0 a1 a2 b0 b1 b2:Value} (hne:j≠k) (hk:w.heap[k]? =some (.cells #[a0,a1,a2] t (0,0))) (hj:w.heap[j]? =some (.cells #[b0,b1,b2] t (0,0))) (x y z:Value):
 (w.cell? ⟨k,0,none⟩=some a0/\w.cell? ⟨k,1,none⟩=some a1/\w.cell? ⟨k,2,none⟩=some a2/\w.frozen? ⟨k,0,none⟩=false/\w.frozen? ⟨k,1,none⟩=false/\w.frozen? ⟨k,2,none⟩=false)/\
 (∀X,X=((w.setCell ⟨k,0,none⟩ x).setCell ⟨k,1,none⟩ y).setCell ⟨k,2,none⟩ z->(X.cell? ⟨k,0,none⟩=some x/\X.cell? ⟨k,1,none⟩=some y/\X.cell? ⟨k,2,none⟩=some z)/\
   (X.cell? ⟨j,0,none⟩=some b0/\X.cell? ⟨j,1,none⟩=some b1/\X.cell? ⟨j,2,none⟩=some b2/\X.frozen? ⟨j,0,none⟩=false/\X.frozen? ⟨j,1,none⟩=false/\X.frozen? ⟨j,2,none⟩=false)):=by
 obtain⟨c0,c1,c2,cf⟩:=aO hk;refine⟨⟨c0,c1,c2,cf 0,cf 1,cf 2⟩,?_⟩;rintro X rfl;obtain⟨d0,d1,d2,df⟩:=aO ((nB (u:=w) (k8:=k) x y z j hne).trans hj);exact⟨au c0 c1 c2 x y z,d0,d1,d2,df 0,df 1,df 2⟩
end Ku
theorem zG (n:Int) (ao:Option Addr) (cap:Nat) (es:List (Int×Int)) (w:World) (he:ah w ao es) (hl:es.length<=4611686018427387904):
 Calls prog 98 #[.agg #[.int .i64 n,.slice ao es.length cap]] w (Ku.S3 n es w):=by
 obtain⟨W1,hW1⟩:∃W1,W1=w.alloc (.cells #[.int .i64 n,.slice ao es.length cap] 24):=⟨_,rfl⟩;obtain⟨W,hW⟩:∃W,W=W1.alloc (.cells #[.int .i64 0,.slice none 0 0,.slice none 0 0] 82):=⟨_,rfl⟩;have hsz:W1.heap.size=w.heap.size+1:=by rw[hW1];simp
 have g1:W1.heap[w.heap.size]? =some (.cells #[.int .i64 n,.slice ao es.length cap] 24 (0,0)):=by rw[hW1];exact heap_alloc_new w _
 have hB1:Below w.heap.size w W1:=by rw[hW1];exact(aae _ _).alloc (aad _) _
 have hB2:Below W1.heap.size W1 W:=by rw[hW];exact(aae _ _).alloc (aad _) _
 have hBW:Below w.heap.size w W:=hB1.trans (hB2.mono hB1.size);have g2:W.heap[w.heap.size+1]? =some (.cells #[.int .i64 0,.slice none 0 0,.slice none 0 0] 82 (0,0)):=by rw[hW,<-hsz];exact heap_alloc_new W1 _
 have g1':W.heap[w.heap.size]? =some (.cells #[.int .i64 n,.slice ao es.length cap] 24 (0,0)):=by rw[hB2.block _ (by omega)];exact g1
 have UZ:w.heap.size+1<W.heap.size:=lt_of_block g2;have pR:=ζ (PV n ao cap es W (he.later hBW) hl);unfold az at pR;have cZ:=ζ g2;have cH:=ζ hBW;have HW:Hid (W=(w.alloc (.cells #[.int .i64 n,.slice ao es.length cap] 24)).alloc (.cells #[.int .i64 0,.slice none 0 0,.slice none 0 0] 82)):=by rw[hW,hW1];exact ζ rfl
 obtain⟨q0,q1,-⟩:=af g1';rw[HW.out] at q0 q1;clear he hB1 hB2 hBW g1 g2 g1' hW hW1 hsz;go_enter func98,ntmps98;go_wp2_with (go_at_call 121;rw[<-HW.out];refine pR.out.mono ?_;refine aaj ?_);refine ζ ?_;rintro e w1 ⟨cI,hb1⟩;have aI:=ζ (cH.out.trans (hb1.mono cH.out.size));have uy:w1.heap[w.heap.size+1]? =some (.cells #[.int .i64 0,.slice none 0 0,.slice none 0 0] 82 (0,0)):=(hb1.block _ (by omega)).trans cZ.out;have gL:=ζ uy;have hs1:=hb1.size;clear q0 q1;rcases cI with ⟨m,p,rfl,hval,rfl,JG⟩|⟨hv,rfl⟩
 .have Qp:Hid (∀U:World,Below w1.heap.size w1 U->cL U (.pointer (some ⟨p,0,none⟩)) m es):=fun U hU=>cL.later (.inr ⟨_,p,rfl,hval,JG⟩) hU
  have HV:=ζ hval;have ZG:=ζ (zA p m es w1 (Qp.out w1 (aae _ _)) hval);have hm:m<=1048576:=by have:=hval.hi;omega
  clear JG hb1 hval uy;go_wp2_with (go_at_call 144;refine ZG.out.mono ?_;refine aaj ?_);refine ζ ?_;rintro e w2 ⟨v,rfl,ho,hb2⟩;obtain⟨la,lc,bZ,sI,hlb⟩:=ho.form;obtain⟨q,hq⟩:∃q,(Ku.ZL (Ku.aW es m)).length=q:=⟨_,rfl⟩;rw[hq] at bZ;subst bZ;have hroom:q<=lc/\lc<=9223372036854775807:=by
   rcases ho.2 with ⟨e,h0⟩|⟨g,cap,cur,e,_,_,h1,h2,_⟩
   .cases e
    exact⟨aad _,by omega⟩
   .cases e
    rw[<-hq];exact⟨h1,by unfold maxLen at h2;omega⟩
  have UG:q<=1048576:=by rw[<-hq,Ku.bL];have:=Ku.zi es m;omega
  have GW:Hid ((Ku.aW es m).length=q):=by rw[<-Ku.bL];exact ζ hq
  have hs2:=hb2.size;obtain⟨V,hV⟩:∃V,V=w2.alloc (.cells #[.int .i64 0,.slice none 0 0,.slice none 0 0] 82):=⟨_,rfl⟩;have YI:Below w2.heap.size w2 V:=by rw[hV];exact(aae _ _).alloc (aad _) _
  have gV:V.heap[w2.heap.size]? =some (.cells #[.int .i64 0,.slice none 0 0,.slice none 0 0] 82 (0,0)):=by rw[hV];exact heap_alloc_new w2 _
  have hVs:w2.heap.size<V.heap.size:=lt_of_block gV;have B3:Below w1.heap.size w1 V:=hb2.trans (YI.mono hb2.size);have YJ:V.heap[w.heap.size+1]? =some (.cells #[.int .i64 0,.slice none 0 0,.slice none 0 0] 82 (0,0)):=(B3.block _ (by omega)).trans gL.out;have Qj:=ζ hV;have TH:=ζ gV;have WL:=ζ YJ;have ahd:=ζ B3;have fY:=ζ (aI.out.trans (B3.mono aI.out.size));have D8:Hid (∀U:World,(∀b,b<w2.heap.size->w1.heap.size<=b->U.heap[b]? =w2.heap[b]?)->aj U w.heap.size (.slice la q lc) (Ku.ZL (Ku.aW es m))):=fun U hU=>(ho.lower (by omega)).same fun g hg hl=>hU g hl (aap ho g hg).1
  have pK:=ζ (sI.later YI);have M4:Hid (∀b,(Value.slice la q lc).ownBlock=some b->w1.heap.size<=b/\b<w2.heap.size):=fun b hb=>aap ho b hb
  have HHV:Hid (∀(d:Nat) (r:Bool),(r=true↔∀v∈Ku.aW es m,Ku.dg es v=d)->Calls prog 145 #[.pointer (some ⟨p,0,none⟩),.slice la q lc,.int .i64 (d:Int)] V fun e w'=>e= .returned (.bool r)/\Below V.heap.size V w'):=fun d r hr=>KZ p m es la q lc d (Ku.aW es m) V (Qp.out V B3) GW.out pK.out (fun v hv=>(Ku.nN.1 hv).1) (by omega) r hr
  have WO:Hid (∀U:World,Below V.heap.size V U->Calls prog 147 #[.pointer (some ⟨p,0,none⟩)] U (Ku.Oj es HV.out U)):=fun U hU=>Fo p m es U (Qp.out U (B3.trans (hU.mono B3.size))) HV.out
  obtain⟨z0,z1,z2,zf⟩:=aO YJ;obtain⟨y0,y1,y2,yf⟩:=aO gV;have hz0:=zf 0;have hz1:=zf 1;have hz2:=zf 2;have hy0:=yf 0;have hy1:=yf 1;have hy2:=yf 2;have hkn:w.heap.size+1≠w2.heap.size:=by omega
  clear sI hlb ho hb2 hV YI gV YJ B3 hq zf yf;obtain⟨R,hR⟩:∃R,Ku.rows es HV.out es.length=R:=⟨_,rfl⟩;have Qk:=ζ hR;have DZ:Hid (Ku.Small R):=by rw[<-hR];exact ζ (Ku.H9 HV.out)
  have KR:Hid (∀U:World,Below V.heap.size V U->U.heap[w2.heap.size]? =some (.cells #[.int .i64 0,.slice none 0 0,.slice none 0 0] 82 (0,0))/\U.heap[w.heap.size+1]? =some (.cells #[.int .i64 0,.slice none 0 0,.slice none 0 0] 82 (0,0))/\aU U la (Ku.ZL (Ku.aW es m))):=fun U hU=>⟨(hU.block _ (lt_of_block TH.out)).trans TH.out,(hU.block _ (lt_of_block WL.out)).trans WL.out,pK.out.later hU⟩
  have LS:=fY.out.size;have Wu:Hid ((Ku.ZL (Ku.aW es m)).Pairwise (· <·)):=ζ (Ku.S1 (Ku.Ai es m));have Tl:Hid (∀x∈Ku.ZL (Ku.aW es m),0<=x/\x<1048576):=by
   refine ζ fun x hx=> ?_
   unfold Ku.ZL at hx;obtain⟨v,hv',rfl⟩:=abP.1 hx;have:=(Ku.nN.1 hv').1;omega
  have Vo:Hid ((Ku.ZL (Ku.aW es m)).length=q):=by rw[Ku.bL];exact GW
  clear hR;clear z0 z1 z2 y0 y1 y2 hz0 hz1 hz2 hy0 hy1 hy2;have uV:Hid (¬((Ku.aW es m).length=5/\∀v∈Ku.aW es m,Ku.dg es v=4)->¬((Ku.aW es m).length=6/\∀v∈Ku.aW es m,Ku.dg es v=3)->Ku.je (Ku.rows es HV.out es.length) es m=none):=fun h1 h2=>Ku.vC h1 fun h=>h2 ⟨h.1,h.2.1⟩
  by_cases h5:q=5
  .have t5:((q:Int)==5)=true:=by rw[h5];rfl
   have t6:((q:Int)==6)=false:=by rw[h5];rfl
   obtain⟨r,hr⟩:=Ku.AL (∀v∈Ku.aW es m,Ku.dg es v=4);have xY:Hid (Calls prog 145 #[.pointer (some ⟨p,0,none⟩),.slice la q lc,.int .i64 4] V fun e w'=>e= .returned (.bool r)/\Below V.heap.size V w'):=HHV.out 4 r hr;have HR:=ζ hr;have H5:=ζ h5;clear hr h5;cases r with
   |true=>
    have iG:=ζ (HR.out.1 rfl);go_wp2_with (go_at_call 145;rw[<-Qj.out];refine xY.out.mono ?_;rintro e w3 ⟨rfl,hb3⟩;refine aaj ?_);refine ζ ?_;obtain⟨ZF⟩:Nonempty (Hid (Calls prog 147 #[.pointer (some ⟨p,0,none⟩)] w3 (Ku.Oj es HV.out w3))):=⟨WO.out w3 hb3⟩;have aJ:=ζ hb3;have hs3:=hb3.size;clear hb3;go_wp2_with (go_at_call 147;refine ZF.out.mono ?_;refine aaj ?_);refine ζ ?_;rintro e w4 ⟨cv,cs,rfl,iY,hb4⟩;rw[Qk.out] at iY;obtain⟨ca,cc,rfl⟩:=bG iY;obtain⟨J,hJ⟩:∃J,R.length=J:=⟨_,rfl⟩;rw[hJ] at iY ⊢;have HJ:=ζ hJ;have nr:=ζ iY;have dy:=ζ (aJ.out.trans (hb4.mono aJ.out.size));have Jj:=hb4.size;have YY:=ζ (Aq ca J cc R w4 hJ (by rw[<-hJ] at iY ⊢;exact Ku.tY iY) DZ.out);clear iY hb4 hJ;go_wp2_with (go_at_call 146;refine YY.out.mono ?_;refine aaj ?_);refine ζ ?_;rintro e w5 ⟨mb,rfl,hmb,lM,hb5⟩;have fJ:=ζ (dy.out.trans (hb5.mono dy.out.size));have hs5:=hb5.size;have sQ:Hid (∀b,cC cs b->w3.heap.size<=b/\b<w4.heap.size):=fun b hb=>nr.out.within (.inr hb)
    obtain⟨g8,g2,sI⟩:=KR.out w5 fJ.out;have Zw:Hid (Calls prog 148 #[.agg #[.slice ca J cc,.map (some mb)],.slice la q lc] w5 (Ku.mM w3.heap.size cs R 1 (.slice la q lc) (Ku.cU (Ku.ZL (Ku.aW es m)) q) w5)):=by
     have h5:=H5.out;have Jo:=Ku.Io (L:=Ku.ZL (Ku.aW es m)) (Vo.out.trans h5) Wu.out Tl.out;refine ζ (K4 w3.heap.size ca J cc mb R.length cs R la q lc (Ku.ZL (Ku.aW es m)) w5 HJ.out (by omega) (nr.out.later hb5) DZ.out lM (fun h=> ?_) Vo.out (by omega) (by omega) hroom.1 hroom.2 sI (by rw[h5];exact Jo.1) (by rw[h5];exact Jo.2));have:=sQ.out mb h;omega
    have Zv:=ζ g8;have cZ:=ζ g2;clear lM hb5 sI g8 g2;go_wp2_with (go_at_call 148;refine Zw.out.mono ?_;refine aaj ?_);refine ζ ?_;rintro e w6 hk;obtain⟨v1,s1,s2,s3,u1,u2,u3,rr,rfl⟩:=hk.shape;have HK:=ζ hk;have rj:Hid (∀b,b<w5.heap.size->¬cC cs b->w6.heap[b]? =w5.heap[b]?):=fun b h1 h2=>hk.2.block b h1 h2
    have Gj:=hk.2.size;have j8:=ζ hk.2;clear hk;have R9:w6.heap[w2.heap.size]? =some (.cells #[.int .i64 0,.slice none 0 0,.slice none 0 0] 82 (0,0)):=(rj.out _ (by omega) (fun h=>by have:=sQ.out _ h;omega)).trans Zv.out;have hg2:w6.heap[w.heap.size+1]? =some (.cells #[.int .i64 0,.slice none 0 0,.slice none 0 0] 82 (0,0)):=(rj.out _ (by omega) (fun h=>by have:=sQ.out _ h;omega)).trans cZ.out;obtain⟨⟨y0,y1,y2,hy0,hy1,hy2⟩,pG⟩:=Ku.AA hkn R9 hg2 (.int .i64 v1) (.slice s1 s2 s3) (.slice u1 u2 u3);obtain⟨⟨x0,x1,x2⟩,z0,z1,z2,hz0,hz1,hz2⟩:=pG _ rfl;have Hf:Hid (Below w.heap.size w ((((((w6.setCell ⟨w2.heap.size,0,none⟩ (.int .i64 v1)).setCell ⟨w2.heap.size,1,none⟩ (.slice s1 s2 s3)).setCell ⟨w2.heap.size,2,none⟩ (.slice u1 u2 u3)).setCell ⟨w.heap.size+1,0,none⟩ (.int .i64 v1)).setCell ⟨w.heap.size+1,1,none⟩ (.slice s1 s2 s3)).setCell ⟨w.heap.size+1,2,none⟩ (.slice u1 u2 u3))):=by
     have pX:Below w.heap.size w w6:=⟨j8.out.os.trans (fY.out.trans (fJ.out.mono fY.out.size)).os,j8.out.tape.trans (fY.out.trans (fJ.out.mono fY.out.size)).tape,j8.out.output.trans (fY.out.trans (fJ.out.mono fY.out.size)).output,by omega,fun b hb=>(rj.out b (by omega) (fun h=>by have:=sQ.out b h;omega)).trans ((fY.out.trans (fJ.out.mono fY.out.size)).block b hb)⟩;exact ζ (bO (bO pX (by omega) _ _ _) (by omega) _ _ _)
    clear pG R9 hg2;go_wp2;refine bodyPost_ret (bN rfl rfl _ _ (w.heap.size+1) _ _ _ _ _ rfl rfl rfl (au z0 z1 z2 _ _ _).1 (au z0 z1 z2 _ _ _).2.1 (au z0 z1 z2 _ _ _).2.2) rfl ?_;have ct:Hid (aj w6 w.heap.size (.slice la q lc) (Ku.ZL (Ku.aW es m))):=D8.out w6 fun b h1 h2=>by
     rw[rj.out b (by omega) (fun h=>by have:=sQ.out b h;omega),fJ.out.block b (by omega),Qj.out];exact heap_alloc_old w2 _ h1
    refine⟨.inr ⟨m,HV.out,rfl,?_⟩,Hf.out⟩;rw[Ku.FI (GW.out.trans H5.out) iG.out,Qk.out];have hk:=HK.out;rw[show q=5 from H5.out] at hk;rw[show q=5 from H5.out] at ct M4;refine Ku.IX (c1:=w2.heap.size) (c2:=w.heap.size+1) hk ct.out (by omega) (fun b h1 h2=> ?_) (fun b hb=> ?_) (fun b k v pv r hb he=> ?_) rfl
    .rw[Ku.nB _ _ _ b h2,Ku.nB _ _ _ b h1]
    .rcases hb with h|h|h
     .have:=M4.out b h
      omega
     .have:=sQ.out b h
      omega
     .omega
    .have h1:=M4.out b hb
     refine⟨fun h=> ?_,fun h=>by have:=sQ.out b h;omega⟩;rcases hk.1 with ⟨_,h2⟩|⟨_,jl,vs,h2,_,h3,_⟩
     .rw[h2] at he
      unfold Ku.jK at he;cases he;cases h
     .rw[h2] at he
      cases he;have:=h3 b h;omega
   |false=>
    go_wp2_with (go_at_call 145;rw[<-Qj.out];refine xY.out.mono ?_;rintro e w3 ⟨rfl,hb3⟩;refine aaj ?_);refine ζ ?_;have HX:Hid (Ku.je (Ku.rows es HV.out es.length) es m=none):=uV.out (fun h=>by have:=HR.out.2 h.2;cases this) (fun h=>by have h1:=GW.out;have h2:=H5.out;omega);obtain⟨g8,g2,-⟩:=KR.out w3 hb3;have aJ:=ζ (fY.out.trans (hb3.mono fY.out.size));obtain⟨y0,y1,y2,yf⟩:=aO g8;obtain⟨z0,z1,z2,zf⟩:=aO g2;have hz0:=zf 0;have hz1:=zf 1;have hz2:=zf 2;clear zf yf;go_wp2;refine bodyPost_ret (bN rfl rfl _ _ (w.heap.size+1) _ _ _ _ _ rfl rfl rfl (au z0 z1 z2 _ _ _).1 (au z0 z1 z2 _ _ _).2.1 (au z0 z1 z2 _ _ _).2.2) rfl ?_;exact⟨.inr ⟨m,HV.out,rfl,by rw[HX.out];rfl⟩,bO aJ.out (by omega) _ _ _⟩
  .have t5:((q:Int)==5)=false:=by simp;omega
   by_cases h6:q=6
   .have t6:((q:Int)==6)=true:=by rw[h6];rfl
    obtain⟨r,hr⟩:=Ku.AL (∀v∈Ku.aW es m,Ku.dg es v=3);have xY:Hid (Calls prog 145 #[.pointer (some ⟨p,0,none⟩),.slice la q lc,.int .i64 3] V fun e w'=>e= .returned (.bool r)/\Below V.heap.size V w'):=HHV.out 3 r hr;have HR:=ζ hr;have H6:=ζ h6;clear hr h6 h5;cases r with
    |true=>
     have iG:=ζ (HR.out.1 rfl);go_wp2_with (go_at_call 145;rw[<-Qj.out];refine xY.out.mono ?_;rintro e w3 ⟨rfl,hb3⟩;refine aaj ?_);refine ζ ?_;obtain⟨ZF⟩:Nonempty (Hid (Calls prog 147 #[.pointer (some ⟨p,0,none⟩)] w3 (Ku.Oj es HV.out w3))):=⟨WO.out w3 hb3⟩;have aJ:=ζ hb3;have hs3:=hb3.size;clear hb3;go_wp2_with (go_at_call 147;refine ZF.out.mono ?_;refine aaj ?_);refine ζ ?_;rintro e w4 ⟨cv,cs,rfl,iY,hb4⟩;rw[Qk.out] at iY;obtain⟨ca,cc,rfl⟩:=bG iY;obtain⟨J,hJ⟩:∃J,R.length=J:=⟨_,rfl⟩;rw[hJ] at iY ⊢;have HJ:=ζ hJ;have nr:=ζ iY;have dy:=ζ (aJ.out.trans (hb4.mono aJ.out.size));have Jj:=hb4.size;have YY:=ζ (Aq ca J cc R w4 hJ (by rw[<-hJ] at iY ⊢;exact Ku.tY iY) DZ.out);clear iY hb4 hJ;go_wp2_with (go_at_call 146;refine YY.out.mono ?_;refine aaj ?_);refine ζ ?_;rintro e w5 ⟨mb,rfl,hmb,lM,hb5⟩;have fJ:=ζ (dy.out.trans (hb5.mono dy.out.size));have hs5:=hb5.size;have sQ:Hid (∀b,cC cs b->w3.heap.size<=b/\b<w4.heap.size):=fun b hb=>nr.out.within (.inr hb)
     obtain⟨g8,g2,sI⟩:=KR.out w5 fJ.out;have Zw:Hid (Calls prog 149 #[.agg #[.slice ca J cc,.map (some mb)],.slice la q lc] w5 (Ku.S2 w3.heap.size cs R (Ku.ZL (Ku.aW es m)) q w5)):=by
      have h6:=H6.out;have Jo:=fun h3=>Ku.J7 (R:=R) (L:=Ku.ZL (Ku.aW es m)) (Vo.out.trans h6) Wu.out Tl.out h3
      refine ζ (Oo w3.heap.size ca J cc mb R.length cs R la q lc (Ku.ZL (Ku.aW es m)) w5 HJ.out (by omega) (nr.out.later hb5) DZ.out lM (fun h=> ?_) Vo.out h6 sI Tl.out (by rw[h6];exact fun h3=>(Jo h3).1) (by rw[h6];exact fun h3=>(Jo h3).2));have:=sQ.out mb h;omega
     have Zv:=ζ g8;have cZ:=ζ g2;clear lM hb5 sI g8 g2;go_wp2_with (go_at_call 149;refine Zw.out.mono ?_;refine aaj ?_);refine ζ ?_;rintro e w6 hk;have HK:=ζ hk;have hsh:∃(v1:Int) (s1:Option Addr) (s2 s3:Nat) (u1:Option Addr) (u2 u3:Nat) (r:Bool),e= .returned (.tuple #[.agg #[.int .i64 v1,.slice s1 s2 s3,.slice u1 u2 u3],.bool r]):=by
      rcases hk with ⟨_,h,_⟩|⟨_,bv,ho,_,h⟩
      .exact⟨_,_,_,_,_,_,_,_,h⟩
      .obtain⟨xa,xc,rfl,-,-⟩:=ho.form
       exact h.shape
     obtain⟨v1,s1,s2,s3,u1,u2,u3,rr,rfl⟩:=hsh;have hwr:aq (fun b=>cC cs b) w5 w6:=by
      rcases hk with ⟨_,_,h⟩|⟨_,bv,_,_,h⟩
      .exact(aq.refl _ w5).later h
      .exact h.2
     have rj:Hid (∀b,b<w5.heap.size->¬cC cs b->w6.heap[b]? =w5.heap[b]?):=fun b h1 h2=>hwr.block b h1 h2
     have Gj:=hwr.size;have j8:=ζ hwr;clear hk hwr;have R9:w6.heap[w2.heap.size]? =some (.cells #[.int .i64 0,.slice none 0 0,.slice none 0 0] 82 (0,0)):=(rj.out _ (by omega) (fun h=>by have:=sQ.out _ h;omega)).trans Zv.out;have hg2:w6.heap[w.heap.size+1]? =some (.cells #[.int .i64 0,.slice none 0 0,.slice none 0 0] 82 (0,0)):=(rj.out _ (by omega) (fun h=>by have:=sQ.out _ h;omega)).trans cZ.out;obtain⟨⟨y0,y1,y2,hy0,hy1,hy2⟩,pG⟩:=Ku.AA hkn R9 hg2 (.int .i64 v1) (.slice s1 s2 s3) (.slice u1 u2 u3);obtain⟨⟨x0,x1,x2⟩,z0,z1,z2,hz0,hz1,hz2⟩:=pG _ rfl;have Hf:Hid (Below w.heap.size w ((((((w6.setCell ⟨w2.heap.size,0,none⟩ (.int .i64 v1)).setCell ⟨w2.heap.size,1,none⟩ (.slice s1 s2 s3)).setCell ⟨w2.heap.size,2,none⟩ (.slice u1 u2 u3)).setCell ⟨w.heap.size+1,0,none⟩ (.int .i64 v1)).setCell ⟨w.heap.size+1,1,none⟩ (.slice s1 s2 s3)).setCell ⟨w.heap.size+1,2,none⟩ (.slice u1 u2 u3))):=by
      have pX:Below w.heap.size w w6:=⟨j8.out.os.trans (fY.out.trans (fJ.out.mono fY.out.size)).os,j8.out.tape.trans (fY.out.trans (fJ.out.mono fY.out.size)).tape,j8.out.output.trans (fY.out.trans (fJ.out.mono fY.out.size)).output,by omega,fun b hb=>(rj.out b (by omega) (fun h=>by have:=sQ.out b h;omega)).trans ((fY.out.trans (fJ.out.mono fY.out.size)).block b hb)⟩;exact ζ (bO (bO pX (by omega) _ _ _) (by omega) _ _ _)
     clear pG R9 hg2;go_wp2;refine bodyPost_ret (bN rfl rfl _ _ (w.heap.size+1) _ _ _ _ _ rfl rfl rfl (au z0 z1 z2 _ _ _).1 (au z0 z1 z2 _ _ _).2.1 (au z0 z1 z2 _ _ _).2.2) rfl ?_;refine⟨.inr ⟨m,HV.out,rfl,?_⟩,Hf.out⟩;have hk:=HK.out;unfold Ku.S2 at hk;rw[show q=6 from H6.out] at hk;rw[Qk.out];rcases hk with ⟨h3,h2,-⟩|⟨h3,bv,ho,hap,hk⟩
     .rw[Ku.vC (fun h=>by have h1:=GW.out;have h2:=H6.out;omega) fun h=>h3 h.2.2]
      unfold Ku.jK at h2;cases h2;rfl
     .rw[Ku.FH (GW.out.trans H6.out) iG.out h3]
      have hbl:∀b,bv.ownBlock=some b->w5.heap.size<=b:=fun b hb=>(aap ho b hb).1
      refine Ku.IX (c1:=w2.heap.size) (c2:=w.heap.size+1) hk (ho.lower (by omega)) (by omega) (fun b h1 h2=> ?_) (fun b hb=> ?_) (fun b k v pv r hb he=> ?_) rfl
      .rw[Ku.nB _ _ _ b h2,Ku.nB _ _ _ b h1]
      .rcases hb with h|h|h
       .have:=hbl b h
        omega
       .have:=sQ.out b h
        omega
       .omega
      .exact⟨(hap b k v pv r hb he).2,fun h=>by have h1:=sQ.out b h;have h2:=hbl b hb;omega⟩
    |false=>
     go_wp2_with (go_at_call 145;rw[<-Qj.out];refine xY.out.mono ?_;rintro e w3 ⟨rfl,hb3⟩;refine aaj ?_);refine ζ ?_;have HX:Hid (Ku.je (Ku.rows es HV.out es.length) es m=none):=uV.out (fun h=>by have h1:=GW.out;have h2:=H6.out;omega) (fun h=>by have:=HR.out.2 h.2;cases this);obtain⟨g8,g2,-⟩:=KR.out w3 hb3;have aJ:=ζ (fY.out.trans (hb3.mono fY.out.size));obtain⟨y0,y1,y2,yf⟩:=aO g8;obtain⟨z0,z1,z2,zf⟩:=aO g2;have hz0:=zf 0;have hz1:=zf 1;have hz2:=zf 2;clear zf yf;go_wp2;refine bodyPost_ret (bN rfl rfl _ _ (w.heap.size+1) _ _ _ _ _ rfl rfl rfl (au z0 z1 z2 _ _ _).1 (au z0 z1 z2 _ _ _).2.1 (au z0 z1 z2 _ _ _).2.2) rfl ?_;exact⟨.inr ⟨m,HV.out,rfl,by rw[HX.out];rfl⟩,bO aJ.out (by omega) _ _ _⟩
   .have t6:((q:Int)==6)=false:=by simp;omega
    have HX:Hid (Ku.je (Ku.rows es HV.out es.length) es m=none):=uV.out (fun h=>by have h1:=GW.out;omega) (fun h=>by have h1:=GW.out;omega);clear h5 h6;obtain⟨g8,g2,-⟩:=KR.out V (aae _ _);have aJ:=fY;rw[Qj.out] at g8 g2 aJ;obtain⟨y0,y1,y2,yf⟩:=aO g8;obtain⟨z0,z1,z2,zf⟩:=aO g2;have hz0:=zf 0;have hz1:=zf 1;have hz2:=zf 2;clear zf yf;go_wp2;refine bodyPost_ret (bN rfl rfl _ _ (w.heap.size+1) _ _ _ _ _ rfl rfl rfl (au z0 z1 z2 _ _ _).1 (au z0 z1 z2 _ _ _).2.1 (au z0 z1 z2 _ _ _).2.2) rfl ?_;exact⟨.inr ⟨m,HV.out,rfl,by rw[HX.out];rfl⟩,bO aJ.out (by omega) _ _ _⟩
 .have cS:=ζ hv
  obtain⟨z0,z1,z2,zf⟩:=aO uy;have hf0:=zf 0;have qH:=zf 1;have hf2:=zf 2;clear hv hb1 zf uy;go_wp2;refine bodyPost_ret (bN rfl rfl _ _ (w.heap.size+1) _ _ _ _ _ rfl rfl rfl (au z0 z1 z2 _ _ _).1 (au z0 z1 z2 _ _ _).2.1 (au z0 z1 z2 _ _ _).2.2) rfl ?_;exact⟨.inl ⟨cS.out,rfl⟩,bO aI.out (by omega) _ _ _⟩
end
section
open Go.RowKit Go.Sort Go.Maps
namespace Ku
theorem rI (w:World):o9 w (.slice none 0 0) []:=⟨none,0,rfl,fun k l h=>by simp at h⟩
open Classical in
noncomputable def kr (n:Int) (es:List (Int×Int)):Int×List Int×List (List Int)×Bool×Int:=
 if h:Si.Val n es then (match je (rows es h es.length) es n.toNat with|none=>(0,[],[],false,0)|some (kd,br,ps)=>(kd,br,ps,true,0)) else (0,[],[],false,1)
def Vn (r:Int×List Int×List (List Int)×Bool×Int) (w:World) (e:Ending) (w':World):Prop:=
 ∃a1 c1 a2 c2,e= .returned (.tuple #[.agg #[.int .i64 r.1,.slice a1 r.2.1.length c1,.slice a2 r.2.2.1.length c2],.bool r.2.2.2.1,.int .i64 r.2.2.2.2])/\aU w' a1 r.2.1/\o9 w' (.slice a2 r.2.2.1.length c2) r.2.2.1/\Below w.heap.size w w'
theorem rS (w:World):aU w none []:=fun j x h=>by simp at h
theorem Ra {n:Int} {es:List (Int×Int)} (h:Si.valid n es=false):kr n es=(0,[],[],false,1):=by
 have hn:¬Si.Val n es:=fun h'=>by rw[Si.aK.2 h'] at h;cases h
 exact dif_neg hn
theorem NA {m:Nat} {es:List (Int×Int)} (hv:Si.Val (m:Int) es):kr (m:Int) es=(match je (rows es hv es.length) es m with|none=>(0,[],[],false,0)|some (kd,br,ps)=>(kd,br,ps,true,0)):=by
 unfold kr;rw[dif_pos hv,abz]
theorem Xl {n:Int} {es:List (Int×Int)} {w w':World} {e:Ending} (h:S3 n es w e w'):Vn (kr n es) w e w':=by
 obtain⟨hc,hb⟩:=h;rcases hc with ⟨hv,rfl⟩|⟨m,hv,rfl,ha⟩
 .rw[Ra hv]
  exact⟨none,0,none,0,rfl,rS _,rI _,hb⟩
 .rw[NA hv]
  cases hr:je (rows es hv es.length) es m with
  |none=>
   rw[hr] at ha;exact⟨none,0,none,0,ha,rS _,rI _,hb⟩
  |some x=>
   obtain⟨kd,br,ps⟩:=x;rw[hr] at ha;obtain⟨bv,pv,vs,rfl,h1,h2,-⟩:=ha;obtain⟨ba,bc,rfl,h3,-⟩:=h1.form;obtain⟨pa,pc,rfl⟩:=bG h2;exact⟨ba,bc,pa,pc,rfl,h3,tY h2,hb⟩
end Ku
theorem A4 (n:Int) (ao:Option Addr) (cap:Nat) (es:List (Int×Int)) (w:World) (he:ah w ao es) (hl:es.length<=4611686018427387904):
 Calls Tryz.prog 98 #[.agg #[.int .i64 n,.slice ao es.length cap]] w (Ku.Vn (Ku.kr n es) w):=(zG n ao cap es w he hl).mono fun _ _ h=>Ku.Xl h
end
section
open Go.RowKit
theorem ny {ops:Array Oper} {rest:List Oper} {o:Oper} {a:Act} {Q:Exit->Act->World->Prop} (hgd:o.guard=none) (s x:Operand) (T:TypeId) (hT:Tryz.prog.underlying T=some (.slice 55))
 (ho:o.op= .call { callee:= .builtin .append,args:= #[s,x],argTypes:= #[T,T] }) (W:World) (B:Nat) (v:Value) (vs:List Value) (ls:List (List Int)) (y:Value) (l:List Int) (hr:ay W B v vs ls)
 (hy:aj W B y l) (h1:∀(u:Nat) (z:Value) (b:Nat),vs[u]? =some z->z.ownBlock=some b->y.ownBlock≠some b) (h2:∀b,v.ownBlock=some b->y.ownBlock≠some b) (hB:B<=W.heap.size) (hl:ls.length<=5864062014804) (hs:a.eval s=v) (hx:a.eval x= .slice (some ⟨W.heap.size,0,none⟩) 1 1)
 (h:∀v' w',ay w' B v' (vs++[y]) (ls++[l])->(∀b,b<W.heap.size->v.ownBlock≠some b->w'.heap[b]? =W.heap[b]?)->(v'.ownBlock=v.ownBlock\/∀b,v'.ownBlock=some b->W.heap.size<=b)->Below B W w'->wpList Tryz.prog ops Q rest (a.put o.dst v') w'):
 wpList Tryz.prog ops Q (o::rest) a (W.alloc (.cells #[y] 55)):=by
 obtain⟨i0,hi,hz0,hz1,hz2⟩:=info_parts Tryz.lK;have hb0:Below B W (W.alloc (.cells #[y] 55)):=(aae _ _).alloc (by omega) _;have Xo:∃ao c,y= .slice ao l.length c:=by
  obtain⟨ao,c,e,-⟩:=hy.form;exact⟨ao,c,e⟩
 obtain⟨yo,yc,rfl⟩:=Xo;refine wpList_append_own_at _ hgd s x T ho B 55 i0 (.slice none 0 0) 1 24 hT hi hz0 hz1 hz2 rfl (by decide) _ _ _ hs (abH hr.outer _) ⟨W.heap.size,0,none⟩ 1 1 [.slice yo l.length yc] hx rfl (cell_one_new _ _ _) (by simp[Value.oneCell']) (by unfold maxLen;omega) (by omega) (by simp;omega) ?_;intro v' w' hown' hg _ hat;have JI:ay w' B v' (vs++[.slice yo l.length yc]) (ls++[l]):=by
  refine hr.grow hy h1 h2 (tmp:= .cells #[.slice yo l.length yc] 55) hown' hg ?_;rcases hat with h1|h1
  .exact .inl h1
  .exact .inr (by simpa using h1)
 refine h v' w' JI (fun b hb hne=> ?_) ?_ (hb0.grown hg (by simp;omega) (fun b Jf=>(aap hr.outer b Jf).1))
 .exact(hg.block b (by simp;omega) (fun e=>hne e.symm)).trans (aaF W _ b hb)
 .rcases hat with h1|h1
  .exact .inl h1
  .refine .inr fun b hb=> ?_
   rw[h1] at hb;have:=aaG hb;simp at this;omega
end
end Go.Proofs.YtdbjpbjocmcpkaaGreatDoor
