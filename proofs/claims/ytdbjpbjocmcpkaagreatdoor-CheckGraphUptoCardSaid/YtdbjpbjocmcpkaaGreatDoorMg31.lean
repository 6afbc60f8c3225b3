import Derived.Test.YtdbjpbjocmcpkaaGreatDoorMg19
import Derived.Test.YtdbjpbjocmcpkaaGreatDoorMg30
set_option maxHeartbeats 4000000
set_option maxRecDepth 100000
namespace Go.Proofs.YtdbjpbjocmcpkaaGreatDoor
section
open Go.RowKit Go.Sort Go.Maps
namespace Ku
def cT (R:List (List Int)) (p:Int×Int):Nat->Nat
 |0=>0
 |k+1=>cT R p k+(if ends (R.getD k [])=p then 1 else 0)
theorem ED (R:List (List Int)) (k:Nat) (p:Int×Int) (hp:p.1≠p.2):opn R (k+1) p=if ends (R.getD k [])=p then some k else opn R k p:=by
 simp only[opn];by_cases h:(ends (R.getD k [])).1≠(ends (R.getD k [])).2
 .rw[if_pos h]
  unfold Hp;by_cases e:p=ends (R.getD k [])
  .rw[if_pos e,if_pos e.symm]
  .rw[if_neg e,if_neg fun h=>e h.symm]
 .rw[if_neg h,if_neg]
  intro e;rw[e] at h;exact h hp
theorem wG {R:List (List Int)} {p:Int×Int} (hp:p.1≠p.2):∀{k:Nat},cT R p k=0↔opn R k p=none
 |0=>by simp[cT,opn]
 |k+1=>by
  rw[ED R k p hp];simp only[cT];by_cases e:ends (R.getD k [])=p
  .rw[if_pos e,if_pos e]
   simp
  .rw[if_neg e,if_neg e,abN]
   exact wG hp
theorem UO {l:List Int} (eC:(ends l).1<=(ends l).2) {x y:Int} (hxy:x≠y):hit l x y=if ends l=key (x,y) then some (eT x l) else none:=by
 unfold ends at eC ⊢;unfold hit key eT;dsimp only at eC ⊢;generalize gI l 0=a at*;generalize gI l (l.length-1)=b at*;by_cases h1:a=x/\b=y
 .obtain⟨rfl,rfl⟩:=h1
  have h2:¬b<a:=by omega
  simp[h2]
 .rw[if_neg h1]
  by_cases h2:a=y/\b=x
  .obtain⟨rfl,rfl⟩:=h2
   have h3:a<b:=by omega
   have h4:¬a=b:=by omega
   simp[h3,h4]
  .rw[if_neg h2]
   have h3:¬(a,b)=(if y<x then (y,x) else (x,y)):=by
    split
    .intro e
     exact h2 ⟨congrArg Prod.fst e,congrArg Prod.snd e⟩
    .intro e
     exact h1 ⟨congrArg Prod.fst e,congrArg Prod.snd e⟩
   rw[if_neg h3]
theorem Bv {x y:Int} (h:x≠y):(key (x,y)).1≠(key (x,y)).2:=by
 unfold key;dsimp only
 split
 .exact fun e=>h e.symm
 .exact h
theorem qX {R:List (List Int)} (eC:∀l∈R,(ends l).1<=(ends l).2) {x y:Int} (hxy:x≠y):∀{k:Nat},k<=R.length->cj R x y k=(match opn R k (key (x,y)) with|some i=>eT x (R.getD i [])|none=>[],cT R (key (x,y)) k)
 |0,_=>rfl
 |k+1,hk=>by
  obtain⟨l,hl⟩:∃l,R[k]? =some l:=⟨_,aac (by omega)⟩;have e:R.getD k []=l:=by rw[aao,hl];rfl
  have hh:=UO (eC l (aai hl)) hxy;rw[ED R k _ (Bv hxy)];simp only[cT];rw[e];by_cases hc:ends l=key (x,y)
  .rw[if_pos hc] at hh
   rw[uO hl hh,if_pos hc,if_pos hc,qX eC hxy (by omega)];dsimp only;rw[e]
  .rw[if_neg hc] at hh
   rw[uP hl hh,if_neg hc,if_neg hc,qX eC hxy (by omega)];rfl
theorem vK (E:Int×Int):∀{ps:List (Int×Int)},ps.Pairwise (fun p q=>key p≠key q)->(ps.map fun p=>if E=key p then 1 else 0).sum<=1
 |[],_=>by simp
 |p::ps,h=>by
  have h':=abY.1 h;rw[ab7,ac3];by_cases e:E=key p
  .rw[if_pos e]
   have:(ps.map fun p=>if E=key p then 1 else 0).sum=0:=by
    have hz:∀q∈ps,(if E=key q then 1 else 0)=0:=fun q hq=>if_neg fun e2=>h'.1 q hq (e▸e2)
    clear h h'
    induction ps with
    |nil=>rfl
    |cons q ps ih=>
     rw[ab7,ac3,hz q (by simp),ih fun r hr=>hz r (by simp[hr])]
   omega
  .rw[if_neg e]
   have:=vK E h'.2;omega
theorem Fw {R:List (List Int)} {ps:List (Int×Int)} (h:ps.Pairwise fun p q=>key p≠key q):∀k,(ps.map fun p=>cT R (key p) k).sum<=k
 |0=>by
  clear h
  induction ps with
  |nil=>simp
  |cons p ps ih=>rw[ab7,ac3];simp only[cT];simp only[cT] at ih;omega
 |k+1=>by
  have h1:=Fw (R:=R) h k;have h2:=vK (ends (R.getD k [])) h;have:(ps.map fun p=>cT R (key p) (k+1)).sum=(ps.map fun p=>cT R (key p) k).sum+(ps.map fun p=>if ends (R.getD k [])=key p then 1 else 0).sum:=by
   clear h h1 h2
   induction ps with
   |nil=>rfl
   |cons p ps ih=>
    simp only[ab7,ac3];rw[ih];simp only[cT];omega
  omega
theorem Bt:∀{l:List Nat},(∀x∈l,1<=x)->l.length<=l.sum
 |[],_=>by simp
 |x::l,h=>by
  have h1:=h x (by simp);have h2:=Bt fun y hy=>h y (adu x hy)
  rw[abl,ac3];omega
theorem Ks:∀{l:List Nat},(∀x∈l,1<=x)->l.sum<=l.length->∀x∈l,x=1
 |[],_,_,x,hx=>by simp at hx
 |y::l,h,hs,x,hx=>by
  have h1:=h y (by simp);have h':∀x∈l,1<=x:=fun z hz=>h z (adu y hz)
  have h2:=Bt h';rw[abl,ac3] at hs;rcases aaU.1 hx with rfl|hx
  .omega
  .exact Ks h' (by omega) x hx
theorem Jb {R:List (List Int)} {p:Int×Int} (hp:p.1≠p.2):(∃i,idx R p=some i)↔1<=cT R (key p) R.length:=by
 have h:=wG (R:=R) (p:=key p) (Bv (x:=p.1) (y:=p.2) hp) (k:=R.length);unfold idx;cases ho:opn R R.length (key p) with
 |none=>
  rw[ho] at h;have:=h.2 rfl;rw[this];simp
 |some i=>
  rw[ho] at h;have:cT R (key p) R.length≠0:=fun e=>by cases h.1 e
  constructor
  .intro _;omega
  .intro _;exact⟨i,rfl⟩
theorem SX {R:List (List Int)} {ps:List (Int×Int)} (hlen:R.length=ps.length) (L8:ps.Pairwise fun p q=>key p≠key q) (hne:∀p∈ps,p.1≠p.2):All R ps↔∀p∈ps,cT R (key p) R.length=1:=by
 constructor
 .rintro⟨-,h⟩ p hp
  have hs:=Fw (R:=R) L8 R.length;refine Ks (l:=ps.map fun p=>cT R (key p) R.length) (fun x hx=> ?_) (by rw[aaE];omega) _ (List.mem_map_of_mem hp);obtain⟨q,hq,rfl⟩:=abP.1 hx;exact(Jb (hne q hq)).1 (h q hq)
 .intro h
  refine⟨hlen,fun p hp=>(Jb (hne p hp)).2 (by rw[h p hp];exact aad _)⟩
theorem Om {R:List (List Int)} (eC:∀l∈R,(ends l).1<=(ends l).2) {x y:Int} (hxy:x≠y) (h1:cT R (key (x,y)) R.length=1):(cj R x y R.length).1=pathOf R (x,y):=by
 rw[qX eC hxy (aad _)];unfold pathOf idx;cases ho:opn R R.length (key (x,y)) with
 |none=>
  have:=(wG (R:=R) (p:=key (x,y)) (Bv hxy)).2 ho;omega
 |some i=>rfl
theorem E5 {ps:List (Int×Int)} (h:pq ps):ps.Pairwise fun p q=>key p≠key q:=by
 rw[abo];intro i j hi hj hij;exact h i j _ _ (by omega) (aac hi) (aac hj)
theorem Ms {R:List (List Int)} (eC:∀l∈R,(ends l).1<=(ends l).2) {br:List Int} {qs:List (Nat×Nat)} {ps:List (Int×Int)} (hps:ps=qs.map fun q=>(gI br q.1,gI br q.2)) (hlen:R.length=ps.length) (L8:ps.Pairwise fun p q=>key p≠key q) (hne:∀p∈ps,p.1≠p.2):
 ((∀q∈qs,(way R br q).2=1)↔All R ps)/\(All R ps->(qs.map fun q=>(way R br q).1)=ps.map (pathOf R)):=by
 have hq:∀q∈qs,(gI br q.1,gI br q.2)∈ps:=fun q hq=>by rw[hps];exact List.mem_map_of_mem (f:=fun q=>(gI br q.1,gI br q.2)) hq
 have hw:∀q∈qs,(way R br q).2=cT R (key (gI br q.1,gI br q.2)) R.length:=fun q h=>by
  unfold way;rw[qX eC (hne _ (hq q h)) (aad _)]
 rw[SX hlen L8 hne];refine⟨⟨fun h p hp=> ?_,fun h q h'=> ?_⟩,fun h=> ?_⟩
 .rw[hps] at hp
  obtain⟨q,h',rfl⟩:=abP.1 hp;rw[<-hw q h'];exact h q h'
 .rw[hw q h']
  exact h _ (hq q h')
 .rw[hps,adq]
  refine abT fun q h'=> ?_
  exact Om eC (hne _ (hq q h')) (h _ (hq q h'))
theorem QH {n:Int} {es:List (Int×Int)} (hv:Si.Val n es):∀l∈rows es hv es.length,(ends l).1<=(ends l).2:=by
 intro l hl;obtain⟨t,ht⟩:=aaS hl;obtain⟨c,hc,rfl⟩:=qp ht;have ng:=wE (aad _) (aai hc);have hlen:=bC (S:=gs es hv) ng.ne;have hp:=cN ng.ne;have hg:∀i,i<(vs (gs es hv) c).length->gI (ZL (vs (gs es hv) c)) i=(at_ (vs (gs es hv) c) i:Int):=fun i hi=>by
  refine bK ?_;unfold ZL;rw[aaP,N6 hi];rfl
 have:=ng.up;unfold Up at this;unfold ends;dsimp only;rw[bL,hg 0 (by omega),hg _ (by omega)];omega
theorem JO {m:Nat} {es:List (Int×Int)} (hv:Si.Val (m:Int) es) {v:Nat} (h:v<m):gI (Si.aS (m:Int) es) v=(dg es v:Int):=by
 have:=Cs.nX hv es.length (aad _) v h;rw[abW] at this;exact bK this
theorem vL {m:Nat} {es:List (Int×Int)} (hv:Si.Val (m:Int) es) {d:Nat} (h0:d≠0) (h2:d≠2):∀{k:Nat},k<=m->(cA (Si.aS (m:Int) es) d k).length<=(aW es k).length/\((cA (Si.aS (m:Int) es) d k).length=(aW es k).length↔∀v∈aW es k,dg es v=d)/\((∀v∈aW es k,dg es v=d)->cA (Si.aS (m:Int) es) d k=ZL (aW es k))
 |0,_=>by simp[cA,aW,ZL]
 |k+1,hk=>by
  obtain⟨i1,i2,i3⟩:=vL hv h0 h2 (k:=k) (by omega);have hg:=JO hv (v:=k) (by omega);by_cases hd:dg es k=d
  .have e1:cA (Si.aS (m:Int) es) d (k+1)=cA (Si.aS (m:Int) es) d k++[(k:Int)]:=if_pos (by rw[hg,hd])
   have e2:aW es (k+1)=aW es k++[k]:=qW (by omega);rw[e1,e2];refine⟨by simp;omega,⟨fun h v hv'=> ?_,fun h=> ?_⟩,fun h=> ?_⟩
   .rcases abG.1 hv' with h'|h'
    .exact i2.1 (by simpa using h) v h'
    .rw[abg.1 h']
     exact hd
   .have:=i2.2 fun v hv'=>h v (ab0 _ hv')
    simp[this]
   .rw[i3 fun v hv'=>h v (ab0 _ hv')]
    simp[ZL]
  .have e1:cA (Si.aS (m:Int) es) d (k+1)=cA (Si.aS (m:Int) es) d k:=if_neg (by rw[hg];omega)
   by_cases hb:dg es k≠0/\dg es k≠2
   .have e2:aW es (k+1)=aW es k++[k]:=qW hb
    rw[e1,e2];refine⟨by simp;omega,⟨fun h=> ?_,fun h=> ?_⟩,fun h=> ?_⟩
    .simp at h
     omega
    .exact absurd (h k (by simp)) hd
    .exact absurd (h k (by simp)) hd
   .rw[e1,Aj hb]
    exact⟨i1,i2,i3⟩
theorem xg {m:Nat} {es:List (Int×Int)} (hv:Si.Val (m:Int) es):∀{k:Nat},k<=m->(cA (Si.aS (m:Int) es) 0 k).length+(cA (Si.aS (m:Int) es) 2 k).length+(aW es k).length=k
 |0,_=>rfl
 |k+1,hk=>by
  have ih:=xg hv (k:=k) (by omega);have hg:=JO hv (v:=k) (by omega);simp only[cA,aW];rw[hg];by_cases h0:dg es k=0
  .rw[if_pos (by omega),if_neg (by omega),if_neg (by omega)]
   simp;omega
  .by_cases h2:dg es k=2
   .rw[if_neg (by omega),if_pos (by omega),if_neg (by omega)]
    simp;omega
   .rw[if_neg (by omega),if_neg (by omega),if_pos (by omega)]
    simp;omega
theorem I7 {m:Nat} {es:List (Int×Int)} (hv:Si.Val (m:Int) es) (R:List (List Int)):KB (Si.aS (m:Int) es) m R↔((aW es m).length=5/\∀v∈aW es m,dg es v=4)/\R.length=10:=by
 obtain⟨i1,i2,i3⟩:=vL hv (d:=4) (by omega) (by omega) (aad m);have hr:=xg hv (aad m);unfold KB xh;constructor
 .rintro⟨a,b,c⟩
  exact⟨⟨by omega,i2.1 (by show(cA (Si.aS (m:Int) es) 4 m).length=_;omega)⟩,c⟩
 .rintro⟨⟨a,b⟩,c⟩
  have:=i2.2 b;refine⟨?_,by omega,c⟩;show(cA (Si.aS (m:Int) es) (4:Nat) m).length=5;omega
theorem EO {m:Nat} {es:List (Int×Int)} (hv:Si.Val (m:Int) es) (R:List (List Int)):zn (Si.aS (m:Int) es) m R↔((aW es m).length=6/\∀v∈aW es m,dg es v=3)/\R.length=9:=by
 obtain⟨i1,i2,i3⟩:=vL hv (d:=3) (by omega) (by omega) (aad m);have hr:=xg hv (aad m);unfold zn xh;constructor
 .rintro⟨a,b,c⟩
  exact⟨⟨by omega,i2.1 (by show(cA (Si.aS (m:Int) es) 3 m).length=_;omega)⟩,c⟩
 .rintro⟨⟨a,b⟩,c⟩
  have:=i2.2 b;refine⟨?_,by omega,c⟩;show(cA (Si.aS (m:Int) es) (3:Nat) m).length=6;omega
theorem Kv {R:List (List Int)} (eC:∀l∈R,(ends l).1<=(ends l).2) {L:List Int} (hu:L.Pairwise (· <·)) {k:Nat} (hk:k<L.length):jM R L k↔mg R L k=true:=by
 unfold mg;by_cases h0:k=0
 .subst h0
  constructor
  .rintro⟨-,h⟩;omega
  .intro h
   obtain⟨i,hi⟩:=ad1.1 h;have:=(ju (aad _) hi).2;obtain⟨l,-,-,h⟩:=this;exact absurd rfl h
 .have hlt:gI L 0<gI L k:=xL hu (by omega) hk
  constructor
  .rintro⟨⟨l,hl,hle⟩,-⟩
   have:=eC l hl;have he:ends l=(gI L 0,gI L k):=by
    unfold ends at this ⊢;rcases hle with ⟨a,b⟩|⟨a,b⟩
    .rw[a,b]
    .dsimp only at this
     omega
   cases ho:opn R R.length (gI L 0,gI L k) with
   |some i=>rfl
   |none=>
    obtain⟨t,ht⟩:=aaS hl;exact absurd he (xp (aad _) ho (by dsimp only;omega) t l (aah.1 ht).1 ht)
  .intro h
   obtain⟨i,hi⟩:=ad1.1 h;obtain⟨_,l,hl,he,-⟩:=ju (aad _) hi;refine⟨⟨l,aai hl,.inl ?_⟩,by omega⟩;unfold ends at he;exact⟨congrArg Prod.fst he,congrArg Prod.snd he⟩
theorem Es {R:List (List Int)} (eC:∀l∈R,(ends l).1<=(ends l).2) {L:List Int} (hu:L.Pairwise (· <·)):∀{k:Nat},k<=L.length->e6 R L k=aL R L k/\iO R L k=bI R L k
 |0,_=>⟨rfl,rfl⟩
 |k+1,hk=>by
  obtain⟨i1,i2⟩:=Es eC hu (k:=k) (by omega);have ha:=Kv eC hu (k:=k) (by omega);by_cases hj:mg R L k=true
  .rw[EI (ha.2 hj),JY (ha.2 hj),(jS hj).1,(jS hj).2,i1,i2]
   exact⟨rfl,rfl⟩
  .have hj':mg R L k=false:=by simpa using hj
   rw[II fun h=>hj (ha.1 h),NT fun h=>hj (ha.1 h),(kI hj').1,(kI hj').2,i1,i2];exact⟨rfl,rfl⟩
end Ku
end
section
open Go.RowKit Go.Sort Go.Maps
namespace Ku
theorem O9 (R:List (List Int)) (L:List Int):mg R L 0=false:=by
 unfold mg;cases h:opn R R.length (gI L 0,gI L 0) with
 |none=>rfl
 |some i=>
  obtain⟨_,_,_,_,h⟩:=ju (aad _) h;exact absurd rfl h
theorem yH (R:List (List Int)) (L:List Int):∀k,∃t,aL R L (k+1)=gI L 0::t
 |0=>⟨[],by rw[(kI (O9 R L)).1];rfl⟩
 |k+1=>by
  obtain⟨t,ht⟩:=yH R L k;cases hj:mg R L (k+1) with
  |true=>exact⟨t,by rw[(jS hj).1,ht]⟩
  |false=>exact⟨t++[gI L (k+1)],by rw[(kI hj).1,ht];rfl⟩
theorem Ov {L:List Int} (h:L.length=6):∃a b c d e f,L=[a,b,c,d,e,f]:=by
 match L,h with
 |[a,b,c,d,e,f],_=>exact⟨a,b,c,d,e,f,rfl⟩
theorem QU:out 2 6 6=[(0,3),(0,4),(0,5),(1,3),(1,4),(1,5),(2,3),(2,4),(2,5)]:=by decide
theorem Z9:out 1 5 5=[(0,1),(0,2),(0,3),(0,4),(1,2),(1,3),(1,4),(2,3),(2,4),(3,4)]:=by decide
def W6 (B:Nat) (o:Option (Int×List Int×List (List Int))) (e:Ending) (w':World):Prop:=
 match o with
 |none=>e= .returned (.tuple #[jK,.bool false,.int .i64 0])
 |some (kd,br,ps)=>∃v1 v2,e= .returned (.tuple #[.agg #[.int .i64 kd,v1,v2],.bool true,.int .i64 0])/\fq w' v1 br/\S6 B v1/\wJ B w' v2 ps
theorem Ci {B kd:Nat} {R:List (List Int)} (eC:∀l∈R,(ends l).1<=(ends l).2) {br:List Int} {ps:List (Int×Int)} (hps:ps=(out kd br.length br.length).map fun q=>(gI br q.1,gI br q.2)) (hlen:R.length=ps.length) (L8:ps.Pairwise fun p q=>key p≠key q) (hne:∀p∈ps,p.1≠p.2) {e:Ending} {w':World} (h:Found B kd R br e w'):W6 B (Ds R (kd:Int) br ps) e w':=by
 obtain⟨h1,h2⟩:=Ms eC hps hlen L8 hne;unfold Ds;rcases h with ⟨⟨p,hp,oJ⟩,rfl⟩|⟨ha,v1,v2,rfl,hs1,hn1,hs2⟩
 .rw[if_neg fun hA=>oJ (h1.2 hA p hp)]
  rfl
 .have hA:=h1.1 ha
  rw[if_pos hA];rw[h2 hA] at hs2;refine⟨v1,v2,?_,hs1,hn1,hs2⟩;have:(((out kd br.length br.length).length:Int)==(R.length:Int))=true:=by
   rw[hlen,hps,aaE];simp
  rw[this]
theorem QT {a b c d e f:Int} (n1:a≠b) (n2:a≠c) (n3:a≠d) (n4:a≠e) (n5:a≠f) (n6:b≠c) (n7:b≠d) (n8:b≠e) (n9:b≠f) (n10:c≠d) (n11:c≠e) (Xg:c≠f) (n13:d≠e) (n14:d≠f) (n15:e≠f):
 ([(a,c),(a,d),(a,e),(a,f),(b,d),(b,e),(b,f),(c,d),(c,e),(c,f)]:List (Int×Int)).Pairwise fun p q=>key p≠key q:=by
 simp only[abY,aaU,abL,or_false,forall_eq_or_imp,forall_eq,false_implies,implies_true,List.Pairwise.nil,and_true];refine⟨⟨?_,?_,?_,?_,?_,?_,?_,?_,?_⟩,⟨?_,?_,?_,?_,?_,?_,?_,?_⟩,⟨?_,?_,?_,?_,?_,?_,?_⟩,⟨?_,?_,?_,?_,?_,?_⟩,⟨?_,?_,?_,?_,?_⟩,⟨?_,?_,?_,?_⟩,⟨?_,?_,?_⟩,⟨?_,?_⟩,?_⟩<;>exact Gb (by simp[*]) (by simp[*])
theorem LF {R:List (List Int)} (eC:∀l∈R,(ends l).1<=(ends l).2) (hR:R.length=9) {L:List Int} (h6:L.length=6) (hu:L.Pairwise (· <·)) (h3:(aL R L 6).length≠3):
 ¬ ∀q∈out 2 6 6,(way R (aL R L 6++bI R L 6) q).2=1:=by
 intro hall;have hnf:=jw R L 6;obtain⟨t,ht⟩:=yH R L 5;have uN:=rP (R:=R) hu (k:=6) (by omega);have uF:=wz (R:=R) hu (k:=6) (by omega);have ap:∀p∈aL R L 6,∀q∈bI R L 6,p≠q:=fun p hp q hq=>xA (R:=R) hu (by rw[h6];exact hp) (by rw[h6];exact hq)
 have hnd:(aL R L 6++bI R L 6).Pairwise (·≠·):=by
  rw[adw];exact⟨uN.imp (by intro a b h;omega),uF.imp (by intro a b h;omega),ap⟩
 have hb0:gI (aL R L 6++bI R L 6) 0=gI L 0:=by rw[ht];rfl
 have hbl:(aL R L 6++bI R L 6).length=6:=by rw[aar];exact hnf
 obtain⟨br,hbr⟩:∃br,aL R L 6++bI R L 6=br:=⟨_,rfl⟩;have hmem:∀i,i<6->∃x,gI br i=x/\((i<(aL R L 6).length/\x∈aL R L 6)\/((aL R L 6).length<=i/\x∈bI R L 6)):=by
  intro i hi;refine⟨_,rfl,?_⟩;rw[<-hbr];by_cases hn:i<(aL R L 6).length
  .refine .inl ⟨hn,?_⟩
   have:(aL R L 6++bI R L 6)[i]? =some ((aL R L 6)[i]):=by rw[aaH hn];exact aac hn
   rw[bK this];exact acG _
  .refine .inr ⟨by omega,?_⟩
   have hlt:i-(aL R L 6).length<(bI R L 6).length:=by omega
   have:(aL R L 6++bI R L 6)[i]? =some ((bI R L 6)[i-(aL R L 6).length]):=by rw[abb (by omega)];exact aac hlt
   rw[bK this];exact acG _
 rw[hbr] at hall hnd hb0 hbl;obtain⟨a,b,c,d,e,f,hf⟩:=Ov hbl;have Ye:=hnd;rw[hf] at Ye;simp only[abY,aaU,abL,or_false,forall_eq_or_imp,forall_eq,false_implies,implies_true,List.Pairwise.nil,and_true] at Ye;obtain⟨⟨n1,n2,n3,n4,n5⟩,⟨n6,n7,n8,n9⟩,⟨n10,n11,Xg⟩,⟨n13,n14⟩,n15⟩:=Ye;have g0:gI br 0=a:=by rw[hf];rfl
 have g2:gI br 2=c:=by rw[hf];rfl
 have g3:gI br 3=d:=by rw[hf];rfl
 have hcT:∀q∈out 2 6 6,gI br q.1≠gI br q.2->cT R (key (gI br q.1,gI br q.2)) R.length=1:=fun q hq hne=>by
  have:=hall q hq;unfold way at this;rw[qX eC hne (aad _)] at this;exact this
 have dB:∀i,i<6->i≠0->∀j,j<6->gI br i=gI L j->key (gI br 0,gI br i)=(gI L 0,gI L j)/\gI L 0<gI L j:=fun i hi mj j hj e=>by
  have hne:gI br 0≠gI br i:=by
   have:=abo.1 hnd 0 i (by omega) (by omega) (by omega);rw[bK (aac (show 0<br.length by omega)),bK (aac (show i<br.length by omega))];exact this
  have hj0:j≠0:=fun h=>hne (by rw[hb0,e,h])
  have hlt:gI L 0<gI L j:=xL hu (by omega) (by omega);exact⟨by rw[hb0,e];exact Uv hlt,hlt⟩
 by_cases h4:4<=(aL R L 6).length
 .obtain⟨x,hx,hc⟩:=hmem 3 (by omega)
  have oH:x∈aL R L 6:=by
   rcases hc with h|h
   .exact h.2
   .omega
  obtain⟨i,hi,rfl,hj⟩:=jz oH;obtain⟨hk,hlt⟩:=dB 3 (by omega) (by omega) i (by omega) hx;have h1:=hcT (0,3) (by rw[QU];simp) (by dsimp only;rw[g0,g3];exact n3);dsimp only at h1;rw[hk] at h1;unfold mg at hj;have:opn R R.length (gI L 0,gI L i)=none:=by simpa using hj
  have:=(wG (R:=R) (p:=(gI L 0,gI L i)) (by dsimp only;omega) (k:=R.length)).2 this;omega
 .have hN1:(aL R L 6).length<=2:=by omega
  obtain⟨x,hx,hc⟩:=hmem 2 (by omega);have Xs:x∈bI R L 6:=by
   rcases hc with h|h
   .omega
   .exact h.2
  obtain⟨i,hi,rfl,hj⟩:=kY Xs;obtain⟨hk,hlt⟩:=dB 2 (by omega) (by omega) i (by omega) hx;have hc1:1<=cT R (key (gI br 0,gI br 2)) R.length:=by
   rw[hk];refine abp fun hc=> ?_
   have:=(wG (R:=R) (p:=(gI L 0,gI L i)) (by dsimp only;omega) (k:=R.length)).1 (by omega);unfold mg at hj;rw[this] at hj;cases hj
  have L8:=QT n1 n2 n3 n4 n5 n6 n7 n8 n9 n10 n11 Xg n13 n14 n15;have hs:=Fw (R:=R) L8 R.length;have hge:∀x∈([(a,c),(a,d),(a,e),(a,f),(b,d),(b,e),(b,f),(c,d),(c,e),(c,f)]:List (Int×Int)).map fun p=>cT R (key p) R.length,1<=x:=by
   have r:∀q∈out 2 6 6,gI br q.1≠gI br q.2->1<=cT R (key (gI br q.1,gI br q.2)) R.length:=fun q hq hne=>by rw[hcT q hq hne];exact aad _
   rw[QU] at r;simp only[aaU,abL,or_false,forall_eq_or_imp,forall_eq,hf] at r;obtain⟨r1,r2,r3,r4,r5,r6,r7,r8,r9⟩:=r;rw[hf] at hc1;intro x hx;simp only[ab7,adH,aaU,abL,or_false] at hx;rcases hx with rfl|rfl|rfl|rfl|rfl|rfl|rfl|rfl|rfl|rfl
   .exact hc1
   .exact r1 n3
   .exact r2 n4
   .exact r3 n5
   .exact r4 n7
   .exact r5 n8
   .exact r6 n9
   .exact r7 n10
   .exact r8 n11
   .exact r9 Xg
  have:=Bt hge;rw[aaE] at this;simp only[abl,abU] at this;omega
theorem IW {R:List (List Int)} {kd:Int} {br:List Int} {ps:List (Int×Int)} (h:R.length≠ps.length):Ds R kd br ps=none:=by
 unfold Ds;exact if_neg fun hA=>h hA.1
theorem ML {m:Nat} {es:List (Int×Int)} (hv:Si.Val (m:Int) es):∀x∈ZL (aW es m),0<=x/\x<1048576:=by
 intro x hx;unfold ZL at hx;obtain⟨v,hv',rfl⟩:=abP.1 hx;have:=(nN.1 hv').1;have:=hv.hi;omega
theorem OI {n:Int} {es:List (Int×Int)} {w w':World} {e:Ending} (h:CL n es w e w'):
 ((Si.valid n es=false/\e= .returned (.tuple #[jK,.bool false,.int .i64 1]))\/∃(m:Nat) (hv:Si.Val n es),n=(m:Int)/\W6 w.heap.size (je (rows es hv es.length) es m) e w')/\Below w.heap.size w w':=by
 obtain⟨hc,hb⟩:=h;refine⟨?_,hb⟩;rcases hc with h|⟨m,hv,rfl,hc⟩
 .exact .inl h
 .refine .inr ⟨m,hv,rfl,?_⟩
  have eC:=QH hv;have hL:=S1 (Ai es m);have hsm:=ML hv;rcases hc with ⟨h5,Vb,rfl⟩|⟨h5,hf⟩|⟨Vb,hf⟩
  .rw[I7 hv] at h5
   rw[EO hv] at Vb;have:je (rows es hv es.length) es m=none:=by
    by_cases c5:(aW es m).length=5/\∀v∈aW es m,dg es v=4
    .rw[FI c5.1 c5.2]
     refine IW fun hR=>h5 ⟨c5,?_⟩
     obtain⟨a,b,c,d,e,hf⟩:=uB (L:=ZL (aW es m)) (by rw[bL];exact c5.1);rw[hf] at hR;exact hR
    .by_cases c6:(aW es m).length=6/\(∀v∈aW es m,dg es v=3)/\(aL (rows es hv es.length) (ZL (aW es m)) 6).length=3
     .rw[FH c6.1 c6.2.1 c6.2.2]
      refine IW fun hR=>Vb ⟨⟨c6.1,c6.2.1⟩,?_⟩
      rw[kN] at hR;have:=jw (rows es hv es.length) (ZL (aW es m)) 6;rw[hR];omega
     .exact vC c5 c6
   rw[this];rfl
  .obtain⟨⟨c1,c2⟩,c3⟩:=(I7 hv _).1 h5
   obtain⟨-,-,i3⟩:=vL hv (d:=4) (by omega) (by omega) (aad m);have i3:cA (Si.aS (m:Int) es) 4 m=ZL (aW es m):=i3 c2;rw[i3] at hf;rw[FI c1 c2];have BM:(ZL (aW es m)).length=5:=by rw[bL];exact c1
   have hok:=(Io BM hL hsm).2;obtain⟨a,b,c,d,e',hform⟩:=uB BM;rw[hform] at hf hok hL ⊢;simp only[abY,aaU,abL,or_false,forall_eq_or_imp,forall_eq] at hL;obtain⟨⟨u1,u2,u3,u4⟩,⟨u5,u6,u7⟩,⟨u8,u9⟩,u10,-⟩:=hL;refine Ci (kd:=1) eC ?_ (by rw[c3];rfl) (E5 hok) ?_ hf
   .show _=(out 1 5 5).map _
    rw[Z9];rfl
   .rw[QO]
    simp only[aaU,abL,or_false,forall_eq_or_imp,forall_eq];refine⟨?_,?_,?_,?_,?_,?_,?_,?_,?_,?_⟩<;>omega
  .obtain⟨⟨c1,c2⟩,c3⟩:=(EO hv _).1 Vb
   obtain⟨-,-,i3⟩:=vL hv (d:=3) (by omega) (by omega) (aad m);have i3:cA (Si.aS (m:Int) es) 3 m=ZL (aW es m):=i3 c2;have DI:(ZL (aW es m)).length=6:=by rw[bL];exact c1
   rw[i3] at hf;obtain⟨s1,s2⟩:=Es eC hL (k:=6) (by omega);rw[s1,s2] at hf;have hnf:=jw (rows es hv es.length) (ZL (aW es m)) 6;have hbl:(aL (rows es hv es.length) (ZL (aW es m)) 6++bI (rows es hv es.length) (ZL (aW es m)) 6).length=6:=by rw[aar];exact hnf
   by_cases h3:(aL (rows es hv es.length) (ZL (aW es m)) 6).length=3
   .rw[FH c1 c2 h3]
    have hok:=(J7 DI hL hsm h3).2;have hap:∀p∈aL (rows es hv es.length) (ZL (aW es m)) 6,∀q∈bI (rows es hv es.length) (ZL (aW es m)) 6,p≠q:=fun p hp q hq=>xA (R:=rows es hv es.length) hL (by rw[DI];exact hp) (by rw[DI];exact hq)
    have hcl:=kN (aL (rows es hv es.length) (ZL (aW es m)) 6) (bI (rows es hv es.length) (ZL (aW es m)) 6) 3;have hlen:(rows es hv es.length).length=(cout (aL (rows es hv es.length) (ZL (aW es m)) 6) (bI (rows es hv es.length) (ZL (aW es m)) 6) 3).length:=by rw[hcl,c3];omega
    generalize aL (rows es hv es.length) (ZL (aW es m)) 6=N at*;generalize bI (rows es hv es.length) (ZL (aW es m)) 6=F at*;obtain⟨a,b,c,rfl⟩:=mq h3;obtain⟨x,y,z,rfl⟩:=mq (L:=F) (by simp at hnf;omega);refine Ci (kd:=2) eC ?_ hlen (E5 hok) ?_ hf
    .show _=(out 2 6 6).map _
     rw[QU];rfl
    .rw[SN]
     simp only[aaU,abL,or_false,forall_eq_or_imp,forall_eq] at hap ⊢;obtain⟨⟨a1,a2,a3⟩,⟨a4,a5,a6⟩,a7,a8,a9⟩:=hap;exact⟨a1,a2,a3,a4,a5,a6,a7,a8,a9⟩
   .have hno:je (rows es hv es.length) es m=none:=vC (fun h=>by omega) fun h=>h3 h.2.2
    rw[hno];have NN:=LF eC c3 DI hL h3;rcases hf with ⟨-,rfl⟩|⟨ha,-⟩
    .rfl
    .rw[hbl] at ha
     exact absurd ha NN
end Ku
end
section
open Go.RowKit Go.Sort Go.Maps
namespace Ku
theorem Uu {n:Int} {es:List (Int×Int)} {w w':World} {e:Ending} (h:CL n es w e w'):Vn (kr n es) w e w':=by
 obtain⟨hc,hb⟩:=OI h;rcases hc with ⟨hv,rfl⟩|⟨m,hv,rfl,ha⟩
 .rw[Ra hv]
  exact⟨none,0,none,0,rfl,rS _,rI _,hb⟩
 .rw[NA hv]
  cases hr:je (rows es hv es.length) es m with
  |none=>
   rw[hr] at ha;exact⟨none,0,none,0,ha,rS _,rI _,hb⟩
  |some x=>
   obtain⟨kd,br,ps⟩:=x;rw[hr] at ha;obtain⟨v1,v2,rfl,⟨a1,c1,rfl,h1⟩,-,h2⟩:=ha;obtain⟨a2,c2,rfl,h3⟩:=id h2;exact⟨a1,c1,a2,c2,rfl,h1,h2.sees,hb⟩
end Ku
theorem Cm (n:Int) (ao:Option Addr) (cap:Nat) (es:List (Int×Int)) (w:World) (he:ah w ao es) (hl:es.length<=4611686018427387904):
 Calls Tryz.prog 33 #[.agg #[.int .i64 n,.slice ao es.length cap]] w (Ku.Vn (Ku.kr n es) w):=(zI n ao cap es w he hl).mono fun _ _ h=>Ku.Uu h
end
section
open Go.Proofs.Tryz
open Go.RowKit
theorem lC {x:Int} (h:Ce.dH x) (w:World):Calls prog 99 #[.int .i64 x] w fun e w'=>e= .returned (.bool true)/\w'=w:=by
 obtain⟨h0,h1⟩:=h;go_enter func99,ntmps99;go_wp2;go_ret;exact⟨rfl,rfl⟩
theorem mS {x:Int} (h:¬Ce.dH x) (w:World):Calls prog 99 #[.int .i64 x] w fun e w'=>e= .returned (.bool false)/\w'=w:=by
 unfold Ce.dH at h;by_cases h0:0<=x
 .have h1:¬x<=999999999:=fun h1=>h ⟨h0,h1⟩
  clear h;go_enter func99,ntmps99;go_wp2;go_ret;exact⟨rfl,rfl⟩
 .clear h
  go_enter func99,ntmps99;go_wp2;go_ret;exact⟨rfl,rfl⟩
theorem tC {w:World} {ao:Option Addr} {c:Nat} {ls:List (List Int)} (h:Ce.fC w ao ls) (hs:ls.length<=4611686018427387904) (hl:∀l∈ls,l.length<=4611686018427387904):
 Calls prog 56 #[.slice ao ls.length c] w fun e w'=>Ce.Says e (Ce.yG ls)/\Below w.heap.size w w':=by
 obtain⟨n,hn⟩:∃n,ls.length=n:=⟨_,rfl⟩;rw[hn] at hs ⊢;have HS:=ζ h;have HL:=ζ hl;have HN:=ζ hn;clear h hl hn;go_enter func56,ntmps56;go_wp2;go_loopw [3] (fun iv wr=>∃k:Nat,k<=n/\iv= .int .i64 (k:Int)/\(∀i l,i<k->ls[i]? =some l->Ce.Iy l)/\Below w.heap.size w wr) (fun iv _=>n-(intOf iv).toNat)
 case atStart=>exact⟨0,aax _,rfl,fun i l h=>by omega,aae _ _⟩
 case round=>
  obtain⟨k,hk,rfl,hok,cm⟩:=hrel;have fX:=ζ hok;have cH:=ζ cm;clear hok cm;by_cases hlt:k<n
  .have aQ:(k:Int)<(n:Int):=by omega
   obtain⟨l,hl⟩:∃l,ls[k]? =some l:=⟨_,aac (by have:=HN.out;omega)⟩;have dW:=HL.out l (aai hl);obtain⟨m,hm⟩:∃m,l.length=m:=⟨_,rfl⟩;have ew:=ζ hl;have HM:=ζ hm;rw[hm] at dW;clear hl hm;go_wp2;go_loopw [4] (fun jv wr=>∃j:Nat,j<=m/\jv= .int .i64 (j:Int)/\(∀i x,i<j->l[i]? =some x->Ce.dH x/\l.headD 0<=x)/\Below w.heap.size w wr) (fun jv _=>m-(intOf jv).toNat)
   case atStart=>exact⟨0,aax _,rfl,fun i x h=>by omega,cH.out⟩
   case round=>
    obtain⟨j,hj,rfl,Jq,Sm⟩:=hrel;obtain⟨b,o,xa,xc,rfl,c0,oL⟩:=(HS.out.later Sm) k l ew.out;rw[HM.out] at c0;have KM:=ζ Jq;have aB:=ζ Sm;have hbl:=block_lt_of_cell c0;have k0:(0:Int)<=(k:Int):=by omega
    have j0:(0:Int)<=(j:Int):=by omega
    clear Jq Sm;by_cases R1:j<m
    .have Jv:(j:Int)<(m:Int):=by omega
     have hm0:(0:Int)<(m:Int):=by omega
     obtain⟨x,hx⟩:∃x,l[j]? =some x:=⟨_,aac (by have:=HM.out;omega)⟩;obtain⟨y,hy⟩:∃y,l[0]? =some y:=⟨_,aac (by have:=HM.out;omega)⟩;have hy0:l.headD 0=y:=by
      cases l with
      |nil=>cases hy
      |cons a r=>cases hy;rfl
     obtain⟨xb,xo,rfl,d0⟩:=oL j x hx;obtain⟨ZP,W8,e',d1⟩:=oL 0 y hy;cases e';rw[abN] at d1;have ck:=block_lt_of_cell d0;have HX:=ζ hx;have S8:=ζ hy0;clear hx hy hy0 oL;by_cases hn1:Ce.dH x
     .have D9:Hid (∀W,Calls prog 99 #[.int .i64 x] W fun e w'=>e= .returned (.bool true)/\w'=W):=fun W=>lC hn1 W
      by_cases hxy:x<y
      .have cG:Hid (¬Ce.Iy l):=fun h=>by
        have:=(h x (aai HX.out)).2;have:=S8.out;omega
       clear hn1;go_wp2_with fail;go_quiet ((go_at_call 99;exact abq (D9.out _)));go_wp2;go_ret;exact⟨Ce.Says.no fun h=>cG.out (h.1 l (aai ew.out)),below_drewN aB.out _⟩
      .have gS:=ζ hn1
       clear hn1;go_wp2_with fail;go_quiet ((go_at_call 99;exact abq (D9.out _)));go_wp2;go_roundw
       case rel=>
        refine⟨j+1,by omega,by go_num,fun i z hi hz=> ?_,below_drewN aB.out _⟩;by_cases hij:i=j
        .subst hij
         rw[HX.out] at hz;cases hz;exact⟨gS.out,by have:=S8.out;omega⟩
        .exact KM.out i z (by omega) hz
       case measure=>simp[intOf];omega
     .have D9:Hid (∀W,Calls prog 99 #[.int .i64 x] W fun e w'=>e= .returned (.bool false)/\w'=W):=fun W=>mS hn1 W
      have cG:Hid (¬Ce.Iy l):=fun h=>hn1 (h x (aai HX.out)).1
      clear hn1;go_wp2_with fail;go_quiet ((go_at_call 99;exact abq (D9.out _)));go_wp2;go_ret;exact⟨Ce.Says.no fun h=>cG.out (h.1 l (aai ew.out)),below_drewN aB.out _⟩
    .have Jv:¬((j:Int)<(m:Int)):=by omega
     clear oL;go_wp2;go_roundw
     case rel=>
      refine⟨k+1,by omega,by go_num,fun i z hi hz=> ?_,aB.out⟩;by_cases hik:i=k
      .subst hik
       rw[ew.out] at hz;cases hz;intro x hx;obtain⟨u,hu⟩:=aaS hx;exact KM.out u x (by have:=HM.out;have:=(aah.1 hu).1;omega) hu
      .exact fX.out i z (by omega) hz
     case measure=>simp[intOf];omega
  .have aQ:¬((k:Int)<(n:Int)):=by omega
   obtain rfl:k=n:=by omega
   by_cases hc:k<=1048576
   .have sK:(k:Int)<=1048576:=by omega
    go_wp2;go_ret;refine⟨Ce.Says.yes ⟨fun l hl=> ?_,by have:=HN.out;omega⟩,cH.out⟩;obtain⟨i,hi⟩:=aaS hl;exact fX.out i l (by have:=HN.out;have:=(aah.1 hi).1;omega) hi
   .have sK:¬((k:Int)<=1048576):=by omega
    go_wp2;go_ret;exact⟨Ce.Says.no fun h=>hc (by have:=HN.out;have:=h.2;omega),cH.out⟩
end
section
open Go.Proofs.Tryz
open Go.RowKit
theorem tD {w:World} {ao:Option Addr} {c:Nat} {es:List (Int×Int)} (h:ah w ao es) (hs:es.length<=4611686018427387904):
 Calls prog 57 #[.slice ao es.length c] w fun e w'=>Ce.Says e (Ce.kj es)/\Below w.heap.size w w':=by
 obtain⟨n,hn⟩:∃n,es.length=n:=⟨_,rfl⟩;rw[hn] at hs ⊢;have HS:=ζ h;have HN:=ζ hn;clear h hn;go_enter func57,ntmps57;go_wp2;go_loopw [3] (fun iv wr=>∃k:Nat,k<=n/\iv= .int .i64 (k:Int)/\(∀i p,i<k->es[i]? =some p->Ce.dH p.1/\Ce.dH p.2/\p.1<p.2)/\(∀i p q,i+1<k->es[i]? =some p->es[i+1]? =some q->p.1<q.1\/(p.1=q.1/\p.2<q.2))/\Below w.heap.size w wr) (fun iv _=>n-(intOf iv).toNat)
 case atStart=>exact⟨0,aax _,rfl,fun i p h=>by omega,fun i p q h=>by omega,aae _ _⟩
 case round=>
  obtain⟨k,hk,rfl,hok,xJ,cm⟩:=hrel;have fX:=ζ hok;have Y9:=ζ xJ;have cH:=ζ cm;clear hok xJ;by_cases hlt:k<n
  .have aQ:(k:Int)<(n:Int):=by omega
   have k0:(0:Int)<=(k:Int):=by omega
   obtain⟨⟨u,v⟩,hp⟩:∃p,es[k]? =some p:=⟨_,aac (by have:=HN.out;omega)⟩;have hat:=HS.out.later cm;obtain⟨b,o,rfl,c0,c1⟩:=hat k (u,v) hp;dsimp only at c0 c1;have hbl:=block_lt_of_cell c0;have HP:=ζ hp;have ym:=ζ hat;clear hp hat cm;have TR:Hid (¬(Ce.dH u/\Ce.dH v/\u<v)->¬Ce.kj es):=fun h1 h2=>h1 (h2.1.1 _ (aai HP.out))
   by_cases hu:Ce.dH u
   .have HU:Hid (∀W,Calls prog 99 #[.int .i64 u] W fun e w'=>e= .returned (.bool true)/\w'=W):=fun W=>lC hu W
    by_cases hv:Ce.dH v
    .have HV:Hid (∀W,Calls prog 99 #[.int .i64 v] W fun e w'=>e= .returned (.bool true)/\w'=W):=fun W=>lC hv W
     by_cases huv:v<=u
     .have cG:Hid (¬Ce.kj es):=TR.out (fun h=>absurd h.2.2 (by omega))
      clear hu hv;go_wp2_with fail;go_quiet (first|(go_at_call 99;exact abq (HU.out _))|(go_at_call 99;exact abq (HV.out _)));go_wp2;go_ret;exact⟨Ce.Says.no cG.out,below_drewN cH.out _⟩
     .have HE:Hid (Ce.dH u/\Ce.dH v/\u<v):=⟨hu,hv,by omega⟩
      clear hu hv;have hnew:Hid (∀i p,i<k+1->es[i]? =some p->Ce.dH p.1/\Ce.dH p.2/\p.1<p.2):=fun i p hi hp=>by
       by_cases hik:i=k
       .subst hik
        rw[HP.out] at hp;cases hp;exact HE.out
       .exact fX.out i p (by omega) hp
      go_wp2_with fail;go_quiet (first|(go_at_call 99;exact abq (HU.out _))|(go_at_call 99;exact abq (HV.out _)));go_wp2_with fail;by_cases hk0:k=0
      .have m3:¬((0:Int)<(k:Int)):=by omega
       have O0:¬(0<k):=by omega
       have m3c:decide (0<k)=false:=decide_eq_false O0;have KQ:=ζ hk0;clear hk0;go_quiet (fail);go_wp2;go_roundw
       case rel=>exact⟨k+1,by omega,by go_num,hnew.out,fun i p q hi=>absurd KQ.out (by omega),by first|exact below_drewN cH.out _|exact below_drewN (below_drewN cH.out _) _⟩
       case measure=>simp[intOf];omega
      .obtain⟨m,rfl⟩:∃m,k=m+1:=⟨k-1,by omega⟩
       obtain⟨⟨a,z⟩,hp⟩:∃p,es[m]? =some p:=⟨_,aac (by have:=HN.out;omega)⟩;obtain⟨b',o',e',d0,d1⟩:=ym.out m (a,z) hp;cases e';dsimp only at d0 d1;have HQ:=ζ hp;clear hp;have m0:(0:Int)<=((m+1:Nat):Int)-1:=by omega
       have m1:((m+1:Nat):Int)-1<(n:Int):=by omega
       have m2:((m+1:Nat):Int)-1=(m:Int):=by omega
       have m3:(0:Int)<((m+1:Nat):Int):=by omega
       have m4:(0:Int)<=(m:Int):=by omega
       have m5:(m:Int)<(n:Int):=by omega
       have m6:(m:Int)<=9223372036854775807:=by omega
       have m8:(m:Int)+1<(n:Int):=by omega
       have m9:(0:Int)<=(m:Int)+1:=by omega
       have m10:(0:Int)<(m:Int)+1:=by omega
       by_cases g1:u<a
       .have cG:Hid (¬Ce.kj es):=fun h=>(by have:=h.1.2 m (a,z) (u,v) HQ.out HP.out;dsimp only at this;omega)
        go_quiet (fail);go_wp2;go_ret;exact⟨Ce.Says.no cG.out,by first|exact below_drewN cH.out _|exact below_drewN (below_drewN cH.out _) _⟩
       .by_cases g2:a=u
        .have t2:(a==u)=true:=by simp[g2]
         by_cases g3:v<=z
         .have cG:Hid (¬Ce.kj es):=fun h=>(by have:=h.1.2 m (a,z) (u,v) HQ.out HP.out;dsimp only at this;omega)
          have g4:v<=z:=g3;go_quiet (fail);go_wp2;go_ret;exact⟨Ce.Says.no cG.out,by first|exact below_drewN cH.out _|exact below_drewN (below_drewN cH.out _) _⟩
         .have HW:Hid (a<u\/(a=u/\z<v)):= .inr ⟨g2,by omega⟩
          go_quiet (fail);go_wp2;go_roundw
          case rel=>
           refine⟨m+1+1,by omega,by go_num,hnew.out,fun i p q hi hp hq=> ?_,by first|exact below_drewN cH.out _|exact below_drewN (below_drewN cH.out _) _⟩;by_cases Mf:i=m
           .subst Mf
            rw[HQ.out] at hp;rw[HP.out] at hq;cases hp;cases hq;exact HW.out
           .exact Y9.out i p q (by omega) hp hq
          case measure=>simp[intOf];omega
        .have t2:(a==u)=false:=by simp[g2]
         have HW:Hid (a<u\/(a=u/\z<v)):= .inl (by omega);go_quiet (fail);go_wp2;go_roundw
         case rel=>
          refine⟨m+1+1,by omega,by go_num,hnew.out,fun i p q hi hp hq=> ?_,by first|exact below_drewN cH.out _|exact below_drewN (below_drewN cH.out _) _⟩;by_cases Mf:i=m
          .subst Mf
           rw[HQ.out] at hp;rw[HP.out] at hq;cases hp;cases hq;exact HW.out
          .exact Y9.out i p q (by omega) hp hq
         case measure=>simp[intOf];omega
    .have HV:Hid (∀W,Calls prog 99 #[.int .i64 v] W fun e w'=>e= .returned (.bool false)/\w'=W):=fun W=>mS hv W
     have cG:Hid (¬Ce.kj es):=TR.out (fun h=>hv h.2.1);clear hu hv;go_wp2_with fail;go_quiet (first|(go_at_call 99;exact abq (HU.out _))|(go_at_call 99;exact abq (HV.out _)));go_wp2;go_ret;exact⟨Ce.Says.no cG.out,below_drewN cH.out _⟩
   .have HU:Hid (∀W,Calls prog 99 #[.int .i64 u] W fun e w'=>e= .returned (.bool false)/\w'=W):=fun W=>mS hu W
    have cG:Hid (¬Ce.kj es):=TR.out (fun h=>hu h.1);clear hu;go_wp2_with fail;go_quiet ((go_at_call 99;exact abq (HU.out _)));go_wp2;go_ret;exact⟨Ce.Says.no cG.out,below_drewN cH.out _⟩
  .have aQ:¬((k:Int)<(n:Int)):=by omega
   obtain rfl:k=n:=by omega
   by_cases hc:k<=4194304
   .have sK:(k:Int)<=4194304:=by omega
    go_wp2;go_ret;refine⟨Ce.Says.yes ⟨⟨fun p hp=> ?_,fun i p q hp hq=> ?_⟩,by have:=HN.out;omega⟩,cH.out⟩
    .obtain⟨i,hi⟩:=aaS hp
     exact fX.out i p (by have:=HN.out;have:=(aah.1 hi).1;omega) hi
    .exact Y9.out i p q (by have:=HN.out;have:=(aah.1 hq).1;omega) hp hq
   .have sK:¬((k:Int)<=4194304):=by omega
    go_wp2;go_ret;exact⟨Ce.Says.no fun h=>hc (by have:=HN.out;have:=h.2;omega),cH.out⟩
end
section
open Go.Proofs.Tryz
open Go.RowKit
def dd (u:Nat):List UInt8:=if u=0 then [] else Lib.decDigits u
theorem Cr (u:Nat) (h:u≠0):dd u=dd (u/10)++[UInt8.ofNat (48+u%10)]:=by
 unfold dd;rw[if_neg h];by_cases h9:u<10
 .rw[Lib.decDigits_one h9,if_pos (by omega),abt h9]
  rfl
 .rw[if_neg (by omega)]
  conv=>lhs;rw[Lib.decDigits,dif_neg h9]
theorem NX (u:Nat) (h:u≠0):dd u=Lib.decDigits u:=by unfold dd;rw[if_neg h]
theorem jk (x:Nat) (hx:x<256) (W:World):
 (convert 35 9 (.slice (some ⟨W.heap.size,0,none⟩) 1 1)).run prog (W.alloc (.cells #[.int .u8 (x:Int)] 5))= .ok (.string ⟨#[UInt8.ofNat x]⟩) (W.alloc (.cells #[.int .u8 (x:Int)] 5)):=by
 refine run_convert_bytes_back (P:=prog) _ 35 9 5 ⟨W.heap.size,0,none⟩ 1 [UInt8.ofNat x] Tryz.underlying35 Tryz.underlying5 Tryz.underlying9 ?_;intro j hj;simp at hj;subst hj;simp[Addr.add,World.cell?_alloc_at];omega
theorem FC (m:Nat) (hm:0<m) (h1:(m:Int)<=9223372036854775807) (w:World):
 Calls prog 58 #[.int .i64 m] w fun e w'=>e= .returned (.string ⟨(Lib.decDigits m).toArray⟩)/\w.grownBy w' none:=by
 have j0:((m:Int)==0)=false:=by simp;omega
 have hlen:=aen (m:Int) (by omega) h1;rw[aeG] at hlen;have HLEN:=ζ hlen;clear hlen;go_enter func58,ntmps58;go_wp2;go_loopw [3,4] (fun s c wr=>∃(k:Nat) (l:List UInt8),k<=m/\Lib.decDigits m=dd k++l/\c= .int .i64 k/\s= .string ⟨l.toArray⟩/\w.grownBy wr none) (fun _ c _=>(intOf c).toNat)
 case atStart=>exact⟨m,[],aad _,by rw[NX m (by omega)];simp,rfl,rfl,adf _ _⟩
 case round=>
  obtain⟨k,l,hk,hd,rfl,rfl,hg⟩:=hrel;have dW:l.length<=21:=by
   have:=congrArg List.length hd;rw[aar] at this;have:=HLEN.out;omega
  have HD:=ζ hd;clear hd;by_cases hz:k=0
  .subst hz
   go_wp2;go_ret;refine⟨?_,hg⟩;rw[HD.out];rfl
  .have j1:((k:Int) != 0)=true:=by simp;omega
   have hk0:(0:Int)<=(k:Int):=by omega
   have hk1:(k:Int)<=9223372036854775807:=by omega
   have kc:∀W:World,(convert 35 9 (.slice (some ⟨W.heap.size,0,none⟩) 1 1)).run prog (W.alloc (.cells #[.int .u8 (48+(k:Int)%10)] 5))= .ok (.string ⟨#[UInt8.ofNat (48+k%10)]⟩) (W.alloc (.cells #[.int .u8 (48+(k:Int)%10)] 5)):=fun W=>by
    have h:=jk (48+k%10) (by omega) W;rw[show((48+k%10:Nat):Int)=48+(k:Int)%10 by omega] at h;exact h
   go_wp2;go_roundw
   case rel=>
    refine⟨k/10,UInt8.ofNat (48+k%10)::l,by omega,?_,by go_num,?_,dO hg _⟩
    .rw[HD.out,Cr k hz];simp
    .simp[ado]
   case measure=>simp[intOf];omega
theorem FD (m:Nat) (hm:0<m) (h1:(m:Int)<=9223372036854775808) (w:World):
 Calls prog 58 #[.int .i64 (-(m:Int))] w fun e w'=>e= .returned (.string ⟨(45::Lib.decDigits m).toArray⟩)/\w.grownBy w' none:=by
 have j0:(-(m:Int)==0)=false:=by simp;omega
 have j2: -(m:Int)<0:=by omega
 have hlen:=aen (-(m:Int)) (by omega) (by omega);rw[Lib.itoa_neg m hm] at hlen;have HLEN:=ζ hlen;clear hlen;go_enter func58,ntmps58;go_wp2;go_loopw [3,4] (fun s c wr=>∃(k:Nat) (l:List UInt8),k<=m/\Lib.decDigits m=dd k++l/\c= .int .i64 (-(k:Int))/\s= .string ⟨l.toArray⟩/\w.grownBy wr none) (fun _ c _=>(intOf c).natAbs)
 case atStart=>exact⟨m,[],aad _,by rw[NX m (by omega)];simp,rfl,rfl,adf _ _⟩
 case round=>
  obtain⟨k,l,hk,hd,rfl,rfl,hg⟩:=hrel;have dW:l.length<=21:=by
   have:=congrArg List.length hd;rw[aar] at this;have:=HLEN.out;simp at this;omega
  have HD:=ζ hd;clear hd;by_cases hz:k=0
  .subst hz
   go_wp2;go_ret;refine⟨?_,hg⟩;rw[HD.out];simp[ado,dd]
  .have j1:(-(k:Int) != 0)=true:=by simp;omega
   have kc:∀W:World,(convert 35 9 (.slice (some ⟨W.heap.size,0,none⟩) 1 1)).run prog (W.alloc (.cells #[.int .u8 (48+(k:Int)%10)] 5))= .ok (.string ⟨#[UInt8.ofNat (48+k%10)]⟩) (W.alloc (.cells #[.int .u8 (48+(k:Int)%10)] 5)):=fun W=>by
    have h:=jk (48+k%10) (by omega) W;rw[show((48+k%10:Nat):Int)=48+(k:Int)%10 by omega] at h;exact h
   by_cases hmod:k%10=0
   .have kc0:∀W:World,(convert 35 9 (.slice (some ⟨W.heap.size,0,none⟩) 1 1)).run prog (W.alloc (.cells #[.int .u8 (48+ -((k:Int)%10))] 5))= .ok (.string ⟨#[UInt8.ofNat 48]⟩) (W.alloc (.cells #[.int .u8 (48+ -((k:Int)%10))] 5)):=fun W=>by
     have h:=jk 48 (by omega) W;rw[show((48:Nat):Int)=48+ -((k:Int)%10) by omega] at h;exact h
    have hm0:(k:Int)%10<=0:=by omega
    have HM:=ζ hmod;clear hmod kc;go_wp2;go_roundw
    case rel=>
     refine⟨k/10,UInt8.ofNat (48+k%10)::l,by omega,?_,by go_num,?_,dO hg _⟩
     .rw[HD.out,Cr k hz];simp
     .rw[HM.out];simp[ado]
    case measure=>simp[intOf];omega
   .have hm0:0<(k:Int)%10:=by omega
    clear hmod;go_wp2;go_roundw
    case rel=>
     refine⟨k/10,UInt8.ofNat (48+k%10)::l,by omega,?_,by go_num,?_,dO hg _⟩
     .rw[HD.out,Cr k hz];simp
     .simp[ado]
    case measure=>simp[intOf];omega
theorem Dj (w:World):
 Calls prog 58 #[.int .i64 0] w fun e w'=>e= .returned (.string ⟨(Lib.itoa 0).toArray⟩)/\w.grownBy w' none:=by
 have e0:Lib.itoa 0=[48]:=by decide +kernel
 rw[e0];go_enter func58,ntmps58;go_wp2;go_ret;exact⟨rfl,adf _ _⟩
theorem FE (n:Int) (h0: -9223372036854775808<=n) (h1:n<=9223372036854775807) (w:World):
 Calls prog 58 #[.int .i64 n] w fun e w'=>e= .returned (.string ⟨(Lib.itoa n).toArray⟩)/\w.grownBy w' none:=by
 rcases Int.lt_trichotomy n 0 with h|h|h
 .obtain⟨m,rfl⟩:∃m:Nat,n= -(m:Int):=⟨n.natAbs,by omega⟩
  rw[Lib.itoa_neg m (by omega)];exact FD m (by omega) (by omega) w
 .subst h
  exact Dj w
 .obtain⟨m,rfl⟩:∃m:Nat,n=(m:Int):=⟨n.toNat,by omega⟩
  rw[aeG];exact FC m (by omega) h1 w
end
end Go.Proofs.YtdbjpbjocmcpkaaGreatDoor
