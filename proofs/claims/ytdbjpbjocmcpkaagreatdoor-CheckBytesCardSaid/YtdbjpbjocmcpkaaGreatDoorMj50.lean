import Derived.Test.YtdbjpbjocmcpkaaGreatDoorMj49
import Derived.Test.YtdbjpbjocmcpkaaGreatDoorMj44
import Derived.Test.YtdbjpbjocmcpkaaGreatDoorMj31
set_option maxHeartbeats 8000000
set_option maxRecDepth 100000
namespace Go.Proofs.YtdbjpbjocmcpkaaGreatDoor
section
open Go.Proofs.Tryz
open Go.RowKit Go.Sort
theorem Fh (n:Int) (ao:Option Addr) (ca:Nat) (es:List (Int×Int)) (xo:Option Addr) (xc:Nat) (ls:List (List Int)) (w:World) (he:ah w ao es) (hl:es.length<=4611686018427387904) (hx:bH w xo ls):
 Calls prog 45 #[aB n ao es.length ca,.slice xo ls.length xc] w (Bx (Ro.check n es ls).2 (Fa.gz n.toNat es ls) w):=by
 have hb0:Below w.heap.size w (w.alloc (.cells #[.int .i64 n,.slice ao es.length ca] 24)):=(aaG _ _).alloc (aaF _) _;have HN:=ζ (NV n ao ca es xo xc ls _ (he.later hb0) hl (hx.later hb0));have jX:=ζ (heap_alloc_new w (.cells #[.int .i64 n,.slice ao es.length ca] 24));have aI:=ζ hb0;have Ty:Hid (∀U,Below w.heap.size w U->Calls prog 89 #[.agg #[.int .i64 n,.slice ao es.length ca]] U (JE n es U)):=fun U hU=>T7 n ao ca es U (he.later hU) hl
 have HIS:Hid (∀U,Below w.heap.size w U->Calls prog 90 #[.agg #[.int .i64 n,.slice ao es.length ca]] U (M6 n es U)):=fun U hU=>CQ n ao ca es U (he.later hU) hl
 unfold aB at HN ⊢;obtain⟨C,hC⟩:∃C,C=(Ro.check n es ls).2:=⟨_,rfl⟩;have HC:=ζ hC;rw[<-hC] at HN ⊢;clear he hx hb0 hC;go_enter func45,ntmps45;go_wp2_with (go_at_call 88;refine HN.out.mono ?_;intro e w1 hp;obtain⟨hb1,⟨hc,rfl⟩|⟨hc,v,vs,rfl,OI⟩⟩:=hp<;>refine aaI ?_)
 all_goals refine ζ ?_
 .have HB:=ζ (aI.out.trans (hb1.mono aI.out.size))
  have hcb:(C != 0)=true:=by simpa using hc
  have lV:=ζ hc;clear hc hb1;go_wp2;go_ret2;exact⟨by rw[if_neg lV.out];rfl,HB.out⟩
 .have hc':=hc
  rw[HC.out] at hc';have hro:=Ro.ji.1 hc';have hv:=Si.aL.1 hro.val;obtain⟨N,rfl⟩:∃N:Nat,n=(N:Int):=⟨n.toNat,by have:=hv.lo;omega⟩;have hfw:=hv.few;have hhi:=hv.hi;have HV:=ζ hv;obtain⟨-,g,lM,hge,-⟩:=Fa.G9 hro;have HB:=ζ (aI.out.trans (hb1.mono aI.out.size));subst hc;have t0:((0:Int) != 0)=false:=rfl;have hs1:=HB.out.size;have PB:Hid (∀U,Below w1.heap.size w1 U->U.cell? ⟨w.heap.size,0,none⟩=some (.int .i64 (N:Int))/\U.cell? ⟨w.heap.size,1,none⟩=some (.slice ao es.length ca)):=fun U hU=>by
   have ou:=(hb1.block _ (lt_of_block jX.out)).trans jX.out;obtain⟨x0,x1,-⟩:=af ((hU.block _ (lt_of_block ou)).trans ou);exact⟨x0,x1⟩
  obtain⟨fo,fc,qH⟩:=bG OI;obtain⟨F,hF⟩:∃F,F=(Fa.all es ls).length:=⟨_,rfl⟩;rw[<-hF] at qH hge;subst qH;obtain⟨c,hcc⟩:∃c,c=Co.cnt N (Fa.cp N es):=⟨_,rfl⟩;obtain⟨i,hii⟩:∃i,i=Fa.mo N es:=⟨_,rfl⟩;rw[<-hcc,<-hii] at hge;have hcl:c<=N:=by rw[hcc];exact Co.yC _ _
  have hil:i<=N:=by rw[hii];exact Co.bM _ _
  have Bp:Hid (Fa.gz (N:Int).toNat es ls=((2*(c:Int)-(i:Int)-(N:Int)+(es.length:Int)-(F:Int)).tdiv 2)):=by
   have:(N:Int).toNat=N:=by omega
   rw[this];unfold Fa.gz;rw[<-hcc,<-hii,<-hF];exact ζ rfl
  have q1:IntKind.i64.wrap ((2:Int)*(c:Int))=2*(c:Int):=by rw[aaK];omega
  have q2:IntKind.i64.wrap (2*(c:Int)-(i:Int))=2*(c:Int)-(i:Int):=by rw[aaK];omega
  have q3:IntKind.i64.wrap (2*(c:Int)-(i:Int)-(N:Int))=2*(c:Int)-(i:Int)-(N:Int):=by rw[aaK];omega
  have q4:IntKind.i64.wrap (2*(c:Int)-(i:Int)-(N:Int)+(es.length:Int))=2*(c:Int)-(i:Int)-(N:Int)+(es.length:Int):=by rw[aaK];omega
  have q5:IntKind.i64.wrap (2*(c:Int)-(i:Int)-(N:Int)+(es.length:Int)-(F:Int))=2*(c:Int)-(i:Int)-(N:Int)+(es.length:Int)-(F:Int):=by rw[aaK];omega
  have q6:IntKind.i64.wrap ((2*(c:Int)-(i:Int)-(N:Int)+(es.length:Int)-(F:Int)).tdiv 2)=(2*(c:Int)-(i:Int)-(N:Int)+(es.length:Int)-(F:Int)).tdiv 2:=by
   have e:2*(c:Int)-(i:Int)-(N:Int)+(es.length:Int)-(F:Int)=2*(g:Int):=by omega
   rw[e,Int.mul_tdiv_cancel_left _ (by decide),aaK];omega
  have BZ:=ζ (Ty.out w1 HB.out);have Ak:=ζ hcc;have HII:=ζ hii;obtain⟨YC,YB⟩:=PB.out w1 (aaG _ _);clear hb1 hro hv OI lM hge hF hcc hii hfw hc';go_wp2_with (go_at_call 89;refine BZ.out.mono ?_;intro e w2 hp;obtain⟨⟨m1,ov,hmn,-,rfl,-⟩|⟨hcv,-⟩,hb2⟩:=hp<;>refine aaI ?_)
  all_goals (first|(exact absurd (Si.aL.2 HV.out) (by rw[hcv];simp))|skip)
  refine ζ ?_;have hm1:m1=N:=by omega
  subst hm1;have ec:Co.cnt m1 (Co.zB m1 es)=c:=Ak.out.symm;rw[ec];have Vz:Below w1.heap.size w1 w2:=hb2;have aA:=ζ (HB.out.trans (hb2.mono hs1));have mD:=ζ (HIS.out w2 aA.out);have Bt:=ζ Vz;clear YC YB;obtain⟨YC,YB⟩:=PB.out w2 Vz;clear hb2 Vz ec hmn BZ;go_wp2_with (go_at_call 90;refine mD.out.mono ?_;intro e w3 hp;obtain⟨⟨m2,hmn,-,rfl⟩|⟨hcv,-⟩,hb3⟩:=hp<;>refine aaI ?_)
  all_goals (first|(exact absurd (Si.aL.2 HV.out) (by rw[hcv];simp))|skip)
  refine ζ ?_;have hm2:m2=m1:=by omega
  subst hm2;have ei:Co.iso m2 es=i:=HII.out.symm;rw[ei];have aK:=ζ (aA.out.trans (hb3.mono aA.out.size));have lu:=Bt.out.trans (hb3.mono Bt.out.size);clear YC YB;obtain⟨YC,YB⟩:=PB.out w3 lu;clear hb3 lu ei hmn mD;go_wp2;go_ret2;exact⟨by rw[if_pos rfl,Bp.out];rfl,aK.out⟩
theorem IA (n:Int) (ao:Option Addr) (ca:Nat) (es:List (Int×Int)) (xo:Option Addr) (xc:Nat) (ls:List (List Int)) (w:World) (he:ah w ao es) (hl:es.length<=4611686018427387904) (hx:bH w xo ls):
 Calls prog 22 #[aB n ao es.length ca,.slice xo ls.length xc] w fun e w'=>e= .returned (.bool (decide ((Ro.check n es ls).2=0/\Fa.gz n.toNat es ls=0)))/\Below w.heap.size w w':=by
 have hb0:Below w.heap.size w (w.alloc (.cells #[.int .i64 n,.slice ao es.length ca] 24)):=(aaG _ _).alloc (aaF _) _;have HN:=ζ (Fh n ao ca es xo xc ls _ (he.later hb0) hl (hx.later hb0));have aI:=ζ hb0;unfold aB at HN ⊢;obtain⟨C,hC⟩:∃C,C=(Ro.check n es ls).2:=⟨_,rfl⟩;obtain⟨g,hg⟩:∃g,g=Fa.gz n.toNat es ls:=⟨_,rfl⟩;rw[<-hC,<-hg];rw[<-hC,<-hg] at HN;obtain⟨T,hT⟩:∃T,T=decide (C=0/\g=0):=⟨_,rfl⟩;rw[<-hT];by_cases h0:C=0
 .subst h0
  have t0:((0:Int)==0)=true:=rfl;by_cases h1:g=0
  .have t1:(g==0)=true:=by simpa using h1
   have hD:T=true:=by rw[hT];simp[h1]
   subst hD;have wR:Hid (∀(W W':World) (e:Ending),Bx 0 g W e W'->e= .returned (.tuple #[.int .i64 g,.int .i64 0])/\Below W.heap.size W W'):=fun W W' e h=>⟨h.1,h.2⟩
   clear he hx hb0 hC hg h1 hT;go_enter func22,ntmps22;go_wp2_with (go_at_call 45;refine HN.out.mono ?_;intro e w1 hp;obtain⟨rfl,hb1⟩:=wR.out _ _ _ hp;refine aaI ?_);refine ζ ?_;have HB:=ζ (aI.out.trans (hb1.mono aI.out.size));clear hb1 hp;go_wp2;go_ret;exact⟨rfl,HB.out⟩
  .have t1:(g==0)=false:=by simpa using h1
   have hD:T=false:=by rw[hT];simp[h1]
   subst hD;have wR:Hid (∀(W W':World) (e:Ending),Bx 0 g W e W'->e= .returned (.tuple #[.int .i64 g,.int .i64 0])/\Below W.heap.size W W'):=fun W W' e h=>⟨h.1,h.2⟩
   clear he hx hb0 hC hg h1 hT;go_enter func22,ntmps22;go_wp2_with (go_at_call 45;refine HN.out.mono ?_;intro e w1 hp;obtain⟨rfl,hb1⟩:=wR.out _ _ _ hp;refine aaI ?_);refine ζ ?_;have HB:=ζ (aI.out.trans (hb1.mono aI.out.size));clear hb1 hp;go_wp2;go_ret;exact⟨rfl,HB.out⟩
 .have t0:(C==0)=false:=by simpa using h0
  have hD:T=false:=by rw[hT];simp[h0]
  subst hD;have wR:Hid (∀(W W':World) (e:Ending),Bx C g W e W'->e= .returned (.tuple #[.int .i64 0,.int .i64 C])/\Below W.heap.size W W'):=fun W W' e h=>⟨by rw[h.1,if_neg h0],h.2⟩
  clear he hx hb0 hC hg h0 hT;go_enter func22,ntmps22;go_wp2_with (go_at_call 45;refine HN.out.mono ?_;intro e w1 hp;obtain⟨rfl,hb1⟩:=wR.out _ _ _ hp;refine aaI ?_);refine ζ ?_;have HB:=ζ (aI.out.trans (hb1.mono aI.out.size));clear hb1 hp;go_wp2;go_ret;exact⟨rfl,HB.out⟩
end
section
open Go.RowKit Go.Sort Go.Maps
namespace Ku
def cT (R:List (List Int)) (p:Int×Int):Nat->Nat
 |0=>0
 |k+1=>cT R p k+(if ends (R.getD k [])=p then 1 else 0)
theorem GH (R:List (List Int)) (k:Nat) (p:Int×Int) (hp:p.1≠p.2):opn R (k+1) p=if ends (R.getD k [])=p then some k else opn R k p:=by
 simp only[opn];by_cases h:(ends (R.getD k [])).1≠(ends (R.getD k [])).2
 .rw[if_pos h]
  unfold J7;by_cases e:p=ends (R.getD k [])
  .rw[if_pos e,if_pos e.symm]
  .rw[if_neg e,if_neg fun h=>e h.symm]
 .rw[if_neg h,if_neg]
  intro e;rw[e] at h;exact h hp
theorem yH {R:List (List Int)} {p:Int×Int} (hp:p.1≠p.2):∀{k:Nat},cT R p k=0↔opn R k p=none
 |0=>by simp[cT,opn]
 |k+1=>by
  rw[GH R k p hp];simp only[cT];by_cases e:ends (R.getD k [])=p
  .rw[if_pos e,if_pos e]
   simp
  .rw[if_neg e,if_neg e,abG]
   exact yH hp
theorem Yk {l:List Int} (e6:(ends l).1<=(ends l).2) {x y:Int} (hxy:x≠y):hit l x y=if ends l=key (x,y) then some (fG x l) else none:=by
 unfold ends at e6 ⊢;unfold hit key fG;dsimp only at e6 ⊢;generalize gI l 0=a at*;generalize gI l (l.length-1)=b at*;by_cases h1:a=x/\b=y
 .obtain⟨rfl,rfl⟩:=h1
  have h2:¬b<a:=by omega
  simp[h2]
 .rw[if_neg h1]
  by_cases h2:a=y/\b=x
  .obtain⟨rfl,rfl⟩:=h2
   have h3:a<b:=by omega
   have h4:¬a=b:=by omega
   simp[h3,h4]
  .rw[if_neg h2]
   have h3:¬(a,b)=(if y<x then (y,x) else (x,y)):=by
    split
    .intro e
     exact h2 ⟨congrArg Prod.fst e,congrArg Prod.snd e⟩
    .intro e
     exact h1 ⟨congrArg Prod.fst e,congrArg Prod.snd e⟩
   rw[if_neg h3]
theorem Dq {x y:Int} (h:x≠y):(key (x,y)).1≠(key (x,y)).2:=by
 unfold key;dsimp only
 split
 .exact fun e=>h e.symm
 .exact h
theorem s9 {R:List (List Int)} (e6:∀l∈R,(ends l).1<=(ends l).2) {x y:Int} (hxy:x≠y):∀{k:Nat},k<=R.length->cI R x y k=(match opn R k (key (x,y)) with|some i=>fG x (R.getD i [])|none=>[],cT R (key (x,y)) k)
 |0,_=>rfl
 |k+1,hk=>by
  obtain⟨l,hl⟩:∃l,R[k]? =some l:=⟨_,aaE (by omega)⟩;have e:R.getD k []=l:=by rw[aaL,hl];rfl
  have hh:=Yk (e6 l (aaJ hl)) hxy;rw[GH R k _ (Dq hxy)];simp only[cT];rw[e];by_cases hc:ends l=key (x,y)
  .rw[if_pos hc] at hh
   rw[wJ hl hh,if_pos hc,if_pos hc,s9 e6 hxy (by omega)];dsimp only;rw[e]
  .rw[if_neg hc] at hh
   rw[wK hl hh,if_neg hc,if_neg hc,s9 e6 hxy (by omega)];rfl
theorem xF (E:Int×Int):∀{ps:List (Int×Int)},ps.Pairwise (fun p q=>key p≠key q)->(ps.map fun p=>if E=key p then 1 else 0).sum<=1
 |[],_=>by simp
 |p::ps,h=>by
  have h':=abD.1 h;rw[acB,ade];by_cases e:E=key p
  .rw[if_pos e]
   have:(ps.map fun p=>if E=key p then 1 else 0).sum=0:=by
    have hz:∀q∈ps,(if E=key q then 1 else 0)=0:=fun q hq=>if_neg fun e2=>h'.1 q hq (e▸e2)
    clear h h'
    induction ps with
    |nil=>rfl
    |cons q ps ih=>
     rw[acB,ade,hz q (by simp),ih fun r hr=>hz r (by simp[hr])]
   omega
  .rw[if_neg e]
   have:=xF E h'.2;omega
theorem Ih {R:List (List Int)} {ps:List (Int×Int)} (h:ps.Pairwise fun p q=>key p≠key q):∀k,(ps.map fun p=>cT R (key p) k).sum<=k
 |0=>by
  clear h
  induction ps with
  |nil=>simp
  |cons p ps ih=>rw[acB,ade];simp only[cT];simp only[cT] at ih;omega
 |k+1=>by
  have h1:=Ih (R:=R) h k;have h2:=xF (ends (R.getD k [])) h;have:(ps.map fun p=>cT R (key p) (k+1)).sum=(ps.map fun p=>cT R (key p) k).sum+(ps.map fun p=>if ends (R.getD k [])=key p then 1 else 0).sum:=by
   clear h h1 h2
   induction ps with
   |nil=>rfl
   |cons p ps ih=>
    simp only[acB,ade];rw[ih];simp only[cT];omega
  omega
theorem Dn:∀{l:List Nat},(∀x∈l,1<=x)->l.length<=l.sum
 |[],_=>by simp
 |x::l,h=>by
  have h1:=h x (by simp);have h2:=Dn fun y hy=>h y (ab1 x hy)
  rw[abx,ade];omega
theorem MW:∀{l:List Nat},(∀x∈l,1<=x)->l.sum<=l.length->∀x∈l,x=1
 |[],_,_,x,hx=>by simp at hx
 |y::l,h,hs,x,hx=>by
  have h1:=h y (by simp);have h':∀x∈l,1<=x:=fun z hz=>h z (ab1 y hz)
  have h2:=Dn h';rw[abx,ade] at hs;rcases aa4.1 hx with rfl|hx
  .omega
  .exact MW h' (by omega) x hx
theorem Lu {R:List (List Int)} {p:Int×Int} (hp:p.1≠p.2):(∃i,idx R p=some i)↔1<=cT R (key p) R.length:=by
 have h:=yH (R:=R) (p:=key p) (Dq (x:=p.1) (y:=p.2) hp) (k:=R.length);unfold idx;cases ho:opn R R.length (key p) with
 |none=>
  rw[ho] at h;have:=h.2 rfl;rw[this];simp
 |some i=>
  rw[ho] at h;have:cT R (key p) R.length≠0:=fun e=>by cases h.1 e
  constructor
  .intro _;omega
  .intro _;exact⟨i,rfl⟩
theorem V3 {R:List (List Int)} {ps:List (Int×Int)} (hlen:R.length=ps.length) (OL:ps.Pairwise fun p q=>key p≠key q) (hne:∀p∈ps,p.1≠p.2):All R ps↔∀p∈ps,cT R (key p) R.length=1:=by
 constructor
 .rintro⟨-,h⟩ p hp
  have hs:=Ih (R:=R) OL R.length;refine MW (l:=ps.map fun p=>cT R (key p) R.length) (fun x hx=> ?_) (by rw[aa3];omega) _ (List.mem_map_of_mem hp);obtain⟨q,hq,rfl⟩:=abO.1 hx;exact(Lu (hne q hq)).1 (h q hq)
 .intro h
  refine⟨hlen,fun p hp=>(Lu (hne p hp)).2 (by rw[h p hp];exact aaF _)⟩
theorem Rb {R:List (List Int)} (e6:∀l∈R,(ends l).1<=(ends l).2) {x y:Int} (hxy:x≠y) (h1:cT R (key (x,y)) R.length=1):(cI R x y R.length).1=pathOf R (x,y):=by
 rw[s9 e6 hxy (aaF _)];unfold pathOf idx;cases ho:opn R R.length (key (x,y)) with
 |none=>
  have:=(yH (R:=R) (p:=key (x,y)) (Dq hxy)).2 ho;omega
 |some i=>rfl
theorem Hq {ps:List (Int×Int)} (h:qX ps):ps.Pairwise fun p q=>key p≠key q:=by
 rw[abr];intro i j hi hj hij;exact h i j _ _ (by omega) (aaE hi) (aaE hj)
theorem O6 {R:List (List Int)} (e6:∀l∈R,(ends l).1<=(ends l).2) {br:List Int} {qs:List (Nat×Nat)} {ps:List (Int×Int)} (hps:ps=qs.map fun q=>(gI br q.1,gI br q.2)) (hlen:R.length=ps.length) (OL:ps.Pairwise fun p q=>key p≠key q) (hne:∀p∈ps,p.1≠p.2):
 ((∀q∈qs,(way R br q).2=1)↔All R ps)/\(All R ps->(qs.map fun q=>(way R br q).1)=ps.map (pathOf R)):=by
 have hq:∀q∈qs,(gI br q.1,gI br q.2)∈ps:=fun q hq=>by rw[hps];exact List.mem_map_of_mem (f:=fun q=>(gI br q.1,gI br q.2)) hq
 have hw:∀q∈qs,(way R br q).2=cT R (key (gI br q.1,gI br q.2)) R.length:=fun q h=>by
  unfold way;rw[s9 e6 (hne _ (hq q h)) (aaF _)]
 rw[V3 hlen OL hne];refine⟨⟨fun h p hp=> ?_,fun h q h'=> ?_⟩,fun h=> ?_⟩
 .rw[hps] at hp
  obtain⟨q,h',rfl⟩:=abO.1 hp;rw[<-hw q h'];exact h q h'
 .rw[hw q h']
  exact h _ (hq q h')
 .rw[hps,ac6]
  refine abS fun q h'=> ?_
  exact Rb e6 (hne _ (hq q h')) (h _ (hq q h'))
theorem T6 {n:Int} {es:List (Int×Int)} (hv:Si.Val n es):∀l∈rows es hv es.length,(ends l).1<=(ends l).2:=by
 intro l hl;obtain⟨t,ht⟩:=abg hl;obtain⟨c,hc,rfl⟩:=rZ ht;have oO:=yE (aaF _) (aaJ hc);have hlen:=bE (S:=gs es hv) oO.ne;have hp:=dF oO.ne;have hg:∀i,i<(vs (gs es hv) c).length->gI (ZL (vs (gs es hv) c)) i=(at_ (vs (gs es hv) c) i:Int):=fun i hi=>by
  refine bR ?_;unfold ZL;rw[abj,QU hi];rfl
 have:=oO.up;unfold Up at this;unfold ends;dsimp only;rw[bS,hg 0 (by omega),hg _ (by omega)];omega
theorem Mk {m:Nat} {es:List (Int×Int)} (hv:Si.Val (m:Int) es) {v:Nat} (h:v<m):gI (Si.aS (m:Int) es) v=(dg es v:Int):=by
 have:=Cs.pX hv es.length (aaF _) v h;rw[abQ] at this;exact bR this
theorem xH {m:Nat} {es:List (Int×Int)} (hv:Si.Val (m:Int) es) {d:Nat} (h0:d≠0) (h2:d≠2):∀{k:Nat},k<=m->(cQ (Si.aS (m:Int) es) d k).length<=(aY es k).length/\((cQ (Si.aS (m:Int) es) d k).length=(aY es k).length↔∀v∈aY es k,dg es v=d)/\((∀v∈aY es k,dg es v=d)->cQ (Si.aS (m:Int) es) d k=ZL (aY es k))
 |0,_=>by simp[cQ,aY,ZL]
 |k+1,hk=>by
  obtain⟨i1,i2,i3⟩:=xH hv h0 h2 (k:=k) (by omega);have hg:=Mk hv (v:=k) (by omega);by_cases hd:dg es k=d
  .have e1:cQ (Si.aS (m:Int) es) d (k+1)=cQ (Si.aS (m:Int) es) d k++[(k:Int)]:=if_pos (by rw[hg,hd])
   have e2:aY es (k+1)=aY es k++[k]:=sZ (by omega);rw[e1,e2];refine⟨by simp;omega,⟨fun h v hv'=> ?_,fun h=> ?_⟩,fun h=> ?_⟩
   .rcases abo.1 hv' with h'|h'
    .exact i2.1 (by simpa using h) v h'
    .rw[abe.1 h']
     exact hd
   .have:=i2.2 fun v hv'=>h v (abV _ hv')
    simp[this]
   .rw[i3 fun v hv'=>h v (abV _ hv')]
    simp[ZL]
  .have e1:cQ (Si.aS (m:Int) es) d (k+1)=cQ (Si.aS (m:Int) es) d k:=if_neg (by rw[hg];omega)
   by_cases hb:dg es k≠0/\dg es k≠2
   .have e2:aY es (k+1)=aY es k++[k]:=sZ hb
    rw[e1,e2];refine⟨by simp;omega,⟨fun h=> ?_,fun h=> ?_⟩,fun h=> ?_⟩
    .simp at h
     omega
    .exact absurd (h k (by simp)) hd
    .exact absurd (h k (by simp)) hd
   .rw[e1,Cj hb]
    exact⟨i1,i2,i3⟩
theorem zq {m:Nat} {es:List (Int×Int)} (hv:Si.Val (m:Int) es):∀{k:Nat},k<=m->(cQ (Si.aS (m:Int) es) 0 k).length+(cQ (Si.aS (m:Int) es) 2 k).length+(aY es k).length=k
 |0,_=>rfl
 |k+1,hk=>by
  have ih:=zq hv (k:=k) (by omega);have hg:=Mk hv (v:=k) (by omega);simp only[cQ,aY];rw[hg];by_cases h0:dg es k=0
  .rw[if_pos (by omega),if_neg (by omega),if_neg (by omega)]
   simp;omega
  .by_cases h2:dg es k=2
   .rw[if_neg (by omega),if_pos (by omega),if_neg (by omega)]
    simp;omega
   .rw[if_neg (by omega),if_neg (by omega),if_pos (by omega)]
    simp;omega
theorem Lq {m:Nat} {es:List (Int×Int)} (hv:Si.Val (m:Int) es) (R:List (List Int)):M7 (Si.aS (m:Int) es) m R↔((aY es m).length=5/\∀v∈aY es m,dg es v=4)/\R.length=10:=by
 obtain⟨i1,i2,i3⟩:=xH hv (d:=4) (by omega) (by omega) (aaF m);have hr:=zq hv (aaF m);unfold M7 zu;constructor
 .rintro⟨a,b,c⟩
  exact⟨⟨by omega,i2.1 (by show(cQ (Si.aS (m:Int) es) 4 m).length=_;omega)⟩,c⟩
 .rintro⟨⟨a,b⟩,c⟩
  have:=i2.2 b;refine⟨?_,by omega,c⟩;show(cQ (Si.aS (m:Int) es) (4:Nat) m).length=5;omega
theorem G4 {m:Nat} {es:List (Int×Int)} (hv:Si.Val (m:Int) es) (R:List (List Int)):Bo (Si.aS (m:Int) es) m R↔((aY es m).length=6/\∀v∈aY es m,dg es v=3)/\R.length=9:=by
 obtain⟨i1,i2,i3⟩:=xH hv (d:=3) (by omega) (by omega) (aaF m);have hr:=zq hv (aaF m);unfold Bo zu;constructor
 .rintro⟨a,b,c⟩
  exact⟨⟨by omega,i2.1 (by show(cQ (Si.aS (m:Int) es) 3 m).length=_;omega)⟩,c⟩
 .rintro⟨⟨a,b⟩,c⟩
  have:=i2.2 b;refine⟨?_,by omega,c⟩;show(cQ (Si.aS (m:Int) es) (3:Nat) m).length=6;omega
theorem MZ {R:List (List Int)} (e6:∀l∈R,(ends l).1<=(ends l).2) {L:List Int} (hu:L.Pairwise (· <·)) {k:Nat} (hk:k<L.length):kU R L k↔nQ R L k=true:=by
 unfold nQ;by_cases h0:k=0
 .subst h0
  constructor
  .rintro⟨-,h⟩;omega
  .intro h
   obtain⟨i,hi⟩:=adr.1 h;have:=(kA (aaF _) hi).2;obtain⟨l,-,-,h⟩:=this;exact absurd rfl h
 .have hlt:gI L 0<gI L k:=zU hu (by omega) hk
  constructor
  .rintro⟨⟨l,hl,hle⟩,-⟩
   have:=e6 l hl;have he:ends l=(gI L 0,gI L k):=by
    unfold ends at this ⊢;rcases hle with ⟨a,b⟩|⟨a,b⟩
    .rw[a,b]
    .dsimp only at this
     omega
   cases ho:opn R R.length (gI L 0,gI L k) with
   |some i=>rfl
   |none=>
    obtain⟨t,ht⟩:=abg hl;exact absurd he (zz (aaF _) ho (by dsimp only;omega) t l (aaH.1 ht).1 ht)
  .intro h
   obtain⟨i,hi⟩:=adr.1 h;obtain⟨_,l,hl,he,-⟩:=kA (aaF _) hi;refine⟨⟨l,aaJ hl,.inl ?_⟩,by omega⟩;unfold ends at he;exact⟨congrArg Prod.fst he,congrArg Prod.snd he⟩
theorem Gq {R:List (List Int)} (e6:∀l∈R,(ends l).1<=(ends l).2) {L:List Int} (hu:L.Pairwise (· <·)):∀{k:Nat},k<=L.length->fT R L k=aN R L k/\jJ R L k=bP R L k
 |0,_=>⟨rfl,rfl⟩
 |k+1,hk=>by
  obtain⟨i1,i2⟩:=Gq e6 hu (k:=k) (by omega);have ha:=MZ e6 hu (k:=k) (by omega);by_cases hj:nQ R L k=true
  .rw[GN (ha.2 hj),Mu (ha.2 hj),(kX hj).1,(kX hj).2,i1,i2]
   exact⟨rfl,rfl⟩
  .have hj':nQ R L k=false:=by simpa using hj
   rw[KU fun h=>hj (ha.1 h),QI fun h=>hj (ha.1 h),(mh hj').1,(mh hj').2,i1,i2];exact⟨rfl,rfl⟩
end Ku
end
section
open Go.RowKit Go.Sort Go.Maps
namespace Ku
theorem Sg (R:List (List Int)) (L:List Int):nQ R L 0=false:=by
 unfold nQ;cases h:opn R R.length (gI L 0,gI L 0) with
 |none=>rfl
 |some i=>
  obtain⟨_,_,_,_,h⟩:=kA (aaF _) h;exact absurd rfl h
theorem AU (R:List (List Int)) (L:List Int):∀k,∃t,aN R L (k+1)=gI L 0::t
 |0=>⟨[],by rw[(mh (Sg R L)).1];rfl⟩
 |k+1=>by
  obtain⟨t,ht⟩:=AU R L k;cases hj:nQ R L (k+1) with
  |true=>exact⟨t,by rw[(kX hj).1,ht]⟩
  |false=>exact⟨t++[gI L (k+1)],by rw[(mh hj).1,ht];rfl⟩
theorem Rm {L:List Int} (h:L.length=6):∃a b c d e f,L=[a,b,c,d,e,f]:=by
 match L,h with
 |[a,b,c,d,e,f],_=>exact⟨a,b,c,d,e,f,rfl⟩
theorem Uf:out 2 6 6=[(0,3),(0,4),(0,5),(1,3),(1,4),(1,5),(2,3),(2,4),(2,5)]:=by decide
theorem ad4:out 1 5 5=[(0,1),(0,2),(0,3),(0,4),(1,2),(1,3),(1,4),(2,3),(2,4),(3,4)]:=by decide
def aaC (B:Nat) (o:Option (Int×List Int×List (List Int))) (e:Ending) (w':World):Prop:=
 match o with
 |none=>e= .returned (.tuple #[kS,.bool false,.int .i64 0])
 |some (kd,br,ps)=>∃v1 v2,e= .returned (.tuple #[.agg #[.int .i64 kd,v1,v2],.bool true,.int .i64 0])/\fW w' v1 br/\Wb B v1/\yL B w' v2 ps
theorem Ef {B kd:Nat} {R:List (List Int)} (e6:∀l∈R,(ends l).1<=(ends l).2) {br:List Int} {ps:List (Int×Int)} (hps:ps=(out kd br.length br.length).map fun q=>(gI br q.1,gI br q.2)) (hlen:R.length=ps.length) (OL:ps.Pairwise fun p q=>key p≠key q) (hne:∀p∈ps,p.1≠p.2) {e:Ending} {w':World} (h:Found B kd R br e w'):aaC B (Fu R (kd:Int) br ps) e w':=by
 obtain⟨h1,h2⟩:=O6 e6 hps hlen OL hne;unfold Fu;rcases h with ⟨⟨p,hp,hp1⟩,rfl⟩|⟨ha,v1,v2,rfl,hs1,hn1,hs2⟩
 .rw[if_neg fun hA=>hp1 (h1.2 hA p hp)]
  rfl
 .have hA:=h1.1 ha
  rw[if_pos hA];rw[h2 hA] at hs2;refine⟨v1,v2,?_,hs1,hn1,hs2⟩;have:(((out kd br.length br.length).length:Int)==(R.length:Int))=true:=by
   rw[hlen,hps,aa3];simp
  rw[this]
theorem Ue {a b c d e f:Int} (n1:a≠b) (n2:a≠c) (n3:a≠d) (n4:a≠e) (n5:a≠f) (n6:b≠c) (n7:b≠d) (n8:b≠e) (n9:b≠f) (n10:c≠d) (n11:c≠e) (n12:c≠f) (n13:d≠e) (n14:d≠f) (n15:e≠f):
 ([(a,c),(a,d),(a,e),(a,f),(b,d),(b,e),(b,f),(c,d),(c,e),(c,f)]:List (Int×Int)).Pairwise fun p q=>key p≠key q:=by
 simp only[abD,aa4,abN,or_false,forall_eq_or_imp,forall_eq,false_implies,implies_true,List.Pairwise.nil,and_true];refine⟨⟨?_,?_,?_,?_,?_,?_,?_,?_,?_⟩,⟨?_,?_,?_,?_,?_,?_,?_,?_⟩,⟨?_,?_,?_,?_,?_,?_,?_⟩,⟨?_,?_,?_,?_,?_,?_⟩,⟨?_,?_,?_,?_,?_⟩,⟨?_,?_,?_,?_⟩,⟨?_,?_,?_⟩,⟨?_,?_⟩,?_⟩<;>exact I3 (by simp[*]) (by simp[*])
theorem Od {R:List (List Int)} (e6:∀l∈R,(ends l).1<=(ends l).2) (hR:R.length=9) {L:List Int} (h6:L.length=6) (hu:L.Pairwise (· <·)) (h3:(aN R L 6).length≠3):
 ¬ ∀q∈out 2 6 6,(way R (aN R L 6++bP R L 6) q).2=1:=by
 intro hall;have hnf:=kB R L 6;obtain⟨t,ht⟩:=AU R L 5;have uN:=tZ (R:=R) hu (k:=6) (by omega);have uF:=yu (R:=R) hu (k:=6) (by omega);have ap:∀p∈aN R L 6,∀q∈bP R L 6,p≠q:=fun p hp q hq=>zI (R:=R) hu (by rw[h6];exact hp) (by rw[h6];exact hq)
 have hnd:(aN R L 6++bP R L 6).Pairwise (·≠·):=by
  rw[adb];exact⟨uN.imp (by intro a b h;omega),uF.imp (by intro a b h;omega),ap⟩
 have hb0:gI (aN R L 6++bP R L 6) 0=gI L 0:=by rw[ht];rfl
 have hbl:(aN R L 6++bP R L 6).length=6:=by rw[aaZ];exact hnf
 obtain⟨br,hbr⟩:∃br,aN R L 6++bP R L 6=br:=⟨_,rfl⟩;have hmem:∀i,i<6->∃x,gI br i=x/\((i<(aN R L 6).length/\x∈aN R L 6)\/((aN R L 6).length<=i/\x∈bP R L 6)):=by
  intro i hi;refine⟨_,rfl,?_⟩;rw[<-hbr];by_cases hn:i<(aN R L 6).length
  .refine .inl ⟨hn,?_⟩
   have:(aN R L 6++bP R L 6)[i]? =some ((aN R L 6)[i]):=by rw[aa5 hn];exact aaE hn
   rw[bR this];exact acP _
  .refine .inr ⟨by omega,?_⟩
   have hlt:i-(aN R L 6).length<(bP R L 6).length:=by omega
   have:(aN R L 6++bP R L 6)[i]? =some ((bP R L 6)[i-(aN R L 6).length]):=by rw[abk (by omega)];exact aaE hlt
   rw[bR this];exact acP _
 rw[hbr] at hall hnd hb0 hbl;obtain⟨a,b,c,d,e,f,hf⟩:=Rm hbl;have hd6:=hnd;rw[hf] at hd6;simp only[abD,aa4,abN,or_false,forall_eq_or_imp,forall_eq,false_implies,implies_true,List.Pairwise.nil,and_true] at hd6;obtain⟨⟨n1,n2,n3,n4,n5⟩,⟨n6,n7,n8,n9⟩,⟨n10,n11,n12⟩,⟨n13,n14⟩,n15⟩:=hd6;have g0:gI br 0=a:=by rw[hf];rfl
 have g2:gI br 2=c:=by rw[hf];rfl
 have g3:gI br 3=d:=by rw[hf];rfl
 have hcT:∀q∈out 2 6 6,gI br q.1≠gI br q.2->cT R (key (gI br q.1,gI br q.2)) R.length=1:=fun q hq hne=>by
  have:=hall q hq;unfold way at this;rw[s9 e6 hne (aaF _)] at this;exact this
 have eT:∀i,i<6->i≠0->∀j,j<6->gI br i=gI L j->key (gI br 0,gI br i)=(gI L 0,gI L j)/\gI L 0<gI L j:=fun i hi nS j hj e=>by
  have hne:gI br 0≠gI br i:=by
   have:=abr.1 hnd 0 i (by omega) (by omega) (by omega);rw[bR (aaE (show 0<br.length by omega)),bR (aaE (show i<br.length by omega))];exact this
  have hj0:j≠0:=fun h=>hne (by rw[hb0,e,h])
  have hlt:gI L 0<gI L j:=zU hu (by omega) (by omega);exact⟨by rw[hb0,e];exact XX hlt,hlt⟩
 by_cases h4:4<=(aN R L 6).length
 .obtain⟨x,hx,hc⟩:=hmem 3 (by omega)
  have qC:x∈aN R L 6:=by
   rcases hc with h|h
   .exact h.2
   .omega
  obtain⟨i,hi,rfl,hj⟩:=kD qC;obtain⟨hk,hlt⟩:=eT 3 (by omega) (by omega) i (by omega) hx;have h1:=hcT (0,3) (by rw[Uf];simp) (by dsimp only;rw[g0,g3];exact n3);dsimp only at h1;rw[hk] at h1;unfold nQ at hj;have:opn R R.length (gI L 0,gI L i)=none:=by simpa using hj
  have:=(yH (R:=R) (p:=(gI L 0,gI L i)) (by dsimp only;omega) (k:=R.length)).2 this;omega
 .have hN1:(aN R L 6).length<=2:=by omega
  obtain⟨x,hx,hc⟩:=hmem 2 (by omega);have hxf:x∈bP R L 6:=by
   rcases hc with h|h
   .omega
   .exact h.2
  obtain⟨i,hi,rfl,hj⟩:=mN hxf;obtain⟨hk,hlt⟩:=eT 2 (by omega) (by omega) i (by omega) hx;have hc1:1<=cT R (key (gI br 0,gI br 2)) R.length:=by
   rw[hk];refine aa2 fun hc=> ?_
   have:=(yH (R:=R) (p:=(gI L 0,gI L i)) (by dsimp only;omega) (k:=R.length)).1 (by omega);unfold nQ at hj;rw[this] at hj;cases hj
  have OL:=Ue n1 n2 n3 n4 n5 n6 n7 n8 n9 n10 n11 n12 n13 n14 n15;have hs:=Ih (R:=R) OL R.length;have hge:∀x∈([(a,c),(a,d),(a,e),(a,f),(b,d),(b,e),(b,f),(c,d),(c,e),(c,f)]:List (Int×Int)).map fun p=>cT R (key p) R.length,1<=x:=by
   have r:∀q∈out 2 6 6,gI br q.1≠gI br q.2->1<=cT R (key (gI br q.1,gI br q.2)) R.length:=fun q hq hne=>by rw[hcT q hq hne];exact aaF _
   rw[Uf] at r;simp only[aa4,abN,or_false,forall_eq_or_imp,forall_eq,hf] at r;obtain⟨r1,r2,r3,r4,r5,r6,r7,r8,r9⟩:=r;rw[hf] at hc1;intro x hx;simp only[acB,aen,aa4,abN,or_false] at hx;rcases hx with rfl|rfl|rfl|rfl|rfl|rfl|rfl|rfl|rfl|rfl
   .exact hc1
   .exact r1 n3
   .exact r2 n4
   .exact r3 n5
   .exact r4 n7
   .exact r5 n8
   .exact r6 n9
   .exact r7 n10
   .exact r8 n11
   .exact r9 n12
  have:=Dn hge;rw[aa3] at this;simp only[abx,ab3] at this;omega
theorem K9 {R:List (List Int)} {kd:Int} {br:List Int} {ps:List (Int×Int)} (h:R.length≠ps.length):Fu R kd br ps=none:=by
 unfold Fu;exact if_neg fun hA=>h hA.1
theorem Po {m:Nat} {es:List (Int×Int)} (hv:Si.Val (m:Int) es):∀x∈ZL (aY es m),0<=x/\x<1048576:=by
 intro x hx;unfold ZL at hx;obtain⟨v,hv',rfl⟩:=abO.1 hx;have:=(pL.1 hv').1;have:=hv.hi;omega
theorem RB {n:Int} {es:List (Int×Int)} {w w':World} {e:Ending} (h:EI n es w e w'):
 ((Si.valid n es=false/\e= .returned (.tuple #[kS,.bool false,.int .i64 1]))\/∃(m:Nat) (hv:Si.Val n es),n=(m:Int)/\aaC w.heap.size (jY (rows es hv es.length) es m) e w')/\Below w.heap.size w w':=by
 obtain⟨hc,hb⟩:=h;refine⟨?_,hb⟩;rcases hc with h|⟨m,hv,rfl,hc⟩
 .exact .inl h
 .refine .inr ⟨m,hv,rfl,?_⟩
  have e6:=T6 hv;have hL:=V5 (Ci es m);have hsm:=Po hv;rcases hc with ⟨h5,YA,rfl⟩|⟨h5,hf⟩|⟨YA,hf⟩
  .rw[Lq hv] at h5
   rw[G4 hv] at YA;have:jY (rows es hv es.length) es m=none:=by
    by_cases c5:(aY es m).length=5/\∀v∈aY es m,dg es v=4
    .rw[Ix c5.1 c5.2]
     refine K9 fun hR=>h5 ⟨c5,?_⟩
     obtain⟨a,b,c,d,e,hf⟩:=wC (L:=ZL (aY es m)) (by rw[bS];exact c5.1);rw[hf] at hR;exact hR
    .by_cases c6:(aY es m).length=6/\(∀v∈aY es m,dg es v=3)/\(aN (rows es hv es.length) (ZL (aY es m)) 6).length=3
     .rw[Iw c6.1 c6.2.1 c6.2.2]
      refine K9 fun hR=>YA ⟨⟨c6.1,c6.2.1⟩,?_⟩
      rw[mA] at hR;have:=kB (rows es hv es.length) (ZL (aY es m)) 6;rw[hR];omega
     .exact xl c5 c6
   rw[this];rfl
  .obtain⟨⟨c1,c2⟩,c3⟩:=(Lq hv _).1 h5
   obtain⟨-,-,i3⟩:=xH hv (d:=4) (by omega) (by omega) (aaF m);have i3:cQ (Si.aS (m:Int) es) 4 m=ZL (aY es m):=i3 c2;rw[i3] at hf;rw[Ix c1 c2];have LN:(ZL (aY es m)).length=5:=by rw[bS];exact c1
   have hok:=(KD LN hL hsm).2;obtain⟨a,b,c,d,e',hform⟩:=wC LN;rw[hform] at hf hok hL ⊢;simp only[abD,aa4,abN,or_false,forall_eq_or_imp,forall_eq] at hL;obtain⟨⟨u1,u2,u3,u4⟩,⟨u5,u6,u7⟩,⟨u8,u9⟩,u10,-⟩:=hL;refine Ef (kd:=1) e6 ?_ (by rw[c3];rfl) (Hq hok) ?_ hf
   .show _=(out 1 5 5).map _
    rw[ad4];rfl
   .rw[Uc]
    simp only[aa4,abN,or_false,forall_eq_or_imp,forall_eq];refine⟨?_,?_,?_,?_,?_,?_,?_,?_,?_,?_⟩<;>omega
  .obtain⟨⟨c1,c2⟩,c3⟩:=(G4 hv _).1 YA
   obtain⟨-,-,i3⟩:=xH hv (d:=3) (by omega) (by omega) (aaF m);have i3:cQ (Si.aS (m:Int) es) 3 m=ZL (aY es m):=i3 c2;have FE:(ZL (aY es m)).length=6:=by rw[bS];exact c1
   rw[i3] at hf;obtain⟨s1,s2⟩:=Gq e6 hL (k:=6) (by omega);rw[s1,s2] at hf;have hnf:=kB (rows es hv es.length) (ZL (aY es m)) 6;have hbl:(aN (rows es hv es.length) (ZL (aY es m)) 6++bP (rows es hv es.length) (ZL (aY es m)) 6).length=6:=by rw[aaZ];exact hnf
   by_cases h3:(aN (rows es hv es.length) (ZL (aY es m)) 6).length=3
   .rw[Iw c1 c2 h3]
    have hok:=(MB FE hL hsm h3).2;have hap:∀p∈aN (rows es hv es.length) (ZL (aY es m)) 6,∀q∈bP (rows es hv es.length) (ZL (aY es m)) 6,p≠q:=fun p hp q hq=>zI (R:=rows es hv es.length) hL (by rw[FE];exact hp) (by rw[FE];exact hq)
    have hcl:=mA (aN (rows es hv es.length) (ZL (aY es m)) 6) (bP (rows es hv es.length) (ZL (aY es m)) 6) 3;have hlen:(rows es hv es.length).length=(cout (aN (rows es hv es.length) (ZL (aY es m)) 6) (bP (rows es hv es.length) (ZL (aY es m)) 6) 3).length:=by rw[hcl,c3];omega
    generalize aN (rows es hv es.length) (ZL (aY es m)) 6=N at*;generalize bP (rows es hv es.length) (ZL (aY es m)) 6=F at*;obtain⟨a,b,c,rfl⟩:=nY h3;obtain⟨x,y,z,rfl⟩:=nY (L:=F) (by simp at hnf;omega);refine Ef (kd:=2) e6 ?_ hlen (Hq hok) ?_ hf
    .show _=(out 2 6 6).map _
     rw[Uf];rfl
    .rw[VW]
     simp only[aa4,abN,or_false,forall_eq_or_imp,forall_eq] at hap ⊢;obtain⟨⟨a1,a2,a3⟩,⟨a4,a5,a6⟩,a7,a8,a9⟩:=hap;exact⟨a1,a2,a3,a4,a5,a6,a7,a8,a9⟩
   .have hno:jY (rows es hv es.length) es m=none:=xl (fun h=>by omega) fun h=>h3 h.2.2
    rw[hno];have QC:=Od e6 c3 FE hL h3;rcases hf with ⟨-,rfl⟩|⟨ha,-⟩
    .rfl
    .rw[hbl] at ha
     exact absurd ha QC
end Ku
end
section
open Go.RowKit Go.Sort Go.Maps
namespace Ku
theorem XW {n:Int} {es:List (Int×Int)} {w w':World} {e:Ending} (h:EI n es w e w'):YQ (kr n es) w e w':=by
 obtain⟨hc,hb⟩:=RB h;rcases hc with ⟨hv,rfl⟩|⟨m,hv,rfl,ha⟩
 .rw[Uv hv]
  exact⟨none,0,none,0,rfl,ug _,tT _,hb⟩
 .rw[Qo hv]
  cases hr:jY (rows es hv es.length) es m with
  |none=>
   rw[hr] at ha;exact⟨none,0,none,0,ha,ug _,tT _,hb⟩
  |some x=>
   obtain⟨kd,br,ps⟩:=x;rw[hr] at ha;obtain⟨v1,v2,rfl,⟨a1,c1,rfl,h1⟩,-,h2⟩:=ha;obtain⟨a2,c2,rfl,h3⟩:=id h2;exact⟨a1,c1,a2,c2,rfl,h1,h2.sees,hb⟩
end Ku
theorem Ej (n:Int) (ao:Option Addr) (cap:Nat) (es:List (Int×Int)) (w:World) (he:ah w ao es) (hl:es.length<=4611686018427387904):
 Calls Tryz.prog 33 #[.agg #[.int .i64 n,.slice ao es.length cap]] w (Ku.YQ (Ku.kr n es) w):=(BN n ao cap es w he hl).mono fun _ _ h=>Ku.XW h
end
end Go.Proofs.YtdbjpbjocmcpkaaGreatDoor
