import Derived.Test.YtdbjpbjocmcpkaaGreatDoorMj24
import Derived.Test.YtdbjpbjocmcpkaaGreatDoorMj16
set_option maxHeartbeats 8000000
set_option maxRecDepth 100000
namespace Go.Proofs.YtdbjpbjocmcpkaaGreatDoor
section
open Go.Proofs.Tryz
open Go.RowKit
theorem BH {w:World} {ls:List (List Int)} {ao eo:Option Addr} {m ca ce:Nat} (ha:Ce.iy w ao ls) (hn:m=0) (hg:Ce.AR ls) (hl:∀l∈ls,l.length<=4611686018427387904) (T:List UInt8) (hT:Ce.dI ⟨true,ls,[]⟩=T) (oP:T.length<=70368744177664):
 Calls prog 30 #[.agg #[.bool true,.slice ao ls.length ca,.slice eo m ce]] w fun e w'=>Tm T e/\Below w.heap.size w w':=by
 subst hn;have HS:=ζ (fq.start (w:=w) (pl:=true) (ao:=ao) (eo:=eo) (na:=ls.length) (ca:=ca) (ne:=0) (ce:=ce));have h2:ls.length<=4611686018427387904:=by have:=hg.2;omega
 have Aj:Hid (Calls prog 56 #[.slice ao ls.length ca] (w.alloc (.cells #[.bool true,.slice ao ls.length ca,.slice eo 0 ce] 27)) fun e w'=>e= .returned (.bool true)/\fq w true ao eo ls.length ca 0 ce (.slice none 0 0) [] w'):=(vq (ha.later HS.out.low) h2 hl).mono (by
  rintro e w' ⟨⟨t,he,ht⟩,hb⟩;refine⟨?_,HS.out.later hb⟩;rw[he];cases t with
  |true=>rfl
  |false=>exact absurd (ht.2 hg) ad0)
 obtain⟨n,hm⟩:∃n,ls.length=n:=⟨_,rfl⟩;have hms:n<=1048576:=by have:=hg.2;omega
 have hok:Ce.dR (n:Int):=⟨by omega,by omega⟩;obtain⟨D,hD⟩:∃D,Ce.dg (n:Int)=D:=⟨_,rfl⟩;have hDl:D.length<=9:=by rw[<-hD];exact Ce.uu hok
 have HTX:Hid (∀W,Calls prog 58 #[.int .i64 (n:Int)] W fun e w'=>e= .returned (.string ⟨D.toArray⟩)/\Below W.heap.size W w'):=fun W=>by rw[<-hD];exact rY hok W
 have PT:Hid ([112,32]++D++[10]++(ls.drop 0).flatMap Ce.bJ=T):=by
  refine ζ ?_;rw[<-hT,<-hD,<-hm];simp[Ce.dI,Ce.Er,Ce.qT]
 have HG:=ζ hg;have Y5:=ζ ha;have tJ:=ζ hl;have HM:=ζ hm;have Ab:=ζ oP;rw[hm] at HS Aj h2 ⊢;obtain⟨v0,v1,v2,vf⟩:=HS.out.cells;clear ha hl hg hT oP hm hok hD;go_enter func30,ntmps30;have nR:([]:List UInt8).length+([112,32]:List UInt8).length<=140737488355328:=by simp
 go_wp2_with (first|(go_at_call 56;refine Aj.out.mono ?_;rintro e w0 ⟨rfl,hp⟩;have HP:=ζ hp;clear hp v0 v1 v2 vf;obtain⟨v0,v1,v2,vf⟩:=HP.out.cells)|(at_builtin;refine cR rfl _ _ rfl _ (w.heap.size+1) _ _ [112,32] HP.out.pZ HP.out.size nR rfl _ rfl rfl ?_;refine aaI ?_));refine ζ ?_;intro x1 w1 qa qb;have hh:=(HP.out.later ((aaG _ _).alloc (aaF _) _)).grown qa qb;have aD:Hid (fq w true ao eo n ca 0 ce x1 ([]++[112,32]) w1):=ζ (by first|exact hh|(simp only[abb,abl,abp] at hh ⊢;exact hh));clear qa qb hh nR;clear v0 v1 v2 vf;obtain⟨v0,v1,v2,vf⟩:=aD.out.cells;have hl2:([]++[112,32]:List UInt8).length+(D:List UInt8).length<=140737488355328:=by simp;omega
 go_wp2_with (first|(go_at_call 58;refine(HTX.out _).mono ?_;rintro e y2 ⟨rfl,hb⟩;have uT:=ζ (aD.out.later hb);clear hb v0 v1 v2 vf;obtain⟨v0,v1,v2,vf⟩:=uT.out.cells)|(at_builtin;refine dY rfl _ _ rfl _ (w.heap.size+1) _ _ D rfl rfl uT.out.pZ hl2 (by have:=uT.out.size;omega) ?_;refine aaI ?_));refine ζ ?_;intro x2 w2 qa qb;have hh:=uT.out.grown qa qb;have aA:Hid (fq w true ao eo n ca 0 ce x2 ([]++[112,32]++D) w2):=ζ (by first|exact hh|(simp only[abb,abl,abp] at hh ⊢;exact hh));clear qa qb hh hl2;clear v0 v1 v2 vf;obtain⟨v0,v1,v2,vf⟩:=aA.out.cells;have hl3:([]++[112,32]++D:List UInt8).length+([10]:List UInt8).length<=140737488355328:=by simp;omega
 go_wp2_with (first|(at_builtin;refine cR rfl _ _ rfl _ (w.heap.size+1) _ _ [10] aA.out.pZ aA.out.size hl3 rfl _ rfl rfl ?_;refine aaI ?_));refine ζ ?_;intro x3 w3 qa qb;have hh:=(aA.out.later ((aaG _ _).alloc (aaF _) _)).grown qa qb;have aK:Hid (fq w true ao eo n ca 0 ce x3 ([]++[112,32]++D++[10]) w3):=ζ (by first|exact hh|(simp only[abb,abl,abp] at hh ⊢;exact hh));clear qa qb hh hl3;clear v0 v1 v2 vf;obtain⟨v0,v1,v2,vf⟩:=aK.out.cells;go_wp2;go_loopw [4,5] (fun bv iv wr=>∃(k:Nat) (v:Value) (L:List UInt8),k<=n/\iv= .int .i64 (k:Int)/\bv=v/\fq w true ao eo n ca 0 ce v L wr/\L++(ls.drop k).flatMap Ce.bJ=T) (fun _ iv _=>n-(intOf iv).toNat)
 case atStart=>exact⟨0,_,_,aaR _,rfl,rfl,aK.out,PT.out⟩
 case round=>
  obtain⟨k,v,L,hk,rfl,rfl,hps,heq⟩:=hrel;clear v0 v1 v2 vf;have lU:=ζ hps;have HQ:=ζ heq;clear hps heq;obtain⟨v0,v1,v2,vf⟩:=lU.out.cells;by_cases hlt:k<n
  .have aP:(k:Int)<(n:Int):=by omega
   have k0:(0:Int)<=(k:Int):=by omega
   obtain⟨l,hp⟩:∃l,ls[k]? =some l:=⟨_,aaE (by have:=HM.out;omega)⟩;have iB:=ζ (HG.out.1 _ (aaJ hp));have xY:=tJ.out _ (aaJ hp);have HK:=ζ hp;rw[Ce.Ei hp,acH] at HQ;obtain⟨R,hR⟩:∃R,(ls.drop (k+1)).flatMap Ce.bJ=R:=⟨_,rfl⟩;rw[hR] at HQ;have HQ1:Hid (L++(Ce.rem l 0++10::R)=T):=by
    refine ζ ?_;rw[<-HQ.out];simp[Ce.bJ,Ce.rem]
   obtain⟨q,hq⟩:∃q,l.length=q:=⟨_,rfl⟩;rw[hq] at xY;have JM:=ζ hq;have HR:=ζ hR;clear hp hR hq HQ;go_wp2;go_loopw [4,6] (fun bv jv wr=>∃(j:Nat) (v:Value) (L:List UInt8),j<=q/\jv= .int .i64 (j:Int)/\bv=v/\fq w true ao eo n ca 0 ce v L wr/\L++(Ce.rem l j++10::R)=T) (fun _ jv _=>q-(intOf jv).toNat)
   case atStart=>exact⟨0,_,_,aaR _,rfl,rfl,lU.out,HQ1.out⟩
   case round=>
    obtain⟨j,v,L,hj,rfl,rfl,hps,heq⟩:=hrel;clear v0 v1 v2 vf lU HQ1;have lU:=ζ hps;have HQ:=ζ heq;clear hps heq;obtain⟨v0,v1,v2,vf⟩:=lU.out.cells;have j0:(0:Int)<=(j:Int):=by omega
    by_cases hjq:j<q
    .have aeY:(j:Int)<(q:Int):=by omega
     obtain⟨x,hx⟩:∃x,l[j]? =some x:=⟨_,aaE (by have:=JM.out;omega)⟩;have hox:=(iB.out x (aaJ hx)).1;obtain⟨D1,O1⟩:∃D,Ce.dg x=D:=⟨_,rfl⟩;have wN:Hid (∀W,Calls prog 58 #[.int .i64 x] W fun e w'=>e= .returned (.string ⟨D1.toArray⟩)/\Below W.heap.size W w'):=fun W=>by rw[<-O1];exact rY hox W
     have HX:=ζ hx;have HD1:=ζ O1;clear hx hox O1;by_cases hj0:j=0
     .have m3:¬((0:Int)<(j:Int)):=by omega
      have RX:¬(0<j):=by omega
      have m3c:decide (0<j)=false:=decide_eq_false RX;have PE:Hid (L++D1++(Ce.rem l (j+1)++10::R)=T):=by
       refine ζ ?_;rw[<-HQ.out,<-HD1.out,hj0,Ce.NU (by rw[<-hj0];exact HX.out)];simp
      clear hj0;have yR:=ζ (congrArg List.length PE.out);simp only[aaZ,abx] at yR;obtain⟨b,o,xa,xc,rfl,c0,qG⟩:=Y5.out.later lU.out.low k l HK.out;rw[JM.out] at c0;obtain⟨xb,xo,rfl,c1⟩:=qG j x HX.out;clear qG;have hl4:(L:List UInt8).length+(D1:List UInt8).length<=140737488355328:=by have:=yR.out;have:=Ab.out;(try simp only[aaZ,abx,ab3]);omega
      go_wp2_with (first|(go_at_call 58;refine(wN.out _).mono ?_;rintro e y4 ⟨rfl,hb⟩;have B4:=ζ (lU.out.later hb);clear hb v0 v1 v2 vf;obtain⟨v0,v1,v2,vf⟩:=B4.out.cells)|(at_builtin;refine dY rfl _ _ rfl _ (w.heap.size+1) _ _ D1 rfl rfl B4.out.pZ hl4 (by have:=B4.out.size;omega) ?_;refine aaI ?_));refine ζ ?_;intro x4 w4 qa qb;have hh:=B4.out.grown qa qb;have cZ:Hid (fq w true (some ⟨b,o,none⟩) eo n ca 0 ce x4 (L++D1) w4):=ζ (by first|exact hh|(simp only[abb,abl,abp] at hh ⊢;exact hh));clear qa qb hh hl4;clear v0 v1 v2 vf;obtain⟨v0,v1,v2,vf⟩:=cZ.out.cells;go_wp2;go_roundw
      case rel=>exact⟨j+1,_,_,by omega,by go_num,rfl,cZ.out,by rw[<-PE.out];try simp⟩
      case measure=>simp[intOf];omega
     .have m3:(0:Int)<(j:Int):=by omega
      have RX:0<j:=by omega
      have m3c:decide (0<j)=true:=decide_eq_true RX;have PE:Hid (L++[32]++D1++(Ce.rem l (j+1)++10::R)=T):=by
       refine ζ ?_;rw[<-HQ.out,<-HD1.out,Ce.RA RX HX.out];simp
      clear hj0;have yR:=ζ (congrArg List.length PE.out);simp only[aaZ,abx,ab3] at yR;obtain⟨b,o,xa,xc,rfl,c0,qG⟩:=Y5.out.later lU.out.low k l HK.out;rw[JM.out] at c0;obtain⟨xb,xo,rfl,c1⟩:=qG j x HX.out;clear qG;have LN:(L:List UInt8).length+([32]:List UInt8).length<=140737488355328:=by have:=yR.out;have:=Ab.out;(try simp only[abx,ab3]);omega
      go_wp2_with (first|(at_builtin;refine cR rfl _ _ rfl _ (w.heap.size+1) _ _ [32] lU.out.pZ lU.out.size LN rfl _ rfl rfl ?_;refine aaI ?_));refine ζ ?_;intro x5 w5 qa qb;have hh:=(lU.out.later ((aaG _ _).alloc (aaF _) _)).grown qa qb;have fM:Hid (fq w true (some ⟨b,o,none⟩) eo n ca 0 ce x5 (L++[32]) w5):=ζ (by first|exact hh|(simp only[abb,abl,abp] at hh ⊢;exact hh));clear qa qb hh LN;clear v0 v1 v2 vf;obtain⟨v0,v1,v2,vf⟩:=fM.out.cells;clear c0 c1;obtain⟨b',o',xa',xc',e',c0,qG⟩:=Y5.out.later fM.out.low k l HK.out;cases e';rw[JM.out] at c0;obtain⟨xb',xo',e2,c1⟩:=qG j x HX.out;cases e2;clear qG;have FE:(L++[32]:List UInt8).length+(D1:List UInt8).length<=140737488355328:=by have:=yR.out;have:=Ab.out;(try simp only[aaZ,abx,ab3]);omega
      go_wp2_with (first|(go_at_call 58;refine(wN.out _).mono ?_;rintro e y6 ⟨rfl,hb⟩;have JT:=ζ (fM.out.later hb);clear hb v0 v1 v2 vf;obtain⟨v0,v1,v2,vf⟩:=JT.out.cells)|(at_builtin;refine dY rfl _ _ rfl _ (w.heap.size+1) _ _ D1 rfl rfl JT.out.pZ FE (by have:=JT.out.size;omega) ?_;refine aaI ?_));refine ζ ?_;intro x6 w6 qa qb;have hh:=JT.out.grown qa qb;have mE:Hid (fq w true (some ⟨b,o,none⟩) eo n ca 0 ce x6 (L++[32]++D1) w6):=ζ (by first|exact hh|(simp only[abb,abl,abp] at hh ⊢;exact hh));clear qa qb hh FE;clear v0 v1 v2 vf;obtain⟨v0,v1,v2,vf⟩:=mE.out.cells;go_wp2;go_roundw
      case rel=>exact⟨j+1,_,_,by omega,by go_num,rfl,mE.out,by rw[<-PE.out];try simp⟩
      case measure=>simp[intOf];omega
    .have aeY:¬((j:Int)<(q:Int)):=by omega
     obtain rfl:j=q:=by omega
     have hz:Ce.rem l j=[]:=by have:=Ce.T9 l;rw[JM.out] at this;exact this
     rw[hz,abl] at HQ;have yR:=ζ (congrArg List.length HQ.out);simp only[aaZ,abx] at yR;obtain⟨b,o,xa,xc,rfl,c0,-⟩:=Y5.out.later lU.out.low k l HK.out;rw[JM.out] at c0;clear hz;have Vg:(L:List UInt8).length+([10]:List UInt8).length<=140737488355328:=by have:=yR.out;have:=Ab.out;(try simp only[abx,ab3]);omega
     go_wp2_with (first|(at_builtin;refine cR rfl _ _ rfl _ (w.heap.size+1) _ _ [10] lU.out.pZ lU.out.size Vg rfl _ rfl rfl ?_;refine aaI ?_));refine ζ ?_;intro x7 w7 qa qb;have hh:=(lU.out.later ((aaG _ _).alloc (aaF _) _)).grown qa qb;have za:Hid (fq w true (some ⟨b,o,none⟩) eo n ca 0 ce x7 (L++[10]) w7):=ζ (by first|exact hh|(simp only[abb,abl,abp] at hh ⊢;exact hh));clear qa qb hh Vg;clear v0 v1 v2 vf;obtain⟨v0,v1,v2,vf⟩:=za.out.cells;go_wp2;go_roundw
     case rel=>exact⟨k+1,_,_,by omega,by go_num,rfl,za.out,by rw[HR.out,<-HQ.out];try simp⟩
     case measure=>simp[intOf];omega
  .have aP:¬((k:Int)<(n:Int)):=by omega
   obtain rfl:k=n:=by omega
   have hz:ls.drop k=[]:=ac1 (by have:=HM.out;omega);rw[hz] at HQ;have hLT:L=T:=by have:=HQ.out;simpa using this
   subst hLT;obtain⟨g,vc,rfl,kc⟩:=lU.out.conv (by
    rw[<-PT.out];simp)
   clear hz;obtain⟨N,hN⟩:∃N,L.length=N:=⟨_,rfl⟩;have HN:=ζ hN;have HKC:=ζ kc;have Wo:=Ab.out;rw[hN] at kc Wo ⊢;clear hN;by_cases hbig:33554432<N
   .have lN:(33554432:Int)<(N:Int):=by omega
    clear kc;go_wp2;go_ret2;exact⟨.inl ⟨by have:=HN.out;omega,rfl⟩,lU.out.low⟩
   .have lN:¬((33554432:Int)<(N:Int)):=by omega
    go_wp2;go_ret2;exact⟨.inr ⟨by have:=HN.out;omega,rfl⟩,lU.out.low⟩
end
section
open Go.RowKit
theorem vn {w:World} {v:Value} {c:Ce.Cert} {ao eo:Option Addr} {ca ce:Nat} (h:Ce.jZ w v c ao eo ca ce) (hf:Ce.Fits c):
 Calls Tryz.prog 30 #[v] w fun e w'=>uB c e/\Below w.heap.size w w':=by
 rw[h.val];by_cases hg:Ce.good c
 .suffices hh:Calls Tryz.prog 30 #[.agg #[.bool c.pl,.slice ao c.ar.length ca,.slice eo c.es.length ce]] w fun e w'=>Tm (Ce.dI c) e/\Below w.heap.size w w' from
   hh.mono fun e w' h=>⟨⟨fun hn=>absurd hg hn,fun _=>h.1⟩,h.2⟩
  have ht:=hf.txt hg;have ha:=h.ar;have he:=h.es;have hr:=hf.row;clear h hf;obtain⟨pl,ar,es⟩:=c;unfold Ce.good at hg;cases pl with
  |true=>
   rw[if_pos rfl] at hg;obtain⟨h0,h1⟩:=hg;dsimp only at h0 ha hr;subst h0;exact BH ha rfl h1 hr _ rfl ht
  |false=>
   rw[if_neg (by simp)] at hg;obtain⟨h0,h1⟩:=hg;dsimp only at h0 he;subst h0;exact BI he rfl h1 _ rfl ht
 .exact(Fb h.ar h.es hf.ar hf.es hf.row hg).mono fun e w' h=>⟨⟨fun _=>h.1,fun hn=>absurd hn hg⟩,h.2⟩
end
section
open Go.RowKit Go.Sort
theorem Si.lB.first {n:Int} {es:List (Int×Int)} {l p:Int×Int} (h:Si.lB n es 0 l) (ho:Si.ok n p):Si.lt l p:=by
 rcases h.2.2 with ⟨_,rfl⟩|⟨k',hk,_⟩
 .unfold Si.ok at ho
  unfold Si.lt;dsimp only;omega
 .omega
theorem Si.lB.last {n:Int} {es:List (Int×Int)} {k:Nat} {l:Int×Int} (h:Si.lB n es (k+1) l):es[k]? =some l:=by
 rcases h.2.2 with ⟨h0,_⟩|⟨k',hk,hl⟩
 .omega
 .obtain rfl:k=k':=by omega
  exact hl
end
section
open Go.Proofs.Tryz
open Go.RowKit Go.Sort
theorem fO (n:Int) (ao:Option Addr) (cap:Nat) (es:List (Int×Int)) (w:World) (he:ah w ao es) (hl:es.length<=4611686018427387904):
 Calls prog 25 #[aB n ao es.length cap] w fun e w'=>e= .returned (.bool (Si.valid n es))/\Below w.heap.size w w':=by
 have HE:=ζ he;clear he;unfold aB;by_cases h1:n<0
 .have hv:=Si.dD (n:=n) (es:=es) (fun h=>by have:=h.lo;omega)
  rw[hv];go_enter func25,ntmps25;go_wp2;go_ret;exact⟨rfl,(aaG _ _).alloc (aaF _) _⟩
 by_cases h2:1048576<n
 .have hv:=Si.dD (n:=n) (es:=es) (fun h=>by have:=h.hi;omega)
  rw[hv];go_enter func25,ntmps25;go_wp2;go_ret;exact⟨rfl,(aaG _ _).alloc (aaF _) _⟩
 by_cases h3:4194304<(es.length:Int)
 .have hv:=Si.dD (n:=n) (es:=es) (fun h=>by have:=h.few;omega)
  rw[hv];go_enter func25,ntmps25;go_wp2;go_ret;exact⟨rfl,(aaG _ _).alloc (aaF _) _⟩
 go_enter func25,ntmps25;go_wp2;go_loopw [3] (fun c wr=>∃(k:Nat) (l:Int×Int),k<=es.length/\c= .int .i64 k/\Si.lB n es k l/\wr.heap[w.heap.size]? =some (.cells #[.int .i64 n,.slice ao es.length cap] 24 (0,0))/\Below w.heap.size w wr) (fun c _=>es.length-(intOf c).toNat)
 case atStart=>exact⟨0,(0,0),aaR _,rfl,Si.lB.start n es,heap_alloc_new w _,(aaG _ _).alloc (aaF _) _⟩
 case round=>
  obtain⟨k,l,hk,rfl,e6,hgb,hb⟩:=hrel;obtain⟨g0,g1,-⟩:=af hgb;have vF:=lt_of_block hgb;have o8:=ζ hgb;have tD:=ζ e6;have HB:=ζ hb;clear hgb e6;by_cases hlt:k<es.length
  .have aP:(k:Int)<(es.length:Int):=by omega
   have hk0:(0:Int)<=(k:Int):=by omega
   obtain⟨p,hp⟩:∃p,es[k]? =some p:=⟨_,aaE hlt⟩;obtain⟨b,o,rfl,c0,c1⟩:=(HE.out.later hb) k p hp;have hbl:b<wr.heap.size:=block_lt_of_cell c0;have HP:=ζ hp;clear hp;by_cases q1:p.1<0
   .have hv:=Si.dD (n:=n) (es:=es) (fun h=>by have:=(tD.out.must h HP.out).1.1;omega)
    clear hb;go_wp2;go_ret;exact⟨by first|rfl|exact congrArg (fun b=>Ending.returned (.bool b)) hv.symm,HB.out.alloc (by omega) _⟩
   by_cases q2:p.1<p.2
   rotate_left
   .have hv:=Si.dD (n:=n) (es:=es) (fun h=>by have:=(tD.out.must h HP.out).1.2.1;omega)
    clear hb;go_wp2;go_ret;exact⟨by first|rfl|exact congrArg (fun b=>Ending.returned (.bool b)) hv.symm,HB.out.alloc (by omega) _⟩
   by_cases q3:p.2<n
   rotate_left
   .have hv:=Si.dD (n:=n) (es:=es) (fun h=>by have:=(tD.out.must h HP.out).1.2.2;omega)
    clear hb;go_wp2;go_ret;exact⟨by first|rfl|exact congrArg (fun b=>Ending.returned (.bool b)) hv.symm,HB.out.alloc (by omega) _⟩
   have hok:Si.ok n p:=⟨by omega,q2,q3⟩;have rN:Below wr.heap.size wr (wr.alloc (.cells #[.int .i64 p.1,.int .i64 p.2] 66)):=(aaG _ _).alloc (aaF _) _;by_cases hkz:k=0
   .have hkn:¬((0:Int)<(k:Int)):=by omega
    have Zz:Si.lt l p:=by
     have:=tD.out;rw[hkz] at this;exact this.first hok
    have HST:=ζ (tD.out.step HP.out hok Zz);have B5:=ζ (HB.out.trans (rN.mono HB.out.size));have cA:=ζ ((rN.block _ vF).trans o8.out);clear hok rN hb hkz Zz;go_wp2;go_roundw
    case rel=>exact⟨k+1,p,by omega,by go_num,HST.out,cA.out,B5.out⟩
    case measure=>simp[intOf];omega
   .obtain⟨k',hk'⟩:∃k',k=k'+1:=⟨k-1,by omega⟩
    have hl':es[k']? =some l:=by
     have:=tD.out;rw[hk'] at this;exact this.last
    obtain⟨b2,o2,e2,d0,d1⟩:=(HE.out.later hb) k' l hl';cases e2;have hk1:(k:Int)-1=(k':Int):=by omega
    have hkw:IntKind.i64.wrap (k':Int)=(k':Int):=by simp[IntKind.wrap,IntKind.bits,IntKind.signed];omega
    have akh:(0:Int)<=(k':Int):=by omega
    have akg:(k':Int)<(es.length:Int):=by omega
    have hkp:(0:Int)<(k:Int):=by omega
    have hca:=fun W=>R1 l p W
    unfold cM at hca;have HK:=ζ hk';clear hk' hl' hkz hb;have B5:=ζ rN;have y0:=(rN.cell (p:=⟨b,o+k'*2,none⟩) hbl).trans d0;have y1:=(rN.cell (p:=⟨b,o+k'*2+1,none⟩) hbl).trans d1;have z0:=(rN.cell (p:=⟨w.heap.size,0,none⟩) vF).trans g0;have z1:=(rN.cell (p:=⟨w.heap.size,1,none⟩) vF).trans g1;obtain⟨p0,p1,-⟩:=af (heap_alloc_new wr (.cells #[.int .i64 p.1,.int .i64 p.2] 66));have hsA:(wr.alloc (.cells #[.int .i64 p.1,.int .i64 p.2] 66)).heap.size=wr.heap.size+1:=by simp
    by_cases q4:Si.lt l p
    .have hd:decide (Si.lt l p)=true:=by simp[q4]
     rw[hd] at hca;have yX:=ζ hca;have HST:=ζ (tD.out.step HP.out hok q4);clear hca hd hok rN d0 d1;go_wp2_with fail;generalize hX:wr.alloc (.cells #[.int .i64 p.1,.int .i64 p.2] 66)=X at y0 y1 z0 z1 p0 p1 hsA B5 ⊢;clear hX c0 c1 g0 g1
     go_region_held3 (fun w'=>w'.cell? ⟨b,o+k'*2,none⟩=some (.int .i64 l.1)/\w'.cell? ⟨b,o+k'*2+1,none⟩=some (.int .i64 l.2)/\w'.cell? ⟨w.heap.size,1,none⟩=some (.slice (some ⟨b,o,none⟩) es.length cap)/\w'.cell? ⟨wr.heap.size,0,none⟩=some (.int .i64 p.1)/\w'.cell? ⟨wr.heap.size,1,none⟩=some (.int .i64 p.2))
      (first
        |go_keep
        |(go_split_ands
          refine⟨?_,?_,?_,?_,?_⟩<;>(refine(hb2.cell (p:=⟨_,_,none⟩) ?_).trans ?_<;>first|assumption|(simp;omega))))
      ((go_at_call 48;refine(yX.out _).mono ?_;rintro e w2 ⟨rfl,hgr⟩;have hb2:Below X.heap.size X w2:=(aaG X.heap.size X).drew.trans (sM hgr)))
     have hb3:Below wr.heap.size wr w2:=B5.out.trans (hb2.mono (by omega));have aK:=ζ (HB.out.trans (hb3.mono HB.out.size));have iC:=ζ ((hb3.block _ vF).trans o8.out);clear hb2 hb3 hgr;go_wp2;go_roundw
     case rel=>exact⟨k+1,p,by omega,by go_num,HST.out,iC.out,aK.out⟩
     case measure=>simp[intOf];omega
    .have hv:=Si.dD (n:=n) (es:=es) (fun h=>q4 (tD.out.must h HP.out).2)
     have HV:=ζ hv;have hd:decide (Si.lt l p)=false:=by simp[q4]
     rw[hd] at hca;have yX:=ζ hca;clear hca hd hok rN d0 d1 hv;go_wp2_with fail;generalize hX:wr.alloc (.cells #[.int .i64 p.1,.int .i64 p.2] 66)=X at y0 y1 z0 z1 p0 p1 hsA B5 ⊢;clear hX c0 c1 g0 g1
     go_region_held3 (fun w'=>w'.cell? ⟨b,o+k'*2,none⟩=some (.int .i64 l.1)/\w'.cell? ⟨b,o+k'*2+1,none⟩=some (.int .i64 l.2)/\w'.cell? ⟨w.heap.size,1,none⟩=some (.slice (some ⟨b,o,none⟩) es.length cap)/\w'.cell? ⟨wr.heap.size,0,none⟩=some (.int .i64 p.1)/\w'.cell? ⟨wr.heap.size,1,none⟩=some (.int .i64 p.2))
      (first
        |go_keep
        |(go_split_ands
          refine⟨?_,?_,?_,?_,?_⟩<;>(refine(hb2.cell (p:=⟨_,_,none⟩) ?_).trans ?_<;>first|assumption|(simp;omega))))
      ((go_at_call 48;refine(yX.out _).mono ?_;rintro e w2 ⟨rfl,hgr⟩;have hb2:Below X.heap.size X w2:=(aaG X.heap.size X).drew.trans (sM hgr)))
     have hb3:Below wr.heap.size wr w2:=B5.out.trans (hb2.mono (by omega));have aK:=ζ (HB.out.trans (hb3.mono HB.out.size));clear hb2 hb3 hgr;go_wp2;go_ret;exact⟨by rw[HV.out];rfl,aK.out⟩
  .have hd:¬((k:Int)<(es.length:Int)):=by omega
   obtain rfl:k=es.length:=by omega
   have hv:=Si.aL.2 (tD.out.done (by omega) (by omega) (by omega));have HV:=ζ hv;clear hb hv;go_wp2;go_ret;exact⟨by rw[HV.out];rfl,HB.out⟩
end
section
open Go.Proofs.Tryz
open Go.RowKit Go.Sort
theorem mg (n:Nat) (ao:Option Addr) (ca:Nat) (es:List (Int×Int)) (j:Nat) (w:World) (he:ah w ao es) (hv:Si.Val n es) (hj:j<2*es.length):
 Calls prog 100 #[.agg #[.int .i64 (n:Int),.slice ao es.length ca],.int .i64 (j:Int)] w fun e w'=>e= .returned (.int .i64 (Cs.fr es j:Int))/\Below w.heap.size w w':=by
 have hb0:Below w.heap.size w (w.alloc (.cells #[.int .i64 (n:Int),.slice ao es.length ca] 24)):=(aaG _ _).alloc (aaF _) _;have bV:=hv.few;obtain⟨e,hee,hok,hpar⟩:=qK hv hj;obtain⟨b,o,rfl,c0,c1⟩:=(he.later hb0) (j/2) e hee;obtain⟨jh,wm⟩:∃jh,jh=j/2:=⟨_,rfl⟩;rw[<-wm] at c0 c1 hee;have hj0:(0:Int)<=(j:Int):=by omega
 have htd:(j:Int).tdiv 2=(jh:Int):=by rw[abM hj0];omega
 have aem:(j:Int)/2=(jh:Int):=by omega
 have hjd:j/2=jh:=wm.symm;have hj2:(0:Int)<=(jh:Int):=by omega
 have hj3:(jh:Int)<(es.length:Int):=by omega
 have aI:=ζ hb0;rcases hpar with ⟨hm,hf,ht⟩|⟨hm,hf,ht⟩
 .have hm1:(j:Int).tmod 2=0:=by rw[abR hj0];omega
  have hm2:(j:Int)%2=0:=by omega
  rw[hf];clear he hv hok hee hb0 hf ht wm hm;go_enter func100,ntmps100;go_wp2;go_ret;exact⟨rfl,aI.out⟩
 .have hm1:(j:Int).tmod 2=1:=by rw[abR hj0];omega
  have hm2:(j:Int)%2=1:=by omega
  rw[hf];clear he hv hok hee hb0 hf ht wm hm;go_enter func100,ntmps100;go_wp2;go_ret;exact⟨rfl,aI.out⟩
theorem CR (n:Nat) (ao:Option Addr) (ca:Nat) (es:List (Int×Int)) (h:Int) (v:Nat) (w:World) (he:ah w ao es) (hv:Si.Val n es):
 Calls prog 286 #[.agg #[.int .i64 (n:Int),.slice ao es.length ca],.int .i64 h,.int .i64 (v:Int)] w fun e w'=>e= .returned (.bool (Ro.lv es h v))/\Below w.heap.size w w':=by
 have hb0:Below w.heap.size w (w.alloc (.cells #[.int .i64 (n:Int),.slice ao es.length ca] 24)):=(aaG _ _).alloc (aaF _) _;have bV:=hv.few;have hin:=fun j hj=>mg n ao ca es j _ (he.later hb0) hv hj
 have o7:=ζ hin;have aI:=ζ hb0;clear he hv hb0 hin;have hmul:IntKind.i64.wrap (2*(es.length:Int))=2*(es.length:Int):=by rw[aaK];omega
 by_cases h0:0<=h
 .by_cases h1:h<2*(es.length:Int)
  .obtain⟨j,rfl⟩:∃j:Nat,h=(j:Int):=⟨h.toNat,by omega⟩
   have hj:j<2*es.length:=by omega
   have hlv:Ro.lv es (j:Int) v=((Cs.fr es j:Int)==(v:Int)):=by
    unfold Ro.lv;rw[Cs.qO hj,decide_eq_true h0,decide_eq_true h1];rfl
   rw[hlv];have HJ:=ζ (o7.out j hj);clear hlv hmul;go_enter func286,ntmps286;go_wp2_with (go_at_call 100;refine HJ.out.mono ?_;rintro e w1 ⟨rfl,hb1⟩);go_ret;exact⟨rfl,aI.out.trans (hb1.mono aI.out.size)⟩
  .have hlv:Ro.lv es h v=false:=by simp[Ro.lv,h1]
   rw[hlv];clear hlv;go_enter func286,ntmps286;go_wp2;go_ret;exact⟨rfl,aI.out⟩
 .have hlv:Ro.lv es h v=false:=by simp[Ro.lv,h0]
  rw[hlv];clear hlv;go_enter func286,ntmps286;go_wp2;go_ret;exact⟨rfl,aI.out⟩
end
section
open Go.RowKit Go.Sort
theorem NW (n:Nat) (ao:Option Addr) (ca:Nat) (es:List (Int×Int)) (j:Nat) (w:World) (he:ah w ao es) (hv:Si.Val n es) (hj:j<2*es.length):
 Calls Tryz.prog 101 #[.agg #[.int .i64 (n:Int),.slice ao es.length ca],.int .i64 (j:Int)] w fun e w'=>e= .returned (.int .i64 (Cs.to es j:Int))/\Below w.heap.size w w':=by
 have hb0:Below w.heap.size w (w.alloc (.cells #[.int .i64 (n:Int),.slice ao es.length ca] 24)):=(aaG _ _).alloc (aaF _) _;have bV:=hv.few;have UC:=Cs.mF j (by omega);have hfr:=mg n ao ca es (Cs.twin j) _ (he.later hb0) hv (Cs.fC hj);rw[Cs.gW] at hfr;have Ai:=ζ hfr;have aI:=ζ hb0;clear he hv hb0 hfr;go_enter Tryz.func101,Tryz.ntmps101;go_wp2_with (go_at_call 100;refine Ai.out.mono ?_;rintro e w1 ⟨rfl,hb1⟩);go_ret;exact⟨rfl,aI.out.trans (hb1.mono aI.out.size)⟩
end
section
open Go.RowKit Go.Sort
theorem NS (n:Nat) (ao:Option Addr) (ca:Nat) (es:List (Int×Int)) (u:Nat) (x:Int) (w:World) (he:ah w ao es) (hv:Si.Val n es):
 Calls Tryz.prog 59 #[.agg #[.int .i64 (n:Int),.slice ao es.length ca],.int .i64 (u:Int),.int .i64 x] w fun e w'=>e= .returned (.int .i64 (Ro.hl es u x))/\Below w.heap.size w w':=by
 have hb0:Below w.heap.size w (w.alloc (.cells #[.int .i64 (n:Int),.slice ao es.length ca] 24)):=(aaG _ _).alloc (aaF _) _;have bV:=hv.few;have HE:=ζ he;have cC:=ζ hv;have aI:=ζ hb0;have jR:Hid ((w.alloc (.cells #[.int .i64 (n:Int),.slice ao es.length ca] 24)).heap[w.heap.size]? =some (.cells #[.int .i64 (n:Int),.slice ao es.length ca] 24 (0,0))):=heap_alloc_new w _;have hmul:IntKind.i64.wrap (2*(es.length:Int))=2*(es.length:Int):=by rw[aaK];omega
 clear he hv hb0;go_enter Tryz.func59,Tryz.ntmps59;go_wp2;go_loopw [7] (fun c6 wr=>∃j:Nat,j<=2*es.length/\c6= .int .i64 (j:Int)/\Ro.half es u x j=none/\wr.heap[w.heap.size]? =some (.cells #[.int .i64 (n:Int),.slice ao es.length ca] 24 (0,0))/\Below w.heap.size w wr) (fun c6 _=>2*es.length-(intOf c6).toNat)
 case atStart=>exact⟨0,aaR _,rfl,rfl,jR.out,aI.out⟩
 case round=>
  obtain⟨j,hj,rfl,hno,hg,hb⟩:=hrel;obtain⟨g0,g1,-⟩:=af hg;have HG:=ζ hg;have HB:=ζ hb;have cB:=ζ hno;clear hg hb hno;by_cases hlt:j<2*es.length
  .have aP:(j:Int)<2*(es.length:Int):=by omega
   have HF:=ζ (mg n ao ca es j wr (HE.out.later HB.out) cC.out hlt);by_cases hf:Cs.fr es j=u
   .have t1:((Cs.fr es j:Int)==(u:Int))=true:=by simp;omega
    have TF:=ζ hf;clear hf;go_wp2_with (go_at_call 100;refine HF.out.mono ?_;rintro e w2 ⟨rfl,hb2⟩;refine aaI ?_);refine ζ ?_;have Jo:=(hb2.block _ (lt_of_block HG.out)).trans HG.out;have aA:=ζ (HB.out.trans (hb2.mono HB.out.size));clear g0 g1;obtain⟨g0,g1,-⟩:=af Jo;have cA:=ζ Jo;have HT:=ζ (NW n ao ca es j w2 (HE.out.later aA.out) cC.out hlt);clear hb2 Jo;by_cases ht:(Cs.to es j:Int)=x
    .have t2:((Cs.to es j:Int)==x)=true:=by simp[ht]
     have HX:=ζ (Ro.abA cC.out hlt TF.out ht);clear ht;go_wp2_with (go_at_call 101;refine HT.out.mono ?_;rintro e w3 ⟨rfl,hb3⟩;refine aaI ?_);refine ζ ?_;have aK:=ζ (aA.out.trans (hb3.mono aA.out.size));clear hb3 g0 g1;go_wp2;go_ret;exact⟨by rw[(Ro.DI HX.out).1];rfl,aK.out⟩
    .have t2:((Cs.to es j:Int)==x)=false:=beq_false_of_ne ht
     have yS:Hid (Ro.half es u x (j+1)=none):=by
      show Ro.half es u x (j+1)=none;unfold Ro.half;rw[cB.out];exact if_neg (fun h=>ht h.2)
     clear ht;go_wp2_with (go_at_call 101;refine HT.out.mono ?_;rintro e w3 ⟨rfl,hb3⟩;refine aaI ?_);refine ζ ?_;have iC:=ζ ((hb3.block _ (lt_of_block cA.out)).trans cA.out);have aK:=ζ (aA.out.trans (hb3.mono aA.out.size));clear hb3 g0 g1;go_wp2;go_roundw
     case rel=>exact⟨j+1,by omega,by go_num,yS.out,iC.out,aK.out⟩
     case measure=>simp[intOf];omega
   .have t1:((Cs.fr es j:Int)==(u:Int))=false:=by simp;omega
    have yS:Hid (Ro.half es u x (j+1)=none):=by
     show Ro.half es u x (j+1)=none;unfold Ro.half;rw[cB.out];exact if_neg (fun h=>hf h.1)
    clear hf;go_wp2_with (go_at_call 100;refine HF.out.mono ?_;rintro e w2 ⟨rfl,hb2⟩;refine aaI ?_);refine ζ ?_;have cA:=ζ ((hb2.block _ (lt_of_block HG.out)).trans HG.out);have aA:=ζ (HB.out.trans (hb2.mono HB.out.size));clear hb2 g0 g1;go_wp2;go_roundw
    case rel=>exact⟨j+1,by omega,by go_num,yS.out,cA.out,aA.out⟩
    case measure=>simp[intOf];omega
  .have aP:¬(j:Int)<2*(es.length:Int):=by omega
   obtain rfl:j=2*es.length:=by omega
   go_wp2;go_ret;exact⟨by rw[(Ro.Jf cB.out).1];rfl,HB.out⟩
end
section
open Go.Proofs.Tryz
open Go.RowKit Go.Sort
theorem Ar (ao:Option Addr) (ca n k:Nat) (l:List Int) (x:Int) (w:World) (hn:l.length=n) (ha:aV w ao l) (hk:k<=n) (hl:n<=4611686018427387904):
 Calls prog 60 #[.slice ao n ca,.int .i64 (k:Int),.int .i64 x] w fun e w'=>e= .returned (.bool (decide (x∈l.take k)))/\w'=w:=by
 have HA:=ζ ha;have HN:=ζ hn;clear ha hn;go_enter func60,ntmps60;go_wp2;go_loopw [7] (fun c wr=>∃i:Nat,i<=k/\c= .int .i64 i/\x∉l.take i/\wr=w) (fun c _=>k-(intOf c).toNat)
 case atStart=>exact⟨0,aaR _,rfl,by simp,rfl⟩
 case round=>
  obtain⟨i,hi,rfl,hno,hw⟩:=hrel;obtain rfl:=hw.symm;have cB:=ζ hno;clear hno hw;by_cases hlt:i<k
  .have aP:(i:Int)<(k:Int):=by omega
   have nS:(0:Int)<=(i:Int):=by omega
   have hin:(i:Int)<(n:Int):=by omega
   obtain⟨y,hy⟩:∃y,l[i]? =some y:=⟨_,aaE (by have:=HN.out;omega)⟩;obtain⟨b,o,rfl,c0⟩:=HA.out i y hy;have HY:=ζ hy;clear hy;by_cases e1:y=x
   .have t1:(y==x)=true:=by simp[e1]
    have HV:=ζ (show decide (x∈l.take k)=true by
     rw[decide_eq_true_eq,<-e1];exact aaJ (i:=i) (by rw[acf,if_pos hlt];exact HY.out))
    clear e1;go_wp2;go_ret;exact⟨by rw[HV.out];rfl,rfl⟩
   .have t1:(y==x)=false:=by simp[e1]
    have agz:=ζ (show x∉l.take (i+1) by
     rw[Ro.dU HY.out,abo,abe];rintro(h|h)
     .exact cB.out h
     .exact e1 h.symm)
    clear e1;go_wp2;go_roundw
    case rel=>exact⟨i+1,by omega,by go_num,agz.out,by first|rfl|trivial⟩
    case measure=>simp[intOf];omega
  .have aP:¬(i:Int)<(k:Int):=by omega
   obtain rfl:i=k:=by omega
   have HV:=ζ (show decide (x∈l.take i)=false by rw[decide_eq_false_iff_not];exact cB.out);go_wp2;go_ret;exact⟨by rw[HV.out];rfl,rfl⟩
theorem sk (n:Nat) (ao:Option Addr) (ca:Nat) (es:List (Int×Int)) (v:Nat) (w:World) (he:ah w ao es) (hv:Si.Val n es):
 Calls prog 61 #[.agg #[.int .i64 (n:Int),.slice ao es.length ca],.int .i64 (v:Int)] w fun e w'=>e= .returned (.int .i64 (Ro.iM es v:Int))/\Below w.heap.size w w':=by
 have hb0:Below w.heap.size w (w.alloc (.cells #[.int .i64 (n:Int),.slice ao es.length ca] 24)):=(aaG _ _).alloc (aaF _) _;have bV:=hv.few;have HE:=ζ he;have cC:=ζ hv;have aI:=ζ hb0;have jR:Hid ((w.alloc (.cells #[.int .i64 (n:Int),.slice ao es.length ca] 24)).heap[w.heap.size]? =some (.cells #[.int .i64 (n:Int),.slice ao es.length ca] 24 (0,0))):=heap_alloc_new w _;have hmul:IntKind.i64.wrap (2*(es.length:Int))=2*(es.length:Int):=by rw[aaK];omega
 clear he hv hb0;go_enter func61,ntmps61;go_wp2;go_loopw [5,6] (fun c5 c6 wr=>∃j:Nat,j<=2*es.length/\c6= .int .i64 (j:Int)/\c5= .int .i64 ((Cs.out es v j).length:Int)/\wr.heap[w.heap.size]? =some (.cells #[.int .i64 (n:Int),.slice ao es.length ca] 24 (0,0))/\Below w.heap.size w wr) (fun _ c6 _=>2*es.length-(intOf c6).toNat)
 case atStart=>exact⟨0,aaR _,rfl,rfl,jR.out,aI.out⟩
 case round=>
  obtain⟨j,hj,rfl,rfl,hg,hb⟩:=hrel;obtain⟨g0,g1,-⟩:=af hg;have HG:=ζ hg;have HB:=ζ hb;have hol:=Cs.sq (es:=es) (v:=v) j;have hos:=Cs.eZ (es:=es) (v:=v) j;have HOS:=ζ hos;clear hg hb hos;by_cases hlt:j<2*es.length
  .have aP:(j:Int)<2*(es.length:Int):=by omega
   have HF:=ζ (mg n ao ca es j wr (HE.out.later HB.out) cC.out hlt);by_cases hf:Cs.fr es j=v
   .have t1:((Cs.fr es j:Int)==(v:Int))=true:=by simp;omega
    have HO:Hid ((Cs.out es v (j+1)).length=(Cs.out es v j).length+1):=by have:=HOS.out;rw[if_pos hf] at this;exact this
    clear hf;go_wp2_with (go_at_call 100;refine HF.out.mono ?_;rintro e w2 ⟨rfl,hb2⟩;refine aaI ?_);refine ζ ?_;have cA:=ζ ((hb2.block _ (lt_of_block HG.out)).trans HG.out);have aA:=ζ (HB.out.trans (hb2.mono HB.out.size));clear hb2 g0 g1;go_wp2;go_roundw
    case rel=>exact⟨j+1,by omega,by go_num,by rw[HO.out];go_num,cA.out,aA.out⟩
    case measure=>simp[intOf];omega
   .have t1:((Cs.fr es j:Int)==(v:Int))=false:=by simp;omega
    have HO:Hid ((Cs.out es v (j+1)).length=(Cs.out es v j).length):=by have:=HOS.out;rw[if_neg hf] at this;exact this
    clear hf;go_wp2_with (go_at_call 100;refine HF.out.mono ?_;rintro e w2 ⟨rfl,hb2⟩;refine aaI ?_);refine ζ ?_;have cA:=ζ ((hb2.block _ (lt_of_block HG.out)).trans HG.out);have aA:=ζ (HB.out.trans (hb2.mono HB.out.size));clear hb2 g0 g1;go_wp2;go_roundw
    case rel=>exact⟨j+1,by omega,by go_num,by rw[HO.out],cA.out,aA.out⟩
    case measure=>simp[intOf];omega
  .have aP:¬(j:Int)<2*(es.length:Int):=by omega
   obtain rfl:j=2*es.length:=by omega
   go_wp2;go_ret;exact⟨rfl,HB.out⟩
end
end Go.Proofs.YtdbjpbjocmcpkaaGreatDoor
