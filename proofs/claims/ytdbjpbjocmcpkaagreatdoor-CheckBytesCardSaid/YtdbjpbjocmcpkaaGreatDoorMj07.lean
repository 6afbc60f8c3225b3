import Derived.Test.YtdbjpbjocmcpkaaGreatDoorMj06
set_option maxHeartbeats 8000000
set_option maxRecDepth 100000
namespace Go.Proofs.YtdbjpbjocmcpkaaGreatDoor
section
open Go.Proofs.Tryz
open Go.RowKit Go.Sort
namespace Si
def lB (n:Int) (es:List (Int×Int)) (k:Nat) (l:Int×Int):Prop:=
 (∀(j:Nat) (p:Int×Int),j<k->es[j]? =some p->ok n p)/\(∀(j:Nat) (p q:Int×Int),j+1<k->es[j]? =some p->es[j+1]? =some q->lt p q)/\((k=0/\l=(0,0))\/∃k',k=k'+1/\es[k']? =some l)
theorem lB.start (n:Int) (es:List (Int×Int)):lB n es 0 (0,0):=⟨fun j p h=>by omega,fun j p q h=>by omega,.inl ⟨rfl,rfl⟩⟩
theorem lB.step {n:Int} {es:List (Int×Int)} {k:Nat} {l p:Int×Int} (h:lB n es k l) (hp:es[k]? =some p) (ho:ok n p) (hl:lt l p):lB n es (k+1) p:=by
 refine⟨fun j q hj hq=> ?_,fun j q r hj hq hr=> ?_,.inr ⟨k,rfl,hp⟩⟩
 .by_cases hjk:j=k
  .subst hjk;rw[hp] at hq;cases hq;exact ho
  .exact h.1 j q (by omega) hq
 .by_cases hjk:j+1=k
  .subst hjk
   rw[hp] at hr;cases hr;rcases h.2.2 with ⟨h0,_⟩|⟨k',hk,hl'⟩
   .omega
   .obtain rfl:j=k':=by omega
    rw[hl'] at hq;cases hq;exact hl
  .exact h.2.1 j q r (by omega) hq hr
theorem lB.must {n:Int} {es:List (Int×Int)} {k:Nat} {l p:Int×Int} (h:lB n es k l) (hv:Val n es) (hp:es[k]? =some p):ok n p/\lt l p:=by
 have ho:=hv.each k p hp;refine⟨ho,?_⟩;rcases h.2.2 with ⟨rfl,rfl⟩|⟨k',rfl,hl⟩
 .unfold ok at ho
  unfold lt;dsimp only;omega
 .exact hv.up k' l p hl hp
theorem lB.done {n:Int} {es:List (Int×Int)} {l:Int×Int} (h:lB n es es.length l) (h0:0<=n) (h1:n<=1048576) (h2:es.length<=4194304):Val n es:=by
 have lim:∀(j:Nat) (p:Int×Int),es[j]? =some p->j<es.length:=fun j p hj=>by
  rcases abW j es.length with hl|hl
  .exact hl
  .rw[aa6 hl] at hj;cases hj
 exact⟨h0,h1,h2,fun j p hj=>h.1 j p (lim j p hj) hj,fun j p q hp hq=>h.2.1 j p q (lim _ _ hq) hp hq⟩
end Si
theorem af {w:World} {b:Nat} {t:TypeId} {x y:Value} (h:w.heap[b]? =some (.cells #[x,y] t (0,0))):w.cell? ⟨b,0,none⟩=some x/\w.cell? ⟨b,1,none⟩=some y/\∀i,w.frozen? ⟨b,i,none⟩=false:=by
 refine⟨by simp[World.cell?,h],by simp[World.cell?,h],fun i=>by simp[World.frozen?,h]⟩
theorem jA {w:World} {b:Nat} {t:TypeId} {x y:Value} (h:w.heap[b]? =some (.cells #[x,y] t (0,0))) (x' y':Value):((w.setCell ⟨b,0,none⟩ x').setCell ⟨b,1,none⟩ y').heap[b]? =some (.cells #[x',y'] t (0,0)):=by
 have h1:=heap_setCell_same w b 0 _ t x' h;have h2:=heap_setCell_same _ b 1 _ t y' h1;simpa using h2
theorem eE {w:World} {b k:Nat} (hk:k≠b) (x' y':Value):((w.setCell ⟨b,0,none⟩ x').setCell ⟨b,1,none⟩ y').heap[k]? =w.heap[k]? :=by
 rw[heap_setCell_other _ ⟨b,1,none⟩ k y' hk,heap_setCell_other _ ⟨b,0,none⟩ k x' hk]
theorem qj (n:Int) (ao:Option Addr) (cap:Nat) (es:List (Int×Int)) (w:World) (he:ah w ao es) (hl:es.length<=4611686018427387904):
 Calls prog 38 #[aB n ao es.length cap] w fun e w'=>e= .returned (.bool (Si.valid n es))/\Below w.heap.size w w':=by
 have HE:=ζ he;clear he;unfold aB;by_cases h1:n<0
 .have hv:=Si.dD (n:=n) (es:=es) (fun h=>by have:=h.lo;omega)
  rw[hv];go_enter func38,ntmps38;go_wp2;go_ret;exact⟨rfl,(aaG _ _).alloc (aaF _) _⟩
 .by_cases h2:1048576<n
  .have hv:=Si.dD (n:=n) (es:=es) (fun h=>by have:=h.hi;omega)
   rw[hv];go_enter func38,ntmps38;go_wp2;go_ret;exact⟨rfl,(aaG _ _).alloc (aaF _) _⟩
  .by_cases h3:4194304<(es.length:Int)
   .have hv:=Si.dD (n:=n) (es:=es) (fun h=>by have:=h.few;omega)
    rw[hv];go_enter func38,ntmps38;go_wp2;go_ret;exact⟨rfl,(aaG _ _).alloc (aaF _) _⟩
   .go_enter func38,ntmps38
    go_wp2;go_loopw [23] (fun c wr=>∃(k:Nat) (l:Int×Int),k<=es.length/\c= .int .i64 k/\Si.lB n es k l/\wr.heap[w.heap.size]? =some (.cells #[.int .i64 n,.slice ao es.length cap] 24 (0,0))/\wr.heap[w.heap.size+1]? =some (.cells #[.int .i64 l.1,.int .i64 l.2] 66 (0,0))/\Below w.heap.size w wr) (fun c _=>es.length-(intOf c).toNat)
    case atStart=>
     refine⟨0,(0,0),aaR _,rfl,Si.lB.start n es,?_,?_,((aaG _ _).alloc (aaF _) _).alloc (by simp) _⟩
     .rw[aa0 _ _ _ (by simp)]
      exact heap_alloc_new w _
     .have:=heap_alloc_new (w.alloc (.cells #[.int .i64 n,.slice ao es.length cap] 24)) (.cells #[.int .i64 0,.int .i64 0] 66)
      simpa using this
    case round=>
     obtain⟨k,l,hk,rfl,e6,hgb,hlb,hb⟩:=hrel;by_cases hlt:k<es.length
     .have aP:(k:Int)<(es.length:Int):=by omega
      have hk0:(0:Int)<=(k:Int):=by omega
      obtain⟨p,hp⟩:∃p,es[k]? =some p:=⟨_,aaE hlt⟩;obtain⟨b,o,rfl,c0,c1⟩:=(HE.out.later hb) k p hp;obtain⟨g0,-,-⟩:=af hgb;obtain⟨l0,l1,lf⟩:=af hlb;have hsz:=lt_of_block hlb;have vF:=lt_of_block hgb;have hbl:b<wr.heap.size:=block_lt_of_cell c0;have tD:=ζ e6;have HP:=ζ hp;have o8:=ζ hgb;have PL:=ζ hlb;have HB:=ζ hb;clear e6 hp hgb hlb hb;by_cases q1:p.1<0
      .have hv:=Si.dD (n:=n) (es:=es) (fun h=>by have:=(tD.out.must h HP.out).1.1;omega)
       go_wp2;go_ret;exact⟨by first|rfl|exact congrArg (fun b=>Ending.returned (.bool b)) hv.symm,HB.out.alloc (by omega) _⟩
      .by_cases q2:p.1<p.2
       .by_cases q3:p.2<n
        .have hca:=fun W=>yA l p W
         unfold cM at hca;have yX:=ζ hca;clear hca;by_cases q4:Si.lt l p
         .have FK:=Si.Ch.2 q4
          generalize Si.cf l p=r at yX FK;go_wp2_with (go_at_call 73;refine(yX.out _).mono ?_;rintro e w' ⟨rfl,hgr⟩;refine aaI ?_);refine ζ ?_;obtain⟨qn,os',rfl⟩:=hgr;have hb1:=lz (wr.alloc (.cells #[.int .i64 p.1,.int .i64 p.2] 66)) qn os';have hb2:Below wr.heap.size wr (grow ((wr.alloc (.cells #[.int .i64 p.1,.int .i64 p.2] 66)).drewN qn) os'):=((aaG _ _).alloc (aaF _) _).trans (hb1.mono (by simp));have hnew:(grow ((wr.alloc (.cells #[.int .i64 p.1,.int .i64 p.2] 66)).drewN qn) os').heap[wr.heap.size]? =some (.cells #[.int .i64 p.1,.int .i64 p.2] 66 (0,0)):=(hb1.block _ (by simp)).trans (heap_alloc_new wr _);generalize grow ((wr.alloc (.cells #[.int .i64 p.1,.int .i64 p.2] 66)).drewN qn) os'=w2 at hb2 hnew ⊢;have aak:=ζ ((hb2.block _ hsz).trans PL.out);have agV:=ζ ((hb2.block _ vF).trans o8.out);obtain⟨m0,m1,mf⟩:=af aak.out;obtain⟨n0,n1,-⟩:=af hnew;have hsz2:=hb2.size;have aA:=ζ (HB.out.trans (hb2.mono (by omega)));clear hb1 hb2 hnew c0 c1 g0 l0 l1 lf;go_wp2;go_roundw
          case rel=>exact⟨k+1,p,by omega,by go_num,tD.out.step HP.out ⟨by omega,q2,q3⟩ q4,(eE (by omega) _ _).trans agV.out,jA aak.out _ _,(aA.out.setCell (by simp) _).setCell (by simp) _⟩
          case measure=>simp[intOf];omega
         .have hv:=Si.dD (n:=n) (es:=es) (fun h=>q4 (tD.out.must h HP.out).2)
          have FK:¬(Si.cf l p<0):=fun h=>q4 (Si.Ch.1 h)
          generalize Si.cf l p=r at yX FK;go_wp2_with (go_at_call 73;refine(yX.out _).mono ?_;rintro e w' ⟨rfl,hgr⟩;refine aaI ?_);refine ζ ?_;obtain⟨qn,os',rfl⟩:=hgr;have hb1:=lz (wr.alloc (.cells #[.int .i64 p.1,.int .i64 p.2] 66)) qn os';generalize grow ((wr.alloc (.cells #[.int .i64 p.1,.int .i64 p.2] 66)).drewN qn) os'=w2 at hb1 ⊢;have aA:=ζ ((HB.out.alloc (by omega) _).trans (hb1.mono (by simp;omega)));clear hb1;go_wp2;go_ret;exact⟨by first|rfl|exact congrArg (fun b=>Ending.returned (.bool b)) hv.symm,aA.out⟩
        .have hv:=Si.dD (n:=n) (es:=es) (fun h=>by have:=(tD.out.must h HP.out).1.2.2;omega)
         go_wp2;go_ret;exact⟨by first|rfl|exact congrArg (fun b=>Ending.returned (.bool b)) hv.symm,HB.out.alloc (by omega) _⟩
       .have hv:=Si.dD (n:=n) (es:=es) (fun h=>by have:=(tD.out.must h HP.out).1.2.1;omega)
        go_wp2;go_ret;exact⟨by first|rfl|exact congrArg (fun b=>Ending.returned (.bool b)) hv.symm,HB.out.alloc (by omega) _⟩
     .obtain rfl:k=es.length:=by omega
      have hv:=Si.aL.2 (e6.done (by omega) (by omega) (by omega));have HB:=ζ hb;clear hb e6 hgb hlb;go_wp2;go_ret;exact⟨by first|rfl|exact congrArg (fun b=>Ending.returned (.bool b)) hv.symm,HB.out⟩
end
section
open Go.RowKit
namespace Si
theorem yK (l:List Int) (v:Int):(bump l v).length=l.length:=by simp[bump]
theorem wE (n:Int) (es:List (Int×Int)) (p:Int×Int):aS n (es++[p])=bump (bump (aS n es) p.1) p.2:=by simp[aS,List.foldl_append]
theorem jK (n:Int) (es:List (Int×Int)):(aS n es).length=n.toNat:=by
 unfold aS
 suffices h:∀(es:List (Int×Int)) (l:List Int),(es.foldl (fun l e=>bump (bump l e.1) e.2) l).length=l.length by rw[h];simp
 intro es
 induction es with
 |nil=>intro l;rfl
 |cons e es ih=>intro l;rw[List.foldl_cons,ih,yK,yK]
def Bl (m:Int) (l:List Int):Prop:=∀(j:Nat) (x:Int),l[j]? =some x->0<=x/\x<=m
theorem Bl.bump {m:Int} {l:List Int} (h:Bl m l) (v:Int):Bl (m+1) (bump l v):=by
 intro j x hx;unfold Si.bump at hx;rw[aa8] at hx;by_cases hv:v.toNat=j
 .rw[if_pos hv] at hx
  split at hx
  .cases hx
   rename_i hl
   have e:l[v.toNat]? =some l[v.toNat]:=aaE hl;have:=h _ _ e;rw[aaL,e];dsimp only[Option.getD_some];omega
  .cases hx
 .rw[if_neg hv] at hx
  have:=h j x hx;omega
theorem El (n:Int) (es:List (Int×Int)):Bl (2*es.length) (aS n es):=by
 unfold aS
 suffices h:∀(es:List (Int×Int)) (l:List Int) (m:Int),Bl m l->Bl (m+2*es.length) (es.foldl (fun l e=>Si.bump (Si.bump l e.1) e.2) l) by
  have:=h es (List.replicate n.toNat 0) 0 (fun j x hx=>by
   rw[ach] at hx
   split at hx
   .cases hx;omega
   .cases hx)
  simpa using this
 intro es
 induction es with
 |nil=>intro l m h;simpa using h
 |cons e es ih=>
  intro l m h;have:=ih _ _ ((h.bump e.1).bump e.2);rw[List.foldl_cons];have e1:m+2*((e::es).length:Int)=m+1+1+2*(es.length:Int):=by simp;omega
  rw[e1];exact this
end Si
end
section
open Go.Proofs.Tryz
open Go.RowKit Go.Sort
def Nw (n:Int) (es:List (Int×Int)) (w:World) (e:Ending) (w':World):Prop:=
 ((Si.valid n es=true/\∃g m:Nat,n=(m:Int)/\e= .returned (.tuple #[.slice (some ⟨g,0,none⟩) m m,.int .i64 0])/\w.heap.size<=g/\aq w' g (Si.aS n es))\/(Si.valid n es=false/\e= .returned (.tuple #[.slice none 0 0,.int .i64 1])))/\Below w.heap.size w w'
theorem Si.pY {l:List Int} {u:Nat} {x:Int} (h:l[u]? =some x):Si.bump l (u:Int)=l.set u (x+1):=by
 unfold Si.bump;rw[abu,aaL,h];rfl
theorem yx (n:Int) (ao:Option Addr) (cap:Nat) (es:List (Int×Int)) (w:World) (he:ah w ao es) (hl:es.length<=4611686018427387904):
 Calls prog 173 #[aB n ao es.length cap] w (Nw n es w):=by
 obtain⟨i0,hi,hz0,hz1,hz2⟩:=info_parts Tryz.cL;have HE:=ζ he;have kG:=fun W (hb:Below w.heap.size w W)=>qj n ao cap es W (he.later hb) hl
 unfold aB at kG ⊢;have dM:=ζ kG;clear he kG;have eA:Below w.heap.size w (w.alloc (.cells #[.int .i64 n,.slice ao es.length cap] 24)):=(aaG _ _).alloc (aaF _) _;have bZ:=ζ eA;clear eA;cases hv:Si.valid n es with
 |false=>
  rw[hv] at dM;have HV:=ζ hv;clear hv;go_enter func173,ntmps173;go_wp2_with (go_at_call 38;refine(dM.out _ bZ.out).mono ?_;rintro e w' ⟨rfl,hb⟩;refine aaI ?_);refine ζ ?_;have HB:=ζ (bZ.out.trans (hb.mono bZ.out.size));clear hb;go_wp2;go_ret2;exact⟨.inr ⟨HV.out,rfl⟩,HB.out⟩
 |true=>
  rw[hv] at dM;have hval:=Si.aL.1 hv;have bV:=hval.few;have hlo:=hval.lo;have hhi:=hval.hi;obtain⟨m,rfl⟩:∃m:Nat,n=(m:Int):=⟨n.toNat,by omega⟩;have cC:=ζ hval;have HV:=ζ hv;clear hval hv;go_enter func173,ntmps173;go_wp2_with (go_at_call 38;refine(dM.out _ bZ.out).mono ?_;rintro e w' ⟨rfl,hb⟩;refine aaI ?_);refine ζ ?_;have hG:w'.heap[w.heap.size]? =some (.cells #[.int .i64 m,.slice ao es.length cap] 24 (0,0)):=(hb.block _ (by simp)).trans (heap_alloc_new w _);have HB:=ζ (bZ.out.trans (hb.mono bZ.out.size));have pP:=lt_of_block hG;obtain⟨g0,g1,-⟩:=af hG;clear hb hG;go_wp2_with (at_make;refine wpList_make_full _ rfl _ _ 55 rfl w'.heap.size 3 i0 (.int .i64 0) 1 Tryz.underlying55 hi hz0 hz1 _ _ _ _ m rfl rfl rfl rfl (by rw[hz2];omega) (by unfold maxLen;omega) (aaF _) ?_;refine aaI ?_);refine ζ ?_;intro w2 hrow hg2;rw[dx] at hrow;have hik:=eR hrow;have hb2:Below w'.heap.size w' w2:=(aaG _ _).grown hg2 (aaF _) (fun j hj=>by cases hj);have aA:=ζ (HB.out.trans (hb2.mono HB.out.size));have k1:=(hb2.cell (p:=⟨w.heap.size,1,none⟩) pP).trans g1;have hs2:w'.heap.size<w2.heap.size:=hik.lt;have HIK:Hid (aq w2 w'.heap.size (Si.aS m [])):=by
   show aq _ _ _;have:Si.aS m []=List.replicate m 0:=by simp[Si.aS]
   rw[this];exact hik
  have hwg:w.heap.size<=w'.heap.size:=by omega
  have UQ:w.heap.size<w2.heap.size:=by omega
  clear hrow hg2 hb2 hik g0 g1;go_wp2;go_loopw [16] (fun c wr=>∃(k:Nat) (l:List Int),k<=es.length/\c= .int .i64 k/\l=Si.aS m (es.take k)/\aq wr w'.heap.size l/\Below w.heap.size w wr) (fun c _=>es.length-(intOf c).toNat)
  case atStart=>exact⟨0,_,aaR _,rfl,by simp,HIK.out,aA.out⟩
  case round=>
   obtain⟨k,l,hk,rfl,hl0,hik,hb⟩:=hrel;have hsw:=hik.lt;have hs0:=hb.size;have eB:l.length=m:=by rw[hl0,Si.jK];simp
   have e6:Si.Bl (2*k) l:=by
    rw[hl0];have:=Si.El m (es.take k);have e:(es.take k).length=k:=by simp;omega
    rw[e] at this;exact this
   have WY:=ζ hik;have aK:=ζ hb;have tK:=ζ hl0;clear hl0;by_cases hlt:k<es.length
   .have aP:(k:Int)<(es.length:Int):=by omega
    have hk0:(0:Int)<=(k:Int):=by omega
    obtain⟨p,hp⟩:∃p,es[k]? =some p:=⟨_,aaE hlt⟩;obtain⟨b,o,rfl,c0,c1⟩:=(HE.out.later hb) k p hp;have hbl:b<wr.heap.size:=block_lt_of_cell c0;have wj:Si.aS m (es.take (k+1))=Si.bump (Si.bump l p.1) p.2:=by rw[Si.fR hp,Si.wE,<-tK.out]
    have hok:=cC.out.each k p hp;unfold Si.ok at hok;obtain⟨pu,pv⟩:=p;dsimp only at c0 c1 wj hok;obtain⟨u,rfl⟩:∃u:Nat,pu=(u:Int):=⟨pu.toNat,by omega⟩;obtain⟨v,rfl⟩:∃v:Nat,pv=(v:Int):=⟨pv.toNat,by omega⟩;obtain⟨x,hx⟩:∃x,l[u]? =some x:=⟨_,aaE (by omega)⟩;obtain⟨y,hy⟩:∃y,l[v]? =some y:=⟨_,aaE (by omega)⟩;have hxb:=e6 u x hx;have hyb:=e6 v y hy;have hne:u≠v:=by omega
    have LC:Si.aS m (es.take (k+1))=(l.set u (x+1)).set v (y+1):=by
     rw[wj,Si.pY hx,Si.pY (x:=y) (by rw[aa8,if_neg hne];exact hy)]
    have Nc:=ζ LC;have hcx:=hik.cell hx;have Vt:=hik.cell hy;have hfr:=hik.free;have hi1:=hik.set u (x+1);have afi:=hi1.cell (i:=v) (x:=y) (by rw[aa8,if_neg hne];exact hy);have Vp:=hi1.free;have tL:=ζ ((hi1.set v (y+1)).alloc (.cells #[.int .i64 u,.int .i64 v] 66));have u0:(0:Int)<=(u:Int):=by omega
    have v0:(0:Int)<=(v:Int):=by omega
    have um:(u:Int)<(m:Int):=by omega
    have vm:(v:Int)<(m:Int):=by omega
    clear wj LC e6 hok hx hy hb hik hi1 hp;go_wp2;go_roundw
    case rel=>exact⟨k+1,_,by omega,by go_num,Nc.out.symm,tL.out,((aK.out.setCell (by simp;omega) _).setCell (by simp;omega) _).alloc (by simp;omega) _⟩
    case measure=>simp[intOf];omega
   .have hd:¬((k:Int)<(es.length:Int)):=by omega
    have hle:l=Si.aS m es:=by rw[tK.out,abn (by omega)]
    have Af:=ζ hle;clear hle hb hik e6;go_wp2;go_ret2;refine⟨.inl ⟨HV.out,w'.heap.size,m,rfl,rfl,hwg,?_⟩,aK.out⟩;rw[<-Af.out];exact WY.out
theorem Bg {w:World} {g i b o:Nat} (h:b≠g) (x:Value):(w.setCell ⟨g,i,none⟩ x).cell? ⟨b,o,none⟩=w.cell? ⟨b,o,none⟩:=by
 simp[World.cell?,heap_setCell_other w ⟨g,i,none⟩ b x h]
end
section
open Go.RowKit Go.Sort
def Co.met (es:List (Int×Int)) (v:Nat):Bool:=es.any fun e=>e.1==(v:Int)||e.2==(v:Int)
theorem Co.RS (es:List (Int×Int)) (p:Int×Int) (v:Nat):Co.met (es++[p]) v=(Co.met es v||(p.1==(v:Int)||p.2==(v:Int))):=by simp[Co.met]
end
section
open Go.RowKit
def Cs.lY (n:Nat) (es:List (Int×Int)) (x:Int):List Int:=(Cs.AQ n es x).map fun i:Nat=>(i:Int)
theorem Cs.RO {n:Nat} {es:List (Int×Int)} {x:Int}:(Cs.lY n es x).length=(Cs.AQ n es x).length:=by simp[Cs.lY]
def Cs.SU (es:List (Int×Int)) (x:Int):Int:=if 0<=x/\x<2*(es.length:Int) then (Cs.fr es x.toNat:Int) else -1
def Cs.toI (es:List (Int×Int)) (x:Int):Int:=if 0<=x/\x<2*(es.length:Int) then (Cs.to es x.toNat:Int) else -1
theorem Cs.qO {es:List (Int×Int)} {i:Nat} (h:i<2*es.length):Cs.SU es i=(Cs.fr es i:Int):=by
 unfold Cs.SU;rw[if_pos (by omega)];simp
theorem Cs.toI_in {es:List (Int×Int)} {i:Nat} (h:i<2*es.length):Cs.toI es i=(Cs.to es i:Int):=by
 unfold Cs.toI;rw[if_pos (by omega)];simp
theorem Cs.YE {es:List (Int×Int)} {x:Int} (h:¬(0<=x/\x<2*(es.length:Int))):Cs.SU es x= -1:=by unfold Cs.SU;rw[if_neg h]
theorem Cs.toI_no {es:List (Int×Int)} {x:Int} (h:¬(0<=x/\x<2*(es.length:Int))):Cs.toI es x= -1:=by unfold Cs.toI;rw[if_neg h]
theorem Cs.IV (u:Nat):u ^^^ 1=Cs.twin u:=by
 have h1:(u ^^^ 1)/2=u/2:=by rw[Nat.xor_div_two];simp
 have h2:(u ^^^ 1)%2=(u+1)%2:=by
  have:=Nat.xor_mod_two_pow (a:=u) (b:=1) (n:=1);simp at this;rw[this];rcases abJ u with h|h<;>rw[h]<;>simp<;>omega
 unfold Cs.twin
 split<;>omega
theorem Cs.mF (u:Nat) (hu:u<4611686018427387904):bits .xor .i64 (u:Int) 1=(Cs.twin u:Int):=by
 have h1:(BitVec.ofInt 64 (u:Int)).toNat=u:=by
  rw[BitVec.ofInt_natCast,BitVec.toNat_ofNat];exact abE (by omega)
 have h2:(BitVec.ofInt 64 (1:Int)).toNat=1:=by decide
 show IntKind.i64.wrap ((BitVec.ofInt 64 (u:Int) ^^^ BitVec.ofInt 64 (1:Int)).toNat:Int)=_;have h3:=Cs.IV u;have h4:Cs.twin u<=u+1:=by unfold Cs.twin;split<;>omega
 rw[BitVec.toNat_xor,h1,h2,aaK,h3];omega
end
namespace Ro
def lv (es:List (Int×Int)) (h:Int) (v:Nat):Bool:=decide (0<=h)&&decide (h<2*(es.length:Int))&&(Cs.SU es h==(v:Int))
def gm (es:List (Int×Int)) (v:Nat):List Int->List Int->Int
 |_,[]=>0
 |pre,h::t=>if lv es h v then (if h∈pre then 112 else gm es v (pre++[h]) t) else 111
def iM (es:List (Int×Int)) (v:Nat):Nat:=(Cs.out es v (2*es.length)).length
def zi (es:List (Int×Int)) (v:Nat) (l:List Int):Int:=if gm es v [] l≠0 then gm es v [] l else if l.length<iM es v then 113 else 0
def ig (es:List (Int×Int)):Nat->List (List Int)->Nat×Int
 |_,[]=>(0,0)
 |v,l::ls=>if zi es v l≠0 then (v,zi es v l) else ig es (v+1) ls
noncomputable def check (n:Int) (es:List (Int×Int)) (ls:List (List Int)):Nat×Int:=if Si.valid n es=true then (if (ls.length:Int)≠n then (0,110) else ig es 0 ls) else (0,1)
end Ro
section
open Go.RowKit
theorem Tryz.pO:(Tryz.prog.info? 4).map (fun i=>(i.zero,i.size,i.bytes))=some (some (.bool false),1,1):=by kernel_rfl
def Co.fZ (f:Nat->Bool) (x:Nat) (y:Bool):Nat->Bool:=fun i=>if i=x then y else f i
theorem Co.fQ (f:Nat->Bool) (x:Nat) (y:Bool):Co.fZ f x y x=y:=by simp[Co.fZ]
theorem Co.dS (f:Nat->Bool) {x i:Nat} {y:Bool} (h:i≠x):Co.fZ f x y i=f i:=by simp[Co.fZ,h]
def Co.bools (n:Nat) (f:Nat->Bool):List Value:=(List.range n).map fun i=>Value.bool (f i)
def aG (w:World) (g n:Nat) (f:Nat->Bool):Prop:=w.heap[g]? =some (.cells (Co.bools n f).toArray 4 (0,0))
section
variable {w w':World} {g n:Nat} {f:Nat->Bool}
theorem Co.uA {i:Nat} (hi:i<n):(Co.bools n f)[i]? =some (.bool (f i)):=by
 unfold Co.bools;rw[abj,acT hi];rfl
theorem aG.lt (h:aG w g n f):g<w.heap.size:=lt_of_block h
theorem aG.cell (h:aG w g n f) {i:Nat} (hi:i<n):w.cell? ⟨g,i,none⟩=some (.bool (f i)):=by
 unfold aG at h;have:=Co.uA (f:=f) hi;simp[World.cell?,h,this]
theorem aG.free (h:aG w g n f) (i:Nat):w.frozen? ⟨g,i,none⟩=false:=by
 unfold aG at h;simp[World.frozen?,h]
theorem aG.set (h:aG w g n f) (i:Nat) (y:Bool):aG (w.setCell ⟨g,i,none⟩ (.bool y)) g n (Co.fZ f i y):=by
 unfold aG at h ⊢;rw[heap_setCell_same w g i _ _ _ h,acD]
 congr 2
 congr 1
 refine ab0 fun j=> ?_
 rw[aa8];by_cases hj:j<n
 .rw[Co.uA hj,Co.uA hj]
  by_cases e:i=j
  .subst e
   rw[if_pos rfl,if_pos (by simp[Co.bools];exact hj),Co.fQ]
  .rw[if_neg e,Co.dS _ (acn e)]
 .rw[aa6 (by simp[Co.bools];omega),aa6 (by simp[Co.bools];omega)]
  by_cases e:i=j
  .rw[if_pos e,if_neg (by simp[Co.bools];omega)]
  .rw[if_neg e]
theorem aG.same (h:aG w g n f) (hb:w'.heap[g]? =w.heap[g]?):aG w' g n f:=hb.trans h
theorem aG.later (h:aG w g n f) (hb:Below w.heap.size w w'):aG w' g n f:=(hb.block g h.lt).trans h
theorem k9 {W:World} {k:Nat} (h:W.heap.size=k) (n:Nat):aG (W.alloc (.cells (madeCells #[.bool false] n) 4)) k n (fun _=>false):=by
 subst h;unfold aG;rw[heap_alloc_new]
 congr 2
 apply Array.ext';rw[toList_madeCells_one];refine ab0 fun j=> ?_
 by_cases hj:j<n
 .rw[Co.uA hj];simp[hj]
 .rw[aa6 (by simp;omega),aa6 (by simp[Co.bools];omega)]
end
end
section
namespace Ro
structure Sd (es:List (Int×Int)) (f:Nat->Bool) (v:Nat) (D pre:List Int):Prop where
 tell:∀j:Nat,f j=true↔(j:Int)∈D\/(j:Int)∈pre
 low:∀x∈D,∃u:Nat,u<v/\lv es x u=true
 here:∀x∈pre,lv es x v=true
theorem XS {es:List (Int×Int)} {x:Int} {u v:Nat} (h:lv es x u=true) (h2:lv es x v=true):u=v:=by
 unfold lv at h h2;simp at h h2;omega
theorem uf {es:List (Int×Int)} {x:Int} {v:Nat} (h:lv es x v=true):∃j:Nat,x=(j:Int)/\j<2*es.length/\Cs.fr es j=v:=by
 unfold lv at h;simp at h;obtain⟨j,rfl⟩:∃j:Nat,x=(j:Int):=⟨x.toNat,by omega⟩;have hj:j<2*es.length:=by omega
 rw[Cs.qO hj] at h;exact⟨j,rfl,hj,by omega⟩
theorem aaV {es:List (Int×Int)} {j v:Nat} (hj:j<2*es.length) (h:Cs.fr es j=v):lv es (j:Int) v=true:=by
 unfold lv;rw[Cs.qO hj];simp;omega
theorem Sd.start (es:List (Int×Int)):Sd es (fun _=>false) 0 [] []:=⟨fun j=>by simp,fun x hx=>by simp at hx,fun x hx=>by simp at hx⟩
theorem Sd.twice {es:List (Int×Int)} {f:Nat->Bool} {v j:Nat} {D pre:List Int} (h:Sd es f v D pre) (hl:lv es (j:Int) v=true):f j=true↔(j:Int)∈pre:=by
 rw[h.tell];constructor
 .rintro(h1|h1)
  .obtain⟨u,hu,h2⟩:=h.low _ h1
   have:=XS hl h2;omega
  .exact h1
 .exact Or.inr
theorem Sd.put {es:List (Int×Int)} {f:Nat->Bool} {v j:Nat} {D pre:List Int} (h:Sd es f v D pre) (hl:lv es (j:Int) v=true):Sd es (Co.fZ f j true) v D (pre++[(j:Int)]):=by
 refine⟨fun i=> ?_,h.low,fun x hx=> ?_⟩
 .by_cases e:i=j
  .subst e
   rw[Co.fQ];simp
  .rw[Co.dS _ e,h.tell]
   have e2:¬(i:Int)=(j:Int):=by omega
   simp[e2]
 .rcases abo.1 hx with h1|h1
  .exact h.here x h1
  .obtain rfl:=abe.1 h1
   exact hl
theorem Sd.next {es:List (Int×Int)} {f:Nat->Bool} {v:Nat} {D pre:List Int} (h:Sd es f v D pre):Sd es f (v+1) (D++pre) []:=by
 refine⟨fun i=> ?_,fun x hx=> ?_,fun x hx=>by simp at hx⟩
 .rw[h.tell]
  simp
 .rcases abo.1 hx with h1|h1
  .obtain⟨u,hu,h2⟩:=h.low x h1
   exact⟨u,by omega,h2⟩
  .exact⟨v,by omega,h.here x h1⟩
section
variable {es:List (Int×Int)} {v:Nat} {pre t:List Int} {h:Int}
theorem pW (hl:lv es h v=false):gm es v pre (h::t)=111:=by simp[gm,hl]
theorem nG (hl:lv es h v=true) (hp:h∈pre):gm es v pre (h::t)=112:=by simp[gm,hl,hp]
theorem ur (hl:lv es h v=true) (hp:h∉pre):gm es v pre (h::t)=gm es v (pre++[h]) t:=by simp[gm,hl,hp]
end
theorem fH {es:List (Int×Int)} {k:Nat} {l:List Int} {ls:List (List Int)} {c:Int} (h:zi es k l=c) (hc:c≠0):ig es k (l::ls)=(k,c):=by
 unfold ig;rw[h,if_pos hc]
theorem yF {es:List (Int×Int)} {k:Nat} {l:List Int} {ls:List (List Int)} (h:zi es k l=0):ig es k (l::ls)=ig es (k+1) ls:=by
 conv=>lhs;unfold ig
 rw[h,if_neg (by simp)]
theorem kV {es:List (Int×Int)} {k:Nat} {l:List Int} {c:Int} (h:gm es k [] l=c) (hc:c≠0):zi es k l=c:=by
 unfold zi;rw[h,if_pos hc]
theorem l8 {es:List (Int×Int)} {k:Nat} {l:List Int} (h:gm es k [] l=0) (hd:l.length<iM es k):zi es k l=113:=by
 unfold zi;rw[h,if_neg (by simp),if_pos hd]
theorem wX {es:List (Int×Int)} {k:Nat} {l:List Int} (h:gm es k [] l=0) (hd:¬l.length<iM es k):zi es k l=0:=by
 unfold zi;rw[h,if_neg (by simp),if_neg hd]
theorem Hp {es:List (Int×Int)}:∀{k:Nat} {ls:List (List Int)},(ig es k ls).2=0->(ig es k ls).1=0
 |_,[],_=>rfl
 |k,l::ls,h=>by
  unfold ig at h ⊢
  split at h
  .rename_i hc
   exact absurd h hc
  .rename_i hc
   rw[if_neg hc];exact Hp h
theorem MJ {n:Int} {es:List (Int×Int)} {ls:List (List Int)} (h:(check n es ls).2=0):(check n es ls).1=0:=by
 unfold check at h ⊢
 split at h
 .rename_i h1
  rw[if_pos h1]
  split at h
  .cases h
  .rename_i h2
   rw[if_neg h2];exact Hp h
 .cases h
theorem drop_cons {α:Type} {l:List α} {i:Nat} {x:α} (h:l[i]? =some x):l.drop i=x::l.drop (i+1):=by
 obtain⟨hi,rfl⟩:=aaH.1 h;exact acO hi
theorem dU {α:Type} {l:List α} {i:Nat} {x:α} (h:l[i]? =some x):l.take (i+1)=l.take i++[x]:=by
 rw[acj,h];rfl
end Ro
end
namespace Ro
def row (l:List Int):Nat->List Int->List Int
 |0,acc=>acc
 |k+1,acc=>(row l k acc).set (l.getD k 0).toNat (l.getD ((k+1)%l.length) 0)
def nx (ls:List (List Int)):Nat->List Int->List Int
 |0,acc=>acc
 |k+1,acc=>row (ls.getD k []) (ls.getD k []).length (nx ls k acc)
def kC (es:List (Int×Int)) (ls:List (List Int)):List Int:=nx ls ls.length (List.replicate (2*es.length) 0)
theorem sj (l:List Int):∀k acc,(row l k acc).length=acc.length
 |0,_=>rfl
 |k+1,acc=>by
  unfold row;rw[acE,sj l k]
theorem xI (ls:List (List Int)):∀k acc,(nx ls k acc).length=acc.length
 |0,_=>rfl
 |k+1,acc=>by
  unfold nx;rw[sj,xI ls k]
theorem Da (es:List (Int×Int)) (ls:List (List Int)):(kC es ls).length=2*es.length:=by
 unfold kC;rw[xI];simp
theorem QK {es:List (Int×Int)} {v:Nat}:∀{t pre:List Int},gm es v pre t=0->(∀x∈t,lv es x v=true)/\t.Nodup/\∀x∈t,x∉pre
 |[],pre,_=>⟨fun x hx=>by simp at hx,List.nodup_nil,fun x hx=>by simp at hx⟩
 |h::t,pre,h0=>by
  cases hl:lv es h v with
  |false=>rw[pW hl] at h0;cases h0
  |true=>
   by_cases hp:h∈pre
   .rw[nG hl hp] at h0;cases h0
   .rw[ur hl hp] at h0
    obtain⟨i1,i2,i3⟩:=QK h0;refine⟨fun x hx=> ?_,?_,fun x hx=> ?_⟩
    .rcases aa4.1 hx with rfl|hx
     .exact hl
     .exact i1 x hx
    .rw[adH]
     exact⟨fun hm=>i3 h hm (by simp),i2⟩
    .rcases aa4.1 hx with rfl|hx
     .exact hp
     .intro hm
      exact i3 x hx (by simp[hm])
theorem QL {es:List (Int×Int)} {v:Nat}:∀{t pre:List Int},(∀x∈t,lv es x v=true)->t.Nodup->(∀x∈t,x∉pre)->gm es v pre t=0
 |[],_,_,_,_=>rfl
 |h::t,pre,h1,h2,h3=>by
  rw[adH] at h2;rw[ur (h1 h (by simp)) (h3 h (by simp))];refine QL (fun x hx=>h1 x (by simp[hx])) h2.2 fun x hx hm=> ?_
  rcases abo.1 hm with h4|h4
  .exact h3 x (by simp[hx]) h4
  .rw[abe] at h4
   subst h4;exact h2.1 hx
structure qY (es:List (Int×Int)) (v:Nat) (l:List Int):Prop where
 lv:∀x∈l,lv es x v=true
 once:l.Nodup
 all:iM es v<=l.length
theorem J1 {es:List (Int×Int)} {v:Nat} {l:List Int}:zi es v l=0↔qY es v l:=by
 constructor
 .intro h
  unfold zi at h
  split at h
  .rename_i h1;exact absurd h h1
  .rename_i h1
   have h1:gm es v [] l=0:=by simpa using h1
   obtain⟨a,b,-⟩:=QK h1
   split at h
   .cases h
   .exact⟨a,b,by omega⟩
 .intro h
  exact wX (QL h.lv h.once fun x _ hx=>by simp at hx) (by have:=h.all;omega)
theorem Es {es:List (Int×Int)}:∀{k:Nat} {ls:List (List Int)},(ig es k ls).2=0↔∀v l,ls[v]? =some l->qY es (k+v) l
 |k,[]=>by simp[ig]
 |k,l::ls=>by
  by_cases h0:zi es k l=0
  .rw[yF h0,Es]
   constructor
   .intro h v m hm
    cases v with
    |zero=>simp at hm;subst hm;exact J1.1 h0
    |succ v=>
     have:=h v m (by simpa using hm);rwa[show k+1+v=k+(v+1) by omega] at this
   .intro h v m hm
    have:=h (v+1) m (by simpa using hm);rwa[show k+(v+1)=k+1+v by omega] at this
  .rw[fH rfl h0]
   constructor
   .intro h;exact absurd h h0
   .intro h
    have:=h 0 l rfl;exact absurd (J1.2 this) h0
structure jV (n:Int) (es:List (Int×Int)) (ls:List (List Int)):Prop where
 val:Si.valid n es=true
 len:(ls.length:Int)=n
 each:∀v l,ls[v]? =some l->qY es v l
theorem ji {n:Int} {es:List (Int×Int)} {ls:List (List Int)}:(check n es ls).2=0↔jV n es ls:=by
 unfold check;constructor
 .intro h
  split at h
  .rename_i hv
   split at h
   .cases h
   .rename_i hl
    have hl:(ls.length:Int)=n:=by omega
    have:=Es.1 h;exact⟨hv,hl,fun v l hvl=>by have:=this v l hvl;rwa[abK] at this⟩
  .cases h
 .intro h
  rw[if_pos h.val,if_neg (by have:=h.len;omega),Es];intro v l hvl;rw[abK];exact h.each v l hvl
theorem jV.half {n:Int} {es:List (Int×Int)} {ls:List (List Int)} (h:jV n es ls) {v i:Nat} {l:List Int} {x:Int} (hl:ls[v]? =some l) (hx:l[i]? =some x):∃j:Nat,x=(j:Int)/\j<2*es.length/\Cs.fr es j=v:=
 uf ((h.each v l hl).lv x (aaJ hx))
end Ro
section
namespace Ro
theorem iQ {es:List (Int×Int)} {v j k:Nat}:j∈Cs.out es v k↔j<k/\Cs.fr es j=v:=by
 constructor
 .intro h
  obtain⟨i,hi⟩:=adA.1 h;have:=Cs.qw hi;exact⟨this.1,this.2.1⟩
 .rintro⟨h,hv⟩
  exact aaJ (Cs.Qe h hv)
section
variable {es:List (Int×Int)} {v:Nat} {l:List Int}
theorem qY.sub (h:qY es v l):l⊆(Cs.out es v (2*es.length)).map (fun j:Nat=>(j:Int)):=by
 intro x hx;obtain⟨j,rfl,hj,hf⟩:=uf (h.lv x hx);exact abO.2 ⟨j,iQ.2 ⟨hj,hf⟩,rfl⟩
theorem qY.len (h:qY es v l):l.length=iM es v:=by
 have h1:=h.once.length_le_of_subset h.sub;rw[aa3] at h1;have h2:=h.all;unfold iM at h2 ⊢;omega
theorem qY.mem (h:qY es v l) {j:Nat} (hj:j<2*es.length) (hf:Cs.fr es j=v):(j:Int)∈l:=by
 refine aee fun hn=> ?_
 have hN:((j:Int)::l).Nodup:=adH.2 ⟨hn,h.once⟩;have h1:=hN.length_le_of_subset (l₂:=(Cs.out es v (2*es.length)).map (fun j:Nat=>(j:Int))) (by
  intro x hx;rcases aa4.1 hx with rfl|hx
  .exact abO.2 ⟨j,iQ.2 ⟨hj,hf⟩,rfl⟩
  .exact h.sub hx)
 rw[aa3,abx,h.len] at h1;unfold iM at h1;omega
end
theorem GL {l:List Int} (h:l.Nodup) {i j:Nat} {x:Int} (hi:l[i]? =some x) (hj:l[j]? =some x):i=j:=by
 obtain⟨h1,rfl⟩:=aaH.1 hi;obtain⟨h2,e⟩:=aaH.1 hj;rcases ab8 i j with c|c|c
 .exact absurd e.symm (abr.1 h i j h1 h2 c)
 .exact c
 .exact absurd e (abr.1 h j i h2 h1 c)
theorem qz {α:Type} {l:List α} {i:Nat} {x:α} (h:l[i]? =some x):i<l.length:=(aaH.1 h).1
theorem Eb {l:List Int} {i:Nat} {x:Int} (h:l[i]? =some x):l.getD i 0=x:=by simp[List.getD,h]
theorem jM {l:List Int} {i:Nat} (h:i<l.length):l[i]? =some (l.getD i 0):=by simp[List.getD,h]
theorem CP {l:List Int} {j:Nat}:∀{k:Nat} {acc:List Int},k<=l.length->(∀i,i<k->(l.getD i 0).toNat≠j)->(row l k acc)[j]? =acc[j]?
 |0,_,_,_=>rfl
 |k+1,acc,hk,h=>by
  rw[row,ada (h k (by omega))];exact CP (by omega) fun i hi=>h i (by omega)
theorem P9 {l:List Int} (hN:l.Nodup) (h0:∀x∈l,0<=x) {i:Nat}:∀{k:Nat} {acc:List Int},k<=l.length->i<k->(l.getD i 0).toNat<acc.length->(row l k acc)[(l.getD i 0).toNat]? =some (l.getD ((i+1)%l.length) 0)
 |0,_,_,h,_=>by omega
 |k+1,acc,hk,hi,hb=>by
  rw[row];by_cases e:i=k
  .subst e
   rw[List.getElem?_set_self (by rw[sj];exact hb)]
  .have hne:(l.getD k 0).toNat≠(l.getD i 0).toNat:=by
    intro hc;have a1:=jM (l:=l) (i:=i) (by omega);have a2:=jM (l:=l) (i:=k) (by omega);have b1:=h0 _ (aaJ a1);have b2:=h0 _ (aaJ a2);have hc2:l.getD k 0=l.getD i 0:=by omega
    rw[hc2] at a2;exact e (GL hN a1 a2)
   rw[ada hne];exact P9 hN h0 (by omega) (by omega) hb
section
variable {n:Int} {es:List (Int×Int)} {ls:List (List Int)}
theorem jV.XQ (h:jV n es ls) {v:Nat} {l:List Int} (hl:ls[v]? =some l):∀x∈l,0<=x:=fun x hx=>by
 obtain⟨j,rfl,-,-⟩:=uf ((h.each v l hl).lv x hx);omega
theorem Uh (h:jV n es ls) {v i:Nat} {l:List Int} (hl:ls[v]? =some l) (hi:i<l.length):∀{k:Nat} {acc:List Int},acc.length=2*es.length->k<=ls.length->v<k->(nx ls k acc)[(l.getD i 0).toNat]? =some (l.getD ((i+1)%l.length) 0)
 |0,_,_,_,h=>by omega
 |k+1,acc,ha,hk,hv=>by
  obtain⟨j,hj,hjm,hjf⟩:=h.half hl (jM hi);rw[nx];by_cases e:v=k
  .subst e
   have e2:ls.getD v []=l:=by simp[List.getD,hl]
   rw[e2];exact P9 (h.each v l hl).once (h.XQ hl) (aaF _) hi (by rw[xI,ha,hj];simpa using hjm)
  .have hk1:k<ls.length:=by omega
   have hlk:ls[k]? =some (ls.getD k []):=by simp[List.getD,hk1]
   rw[CP (aaF _) ?_]
   .exact Uh h hl hi ha (by omega) (by omega)
   .intro i' hi' hc
    obtain⟨j',hj',-,akj⟩:=h.half hlk (jM hi');rw[hj,hj'] at hc;have:j'=j:=by simpa using hc
    subst this;omega
theorem jV.next (h:jV n es ls) {v i:Nat} {l:List Int} {x:Int} (hl:ls[v]? =some l) (hx:l[i]? =some x):(kC es ls)[x.toNat]? =some (l.getD ((i+1)%l.length) 0):=by
 have hi:=qz hx;have hv:=qz hl;have:=Uh h hl hi (k:=ls.length) (acc:=List.replicate (2*es.length) 0) (by simp) (aaF _) hv;rw[Eb hx] at this;exact this
theorem jV.place (h:jV n es ls) {j:Nat} (hj:j<2*es.length) (hf:(Cs.fr es j:Int)<n):∃(l:List Int) (i:Nat),ls[Cs.fr es j]? =some l/\l[i]? =some (j:Int)/\l.length=iM es (Cs.fr es j):=by
 have hlt:Cs.fr es j<ls.length:=by have:=h.len;omega
 have hl:ls[Cs.fr es j]? =some ls[Cs.fr es j]:=by simp[hlt]
 obtain⟨i,hi⟩:=adA.1 ((h.each _ _ hl).mem hj rfl);exact⟨_,i,hl,hi,(h.each _ _ hl).len⟩
theorem jV.XR (h:jV n es ls) {j:Nat} (hj:j<2*es.length) (hf:(Cs.fr es j:Int)<n):∃t:Nat,(kC es ls)[j]? =some (t:Int)/\t<2*es.length/\Cs.fr es t=Cs.fr es j:=by
 obtain⟨l,i,hl,hi,-⟩:=h.place hj hf;have h1:=h.next hl hi
 have hil:=qz hi;obtain⟨t,ht,htm,htf⟩:=h.half hl (jM (i:=(i+1)%l.length) (acJ _ (by omega)));rw[ht] at h1;exact⟨t,by simpa using h1,htm,htf⟩
theorem Un {a b d:Nat} (ha:a<d) (hb:b<d) (h:(a+1)%d=(b+1)%d):a=b:=by
 rcases abW (a+1) d with h1|h1<;>rcases abW (b+1) d with h2|h2
 .rw[abE h1,abE h2] at h
  omega
 .have:b+1=d:=by omega
  rw[abE h1,this,Nat.mod_self] at h;omega
 .have:a+1=d:=by omega
  rw[abE h2,this,Nat.mod_self] at h;omega
 .omega
theorem jV.inj (h:jV n es ls) (hfr:∀j,j<2*es.length->(Cs.fr es j:Int)<n) {a b:Nat} {t:Int} (ha:(kC es ls)[a]? =some t) (hb:(kC es ls)[b]? =some t):a=b:=by
 have hal:a<2*es.length:=by have:=qz ha;rwa[Da] at this
 have hbl:b<2*es.length:=by have:=qz hb;rwa[Da] at this
 obtain⟨l,i,hl,hi,-⟩:=h.place hal (hfr a hal);obtain⟨l',i',hl',hi',-⟩:=h.place hbl (hfr b hbl);have h1:=h.next hl hi
 have h2:=h.next hl' hi'
 simp only[abu] at h1 h2;have e1:t=l.getD ((i+1)%l.length) 0:=by rw[ha] at h1;exact aa9 h1
 have e2:t=l'.getD ((i'+1)%l'.length) 0:=by rw[hb] at h2;exact aa9 h2
 have hil:=qz hi;have Vl:=qz hi';have a1:=jM (l:=l) (i:=(i+1)%l.length) (acJ _ (by omega));have a2:=jM (l:=l') (i:=(i'+1)%l'.length) (acJ _ (by omega));rw[<-e1] at a1;rw[<-e2] at a2;obtain⟨u,hu,-,sH⟩:=h.half hl a1;obtain⟨u',rK,-,hf2⟩:=h.half hl' a2;have huu:u=u':=by omega
 subst huu;have hff:Cs.fr es a=Cs.fr es b:=by omega
 rw[<-hff,hl] at hl';cases hl';have:=Un hil Vl (GL (h.each _ _ hl).once a1 a2);subst this;rw[hi] at hi';have:=aa9 hi';omega
theorem jV.step (h:jV n es ls) {v i s:Nat} {l:List Int} (hl:ls[v]? =some l) (hi:i<l.length):∃t t':Nat,l[(i+s)%l.length]? =some (t:Int)/\l[(i+(s+1))%l.length]? =some (t':Int)/\t<2*es.length/\Cs.fr es t=v/\(kC es ls)[t]? =some (t':Int):=by
 have a1:=jM (l:=l) (i:=(i+s)%l.length) (acJ _ (by omega));have a2:=jM (l:=l) (i:=(i+(s+1))%l.length) (acJ _ (by omega));obtain⟨t,ht,htm,htf⟩:=h.half hl a1;obtain⟨t',ht',-,-⟩:=h.half hl a2;have h1:=h.next hl a1
 rw[ht] at a1 h1;rw[ht'] at a2;refine⟨t,t',a1,a2,htm,htf,?_⟩;have e:((i+s)%l.length+1)%l.length=(i+(s+1))%l.length:=by
  rw[aeG,acU]
 rw[e,Eb a2] at h1;simpa using h1
end
end Ro
end
end Go.Proofs.YtdbjpbjocmcpkaaGreatDoor
