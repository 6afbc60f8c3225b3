import Derived.Test.YtdbjpbjocmcpkaaGreatDoorMk13
set_option maxHeartbeats 16000000
set_option maxRecDepth 100000
namespace Go.Proofs.YtdbjpbjocmcpkaaGreatDoor
namespace Ro
def lo (es:List (Int×Int)) (v:Nat):Nat->Int
 |0=> -1
 |k+1=>if Cs.fr es k=v then (k:Int) else lo es v k
theorem xu (es:List (Int×Int)) (v:Nat):∀k,(lo es v k= -1/\∀h,h<k->Cs.fr es h≠v)\/∃h:Nat,lo es v k=(h:Int)/\h<k/\Cs.fr es h=v/\∀j,h<j->j<k->Cs.fr es j≠v
 |0=> .inl ⟨rfl,fun h hh=>by omega⟩
 |k+1=>by
  unfold lo;by_cases hk:Cs.fr es k=v
  .rw[if_pos hk]
   exact .inr ⟨k,rfl,by omega,hk,fun j h1 h2=>by omega⟩
  .rw[if_neg hk]
   rcases xu es v k with ⟨h1,h2⟩|⟨h,h1,h2,h3,h4⟩
   .refine .inl ⟨h1,fun h hh=> ?_⟩
    by_cases e:h=k
    .subst e;exact hk
    .exact h2 h (by omega)
   .refine .inr ⟨h,h1,by omega,h3,fun j Ph hj2=> ?_⟩
    by_cases e:j=k
    .subst e;exact hk
    .exact h4 j Ph (by omega)
structure Fi (n:Nat) (es:List (Int×Int)) (F An:List Int) (k:Nat):Prop where
 lf:F.length=n
 la:An.length=2*es.length
 first:∀v,v<n->F[v]? =some (lo es v k)
 another:∀h,h<k->An[h]? =some (lo es (Cs.fr es h) h)
theorem Fi.start (n:Nat) (es:List (Int×Int)):Fi n es (List.replicate n (-1)) (List.replicate (2*es.length) 0) 0:=
 ⟨by simp,by simp,fun v hv=>by rw[abB,if_pos hv];rfl,fun h hh=>by omega⟩
theorem Fi.step {n:Nat} {es:List (Int×Int)} (hv:Si.Val n es) {F An:List Int} {k:Nat} (h:Fi n es F An k) (hk:k<2*es.length):Fi n es (F.set (Cs.fr es k) (k:Int)) (An.set k (lo es (Cs.fr es k) k)) (k+1):=by
 have hf:=(Cs.dG hv hk).1;refine⟨by rw[abV];exact h.lf,by rw[abV];exact h.la,fun v rq=> ?_,fun j hj=> ?_⟩
 .rw[aaR]
  unfold lo;by_cases e:Cs.fr es k=v
  .rw[if_pos e,if_pos (by rw[h.lf];exact hf),if_pos e]
  .rw[if_neg e,if_neg e]
   exact h.first v rq
 .rw[aaR]
  by_cases e:k=j
  .subst e
   rw[if_pos rfl,if_pos (by rw[h.la];exact hk)]
  .rw[if_neg e]
   exact h.another j (by omega)
structure Ld (n:Nat) (es:List (Int×Int)) (v k:Nat) (D:List Int):Prop where
 len:D.length=n
 each:∀x,x<n->D[x]? =some (-1)\/∃h:Nat,D[x]? =some (h:Int)/\h<2*es.length/\Cs.fr es h<=v/\Cs.to es h=x
 told:∀h,k<=h->h<2*es.length->Cs.fr es h=v->D[Cs.to es h]? =some (h:Int)
theorem Ld.start (n:Nat) (es:List (Int×Int)):Ld n es 0 (2*es.length) (List.replicate n (-1)):=
 ⟨by simp,fun x hx=> .inl (by rw[abB,if_pos hx]),fun h h1 h2=>by omega⟩
theorem Ld.next {n:Nat} {es:List (Int×Int)} {v k:Nat} {D:List Int} (h:Ld n es v k D):Ld n es (v+1) (2*es.length) D:=
 ⟨h.len,fun x hx=>by
   rcases h.each x hx with h1|⟨j,h1,h2,h3,h4⟩
   .exact .inl h1
   .exact .inr ⟨j,h1,h2,by omega,h4⟩,fun h h1 h2=>by omega⟩
theorem Ld.put {n:Nat} {es:List (Int×Int)} (hv:Si.Val n es) {v k h:Nat} {D:List Int} (hd:Ld n es v k D) (hk:k<=2*es.length) (hh:h<k) (hf:Cs.fr es h=v) (hno:∀j,h<j->j<k->Cs.fr es j≠v):Ld n es v h (D.set (Cs.to es h) (h:Int)):=by
 have ht:=(Cs.dG hv (show h<2*es.length by omega)).2;refine⟨by rw[abV];exact hd.len,fun x hx=> ?_,fun j h1 h2 h3=> ?_⟩
 .rw[aaR]
  by_cases e:Cs.to es h=x
  .rw[if_pos e,if_pos (by rw[hd.len];exact ht)]
   exact .inr ⟨h,rfl,by omega,by omega,e⟩
  .rw[if_neg e]
   exact hd.each x hx
 .rw[aaR]
  by_cases e:h=j
  .subst e
   rw[if_pos rfl,if_pos (by rw[hd.len];exact ht)]
  .have hjk:k<=j:=by
    rcases abk j k with h4|h4
    .exact absurd h3 (hno j (by omega) h4)
    .exact h4
   have hne:Cs.to es h≠Cs.to es j:=fun e2=>e (AU hv (by omega) h2 (by omega) e2)
   rw[if_neg hne];exact hd.told j hjk h2 h3
theorem Ld.done {n:Nat} {es:List (Int×Int)} {v k:Nat} {D:List Int} (hd:Ld n es v k D) (hno:∀h,h<k->Cs.fr es h≠v):Ld n es v 0 D:=
 ⟨hd.len,hd.each,fun h h1 h2 h3=>by
   rcases abk h k with h4|h4
   .exact absurd h3 (hno h h4)
   .exact hd.told h h4 h2 h3⟩
def toF (n:Nat) (D:List Int) (x:Int):Int:=if 0<=x/\x<n then D.getD x.toNat 0 else -1
theorem Ld.to {n:Nat} {es:List (Int×Int)} (hv:Si.Val n es) {v:Nat} {D:List Int} (hd:Ld n es v 0 D) (x:Int):
 (lv es (toF n D x) v=true/\toF n D x=hl es v x/\∃h:Nat,half es v x (2*es.length)=some h/\toF n D x=(h:Int))\/(lv es (toF n D x) v=false/\lv es (hl es v x) v=false):=by
 cases e:half es v x (2*es.length) with
 |some h=>
  left;obtain⟨h1,h2,h3⟩:=fy e;have ht:=(Cs.dG hv h1).2;have hD:=hd.told h (aaL _) h1 h2;have hx:toF n D x=(h:Int):=by
   unfold toF;rw[if_pos (by omega),show x.toNat=Cs.to es h by omega,aaI,hD];rfl
  obtain⟨e1,e2,-⟩:=GW e;rw[hx];exact⟨e2,e1.symm,h,rfl,rfl⟩
 |none=>
  right;obtain⟨e1,e2⟩:=B9 e;refine⟨?_,by rw[e1];exact e2⟩;unfold toF;by_cases hx:0<=x/\x<n
  .rw[if_pos hx]
   obtain⟨y,rfl⟩:∃y:Nat,x=(y:Int):=⟨x.toNat,by omega⟩;rw[abb,aaI];rcases hd.each y (by omega) with h1|⟨h,h1,h2,-,h5⟩
   .rw[h1]
    exact e2
   .rw[h1]
    show lv es (h:Int) v=false;cases hlv:lv es (h:Int) v with
    |false=>rfl
    |true=>
     obtain⟨j,hj,hj2,Va⟩:=ow hlv;have ej:j=h:=by omega
     subst ej;exact absurd ⟨Va,by rw[h5]⟩ (qa e j hj2)
  .rw[if_neg hx]
   exact e2
end Ro
section
open Go.Proofs.Tryz
open Go.RowKit Go.Sort
structure dR (w:World) (B p gf ga gl n:Nat) (ao:Option Addr) (ca:Nat) (es:List (Int×Int)) (F An D:List Int):Prop where
 blk:w.heap[p]? =some (.cells #[.int .i64 (n:Int),.slice ao es.length ca,.slice (some ⟨gf,0,none⟩) n n,.slice (some ⟨ga,0,none⟩) (2*es.length) (2*es.length),.slice (some ⟨gl,0,none⟩) n n] 353 (0,0))
 first:aq w gf F
 another:aq w ga An
 leading:aq w gl D
 lo:B<=p/\B<=gf/\B<=ga/\B<=gl
 ne:p≠gf/\p≠ga/\p≠gl/\gf≠ga/\gf≠gl/\ga≠gl
section
variable {w w':World} {B p gf ga gl n:Nat} {ao:Option Addr} {ca:Nat} {es:List (Int×Int)} {F An D:List Int}
theorem dR.later (h:dR w B p gf ga gl n ao ca es F An D) (hb:Below w.heap.size w w'):dR w' B p gf ga gl n ao ca es F An D:=
 ⟨(hb.block p (lt_of_block h.blk)).trans h.blk,h.first.later hb,h.another.later hb,h.leading.later hb,h.lo,h.ne⟩
theorem dR.keep (h:dR w B p gf ga gl n ao ca es F An D) (hb:∀b,b=p\/b=gf\/b=ga\/b=gl->w'.heap[b]? =w.heap[b]?):dR w' B p gf ga gl n ao ca es F An D:=
 ⟨(hb p (.inl rfl)).trans h.blk,(hb gf (.inr (.inl rfl))).trans h.first,(hb ga (.inr (.inr (.inl rfl)))).trans h.another,(hb gl (.inr (.inr (.inr rfl)))).trans h.leading,h.lo,h.ne⟩
theorem dR.TX (h:dR w B p gf ga gl n ao ca es F An D) (j:Nat) (x:Int):dR (w.setCell ⟨gf,j,none⟩ (.int .i64 x)) B p gf ga gl n ao ca es (F.set j x) An D:=
 ⟨(eJ h.ne.1 _).trans h.blk,h.first.set j x,h.another.iV (abM h.ne.2.2.2.1) _,h.leading.iV (abM h.ne.2.2.2.2.1) _,h.lo,h.ne⟩
theorem dR.TY (h:dR w B p gf ga gl n ao ca es F An D) (j:Nat) (x:Int):dR (w.setCell ⟨ga,j,none⟩ (.int .i64 x)) B p gf ga gl n ao ca es F (An.set j x) D:=
 ⟨(eJ h.ne.2.1 _).trans h.blk,h.first.iV h.ne.2.2.2.1 _,h.another.set j x,h.leading.iV (abM h.ne.2.2.2.2.2) _,h.lo,h.ne⟩
theorem dR.TW (h:dR w B p gf ga gl n ao ca es F An D) (j:Nat) (x:Int):dR (w.setCell ⟨gl,j,none⟩ (.int .i64 x)) B p gf ga gl n ao ca es F An (D.set j x):=
 ⟨(eJ h.ne.2.2.1 _).trans h.blk,h.first.iV h.ne.2.2.2.2.1 _,h.another.iV h.ne.2.2.2.2.2 _,h.leading.set j x,h.lo,h.ne⟩
theorem ew {R:Nat} {t:TypeId} {a b c d e:Value} (h:w.heap[R]? =some (.cells #[a,b,c,d,e] t (0,0))):w.cell? ⟨R,0,none⟩=some a/\w.cell? ⟨R,1,none⟩=some b/\w.cell? ⟨R,2,none⟩=some c/\w.cell? ⟨R,3,none⟩=some d/\w.cell? ⟨R,4,none⟩=some e:=by
 refine⟨?_,?_,?_,?_,?_⟩<;>simp[World.cell?,h]
end
theorem Nn (B p gf ga gl n:Nat) (ao:Option Addr) (ca:Nat) (es:List (Int×Int)) (F An D:List Int) (x:Int) (w:World) (hf:dR w B p gf ga gl n ao ca es F An D) (hD:D.length=n):
 Calls prog 204 #[.pointer (some ⟨p,0,none⟩),.int .i64 x] w fun e w'=>e= .returned (.int .i64 (Ro.toF n D x))/\w'=w:=by
 obtain⟨c0,c1,c2,c3,c4⟩:=ew hf.blk;have HF:=ζ hf;have HD:=ζ hD;clear hf hD;by_cases h0:0<=x
 .by_cases h1:x<(n:Int)
  .obtain⟨y,rfl⟩:∃y:Nat,x=(y:Int):=⟨x.toNat,by omega⟩
   obtain⟨z,hz⟩:∃z,D[y]? =some z:=⟨_,aaC (by have:=HD.out;omega)⟩;have cz:=HF.out.leading.cell hz;have he:Ro.toF n D (y:Int)=z:=by
    unfold Ro.toF;rw[if_pos ⟨h0,h1⟩,abb,aaI,hz];rfl
   rw[he];have j1:¬(y:Int)<0:=by omega
   have j2:¬(n:Int)<=(y:Int):=by omega
   clear he hz;go_enter func204,ntmps204;go_wp2;go_ret;exact⟨rfl,rfl⟩
  .have he:Ro.toF n D x= -1:=by
    unfold Ro.toF;rw[if_neg (by omega)]
   rw[he];have j1:¬x<0:=by omega
   have j2:(n:Int)<=x:=by omega
   clear he;go_enter func204,ntmps204;go_wp2;go_ret;exact⟨rfl,rfl⟩
 .have he:Ro.toF n D x= -1:=by
   unfold Ro.toF;rw[if_neg (by omega)]
  rw[he];have j1:x<0:=by omega
  clear he;go_enter func204,ntmps204;go_wp2;go_ret;exact⟨rfl,rfl⟩
structure FS (V w0:World) (p gl n:Nat) (ao:Option Addr) (m ca:Nat):Prop where
 n0:V.cell? ⟨p,0,none⟩=some (.int .i64 (n:Int))
 e0:V.cell? ⟨p,1,none⟩=some (.slice ao m ca)
 l0:V.cell? ⟨p,4,none⟩=some (.slice (some ⟨gl,0,none⟩) n n)
 far:p≠gl/\w0.heap.size<=gl
 low:Below w0.heap.size w0 V
theorem FS.later {V V' w0:World} {p gl n m ca:Nat} {ao:Option Addr} (h:FS V w0 p gl n ao m ca) (hb:Below V.heap.size V V'):FS V' w0 p gl n ao m ca:=
 ⟨(hb.cell (p:=⟨p,0,none⟩) (block_lt_of_cell h.n0)).trans h.n0,(hb.cell (p:=⟨p,1,none⟩) (block_lt_of_cell h.e0)).trans h.e0,(hb.cell (p:=⟨p,4,none⟩) (block_lt_of_cell h.l0)).trans h.l0,h.far,h.low.trans (hb.mono h.low.size)⟩
theorem FS.store {V w0:World} {p gl n m ca:Nat} {ao:Option Addr} (h:FS V w0 p gl n ao m ca) (i:Nat) (x:Value):FS (V.setCell ⟨gl,i,none⟩ x) w0 p gl n ao m ca:=by
 have h1:=h.far.1;exact⟨(acy _ _ _ _ (fun e=>by simp only[acT] at e;omega)).trans h.n0,(acy _ _ _ _ (fun e=>by simp only[acT] at e;omega)).trans h.e0,(acy _ _ _ _ (fun e=>by simp only[acT] at e;omega)).trans h.l0,h.far,h.low.trans (eB (g:=gl) _ h.far.2)⟩
theorem yq {V V':World} {g i:Nat} (hb:Below V.heap.size V V') (hg:g<V.heap.size):V'.frozen? ⟨g,i,none⟩=V.frozen? ⟨g,i,none⟩:=by
 unfold World.frozen?;rw[hb.block g hg]
def Oy (B p gf ga gl n:Nat) (ao:Option Addr) (ca:Nat) (es:List (Int×Int)) (F An:List Int) (v:Nat) (w:World) (e:Ending) (w':World):Prop:=
 e= .returned (.tuple #[])/\aj (fun b=>b=gl) w w'/\∃D,dR w' B p gf ga gl n ao ca es F An D/\Ro.Ld n es v 0 D
theorem Nr (B p gf ga gl n:Nat) (ao:Option Addr) (ca:Nat) (es:List (Int×Int)) (F An D:List Int) (v:Nat) (w0 w:World) (hf:dR w B p gf ga gl n ao ca es F An D) (j6:Ro.Fi n es F An (2*es.length)) (Ek:Ro.Ld n es v (2*es.length) D) (he:ah w0 ao es) (hB:B=w0.heap.size) (hb0:Below B w0 w) (hv:Si.Val n es) (rq:v<n):
 Calls prog 203 #[.pointer (some ⟨p,0,none⟩),.int .i64 (v:Int)] w (Oy B p gf ga gl n ao ca es F An v w):=by
 obtain⟨c0,c1,c2,c3,c4⟩:=ew hf.blk;have cf:=hf.first.cell (j6.first v rq)
 have Uq:(v:Int)<(n:Int):=by omega
 have dA:=hv.few;have hBl:=hf.lo.2.2.2;have HF:=ζ hf;have qz:=ζ j6;have FL:=ζ Ek;have HE:=ζ he;have aW:=ζ hb0;have gw:=ζ hB;have HV:=ζ hv;obtain⟨L0,Sy⟩:∃L0,L0=Ro.lo es v (2*es.length):=⟨_,rfl⟩;rw[<-Sy] at cf;have yZ:=ζ Sy;clear hf j6 Ek he hb0 hB hv Sy;go_enter func203,ntmps203;go_wp2;clear c0 c1 c2 c3 c4 cf;go_loopw [4] (fun c wr=>∃(k:Nat) (D:List Int),k<=2*es.length/\c= .int .i64 (Ro.lo es v k)/\Ro.Ld n es v k D/\dR wr B p gf ga gl n ao ca es F An D/\aj (fun b=>b=gl) w wr) (fun c _=>(intOf c+1).toNat)
 case atStart=>exact⟨2*es.length,D,aaD _,by rw[yZ.out],FL.out,HF.out,aj.refl _ _⟩
 case round=>
  clear HF FL;obtain⟨k,D,hk,rfl,Ek,hf,hb⟩:=hrel;have FL:=ζ Ek;have HF:=ζ hf;have HB:=ζ hb;obtain⟨c0,c1,c2,c3,c4⟩:=ew hf.blk;clear Ek hf hb;rcases Ro.xu es v k with ⟨h1,h2⟩|⟨h,h1,h2,h3,h4⟩
  .rw[h1]
   have HD:=ζ (FL.out.done h2);clear h1 h2;go_wp2
   go_end0
   exact⟨rfl,HB.out,D,HF.out,HD.out⟩
  .rw[h1]
   have hh:h<2*es.length:=by omega
   have t1:((h:Int) != -1)=true:=by first|(simp;done)|(simp;omega)
   have mK:=ζ (fun V (hV:Below w0.heap.size w0 V)=>q8 n ao ca es h V (HE.out.later hV) HV.out hh);have htn:=(Cs.dG HV.out hh).2;have HP:=ζ (FL.out.put HV.out hk h2 h3 h4);have H3:=ζ h3;obtain⟨y,hy⟩:∃y,D[Cs.to es h]? =some y:=⟨_,aaC (by rw[FL.out.len];exact htn)⟩;have HY:=ζ (HF.out.leading.cell hy);have hBw:=aW.out.trans (HB.out.below (by rw[gw.out];exact aW.out.size) (fun q hq=>by rw[hq];exact hBl));rw[gw.out] at hBw;have eM:=ζ hBw;obtain⟨t,ht⟩:∃t,t=Cs.to es h:=⟨_,rfl⟩;rw[<-ht] at mK htn HP HY;have ZY:(t:Int)<(n:Int):=by omega
   have MW:(h:Int)<2*(es.length:Int):=by omega
   have HAS:Hid (FS wr.drew w0 p gl n ao es.length ca):=FS.later (V:=wr) ⟨c0,c1,c4,⟨HF.out.ne.2.2.1,by rw[<-gw.out];exact hBl⟩,eM.out⟩ (aaE _ _).drew;have HS:Hid (∀V,FS V w0 p gl n ao es.length ca->V.cell? ⟨p,0,none⟩=some (.int .i64 (n:Int))/\V.cell? ⟨p,1,none⟩=some (.slice ao es.length ca)/\V.cell? ⟨p,4,none⟩=some (.slice (some ⟨gl,0,none⟩) n n)/\FS V w0 p gl n ao es.length ca):=fun V hV=>⟨hV.n0,hV.e0,hV.l0,hV⟩
   have Ob:=ζ (HF.out.leading.free t);clear h1 h3 h4 hy hBw ht c0 c1 c2 c3 c4;go_wp2_with fail
   go_region_held3 (fun V=>V.cell? ⟨p,0,none⟩=some (.int .i64 (n:Int))/\V.cell? ⟨p,1,none⟩=some (.slice ao es.length ca)/\V.cell? ⟨p,4,none⟩=some (.slice (some ⟨gl,0,none⟩) n n)/\FS V w0 p gl n ao es.length ca)
    (first|exact HS.out _ (by first|assumption|exact HAS.out)|exact HS.out _ (FS.store (by first|assumption|exact HAS.out) _ _))
    ((go_at_call 87;refine(mK.out _ HAS.out.low).mono ?_;rintro e V1 ⟨rfl,hb1⟩;have Vy:=HAS.out.later hb1;have hy1:=(hb1.cell (p:=⟨gl,t,none⟩) (block_lt_of_cell HY.out)).trans HY.out;have Qp:V1.frozen? ⟨gl,t,none⟩=false:=(yq hb1 (block_lt_of_cell HY.out)).trans Ob.out))
   have xX:Below wr.heap.size wr V1:=((aaE wr.heap.size wr).drew).trans hb1;have hF2:=(HF.out.later xX).TW t (h:Int);obtain⟨c0,c1,c2,c3,c4⟩:=ew hF2.blk;have can:=hF2.another.cell (qz.out.another h hh);have Iz:=ζ hF2;have aC:=ζ ((HB.out.later xX).setCell (b:=gl) (i:=t) rfl (.int .i64 (h:Int)));rw[H3.out] at can;clear xX hb1 Vy hy1 Qp hF2;go_wp2;go_roundw
   case rel=>exact⟨h,D.set t (h:Int),by omega,rfl,HP.out,Iz.out,aC.out⟩
   case measure=>
    simp[intOf];rcases Ro.xu es v h with ⟨q1,-⟩|⟨q,q1,q2,-⟩<;>rw[q1]<;>omega
end
section
open Go.Proofs.Tryz
open Go.RowKit Go.Sort aI
def Ih (n:Nat) (ao:Option Addr) (ca:Nat) (es:List (Int×Int)) (w:World) (e:Ending) (w':World):Prop:=
 ∃p gf ga gl F An,e= .returned (.pointer (some ⟨p,0,none⟩))/\dR w' w.heap.size p gf ga gl n ao ca es F An (List.replicate n (-1))/\Ro.Fi n es F An (2*es.length)/\Below w.heap.size w w'
theorem yj {n lo:Nat} {U:World} {o:Oper} {ev:Operand->Value} (hc:Calls prog 128 #[.slice (some ⟨lo,0,none⟩) 1 1,.int .i64 (n:Int)] U (yK (-1) n U))
 (h:(execOp ev o).run prog U= .ok (.enter 128 #[.slice (some ⟨lo,0,none⟩) 1 1,.int .i64 (n:Int)]) U):
 cX prog o ev U fun v w'=>Below U.heap.size U w'/\∃g,v= .slice (some ⟨g,0,none⟩) n n/\U.heap.size<=g/\g<w'.heap.size/\aq w' g (List.replicate n (-1)):=by
 unfold cX;rw[h];refine hc.mono ?_;rintro e w' ⟨g,rfl,h1,h2,h3⟩;exact⟨_,rfl,h3,g,rfl,h1,h2.lt,h2⟩
def cI (n M b:Nat) (ao:Option Addr) (m ca:Nat):Nat->CC
 |0=>⟨[],fun v _ _ _ _=>v= .agg #[.int .i64 (n:Int),.slice ao m ca]⟩
 |1=>⟨[],fun v _ lo hi w=>v= .slice (some ⟨lo,0,none⟩) 1 1/\lo<hi/\w.heap[lo]? =some (.cells #[.int .i64 (-1)] 3 (0,0))⟩
 |2=>⟨[],fun v _ _ _ _=>v= .pointer (some ⟨b,0,none⟩)⟩
 |3=>⟨[2],fun v _ _ _ _=>v= .int .i64 (n:Int)⟩
 |4=>⟨[1,3],fun v _ lo hi w=>∃g,v= .slice (some ⟨g,0,none⟩) n n/\lo<=g/\g<hi/\aq w g (List.replicate n (-1))⟩
 |5=>⟨[],fun v _ _ _ _=>v= .pointer (some ⟨b,1,none⟩)⟩
 |6=>⟨[5],fun v _ _ _ _=>v= .slice ao m ca⟩
 |7=>⟨[6],fun v _ _ _ _=>v= .int .i64 (m:Int)⟩
 |8=>⟨[7],fun v _ _ _ _=>v= .int .i64 (M:Int)⟩
 |9=>⟨[8],fun v _ lo hi w=>v= .slice (some ⟨lo,0,none⟩) M M/\lo<hi/\aq w lo (List.replicate M 0)⟩
 |10=>⟨[],fun v _ lo hi w=>v= .slice (some ⟨lo,0,none⟩) 1 1/\lo<hi/\w.heap[lo]? =some (.cells #[.int .i64 (-1)] 3 (0,0))⟩
 |11=>⟨[],fun v _ _ _ _=>v= .pointer (some ⟨b,0,none⟩)⟩
 |12=>⟨[11],fun v _ _ _ _=>v= .int .i64 (n:Int)⟩
 |13=>⟨[10,12],fun v _ lo hi w=>∃g,v= .slice (some ⟨g,0,none⟩) n n/\lo<=g/\g<hi/\aq w g (List.replicate n (-1))⟩
 |14=>⟨[0,4,9,13],fun v vs _ _ _=>∃x1 x2 x3 x4,vs=[x1,x2,x3,x4]/\v= .agg #[.int .i64 (n:Int),.slice ao m ca,x2,x3,x4]⟩
 |15=>⟨[14],fun v vs lo hi w=>∃x2 x3 x4,vs=[.agg #[.int .i64 (n:Int),.slice ao m ca,x2,x3,x4]]/\v= .pointer (some ⟨lo,0,none⟩)/\lo<hi/\w.heap[lo]? =some (.cells #[.int .i64 (n:Int),.slice ao m ca,x2,x3,x4] 353 (0,0))⟩
 |_=>⟨[15],fun v vs _ _ _=>vs=[v]⟩
theorem xg (n:Nat) (ao:Option Addr) (ca:Nat) (es:List (Int×Int)) (w:World) (he:ah w ao es) (hv:Si.Val n es):
 Calls prog 202 #[.agg #[.int .i64 (n:Int),.slice ao es.length ca]] w (Ih n ao ca es w):=by
 obtain⟨i0,hi,hz0,hz1,hz2⟩:=info_parts Tryz.ck;obtain⟨w0,hw0⟩:∃w0,w0=w.alloc (.cells #[.int .i64 (n:Int),.slice ao es.length ca] 24):=⟨_,rfl⟩;have hb0:Below w.heap.size w w0:=by rw[hw0];exact(aaE _ _).alloc (aaD _) _
 have ED:w0.heap[w.heap.size]? =some (.cells #[.int .i64 (n:Int),.slice ao es.length ca] 24 (0,0)):=by rw[hw0];exact heap_alloc_new w _
 have hs0:=lt_of_block ED;obtain⟨g0,g1,-⟩:=af ED;have hhi:=hv.hi;have dA:=hv.few;obtain⟨M,hM⟩:∃M,M=2*es.length:=⟨_,rfl⟩;have hmul:IntKind.i64.wrap (2*(es.length:Int))=(M:Int):=by rw[aaK];omega
 have GS:2*(es.length:Int)=(M:Int):=by omega
 have hwM:IntKind.i64.wrap (M:Int)=(M:Int):=by rw[aaK];omega
 have VI:M<=8388608:=by omega
 have YJ:¬(M:Int)<0:=by omega
 have hmk:∀W,(Instr.makeSlice 55 (.int .i64 (M:Int)) (.int .i64 (M:Int))).run prog W= .ok (.slice (some ⟨W.heap.size,0,none⟩) M M) (W.alloc (.cells (madeCells #[.int .i64 0] M) 3)):=fun W=>by
  have:=run_make (P:=prog) W 55 3 i0 (.int .i64 0) Tryz.underlying55 hi hz0 .i64 .i64 (M:Int) (M:Int) (by omega) (by omega) (by rw[hz2];omega) (by omega);rw[this,hz1];simp[Value.cells]
 have QS:Hid (∀(b:Nat) (V:World),V.cell? ⟨b,0,none⟩=some (.int .i64 (-1))->Calls prog 128 #[.slice (some ⟨b,0,none⟩) 1 1,.int .i64 (n:Int)] V (yK (-1) n V)):=fun b V h=>Dl (-1) b n V h (by omega)
 have Iw:=ζ hmk;have HS:Hid (∀V,Below w0.heap.size w0 V->V.cell? ⟨w.heap.size,0,none⟩=some (.int .i64 (n:Int))/\V.cell? ⟨w.heap.size,1,none⟩=some (.slice ao es.length ca)/\Below w0.heap.size w0 V):=fun V hV=>⟨(hV.cell (p:=⟨w.heap.size,0,none⟩) hs0).trans g0,(hV.cell (p:=⟨w.heap.size,1,none⟩) hs0).trans g1,hV⟩
 have HD:Hid (Below w0.heap.size w0 w0.drew):=(aaE _ _).drew;have rR:=ζ hM;have Wb:=ζ hw0;have HE:=ζ he;have HV:=ζ hv;have aW:=ζ hb0;have vB:=ζ ED;clear hM hi hz0 hz1 hz2 he hv hb0 ED;clear hmk GS hmul;obtain⟨m,hm⟩:∃m,m=es.length:=⟨_,rfl⟩;have ML:IntKind.i64.wrap (2*(m:Int))=(M:Int):=by rw[aaK];have:=rR.out;omega
 rw[<-hm] at g1 HS ⊢;rw[<-hm] at Wb;have Td:=ζ hm;clear hm;go_enter func202,ntmps202;go_wp2_with fail;rw[<-Wb.out];clear hw0;refine wp_region_any (by kernel_rfl) ?_;have hbW:Below w0.heap.size w0 { w0 with drawn:=w0.drawn+1 }:=(aaE _ _).drew;refine aI.V4 (cI n M w.heap.size ao m ca) 17 55 (by decide) rfl (by kernel_rfl) ?_ ?_ ?_
 .intro i hi v vs lo hi' U U' h1 h2 h3
  have hc:i=0\/i=1\/i=2\/i=3\/i=4\/i=5\/i=6\/i=7\/i=8\/i=9\/i=10\/i=11\/i=12\/i=13\/i=14\/i=15\/i=16:=by omega
  rcases hc with rfl|rfl|rfl|rfl|rfl|rfl|rfl|rfl|rfl|rfl|rfl|rfl|rfl|rfl|rfl|rfl|rfl
  all_goals first|exact h3|skip
  .exact⟨h3.1,h3.2.1,(h2.block lo (aa0 h3.2.1 h1)).trans h3.2.2⟩
  .obtain⟨g,q1,q2,q3,q4⟩:=h3
   exact⟨g,q1,q2,q3,q4.later h2⟩
  .exact⟨h3.1,h3.2.1,h3.2.2.later h2⟩
  .exact⟨h3.1,h3.2.1,(h2.block lo (aa0 h3.2.1 h1)).trans h3.2.2⟩
  .obtain⟨g,q1,q2,q3,q4⟩:=h3
   exact⟨g,q1,q2,q3,q4.later h2⟩
  .obtain⟨x2,x3,x4,q1,q2,q3,q4⟩:=h3
   exact⟨x2,x3,x4,q1,q2,q3,(h2.block lo (aa0 q3 h1)).trans q4⟩
 .intro i o ρ U ev hi ho hb hd cQ rA Ep Pj
  obtain⟨c0,c1,-⟩:=HS.out U (hbW.trans hb);have hc:i=0\/i=1\/i=2\/i=3\/i=4\/i=5\/i=6\/i=7\/i=8\/i=9\/i=10\/i=11\/i=12\/i=13\/i=14\/i=15\/i=16:=by omega
  rcases hc with rfl|rfl|rfl|rfl|rfl|rfl|rfl|rfl|rfl|rfl|rfl|rfl|rfl|rfl|rfl|rfl|rfl<;>obtain rfl:=aaQ ho
  .have e1:ev (.tmp 1)= .pointer (some ⟨w.heap.size,0,none⟩):=rA 1 (by kernel_rfl)
   exact az (v:= .agg #[.int .i64 (n:Int),.slice ao m ca]) (w':=U) (by simp[execOp,go_sem,e1,c0,c1]) ⟨aaE _ _,rfl⟩
  .refine az (v:= .slice (some ⟨U.heap.size,0,none⟩) 1 1) (w':=U.alloc (.cells #[.int .i64 (-1)] 3)) ?_ ⟨(aaE _ _).alloc (aaD _) _,rfl,by simp,heap_alloc_new _ _⟩
   simp[execOp,go_sem,Ep]
  .have e1:ev (.tmp 1)= .pointer (some ⟨w.heap.size,0,none⟩):=rA 1 (by kernel_rfl)
   exact az (v:= .pointer (some ⟨w.heap.size,0,none⟩)) (w':=U) (by simp[execOp,go_sem,e1]) ⟨aaE _ _,rfl⟩
  .obtain⟨_,_,_,_,_,r4⟩:=hd 2 (by simp[cI])
   have r5:ρ 2= .pointer (some ⟨w.heap.size,0,none⟩):=r4;exact az (v:= .int .i64 (n:Int)) (w':=U) (by simp[execOp,go_sem,cQ 2 8 (by omega) rfl (by decide),r5,c0]) ⟨aaE _ _,rfl⟩
  .obtain⟨lo,hi',q1,q2,q3,r1,r2,r3⟩:=hd 1 (by simp[cI])
   obtain⟨_,_,_,_,_,r4⟩:=hd 3 (by simp[cI]);have r5:ρ 3= .int .i64 (n:Int):=r4;have J2:ρ 1= .slice (some ⟨lo,0,none⟩) 1 1:=r1;exact yj (QS.out lo U (cell_of_one r3)) (by simp[execOp,go_sem,Pj,cQ 1 7 (by omega) rfl (by decide),cQ 3 9 (by omega) rfl (by decide),J2,r5])
  .have e1:ev (.tmp 1)= .pointer (some ⟨w.heap.size,0,none⟩):=rA 1 (by kernel_rfl)
   exact az (v:= .pointer (some ⟨w.heap.size,1,none⟩)) (w':=U) (by simp[execOp,go_sem,e1]) ⟨aaE _ _,rfl⟩
  .obtain⟨_,_,_,_,_,r4⟩:=hd 5 (by simp[cI])
   have r5:ρ 5= .pointer (some ⟨w.heap.size,1,none⟩):=r4;exact az (v:= .slice ao m ca) (w':=U) (by simp[execOp,go_sem,cQ 5 11 (by omega) rfl (by decide),r5,c1]) ⟨aaE _ _,rfl⟩
  .obtain⟨_,_,_,_,_,r4⟩:=hd 6 (by simp[cI])
   have r5:ρ 6= .slice ao m ca:=r4;exact az (v:= .int .i64 (m:Int)) (w':=U) (by simp[execOp,go_sem,cQ 6 12 (by omega) rfl (by decide),r5]) ⟨aaE _ _,rfl⟩
  .obtain⟨_,_,_,_,_,r4⟩:=hd 7 (by simp[cI])
   have r5:ρ 7= .int .i64 (m:Int):=r4;exact az (v:= .int .i64 (M:Int)) (w':=U) (by simp[execOp,go_sem,Ep,cQ 7 13 (by omega) rfl (by decide),r5,ML]) ⟨aaE _ _,rfl⟩
  .obtain⟨_,_,_,_,_,r4⟩:=hd 8 (by simp[cI])
   have r5:ρ 8= .int .i64 (M:Int):=r4;refine az (v:= .slice (some ⟨U.heap.size,0,none⟩) M M) (w':=U.alloc (.cells (madeCells #[.int .i64 0] M) 3)) ?_ ⟨(aaE _ _).alloc (aaD _) _,rfl,by simp,Kf rfl⟩;simp[execOp,cQ 8 14 (by omega) rfl (by decide),r5,Iw.out U]
  .refine az (v:= .slice (some ⟨U.heap.size,0,none⟩) 1 1) (w':=U.alloc (.cells #[.int .i64 (-1)] 3)) ?_ ⟨(aaE _ _).alloc (aaD _) _,rfl,by simp,heap_alloc_new _ _⟩
   simp[execOp,go_sem,Ep]
  .have e1:ev (.tmp 1)= .pointer (some ⟨w.heap.size,0,none⟩):=rA 1 (by kernel_rfl)
   exact az (v:= .pointer (some ⟨w.heap.size,0,none⟩)) (w':=U) (by simp[execOp,go_sem,e1]) ⟨aaE _ _,rfl⟩
  .obtain⟨_,_,_,_,_,r4⟩:=hd 11 (by simp[cI])
   have r5:ρ 11= .pointer (some ⟨w.heap.size,0,none⟩):=r4;exact az (v:= .int .i64 (n:Int)) (w':=U) (by simp[execOp,go_sem,cQ 11 17 (by omega) rfl (by decide),r5,c0]) ⟨aaE _ _,rfl⟩
  .obtain⟨lo,hi',q1,q2,q3,r1,r2,r3⟩:=hd 10 (by simp[cI])
   obtain⟨_,_,_,_,_,r4⟩:=hd 12 (by simp[cI]);have r5:ρ 12= .int .i64 (n:Int):=r4;have J2:ρ 10= .slice (some ⟨lo,0,none⟩) 1 1:=r1;exact yj (QS.out lo U (cell_of_one r3)) (by simp[execOp,go_sem,Pj,cQ 10 16 (by omega) rfl (by decide),cQ 12 18 (by omega) rfl (by decide),J2,r5])
  .obtain⟨_,_,_,_,_,r0⟩:=hd 0 (by simp[cI])
   obtain⟨_,_,_,_,_,ga,ra,_⟩:=hd 4 (by simp[cI]);obtain⟨_,_,_,_,_,rb,_⟩:=hd 9 (by simp[cI]);obtain⟨_,_,_,_,_,gc,rc,_⟩:=hd 13 (by simp[cI]);have XH:ρ 0= .agg #[.int .i64 (n:Int),.slice ao m ca]:=r0;exact az (v:= .agg #[.int .i64 (n:Int),.slice ao m ca,ρ 4,ρ 9,ρ 13]) (w':=U) (by simp[execOp,go_sem,cQ 0 6 (by omega) rfl (by decide),cQ 4 10 (by omega) rfl (by decide),cQ 9 15 (by omega) rfl (by decide),cQ 13 19 (by omega) rfl (by decide),XH,ra,rb,rc]) ⟨aaE _ _,_,_,_,_,rfl,rfl⟩
  .obtain⟨_,_,_,_,_,x1,x2,x3,x4,q1,q2⟩:=hd 14 (by simp[cI])
   have Ub:ρ 14= .agg #[.int .i64 (n:Int),.slice ao m ca,x2,x3,x4]:=q2;refine az (v:= .pointer (some ⟨U.heap.size,0,none⟩)) (w':=U.alloc (.cells #[.int .i64 (n:Int),.slice ao m ca,x2,x3,x4] 353)) ?_ ⟨(aaE _ _).alloc (aaD _) _,x2,x3,x4,by show [ρ 14]=_;rw[Ub],rfl,by simp,heap_alloc_new _ _⟩;simp[execOp,go_sem,cQ 14 20 (by omega) rfl (by decide),Ub]
  .obtain⟨_,_,_,_,_,x2,x3,x4,_,rp,_⟩:=hd 15 (by simp[cI])
   exact az (v:=ρ 15) (w':=U) (by simp[execOp,go_sem,cQ 15 21 (by omega) rfl (by decide)]) ⟨aaE _ _,rfl⟩
 .intro ρ lo hi V a ha Vr cQ rA hb hd nk
  have hfr2:a={ tmps:= #[.agg #[.int .i64 (n:Int),.slice ao m ca],.pointer (some ⟨w.heap.size,0,none⟩),.pointer none,ρ 16,undef,undef,ρ 0,ρ 1,ρ 2,ρ 3,ρ 4,ρ 5,ρ 6,ρ 7,ρ 8,ρ 9,ρ 10,ρ 11,ρ 12,ρ 13,ρ 14,ρ 15,undef,undef,undef,undef,undef,undef,undef,undef,undef,undef,undef,undef,undef,undef,undef,undef,undef,undef,undef,undef,undef,undef,undef,undef,undef,undef,undef,undef,undef,undef,undef,undef,undef],defers:=[] }:=by rw[ha];kernel_rfl
  have hb2:Below w0.heap.size w0 V:=hbW.trans hb;have r0:ρ 0= .agg #[.int .i64 (n:Int),.slice ao m ca]:=(hd 0 (by omega)).2.2.2;obtain⟨a1,a2,a3,r1,_,_⟩:=hd 1 (by omega);have J2:ρ 1= .slice (some ⟨lo 1,0,none⟩) 1 1:=r1;have r2:ρ 2= .pointer (some ⟨w.heap.size,0,none⟩):=(hd 2 (by omega)).2.2.2;have r3:ρ 3= .int .i64 (n:Int):=(hd 3 (by omega)).2.2.2;obtain⟨p4,p5,p6,gf,r4,f1,f2,f3⟩:=hd 4 (by omega);have Rh:ρ 4= .slice (some ⟨gf,0,none⟩) n n:=r4;have r5:ρ 5= .pointer (some ⟨w.heap.size,1,none⟩):=(hd 5 (by omega)).2.2.2;have r6:ρ 6= .slice ao m ca:=(hd 6 (by omega)).2.2.2;have r7:ρ 7= .int .i64 (m:Int):=(hd 7 (by omega)).2.2.2;have r8:ρ 8= .int .i64 (M:Int):=(hd 8 (by omega)).2.2.2;obtain⟨p7,p8,p9,r9,b1,b2⟩:=hd 9 (by omega);have OQ:ρ 9= .slice (some ⟨lo 9,0,none⟩) M M:=r9;obtain⟨_,_,_,Ua,_,_⟩:=hd 10 (by omega);have P9:ρ 10= .slice (some ⟨lo 10,0,none⟩) 1 1:=Ua;have T9:ρ 11= .pointer (some ⟨w.heap.size,0,none⟩):=(hd 11 (by omega)).2.2.2;have T8:ρ 12= .int .i64 (n:Int):=(hd 12 (by omega)).2.2.2;obtain⟨XP,p11,p12,gl,T7,l1,l2,l3⟩:=hd 13 (by omega);have LO:ρ 13= .slice (some ⟨gl,0,none⟩) n n:=T7;obtain⟨_,_,_,x1,x2,x3,x4,y1,y2⟩:=hd 14 (by omega);have TN:[ρ 0,ρ 4,ρ 9,ρ 13]=[x1,x2,x3,x4]:=y1;simp only[ab2] at TN;obtain⟨_,e2,e3,e4,_⟩:=TN;have OS:ρ 14= .agg #[.int .i64 (n:Int),.slice ao m ca,.slice (some ⟨gf,0,none⟩) n n,.slice (some ⟨lo 9,0,none⟩) M M,.slice (some ⟨gl,0,none⟩) n n]:=by
   rw[<-Rh,<-OQ,<-LO,e2,e3,e4];exact y2
  obtain⟨XO,p14,p15,z2,z3,z4,u1,T6,u2,u3⟩:=hd 15 (by omega);have IU:ρ 15= .pointer (some ⟨lo 15,0,none⟩):=T6;have Re:[ρ 14]=[.agg #[.int .i64 (n:Int),.slice ao m ca,z2,z3,z4]]:=u1;rw[OS] at Re;simp only[ab2,Value.agg.injEq,Array.mk.injEq,and_true,true_and] at Re;obtain⟨d2,d3,d4⟩:=Re;subst d2;subst d3;subst d4;have r16:ρ 16= .pointer (some ⟨lo 15,0,none⟩):=by
   have:[ρ 15]=[ρ 16]:=(hd 16 (by omega)).2.2.2;simp only[ab2,and_true] at this;rw[<-this];exact IU
  have ZP:=nk 4 9 (by omega) (by omega) (by omega);have XA:=nk 4 13 (by omega) (by omega) (by omega);have Xz:=nk 4 15 (by omega) (by omega) (by omega);have Xy:=nk 9 13 (by omega) (by omega) (by omega);have Xx:=nk 9 15 (by omega) (by omega) (by omega);have TL:=nk 13 15 (by omega) (by omega) (by omega);have p4':w0.heap.size<=lo 4:=p4;have p7':w0.heap.size<=lo 9:=p7;have ZV:w0.heap.size<=lo 13:=XP;have ZU:w0.heap.size<=lo 15:=XO;obtain⟨gA,Sa⟩:∃g,lo 9=g:=⟨_,rfl⟩;obtain⟨p,hp⟩:∃g,lo 15=g:=⟨_,rfl⟩;have Nj:dR V w0.heap.size p gf gA gl n ao ca es (List.replicate n (-1)) (List.replicate M 0) (List.replicate n (-1)):=by
   have hm:=Td.out;have hM:=rR.out;refine⟨?_,f3,by rw[<-Sa];exact b2,l3,⟨by omega,by omega,by omega,by omega⟩,⟨by omega,by omega,by omega,by omega,by omega,by omega⟩⟩;rw[<-hM,<-hm,<-hp,<-Sa];exact u3
  rw[Sa] at OQ OS;rw[hp] at IU r16;rw[r0,J2,r2,r3,Rh,r5,r6,r7,r8,OQ,P9,T9,T8,LO,OS,IU,r16] at hfr2;have qz:=ζ Nj;have CR:=ζ hb2;have Q4:Hid (Ro.Fi n es (List.replicate n (-1)) (List.replicate M 0) 0):=by
   have:=Ro.Fi.start n es;rw[<-rR.out] at this;exact this
  have hsp:w0.heap.size<=p:=by omega
  clear r0 r1 J2 r2 r3 r4 Rh r5 r6 r7 r8 r9 OQ Ua P9 T9 T8 T7 LO OS T6 IU r16 y1 y2 u1 u3 ZP XA Xz Xy Xx TL hd nk cQ rA ha Vr f3 b2 l3 e2 e3 e4 Nj hb2 hb hbW;refine wpAny_done (by kernel_rfl) ?_ _;rw[hfr2];clear hfr2;dsimp only;obtain⟨c0,c1,c2,c3,c4⟩:=ew qz.out.blk;have aaA:2*(m:Int)=(M:Int):=by have:=rR.out;have:=Td.out;omega
  have Ei:2*es.length=M:=rR.out.symm;rw[Ei] at c3;clear ML Ei;go_wp2;clear c0 c1 c2 c3 c4;go_loopw [27] (fun c wr=>∃(k:Nat) (F An:List Int),k<=M/\c= .int .i64 (k:Int)/\Ro.Fi n es F An k/\dR wr w0.heap.size p gf gA gl n ao ca es F An (List.replicate n (-1))/\Below w0.heap.size w0 wr) (fun c _=>M-(intOf c).toNat)
  case atStart=>exact⟨0,_,_,aaL _,rfl,Q4.out,qz.out,CR.out⟩
  case round=>
   clear qz Q4 CR;obtain⟨k,F,An,hk,rfl,j6,hf,hb⟩:=hrel;have qz:=ζ j6;have HF:=ζ hf;have HB:=ζ hb;obtain⟨s0,s1,-⟩:=HS.out wr hb;clear j6 hf hb;by_cases hlt:k<M
   .have aX:(k:Int)<(M:Int):=by omega
    have hkm:k<2*es.length:=by have:=rR.out;omega
    have hfr:=(Cs.dG HV.out hkm).1;have IC:=pM n ao ca es k wr (HE.out.later (aW.out.trans (HB.out.mono aW.out.size))) HV.out hkm;rw[<-Td.out] at IC;have IC:=ζ IC;have HST:=ζ (qz.out.step HV.out hkm);obtain⟨fr,Qo⟩:∃fr,fr=Cs.fr es k:=⟨_,rfl⟩;rw[<-Qo] at hfr IC HST;have Ca:=qz.out.first fr hfr
    obtain⟨lv,hlv⟩:∃lv,lv=Ro.lo es fr k:=⟨_,rfl⟩;rw[<-hlv] at Ca HST;have Xc:=ζ Ca;have hfr2:(fr:Int)<(n:Int):=by omega
    clear Qo hlv Ca;go_wp2_with (go_at_call 256;refine IC.out.mono ?_;rintro e w2 ⟨rfl,hb2⟩;refine aaH ?_);refine ζ ?_;have hF2:=HF.out.later hb2;have aC:=ζ (HB.out.trans (hb2.mono HB.out.size));clear hb2 s0 s1;obtain⟨c0,c1,c2,c3,c4⟩:=ew hF2.blk;have Ei:2*es.length=M:=rR.out.symm;rw[Ei] at c3;clear Ei;have cfv:=hF2.first.cell Xc.out
    obtain⟨y,hy⟩:∃y,An[k]? =some y:=⟨_,aaC (by rw[qz.out.la];exact hkm)⟩;have cak:=hF2.another.cell hy;have fak:=hF2.another.free k;have Nk:=hF2.TY k lv;obtain⟨d0,d1,d2,d3,d4⟩:=ew Nk.blk;have dfv:=Nk.first.cell Xc.out
    have ffv:=Nk.first.free fr
    have Tz:=ζ (Nk.TX fr (k:Int));have hBg:=hF2.lo;have Q7:=ζ hBg;clear hF2 Nk hy hBg;go_wp2_with fail;go_big_region;go_wp2;refine⟨⟨k+1,F.set fr (k:Int),An.set k lv,by omega,by simp,HST.out,Tz.out.later (aaE _ _).drew,?_⟩,by simp[intOf];omega⟩;exact((aC.out.trans (eB (g:=gA) (j:=k) (.int .i64 lv) (by have:=Q7.out;omega))).trans (eB (g:=gf) (j:=fr) (.int .i64 (k:Int)) (by have:=Q7.out;omega))).drew
   .have aX:¬(k:Int)<(M:Int):=by omega
    obtain rfl:k=M:=by omega
    go_wp2;go_ret;have h1:=qz.out;rw[rR.out] at h1;have Yk:=aW.out.size;exact⟨p,gf,gA,gl,F,An,rfl,⟨HF.out.blk,HF.out.first,HF.out.another,HF.out.leading,⟨by have:=HF.out.lo;omega,by have:=HF.out.lo;omega,by have:=HF.out.lo;omega,by have:=HF.out.lo;omega⟩,HF.out.ne⟩,h1,aW.out.trans (HB.out.mono Yk)⟩
end
end Go.Proofs.YtdbjpbjocmcpkaaGreatDoor
