import Derived.Test.YtdbjpbjocmcpkaaGreatDoorMk30
import Derived.Maps.OwnSet
import Derived.DeepKeys4
set_option maxHeartbeats 8000000
set_option maxRecDepth 100000
namespace Go.Proofs.YtdbjpbjocmcpkaaGreatDoor
section
open Go.Proofs.Tryz
open Go.RowKit Go.Sort Go.Maps
theorem Kj:laidOutB prog=true:=by kernel_rfl
theorem Di:(57:TypeId)<prog.types.size:=of_decide_eq_true (by kernel_rfl)
theorem JJ:(match prog.underlying 57 with|some (.array _ _)|some (.struct _)=>true|_=>false)=true:=by kernel_rfl
theorem Gx:prog.keyTypeAt 2 57=true:=by kernel_rfl
theorem xA:Keyed prog 57:=Keyed.of_law (deep_law_laid Kj (m:=2) (by omega) Di Gx JJ)
theorem BV:prog.keyType 57=true:=by kernel_rfl
theorem yD:prog.cellsOf 57=2:=by kernel_rfl
theorem Gj {a b:Nat} (h:a<b):∃m,b=m+1:=⟨b-1,by omega⟩
theorem F6:∃m,prog.types.size=m+1:=Gj Di
theorem FX (w:World):(zeroValue 3).run prog w= .ok (.int .i64 0) w:=by kernel_rfl
def kN (e:Int×Int):Value:= .agg #[.int .i64 e.1,.int .i64 e.2]
def kX (e:Int×Int):Lit:= .string (keyBytes [.int .i64 e.1,.int .i64 e.2])
theorem keyOf_pair {e:Int×Int} (h:dI e):keyOf prog 57 (kN e)=some (kX e):=by
 obtain⟨m,hm⟩:=F6;have w1:=Lv h.1;have w2:=Lv h.2;unfold keyOf kN kX;simp only[Tryz.underlying57];rw[if_pos (by simp[BV,Value.formed,Tryz.underlying57,yD]),hm];unfold Program.keyLits;simp only[Tryz.underlying57,Value.cells];rw[if_pos (by rw[yD];rfl),show List.range 2=[0,1] from rfl];simp[l7,Program.keyLits,Tryz.underlying3,w1,w2]
theorem uk (e:Int×Int):WideAt.IsKeyLit (kX e):=by unfold kX;trivial
theorem Kl {a b:Int×Int} (ha:dI a) (hb:dI b) (h:kX a=kX b):a=b:=by
 have h1:=keyOf_pair ha;have h2:=keyOf_pair hb;rw[<-h] at h2;have:=xA.inj h1 h2;unfold kN at this;simp at this;exact Prod.ext this.1 this.2
namespace Ku
def OM (w:World) (b n:Nat) (f:Int×Int->Option Nat):Prop:=∃D:DataW Unit,w.ownsMap prog 57 (plainElem prog 3) b n D/\∀p,dI p->Maps.has D (kX p)=(f p).isSome/\D.atKey (kX p) (.lit (.int .i64 0))= .lit (.int .i64 (((f p).getD 0:Nat):Int))
def JO (f:Int×Int->Option Nat) (p:Int×Int) (i:Nat):Int×Int->Option Nat:=fun q=>if q=p then some i else f q
section
variable {w w':World} {b n:Nat} {f:Int×Int->Option Nat}
theorem OM.kept (h:OM w b n f) (hb:w'.heap[b]? =w.heap[b]?):OM w' b n f:=by
 obtain⟨D,⟨es,clock,h1,h2⟩,h3⟩:=h;exact⟨D,⟨es,clock,hb.trans h1,h2⟩,h3⟩
theorem OM.lt (h:OM w b n f):b<w.heap.size:=by
 obtain⟨D,h1,_⟩:=h;exact h1.lt
theorem OM.later (h:OM w b n f) (hb:Below w.heap.size w w'):OM w' b n f:=h.kept (hb.block b h.lt)
theorem OM.new (w:World):OM (w.alloc (.map #[] 0)) w.heap.size 0 (fun _=>none):=⟨.map [],World.ownsMap_made _ _ _ _,fun p _=>⟨by simp[Maps.has],rfl⟩⟩
theorem OM.Mf (h:OM w b n f) {p:Int×Int} (hp:dI p):(Instr.lookup 246 (.map (some b)) (kN p) true).run prog w= .ok (.tuple #[.int .i64 (((f p).getD 0:Nat):Int),.bool (f p).isSome]) w:=by
 obtain⟨D,hD,hf⟩:=h;obtain⟨v,ps,hrun,hv⟩:=hD.look_ok (t:=246) xA Tryz.underlying246 (FX w) (plainElem_int Tryz.underlying3 (by decide)) (keyOf_pair hp);obtain⟨c,rfl,hc,_⟩:=plainElem_int_inv Tryz.underlying3 hv;obtain⟨h1,h2⟩:=hf p hp;rw[h1] at hrun;have:=congrArg Prod.fst hc;dsimp only at this;rw[h2] at this;cases this;exact hrun
theorem OM.look (h:OM w b n f) {p:Int×Int} (hp:dI p):∃c:Int,(Instr.lookup 246 (.map (some b)) (kN p) true).run prog w= .ok (.tuple #[.int .i64 c,.bool (f p).isSome]) w/\∀i:Nat,f p=some i->c=(i:Int):=⟨_,h.Mf hp,fun i hi=>by rw[hi];rfl⟩
theorem OM.put {D:DataW Unit} (hf:∀p,dI p->Maps.has D (kX p)=(f p).isSome/\D.atKey (kX p) (.lit (.int .i64 0))= .lit (.int .i64 (((f p).getD 0:Nat):Int))) (hD:IsMap D) {p:Int×Int} (hp:dI p) (i:Nat) (h:w'.ownsMap prog 57 (plainElem prog 3) b (n+1) (D.put (kX p) (.lit (.int .i64 (i:Int))))):OM w' b (n+1) (JO f p i):=by
 refine⟨_,h,fun q hq=> ?_⟩;unfold JO;by_cases e:q=p
 .subst e
  rw[if_pos rfl,has_put_same hD (uk q),atKey_put_same hD (uk q)];exact⟨rfl,rfl⟩
 .have hk:kX q≠kX p:=fun h=>e (Kl hq hp h)
  rw[if_neg e,has_put_other hk,atKey_put_other hk];exact hf q hq
end
def ends (l:List Int):Int×Int:=(gI l 0,gI l (l.length-1))
def opn (R:List (List Int)):Nat->Int×Int->Option Nat
 |0=>fun _=>none
 |k+1=>if (ends (R.getD k [])).1≠(ends (R.getD k [])).2 then JO (opn R k) (ends (R.getD k [])) k else opn R k
theorem DC {R:List (List Int)} {k:Nat} {l:List Int} (hl:R[k]? =some l) (h:(ends l).1≠(ends l).2):opn R (k+1)=JO (opn R k) (ends l) k:=by
 have e:R.getD k []=l:=by rw[aaI,hl];rfl
 simp only[opn];rw[e,if_pos h]
theorem I0 {R:List (List Int)} {k:Nat} {l:List Int} (hl:R[k]? =some l) (h:(ends l).1=(ends l).2):opn R (k+1)=opn R k:=by
 have e:R.getD k []=l:=by rw[aaI,hl];rfl
 simp only[opn];rw[e,if_neg (by simpa using h)]
theorem oh {R:List (List Int)} {p:Int×Int} {i:Nat}:∀{k:Nat},k<=R.length->opn R k p=some i->i<k/\∃l,R[i]? =some l/\ends l=p/\p.1≠p.2
 |0,_,h=>by cases h
 |k+1,hk,h=>by
  obtain⟨l,hl⟩:∃l,R[k]? =some l:=⟨_,aaC (by omega)⟩;by_cases he:(ends l).1=(ends l).2
  .rw[I0 hl he] at h
   obtain⟨h1,h2⟩:=oh (by omega) h;exact⟨by omega,h2⟩
  .rw[DC hl he] at h
   unfold JO at h
   split at h
   .rename_i e
    cases h;exact⟨by omega,l,hl,e.symm,by rw[e];exact he⟩
   .obtain⟨h1,h2⟩:=oh (by omega) h
    exact⟨by omega,h2⟩
def SU (R:List (List Int)) (cv:Value) (w:World) (e:Ending) (w':World):Prop:=∃b,e= .returned (.agg #[cv,.map (some b)])/\w.heap.size<=b/\OM w' b R.length (opn R R.length)/\Below w.heap.size w w'
end Ku
end
section
open Go.Proofs.Tryz
open Go.RowKit Go.Sort Go.Maps
namespace Ku
def Small (R:List (List Int)):Prop:=R.length<=4194304/\∀l∈R,2<=l.length/\l.length<=17592186044000/\∀x∈l,0<=x/\x<1048576
theorem OM.mono {w:World} {b n n':Nat} {f:Int×Int->Option Nat} (h:OM w b n f) (hn:n<=n'):OM w b n' f:=by
 obtain⟨D,h1,h2⟩:=h;exact⟨D,h1.mono hn,h2⟩
theorem Small.ends {R:List (List Int)} (h:Small R) {l:List Int} (hl:l∈R):dI (ends l):=by
 obtain⟨h1,_,h3⟩:=h.2 l hl;have key:∀i,i<l.length->0<=gI l i/\gI l i<1048576:=fun i hi=>by
  obtain⟨x,hx⟩:∃x,l[i]? =some x:=⟨_,aaC hi⟩;rw[dL hx];exact h3 x (aaG hx)
 have a:=key 0 (by omega);have b:=key (l.length-1) (by omega);unfold dI Ku.ends;dsimp only;omega
end Ku
theorem Bx {fn:Func} {P:Program} {p:Tmp} (h:fn.results= #[.cell p 248]) (hP:P=prog) (tmps:Array Value) (w:World) (b:Nat) (x y:Value) (hp:tmps.getD p undef= .pointer (some ⟨b,0,none⟩)) (h0:w.cell? ⟨b,0,none⟩=some x) (h1:w.cell? ⟨b,1,none⟩=some y):(results fn tmps).run P w= .ok (.agg #[x,y]) w:=by
 subst hP;have hp':tmps[p]?.getD undef= .pointer (some ⟨b,0,none⟩):=by simpa using hp
 simp[results,h,go_sem,hp',h0,h1]
theorem wF {w:World} {b:Nat} {s t:Value} (hs:w.cell? ⟨b,0,none⟩=some s) (ht:w.cell? ⟨b,1,none⟩=some t) (x y:Value):((w.setCell ⟨b,0,none⟩ x).setCell ⟨b,1,none⟩ y).cell? ⟨b,0,none⟩=some x/\((w.setCell ⟨b,0,none⟩ x).setCell ⟨b,1,none⟩ y).cell? ⟨b,1,none⟩=some y:=by
 refine⟨?_,?_⟩<;>simp[go_sem,hs,ht]
theorem vT (ca:Option Addr) (J cc:Nat) (R:List (List Int)) (w:World) (hJ:R.length=J) (hR:Ku.nI w (.slice ca J cc) R) (hS:Ku.Small R):
 Calls prog 146 #[.slice ca J cc] w (Ku.SU R (.slice ca J cc) w):=by
 obtain⟨W0,hW0⟩:∃W0,W0=w.alloc (.cells #[.slice none 0 0,.map none] 248):=⟨_,rfl⟩;obtain⟨W1,hW1⟩:∃W1,W1=W0.alloc (.map #[] 0):=⟨_,rfl⟩;obtain⟨W,hW⟩:∃W,W=W1.alloc (.cells #[.slice ca J cc,.map (some (w.heap.size+1))] 248):=⟨_,rfl⟩;have hs0:W0.heap.size=w.heap.size+1:=by rw[hW0];simp
 have hs1:W1.heap.size=w.heap.size+2:=by rw[hW1];simp[hs0]
 have hB0:Below w.heap.size w W0:=by rw[hW0];exact(aaE _ _).alloc (aaD _) _
 have hB1:Below W0.heap.size W0 W1:=by rw[hW1];exact(aaE _ _).alloc (aaD _) _
 have hB2:Below W1.heap.size W1 W:=by rw[hW];exact(aaE _ _).alloc (aaD _) _
 have hBW:Below w.heap.size w W:=(hB0.trans (hB1.mono hB0.size)).trans (hB2.mono (by omega));have g0:W.heap[w.heap.size]? =some (.cells #[.slice none 0 0,.map none] 248 (0,0)):=by
  rw[hB2.block _ (by omega),hB1.block _ (by omega),hW0];exact heap_alloc_new w _
 have g2:W.heap[w.heap.size+1+1]? =some (.cells #[.slice ca J cc,.map (some (w.heap.size+1))] 248 (0,0)):=by rw[hW,show w.heap.size+1+1=W1.heap.size by omega];exact heap_alloc_new W1 _
 have jf:Ku.OM W (w.heap.size+1) 0 (fun _=>none):=by
  have:Ku.OM W1 (w.heap.size+1) 0 (fun _=>none):=by rw[hW1,<-hs0];exact Ku.OM.new W0
  exact this.later hB2
 have Po:w.heap.size+1+1<W.heap.size:=lt_of_block g2;have HW:Hid (W=((w.alloc (.cells #[.slice none 0 0,.map none] 248)).alloc (.map #[] 0)).alloc (.cells #[.slice ca J cc,.map (some (w.heap.size+1))] 248)):=by rw[hW,hW1,hW0];exact ζ rfl
 have Wl:Hid (∀U:World,aj (fun k=>k=w.heap.size+1) W U->Ku.nI U (.slice ca J cc) R):=fun U hU=>hR.later (hBW.trans (hU.below (by omega) (fun k hk=>by omega)))
 have HB:Hid (∀U:World,aj (fun k=>k=w.heap.size+1) W U->Below w.heap.size w U):=fun U hU=>hBW.trans (hU.below (by omega) (fun k hk=>by omega))
 have vB:Hid (∀U:World,aj (fun k=>k=w.heap.size+1) W U->U.heap[w.heap.size]? =some (.cells #[.slice none 0 0,.map none] 248 (0,0))):=fun U hU=>(hU.block _ (by omega) (by omega)).trans g0
 have dF:Hid (∀U:World,aj (fun k=>k=w.heap.size+1) W U->U.heap[w.heap.size+1+1]? =some (.cells #[.slice ca J cc,.map (some (w.heap.size+1))] 248 (0,0))):=fun U hU=>(hU.block _ (by omega) (by omega)).trans g2
 have Tb:=ζ jf;have HJ:=ζ hJ;have YK:J<=4194304:=by rw[<-hJ];exact hS.1
 have HS:=ζ hS;have hmm:= @run_makeMap prog;clear hW hW1 hW0 hs0 hs1 hB0 hB1 hB2 hBW g0 g2 jf hR hJ hS;go_enter func146,ntmps146;go_wp2_with fail;rw[<-HW.out];clear hmm;go_loopw [12] (fun cv wr=>∃k:Nat,k<=J/\cv= .int .i64 (k:Int)/\Ku.OM wr (w.heap.size+1) k (Ku.opn R k)/\aj (fun k=>k=w.heap.size+1) W wr) (fun cv _=>J-(intOf cv).toNat)
 case atStart=>exact⟨0,aaL _,rfl,Tb.out,aj.refl _ _⟩
 case round=>
  obtain⟨k,hk,rfl,jf,hwr⟩:=hrel;obtain⟨U,rfl⟩:∃U,U=wr:=⟨wr,rfl⟩;have HO:=ζ jf;have ke:=ζ hwr;have hwk:IntKind.i64.wrap ((k:Int)+1)=(k:Int)+1:=by rw[aaK];omega
  by_cases hlt:k<J
  .have aX:(k:Int)<(J:Int):=by omega
   have hk0:(0:Int)<=(k:Int):=by omega
   obtain⟨l,hl⟩:∃l,R[k]? =some l:=⟨_,aaC (by rw[HJ.out];exact hlt)⟩;obtain⟨ca',cc',hce,hrd⟩:=Wl.out U hwr;rw[HJ.out] at hce;cases hce;obtain⟨gb,go',x,rfl,cx,xa,xc,rfl,hat⟩:=hrd k l hl;obtain⟨q,hq⟩:∃q,l.length=q:=⟨_,rfl⟩;rw[hq] at cx;obtain⟨zG,Pb,-⟩:=HS.out.2 l (aaG hl);rw[hq] at zG Pb;obtain⟨q1,hq1⟩:∃q1,q1=q-1:=⟨_,rfl⟩;obtain⟨x0,hx0⟩:∃x,l[0]? =some x:=⟨_,aaC (by omega)⟩;obtain⟨xn,sO⟩:∃x,l[q1]? =some x:=⟨_,aaC (by omega)⟩;obtain⟨b,o,rfl,e0⟩:=hat 0 x0 hx0;obtain⟨_,_,e,e1⟩:=hat q1 xn sO;cases e;rw[abv] at e0;have hw1:IntKind.i64.wrap ((q:Int)-1)=(q1:Int):=by rw[aaK];omega
   have i0:(0:Int)<(q:Int):=by omega
   have i2:(0:Int)<=(q1:Int):=by omega
   have i3:(q1:Int)<(q:Int):=by omega
   have xS:Ku.ends l=(x0,xn):=by
    unfold Ku.ends;rw[Ku.dL hx0,hq,<-hq1,Ku.dL sO]
   have hin:dI (x0,xn):=by rw[<-xS];exact HS.out.ends (aaG hl)
   have Ti:=ζ (keyOf_pair hin);unfold kN at Ti;dsimp only at Ti;obtain⟨c0,c1,-⟩:=af (dF.out U hwr);have V7:Hid (x0≠xn->Ku.opn R (k+1)=Ku.JO (Ku.opn R k) (x0,xn) k):=fun h=>by
    have:=Ku.DC hl (by rw[xS];exact h);rw[xS] at this;exact this
   have mA:Hid (x0=xn->Ku.opn R (k+1)=Ku.opn R k):=fun h=>Ku.I0 hl (by rw[xS];exact h)
   have zW:=ζ hin;clear jf hwr hl hrd hat hx0 sO hq hq1 xS hin;have Yz:b<U.heap.size:=block_lt_of_cell e0;have Yx:b≠U.heap.size:=by omega
   go_wp2_with fail;go_big_region;obtain⟨V,hV⟩:∃V,V=(U.alloc (.cells #[.int .i64 x0,.int .i64 xn] 57)).drew:=⟨_,rfl⟩;rw[<-hV];have xX:Below U.heap.size U V:=by rw[hV];exact((aaE _ _).alloc (aaD _) _).drew
   have gV:V.heap[U.heap.size]? =some (.cells #[.int .i64 x0,.int .i64 xn] 57 (0,0)):=by rw[hV];exact heap_alloc_new U _
   have Ea:=ke.out.later xX;have Ik:=ζ Ea;have FE:=ζ (HO.out.later xX);clear c0 c1;obtain⟨c0,c1,-⟩:=af (dF.out V Ea);obtain⟨v0,v1,-⟩:=af gV;clear hV xX gV Ea e0 e1 cx Yz Yx;by_cases hx:x0=xn
   .have t1:(x0 != xn)=false:=by simp[hx]
    have HN:=ζ (mA.out hx);clear hx;go_wp2;go_roundw
    case rel=>exact⟨k+1,by omega,by go_num,by rw[HN.out];exact FE.out.mono (by omega),Ik.out⟩
    case measure=>simp[intOf];omega
   .have t1:(x0 != xn)=true:=by simp[hx]
    have HN:=ζ (V7.out hx);obtain⟨D,hD,hf⟩:=FE.out;have HD:=ζ hD;have HF:=ζ hf;clear hx hD hf;go_wp2_with (at_mapUpdate;refine wpList_mapUpdate_in _ rfl _ _ _ 246 rfl 57 3 xA Tryz.underlying246 (plainElem prog 3) (w.heap.size+1) k D rfl HD.out (by unfold maxLen;omega) _ _ _ rfl rfl Ti.out (.lit (.int .i64 (k:Int))) [] (plainElem_int Tryz.underlying3 (Lv (by omega))) ?_;refine aaH ?_);refine ζ ?_;intro w3 MF Jc;have WB:Hid (Ku.OM w3 (w.heap.size+1) (k+1) (Ku.opn R (k+1))):=by
     rw[HN.out];exact Ku.OM.put HF.out HD.out.isMap zW.out k MF
    have hg3:=Jc.grown;have qx:Hid (aj (fun k=>k=w.heap.size+1) W w3):=Ik.out.trans ⟨hg3.os,hg3.tape,hg3.output,hg3.size,fun j hj hne=>hg3.block j hj (fun e=>hne (aaQ e))⟩;clear MF Jc hg3;go_wp2;go_roundw
    case rel=>exact⟨k+1,by omega,by go_num,WB.out,qx.out⟩
    case measure=>simp[intOf];omega
  .have hd:¬((k:Int)<(J:Int)):=by omega
   obtain rfl:k=J:=by omega
   obtain⟨c0,c1,-⟩:=af (dF.out U hwr);obtain⟨v0,v1,vf⟩:=af (vB.out U hwr);have hv0:=vf 0;have B5:=vf 1;have hne:w.heap.size≠w.heap.size+1+1:=by omega
   clear jf hwr vf;have ZE:Hid (Ku.OM ((U.setCell ⟨w.heap.size,0,none⟩ (.slice ca k cc)).setCell ⟨w.heap.size,1,none⟩ (.map (some (w.heap.size+1)))) (w.heap.size+1) k (Ku.opn R k)):=HO.out.kept (by rw[heap_setCell_other _ ⟨w.heap.size,1,none⟩ _ _ (by simp),heap_setCell_other _ ⟨w.heap.size,0,none⟩ _ _ (by simp)]);have Oc:Hid (Below w.heap.size w ((U.setCell ⟨w.heap.size,0,none⟩ (.slice ca k cc)).setCell ⟨w.heap.size,1,none⟩ (.map (some (w.heap.size+1))))):=((HB.out U ke.out).setCell (p:=⟨w.heap.size,0,none⟩) (aaD _) _).setCell (p:=⟨w.heap.size,1,none⟩) (aaD _) _;go_wp2;refine bodyPost_ret (Bx rfl rfl _ _ w.heap.size _ _ rfl (wF v0 v1 _ _).1 (wF v0 v1 _ _).2) rfl ?_;refine⟨w.heap.size+1,rfl,by omega,?_,Oc.out⟩;rw[HJ.out];exact ZE.out
end
section
open Go.Proofs.Tryz
open Go.RowKit Go.Sort Go.Maps
namespace Ku
def ep (x:Int) (l:List Int):List Int:=if gI l 0=x then l else l.reverse
def key (p:Int×Int):Int×Int:=if p.2<p.1 then (p.2,p.1) else p
def idx (R:List (List Int)) (p:Int×Int):Option Nat:=opn R R.length (key p)
def pathOf (R:List (List Int)) (p:Int×Int):List Int:=ep p.1 (R.getD ((idx R p).getD 0) [])
theorem O4 {R:List (List Int)} {p:Int×Int} {i:Nat} (h:idx R p=some i):i<R.length:=(oh (aaD _) h).1
theorem B4 {R:List (List Int)} {p:Int×Int} {i:Nat} (h:idx R p=some i):∃l,R[i]? =some l/\ends l=key p/\(key p).1≠(key p).2:=(oh (aaD _) h).2
theorem Gk {R:List (List Int)} {p:Int×Int} {i:Nat} {l:List Int} (h:idx R p=some i) (hl:R[i]? =some l):pathOf R p=ep p.1 l:=by
 unfold pathOf;rw[h,aaI];show ep p.1 (R[i]?.getD [])=_;rw[hl];rfl
theorem Jb {R:List (List Int)} {p q:Int×Int} {i:Nat} (hp:idx R p=some i) (hq:idx R q=some i):key p=key q:=by
 obtain⟨l,h1,h2,_⟩:=B4 hp;obtain⟨l',h3,h4,_⟩:=B4 hq;rw[h1] at h3;cases h3;rw[<-h2,h4]
end Ku
theorem F0 (B:Nat) (ao:Option Addr) (q c:Nat) (x:Int) (l:List Int) (w:World) (hq:l.length=q) (h:av w B (.slice ao q c) l) (h2:1<=q) (hl:q<=17592186044000):
 Calls prog 263 #[.int .i64 x,.slice ao q c] w fun e w'=>e= .returned (.slice ao q c)/\av w' B (.slice ao q c) (Ku.ep x l)/\w.grownBy w' (Value.slice ao q c).ownBlock:=by
 obtain⟨zR,c',e,hat,-⟩:=h.form;rw[hq] at e;cases e;obtain⟨x0,hx0⟩:∃x,l[0]? =some x:=⟨_,aaC (by omega)⟩;obtain⟨b,o,rfl,e0⟩:=hat 0 x0 hx0;rw[abv] at e0;have i0:(0:Int)<(q:Int):=by omega
 have AP:l≠[]:=fun e=>by rw[e] at hq;simp at hq;omega
 have PO:=ζ (o8 B _ l w h AP (by omega));have fP:=ζ h;have HG:=Ku.dL hx0;by_cases hc:x0=x
 .have t1:(x0 != x)=false:=by simp[hc]
  have HF:Hid (Ku.ep x l=l):=by
   refine ζ ?_;unfold Ku.ep;rw[HG,if_pos hc]
  clear h hat hx0 AP HG hc;go_enter func263,ntmps263;go_wp2;go_ret;exact⟨rfl,by rw[HF.out];exact fP.out,rfl,rfl,rfl,aaD _,fun _ _ _=>rfl⟩
 .have t1:(x0 != x)=true:=by simp[hc]
  have HF:Hid (Ku.ep x l=l.reverse):=by
   refine ζ ?_;unfold Ku.ep;rw[HG,if_neg hc]
  clear h hat hx0 AP HG hc;go_enter func263,ntmps263;go_wp2_with (go_at_call 93;refine PO.out.mono ?_;rintro e w3 ⟨rfl,ho,hgr⟩;refine aaH ?_);refine ζ ?_;have HO:=ζ ho;have Tq:=ζ hgr;clear ho hgr;go_wp2;go_ret;exact⟨rfl,by rw[HF.out];exact HO.out,Tq.out⟩
namespace Ku
structure yO (B:Nat) (cv:Value) (cs:List Value) (R:List (List Int)) (ps:List (Int×Int)) (W:World) (k:Nat) (pv:Value) (vs:List Value) (U:World):Prop where
 cur:∃C,ay U B cv cs C/\C.length=R.length/\∀i l,R[i]? =some l->(∀t p,t<k->ps[t]? =some p->idx R p≠some i)->C[i]? =some l
 pz:ay U B pv vs ((ps.take k).map (pathOf R))
 link:∀t x,vs[t]? =some x->∃p i,ps[t]? =some p/\t<k/\idx R p=some i/\cs[i]? =some x
 own:∀b,pv.ownBlock=some b->W.heap.size<=b
 wr:aj (fun b=>bY cs b\/W.heap.size<=b) W U
section
variable {B:Nat} {cv:Value} {cs:List Value} {R:List (List Int)} {ps:List (Int×Int)} {W:World} {k:Nat} {pv:Value} {vs:List Value} {U:World}
theorem yO.later {V:World} (h:yO B cv cs R ps W k pv vs U) (hb:Below U.heap.size U V):yO B cv cs R ps W k pv vs V:=by
 obtain⟨C,hC,hl,hc⟩:=h.cur;exact⟨⟨C,hC.later hb,hl,hc⟩,h.pz.later hb,h.link,h.own,h.wr.later hb⟩
theorem yO.look (h:yO B cv cs R ps W k pv vs U) (hd:∀(t t':Nat) (p p':Int×Int),t≠t'->ps[t]? =some p->ps[t']? =some p'->key p≠key p') {p:Int×Int} {i:Nat} {l:List Int} (hp:ps[k]? =some p) (hi:idx R p=some i) (hl:R[i]? =some l):
 ∃x,cs[i]? =some x/\av U B x l/\(∃g c,cv= .slice (some ⟨g,0,none⟩) R.length c/\U.cell? ⟨g,i,none⟩=some x)/\(∀b,x.ownBlock=some b->¬bY vs b):=by
 obtain⟨C,hC,Nl,hc⟩:=h.cur;have hno:∀t q,t<k->ps[t]? =some q->idx R q≠some i:=fun t q ht hq e=>hd t k q p (by omega) hq hp (Jb e hi)
 have Pq:=hc i l hl hno;obtain⟨x,hx⟩:=hC.at' Pq;refine⟨x,hx,hC.row i x l hx Pq,?_,fun b hb hin=> ?_⟩
 .obtain⟨g,c,e,hcell⟩:=DX hC hx
  rw[Nl] at e;exact⟨g,c,e,hcell⟩
 .obtain⟨t,y,hy,hyb⟩:=hin
  obtain⟨q,j,hq,ht,hj,Pm⟩:=h.link t y hy;have hij:i≠j:=fun e=>by
   subst e;exact hno t q ht hq hj
  exact hC.apart i j x y b hij hx Pm hb hyb
theorem yO.step {U2 X w4:World} {p:Int×Int} {i:Nat} {l:List Int} {x wL:Value} (h:yO B cv cs R ps W k pv vs U) (hW:∀b,(cv.ownBlock=some b\/bY cs b)->b<W.heap.size) (hd:∀(t t':Nat) (p p':Int×Int),t≠t'->ps[t]? =some p->ps[t']? =some p'->key p≠key p') (hp:ps[k]? =some p) (hi:idx R p=some i) (hl:R[i]? =some l) (hx:cs[i]? =some x) (pX:∀b,x.ownBlock=some b->¬bY vs b)
 (hg:U.grownBy U2 x.ownBlock) (hO:av U2 B x (ep p.1 l)) (hX:Below U2.heap.size U2 X):
 ay X B pv vs ((ps.take k).map (pathOf R))/\av X B x (ep p.1 l)/\(∀b,x.ownBlock=some b->¬(pv.ownBlock=some b\/bY vs b))/\
 (ay w4 B wL (vs++[x]) ((ps.take k).map (pathOf R)++[ep p.1 l])->X.grownBy w4 pv.ownBlock->(wL.ownBlock=pv.ownBlock\/wL.ownBlock=some X.heap.size)->yO B cv cs R ps W (k+1) wL (vs++[x]) w4):=by
 obtain⟨C,hC,Nl,hc⟩:=h.cur;have hxl:∀b,x.ownBlock=some b->b<W.heap.size:=fun b hb=>hW b (.inr ⟨i,x,hx,hb⟩)
 have Rx:∀b,x.ownBlock=some b->pv.ownBlock≠some b:=fun b hb e=>by
  have:=h.own b e;have:=hxl b hb;omega
 have Yd:ay X B pv vs ((ps.take k).map (pathOf R)):=(h.pz.kept fun b hb hlt=>hg.block b hlt (fun e=>by
  rcases hb with hb|hb
  .exact Rx b e.symm hb
  .exact pX b e.symm hb)).later hX
 refine⟨Yd,hO.later hX,fun b hb zI=> ?_,fun G1 hg4 hat=> ?_⟩
 .rcases zI with zI|zI
  .exact Rx b hb zI
  .exact pX b hb zI
 .have Mv:=hg.size
  have hsX:=hX.size;have Mw:=hg4.size;have hWU:=h.wr.size;have keep:∀b,b<U.heap.size->x.ownBlock≠some b->pv.ownBlock≠some b->w4.heap[b]? =U.heap[b]? :=fun b hb h1 h2=>by
   rw[hg4.block b (by omega) (fun e=>h2 e.symm),hX.block b (by omega),hg.block b hb (fun e=>h1 e.symm)]
  have YH:av w4 B x (ep p.1 l):=(hO.later hX).same fun b hb hlt=>hg4.block b hlt (fun e=>Rx b hb e.symm)
  have Pq:C[i]? =some l:=hc i l hl fun t q ht hq e=>hd t k q p (by omega) hq hp (Jb e hi)
  have VO:=(aaF.1 Pq).1;refine⟨⟨C.set i (ep p.1 l),?_,by rw[abV];exact Nl,?_⟩,?_,?_,?_,?_⟩
  .refine⟨by rw[abV];exact hC.len,?_,?_,hC.apart,hC.far⟩
   .rw[abV]
    exact bN hC.outer fun b hb _ hlt=>keep b hlt (fun e=>hC.far i x b hx e hb) (fun e=>by
     have a1:=h.own b e;have a2:=hW b (.inl hb);omega)
   .intro u y m hy hm
    by_cases RD:u=i
    .subst RD
     rw[hx] at hy;cases hy;rw[List.getElem?_set_self VO] at hm;cases hm;exact YH
    .rw[acp (abM RD)] at hm
     refine(hC.row u y m hy hm).same fun b hb hlt=>keep b hlt (fun e=>hC.apart u i y x b RD hy hx hb e) (fun e=> ?_)
     have a1:=h.own b e;have a2:=hW b (.inr ⟨u,y,hy,hb⟩);omega
  .intro j m hm hno
   have hij:j≠i:=fun e=>hno k p (by omega) hp (by rw[e];exact hi)
   rw[acp (abM hij)];exact hc j m hm fun t q ht hq=>hno t q (by omega) hq
  .have e:(ps.take (k+1)).map (pathOf R)=(ps.take k).map (pathOf R)++[ep p.1 l]:=by
    rw[abG,hp,abh];show _++[pathOf R p]=_;rw[Gk hi hl]
   rw[e];exact G1
  .intro t y hy
   have hvl:=h.pz.len;rw[aaP,abq] at hvl;have hkp:=(aaF.1 hp).1;by_cases ht:t<vs.length
   .rw[aaU ht] at hy
    obtain⟨q,j,h1,h2,h3,h4⟩:=h.link t y hy;exact⟨q,j,h1,by omega,h3,h4⟩
   .have Ya:=(aaF.1 hy).1
    simp at Ya;have:t=k:=by omega
    subst this;rw[aa4 (by omega)] at hy;rw[show t-vs.length=0 by omega] at hy;cases hy;exact⟨p,i,hp,by omega,hi,hx⟩
  .intro b hb
   rcases hat with e|e
   .exact h.own b (e▸hb)
   .rw[e] at hb
    cases hb;omega
  .refine h.wr.trans ⟨?_,?_,?_,by omega,fun b hb hne=>keep b hb (fun e=>hne (.inl ⟨i,x,hx,e⟩)) (fun e=>hne (.inr (h.own b e)))⟩
   .rw[hg4.os,hX.os,hg.os]
   .rw[hg4.tape,hX.tape,hg.tape]
   .rw[hg4.output,hX.output,hg.output]
end
end Ku
end
end Go.Proofs.YtdbjpbjocmcpkaaGreatDoor
