import Derived.Test.YtdbjpbjocmcpkaaGreatDoorMj40
import Derived.Maps.OwnSet
import Derived.DeepKeys4
set_option maxHeartbeats 8000000
set_option maxRecDepth 100000
namespace Go.Proofs.YtdbjpbjocmcpkaaGreatDoor
section
open Go.Proofs.Tryz
open Go.RowKit Go.Sort Go.Maps
theorem R3:laidOutB prog=true:=by kernel_rfl
theorem Kn:(57:TypeId)<prog.types.size:=of_decide_eq_true (by kernel_rfl)
theorem Q9:(match prog.underlying 57 with|some (.array _ _)|some (.struct _)=>true|_=>false)=true:=by kernel_rfl
theorem Ot:prog.keyTypeAt 2 57=true:=by kernel_rfl
theorem Dp:Keyed prog 57:=Keyed.of_law (deep_law_laid R3 (m:=2) (by omega) Kn Ot Q9)
theorem I4:prog.keyType 57=true:=by kernel_rfl
theorem Eu:prog.cellsOf 57=2:=by kernel_rfl
theorem N5 {a b:Nat} (h:a<b):∃m,b=m+1:=⟨b-1,by omega⟩
theorem NG:∃m,prog.types.size=m+1:=N5 Kn
theorem Ny (w:World):(zeroValue 3).run prog w= .ok (.int .i64 0) w:=by kernel_rfl
def pH (e:Int×Int):Value:= .agg #[.int .i64 e.1,.int .i64 e.2]
def pN (e:Int×Int):Lit:= .string (keyBytes [.int .i64 e.1,.int .i64 e.2])
theorem keyOf_pair {e:Int×Int} (h:dw e):keyOf prog 57 (pH e)=some (pN e):=by
 obtain⟨m,hm⟩:=NG;have w1:=JY h.1;have w2:=JY h.2;unfold keyOf pH pN;simp only[Tryz.underlying57];rw[if_pos (by simp[I4,Value.formed,Tryz.underlying57,Eu]),hm];unfold Program.keyLits;simp only[Tryz.underlying57,Value.cells];rw[if_pos (by rw[Eu];rfl),show List.range 2=[0,1] from rfl];simp[Ev,Program.keyLits,Tryz.underlying3,w1,w2]
theorem AZ (e:Int×Int):WideAt.IsKeyLit (pN e):=by unfold pN;trivial
theorem R9 {a b:Int×Int} (ha:dw a) (hb:dw b) (h:pN a=pN b):a=b:=by
 have h1:=keyOf_pair ha;have h2:=keyOf_pair hb;rw[<-h] at h2;have:=Dp.inj h1 h2;unfold pH at this;simp at this;exact Prod.ext this.1 this.2
namespace Ku
def OM (w:World) (b n:Nat) (f:Int×Int->Option Nat):Prop:=∃D:DataW Unit,w.ownsMap prog 57 (plainElem prog 3) b n D/\∀p,dw p->Maps.has D (pN p)=(f p).isSome/\D.atKey (pN p) (.lit (.int .i64 0))= .lit (.int .i64 (((f p).getD 0:Nat):Int))
def J7 (f:Int×Int->Option Nat) (p:Int×Int) (i:Nat):Int×Int->Option Nat:=fun q=>if q=p then some i else f q
section
variable {w w':World} {b n:Nat} {f:Int×Int->Option Nat}
theorem OM.kept (h:OM w b n f) (hb:w'.heap[b]? =w.heap[b]?):OM w' b n f:=by
 obtain⟨D,⟨es,clock,h1,h2⟩,h3⟩:=h;exact⟨D,⟨es,clock,hb.trans h1,h2⟩,h3⟩
theorem OM.lt (h:OM w b n f):b<w.heap.size:=by
 obtain⟨D,h1,_⟩:=h;exact h1.lt
theorem OM.later (h:OM w b n f) (hb:Below w.heap.size w w'):OM w' b n f:=h.kept (hb.block b h.lt)
theorem OM.new (w:World):OM (w.alloc (.map #[] 0)) w.heap.size 0 (fun _=>none):=⟨.map [],adZ _ _ _ _,fun p _=>⟨by simp[Maps.has],rfl⟩⟩
theorem OM.Uo (h:OM w b n f) {p:Int×Int} (hp:dw p):(Instr.lookup 246 (.map (some b)) (pH p) true).run prog w= .ok (.tuple #[.int .i64 (((f p).getD 0:Nat):Int),.bool (f p).isSome]) w:=by
 obtain⟨D,hD,hf⟩:=h;obtain⟨v,ps,hrun,hv⟩:=hD.look_ok (t:=246) Dp Tryz.underlying246 (Ny w) (plainElem_int Tryz.underlying3 (by decide)) (keyOf_pair hp);obtain⟨c,rfl,hc,_⟩:=plainElem_int_inv Tryz.underlying3 hv;obtain⟨h1,h2⟩:=hf p hp;rw[h1] at hrun;have:=congrArg Prod.fst hc;dsimp only at this;rw[h2] at this;cases this;exact hrun
theorem OM.look (h:OM w b n f) {p:Int×Int} (hp:dw p):∃c:Int,(Instr.lookup 246 (.map (some b)) (pH p) true).run prog w= .ok (.tuple #[.int .i64 c,.bool (f p).isSome]) w/\∀i:Nat,f p=some i->c=(i:Int):=⟨_,h.Uo hp,fun i hi=>by rw[hi];rfl⟩
theorem OM.put {D:DataW Unit} (hf:∀p,dw p->Maps.has D (pN p)=(f p).isSome/\D.atKey (pN p) (.lit (.int .i64 0))= .lit (.int .i64 (((f p).getD 0:Nat):Int))) (hD:IsMap D) {p:Int×Int} (hp:dw p) (i:Nat) (h:w'.ownsMap prog 57 (plainElem prog 3) b (n+1) (D.put (pN p) (.lit (.int .i64 (i:Int))))):OM w' b (n+1) (J7 f p i):=by
 refine⟨_,h,fun q hq=> ?_⟩;unfold J7;by_cases e:q=p
 .subst e
  rw[if_pos rfl,has_put_same hD (AZ q),atKey_put_same hD (AZ q)];exact⟨rfl,rfl⟩
 .have hk:pN q≠pN p:=fun h=>e (R9 hq hp h)
  rw[if_neg e,has_put_other hk,atKey_put_other hk];exact hf q hq
end
def ends (l:List Int):Int×Int:=(gI l 0,gI l (l.length-1))
def opn (R:List (List Int)):Nat->Int×Int->Option Nat
 |0=>fun _=>none
 |k+1=>if (ends (R.getD k [])).1≠(ends (R.getD k [])).2 then J7 (opn R k) (ends (R.getD k [])) k else opn R k
theorem C3 {R:List (List Int)} {k:Nat} {l:List Int} (hl:R[k]? =some l) (h:(ends l).1≠(ends l).2):opn R (k+1)=J7 (opn R k) (ends l) k:=by
 have e:R.getD k []=l:=by rw[aaL,hl];rfl
 simp only[opn];rw[e,if_pos h]
theorem IP {R:List (List Int)} {k:Nat} {l:List Int} (hl:R[k]? =some l) (h:(ends l).1=(ends l).2):opn R (k+1)=opn R k:=by
 have e:R.getD k []=l:=by rw[aaL,hl];rfl
 simp only[opn];rw[e,if_neg (by simpa using h)]
theorem kA {R:List (List Int)} {p:Int×Int} {i:Nat}:∀{k:Nat},k<=R.length->opn R k p=some i->i<k/\∃l,R[i]? =some l/\ends l=p/\p.1≠p.2
 |0,_,h=>by cases h
 |k+1,hk,h=>by
  obtain⟨l,hl⟩:∃l,R[k]? =some l:=⟨_,aaE (by omega)⟩;by_cases he:(ends l).1=(ends l).2
  .rw[IP hl he] at h
   obtain⟨h1,h2⟩:=kA (by omega) h;exact⟨by omega,h2⟩
  .rw[C3 hl he] at h
   unfold J7 at h
   split at h
   .rename_i e
    cases h;exact⟨by omega,l,hl,e.symm,by rw[e];exact he⟩
   .obtain⟨h1,h2⟩:=kA (by omega) h
    exact⟨by omega,h2⟩
theorem zz {R:List (List Int)} {p:Int×Int}:∀{k:Nat},k<=R.length->opn R k p=none->p.1≠p.2->∀i l,i<k->R[i]? =some l->ends l≠p
 |0,_,_,_,i,l,hi,_=>by omega
 |k+1,hk,h,hp,i,l',hi,hl'=>by
  obtain⟨l,hl⟩:∃l,R[k]? =some l:=⟨_,aaE (by omega)⟩;by_cases he:(ends l).1=(ends l).2
  .rw[IP hl he] at h
   by_cases hik:i=k
   .subst hik
    rw[hl] at hl';cases hl';intro e;rw[e] at he;exact hp he
   .exact zz (by omega) h hp i l' (by omega) hl'
  .rw[C3 hl he] at h
   unfold J7 at h
   split at h
   .cases h
   .rename_i hne
    by_cases hik:i=k
    .subst hik
     rw[hl] at hl';cases hl';exact fun e=>hne e.symm
    .exact zz (by omega) h hp i l' (by omega) hl'
def acz (R:List (List Int)) (cv:Value) (w:World) (e:Ending) (w':World):Prop:=∃b,e= .returned (.agg #[cv,.map (some b)])/\w.heap.size<=b/\OM w' b R.length (opn R R.length)/\Below w.heap.size w w'
end Ku
end
section
open Go.Proofs.Tryz
open Go.RowKit Go.Sort Go.Maps
namespace Ku
def Small (R:List (List Int)):Prop:=R.length<=4194304/\∀l∈R,2<=l.length/\l.length<=17592186044000/\∀x∈l,0<=x/\x<1048576
theorem OM.mono {w:World} {b n n':Nat} {f:Int×Int->Option Nat} (h:OM w b n f) (hn:n<=n'):OM w b n' f:=by
 obtain⟨D,h1,h2⟩:=h;exact⟨D,h1.mono hn,h2⟩
theorem Small.ends {R:List (List Int)} (h:Small R) {l:List Int} (hl:l∈R):dw (ends l):=by
 obtain⟨h1,_,h3⟩:=h.2 l hl;have key:∀i,i<l.length->0<=gI l i/\gI l i<1048576:=fun i hi=>by
  obtain⟨x,hx⟩:∃x,l[i]? =some x:=⟨_,aaE hi⟩;rw[bR hx];exact h3 x (aaJ hx)
 have a:=key 0 (by omega);have b:=key (l.length-1) (by omega);unfold dw Ku.ends;dsimp only;omega
end Ku
theorem Ip {fn:Func} {P:Program} {p:Tmp} (h:fn.results= #[.cell p 248]) (hP:P=prog) (tmps:Array Value) (w:World) (b:Nat) (x y:Value) (hp:tmps.getD p undef= .pointer (some ⟨b,0,none⟩)) (h0:w.cell? ⟨b,0,none⟩=some x) (h1:w.cell? ⟨b,1,none⟩=some y):(results fn tmps).run P w= .ok (.agg #[x,y]) w:=by
 subst hP;have hp':tmps[p]?.getD undef= .pointer (some ⟨b,0,none⟩):=by simpa using hp
 simp[results,h,go_sem,hp',h0,h1]
theorem CM {w:World} {b:Nat} {s t:Value} (hs:w.cell? ⟨b,0,none⟩=some s) (ht:w.cell? ⟨b,1,none⟩=some t) (x y:Value):((w.setCell ⟨b,0,none⟩ x).setCell ⟨b,1,none⟩ y).cell? ⟨b,0,none⟩=some x/\((w.setCell ⟨b,0,none⟩ x).setCell ⟨b,1,none⟩ y).cell? ⟨b,1,none⟩=some y:=by
 refine⟨?_,?_⟩<;>simp[go_sem,hs,ht]
theorem Ct (ca:Option Addr) (J cc:Nat) (R:List (List Int)) (w:World) (hJ:R.length=J) (hR:Ku.qV w (.slice ca J cc) R) (hS:Ku.Small R):
 Calls prog 146 #[.slice ca J cc] w (Ku.acz R (.slice ca J cc) w):=by
 obtain⟨W0,hW0⟩:∃W0,W0=w.alloc (.cells #[.slice none 0 0,.map none] 248):=⟨_,rfl⟩;obtain⟨W1,hW1⟩:∃W1,W1=W0.alloc (.map #[] 0):=⟨_,rfl⟩;obtain⟨W,hW⟩:∃W,W=W1.alloc (.cells #[.slice ca J cc,.map (some (w.heap.size+1))] 248):=⟨_,rfl⟩;have hs0:W0.heap.size=w.heap.size+1:=by rw[hW0];simp
 have hs1:W1.heap.size=w.heap.size+2:=by rw[hW1];simp[hs0]
 have hB0:Below w.heap.size w W0:=by rw[hW0];exact(aaG _ _).alloc (aaF _) _
 have hB1:Below W0.heap.size W0 W1:=by rw[hW1];exact(aaG _ _).alloc (aaF _) _
 have hB2:Below W1.heap.size W1 W:=by rw[hW];exact(aaG _ _).alloc (aaF _) _
 have hBW:Below w.heap.size w W:=(hB0.trans (hB1.mono hB0.size)).trans (hB2.mono (by omega));have g0:W.heap[w.heap.size]? =some (.cells #[.slice none 0 0,.map none] 248 (0,0)):=by
  rw[hB2.block _ (by omega),hB1.block _ (by omega),hW0];exact heap_alloc_new w _
 have g2:W.heap[w.heap.size+1+1]? =some (.cells #[.slice ca J cc,.map (some (w.heap.size+1))] 248 (0,0)):=by rw[hW,show w.heap.size+1+1=W1.heap.size by omega];exact heap_alloc_new W1 _
 have nw:Ku.OM W (w.heap.size+1) 0 (fun _=>none):=by
  have:Ku.OM W1 (w.heap.size+1) 0 (fun _=>none):=by rw[hW1,<-hs0];exact Ku.OM.new W0
  exact this.later hB2
 have Ys:w.heap.size+1+1<W.heap.size:=lt_of_block g2;have HW:Hid (W=((w.alloc (.cells #[.slice none 0 0,.map none] 248)).alloc (.map #[] 0)).alloc (.cells #[.slice ca J cc,.map (some (w.heap.size+1))] 248)):=by rw[hW,hW1,hW0];exact ζ rfl
 have ER:Hid (∀U:World,av (fun k=>k=w.heap.size+1) W U->Ku.qV U (.slice ca J cc) R):=fun U hU=>hR.later (hBW.trans (hU.below (by omega) (fun k hk=>by omega)))
 have HB:Hid (∀U:World,av (fun k=>k=w.heap.size+1) W U->Below w.heap.size w U):=fun U hU=>hBW.trans (hU.below (by omega) (fun k hk=>by omega))
 have jR:Hid (∀U:World,av (fun k=>k=w.heap.size+1) W U->U.heap[w.heap.size]? =some (.cells #[.slice none 0 0,.map none] 248 (0,0))):=fun U hU=>(hU.block _ (by omega) (by omega)).trans g0
 have cA:Hid (∀U:World,av (fun k=>k=w.heap.size+1) W U->U.heap[w.heap.size+1+1]? =some (.cells #[.slice ca J cc,.map (some (w.heap.size+1))] 248 (0,0))):=fun U hU=>(hU.block _ (by omega) (by omega)).trans g2
 have HOM:=ζ nw;have HJ:=ζ hJ;have Md:J<=4194304:=by rw[<-hJ];exact hS.1
 have HS:=ζ hS;have hmm:= @run_makeMap prog;clear hW hW1 hW0 hs0 hs1 hB0 hB1 hB2 hBW g0 g2 nw hR hJ hS;go_enter func146,ntmps146;go_wp2_with fail;rw[<-HW.out];clear hmm;go_loopw [12] (fun cv wr=>∃k:Nat,k<=J/\cv= .int .i64 (k:Int)/\Ku.OM wr (w.heap.size+1) k (Ku.opn R k)/\av (fun k=>k=w.heap.size+1) W wr) (fun cv _=>J-(intOf cv).toNat)
 case atStart=>exact⟨0,aaR _,rfl,HOM.out,av.refl _ _⟩
 case round=>
  obtain⟨k,hk,rfl,nw,hwr⟩:=hrel;obtain⟨U,rfl⟩:∃U,U=wr:=⟨wr,rfl⟩;have HO:=ζ nw;have lR:=ζ hwr;have hwk:IntKind.i64.wrap ((k:Int)+1)=(k:Int)+1:=by rw[aaK];omega
  by_cases hlt:k<J
  .have aP:(k:Int)<(J:Int):=by omega
   have hk0:(0:Int)<=(k:Int):=by omega
   obtain⟨l,hl⟩:∃l,R[k]? =some l:=⟨_,aaE (by rw[HJ.out];exact hlt)⟩;obtain⟨ca',cc',hce,hrd⟩:=ER.out U hwr;rw[HJ.out] at hce;cases hce;obtain⟨gb,go',x,rfl,cx,xa,xc,rfl,hat⟩:=hrd k l hl;obtain⟨q,hq⟩:∃q,l.length=q:=⟨_,rfl⟩;rw[hq] at cx;obtain⟨xZ,Yb,-⟩:=HS.out.2 l (aaJ hl);rw[hq] at xZ Yb;obtain⟨q1,hq1⟩:∃q1,q1=q-1:=⟨_,rfl⟩;obtain⟨x0,hx0⟩:∃x,l[0]? =some x:=⟨_,aaE (by omega)⟩;obtain⟨xn,qC⟩:∃x,l[q1]? =some x:=⟨_,aaE (by omega)⟩;obtain⟨b,o,rfl,e0⟩:=hat 0 x0 hx0;obtain⟨_,_,e,e1⟩:=hat q1 xn qC;cases e;rw[abG] at e0;have hw1:IntKind.i64.wrap ((q:Int)-1)=(q1:Int):=by rw[aaK];omega
   have i0:(0:Int)<(q:Int):=by omega
   have i2:(0:Int)<=(q1:Int):=by omega
   have i3:(q1:Int)<(q:Int):=by omega
   have DM:Ku.ends l=(x0,xn):=by
    unfold Ku.ends;rw[Ku.bR hx0,hq,<-hq1,Ku.bR qC]
   have hin:dw (x0,xn):=by rw[<-DM];exact HS.out.ends (aaJ hl)
   have F8:=ζ (keyOf_pair hin);unfold pH at F8;dsimp only at F8;obtain⟨c0,c1,-⟩:=af (cA.out U hwr);have We:Hid (x0≠xn->Ku.opn R (k+1)=Ku.J7 (Ku.opn R k) (x0,xn) k):=fun h=>by
    have:=Ku.C3 hl (by rw[DM];exact h);rw[DM] at this;exact this
   have cB:Hid (x0=xn->Ku.opn R (k+1)=Ku.opn R k):=fun h=>Ku.IP hl (by rw[DM];exact h)
   have o7:=ζ hin;clear nw hwr hl hrd hat hx0 qC hq hq1 DM hin;have hbU:b<U.heap.size:=block_lt_of_cell e0;have Yr:b≠U.heap.size:=by omega
   go_wp2_with fail;go_big_region;obtain⟨V,hV⟩:∃V,V=(U.alloc (.cells #[.int .i64 x0,.int .i64 xn] 57)).drew:=⟨_,rfl⟩;rw[<-hV];have DT:Below U.heap.size U V:=by rw[hV];exact((aaG _ _).alloc (aaF _) _).drew
   have gV:V.heap[U.heap.size]? =some (.cells #[.int .i64 x0,.int .i64 xn] 57 (0,0)):=by rw[hV];exact heap_alloc_new U _
   have Fy:=lR.out.later DT;have PC:=ζ Fy;have F5:=ζ (HO.out.later DT);clear c0 c1;obtain⟨c0,c1,-⟩:=af (cA.out V Fy);obtain⟨v0,v1,-⟩:=af gV;clear hV DT gV Fy e0 e1 cx hbU Yr;by_cases hx:x0=xn
   .have t1:(x0 != xn)=false:=by simp[hx]
    have HN:=ζ (cB.out hx);clear hx;go_wp2;go_roundw
    case rel=>exact⟨k+1,by omega,by go_num,by rw[HN.out];exact F5.out.mono (by omega),PC.out⟩
    case measure=>simp[intOf];omega
   .have t1:(x0 != xn)=true:=by simp[hx]
    have HN:=ζ (We.out hx);obtain⟨D,hD,hf⟩:=F5.out;have HD:=ζ hD;have HF:=ζ hf;clear hx hD hf;go_wp2_with (at_mapUpdate;refine wpList_mapUpdate_in _ rfl _ _ _ 246 rfl 57 3 Dp Tryz.underlying246 (plainElem prog 3) (w.heap.size+1) k D rfl HD.out (by unfold maxLen;omega) _ _ _ rfl rfl F8.out (.lit (.int .i64 (k:Int))) [] (plainElem_int Tryz.underlying3 (JY (by omega))) ?_;refine aaI ?_);refine ζ ?_;intro w3 qF Qr;have agx:Hid (Ku.OM w3 (w.heap.size+1) (k+1) (Ku.opn R (k+1))):=by
     rw[HN.out];exact Ku.OM.put HF.out HD.out.isMap o7.out k qF
    have hg3:=Qr.grown;have z8:Hid (av (fun k=>k=w.heap.size+1) W w3):=PC.out.trans ⟨hg3.os,hg3.tape,hg3.output,hg3.size,fun j hj hne=>hg3.block j hj (fun e=>hne (aa9 e))⟩;clear qF Qr hg3;go_wp2;go_roundw
    case rel=>exact⟨k+1,by omega,by go_num,agx.out,z8.out⟩
    case measure=>simp[intOf];omega
  .have hd:¬((k:Int)<(J:Int)):=by omega
   obtain rfl:k=J:=by omega
   obtain⟨c0,c1,-⟩:=af (cA.out U hwr);obtain⟨v0,v1,vf⟩:=af (jR.out U hwr);have hv0:=vf 0;have Dv:=vf 1;have hne:w.heap.size≠w.heap.size+1+1:=by omega
   clear nw hwr vf;have HF0:Hid (Ku.OM ((U.setCell ⟨w.heap.size,0,none⟩ (.slice ca k cc)).setCell ⟨w.heap.size,1,none⟩ (.map (some (w.heap.size+1)))) (w.heap.size+1) k (Ku.opn R k)):=HO.out.kept (by rw[heap_setCell_other _ ⟨w.heap.size,1,none⟩ _ _ (by simp),heap_setCell_other _ ⟨w.heap.size,0,none⟩ _ _ (by simp)]);have PS:Hid (Below w.heap.size w ((U.setCell ⟨w.heap.size,0,none⟩ (.slice ca k cc)).setCell ⟨w.heap.size,1,none⟩ (.map (some (w.heap.size+1))))):=((HB.out U lR.out).setCell (p:=⟨w.heap.size,0,none⟩) (aaF _) _).setCell (p:=⟨w.heap.size,1,none⟩) (aaF _) _;go_wp2;refine bodyPost_ret (Ip rfl rfl _ _ w.heap.size _ _ rfl (CM v0 v1 _ _).1 (CM v0 v1 _ _).2) rfl ?_;refine⟨w.heap.size+1,rfl,by omega,?_,PS.out⟩;rw[HJ.out];exact HF0.out
end
section
open Go.Proofs.Tryz
open Go.RowKit Go.Sort Go.Maps
namespace Ku
def fG (x:Int) (l:List Int):List Int:=if gI l 0=x then l else l.reverse
def key (p:Int×Int):Int×Int:=if p.2<p.1 then (p.2,p.1) else p
def idx (R:List (List Int)) (p:Int×Int):Option Nat:=opn R R.length (key p)
def pathOf (R:List (List Int)) (p:Int×Int):List Int:=fG p.1 (R.getD ((idx R p).getD 0) [])
theorem X3 {R:List (List Int)} {p:Int×Int} {i:Nat} (h:idx R p=some i):i<R.length:=(kA (aaF _) h).1
theorem I9 {R:List (List Int)} {p:Int×Int} {i:Nat} (h:idx R p=some i):∃l,R[i]? =some l/\ends l=key p/\(key p).1≠(key p).2:=(kA (aaF _) h).2
theorem N6 {R:List (List Int)} {p:Int×Int} {i:Nat} {l:List Int} (h:idx R p=some i) (hl:R[i]? =some l):pathOf R p=fG p.1 l:=by
 unfold pathOf;rw[h,aaL];show fG p.1 (R[i]?.getD [])=_;rw[hl];rfl
theorem Qq {R:List (List Int)} {p q:Int×Int} {i:Nat} (hp:idx R p=some i) (hq:idx R q=some i):key p=key q:=by
 obtain⟨l,h1,h2,_⟩:=I9 hp;obtain⟨l',h3,h4,_⟩:=I9 hq;rw[h1] at h3;cases h3;rw[<-h2,h4]
end Ku
theorem NC (B:Nat) (ao:Option Addr) (q c:Nat) (x:Int) (l:List Int) (w:World) (hq:l.length=q) (h:ak w B (.slice ao q c) l) (h2:1<=q) (hl:q<=17592186044000):
 Calls prog 263 #[.int .i64 x,.slice ao q c] w fun e w'=>e= .returned (.slice ao q c)/\ak w' B (.slice ao q c) (Ku.fG x l)/\w.grownBy w' (Value.slice ao q c).ownBlock:=by
 obtain⟨ao',c',e,hat,-⟩:=h.form;rw[hq] at e;cases e;obtain⟨x0,hx0⟩:∃x,l[0]? =some x:=⟨_,aaE (by omega)⟩;obtain⟨b,o,rfl,e0⟩:=hat 0 x0 hx0;rw[abG] at e0;have i0:(0:Int)<(q:Int):=by omega
 have G5:l≠[]:=fun e=>by rw[e] at hq;simp at hq;omega
 have YZ:=ζ (uY B _ l w h G5 (by omega));have bK:=ζ h;have HG:=Ku.bR hx0;by_cases hc:x0=x
 .have t1:(x0 != x)=false:=by simp[hc]
  have HF:Hid (Ku.fG x l=l):=by
   refine ζ ?_;unfold Ku.fG;rw[HG,if_pos hc]
  clear h hat hx0 G5 HG hc;go_enter func263,ntmps263;go_wp2;go_ret;exact⟨rfl,by rw[HF.out];exact bK.out,rfl,rfl,rfl,aaF _,fun _ _ _=>rfl⟩
 .have t1:(x0 != x)=true:=by simp[hc]
  have HF:Hid (Ku.fG x l=l.reverse):=by
   refine ζ ?_;unfold Ku.fG;rw[HG,if_neg hc]
  clear h hat hx0 G5 HG hc;go_enter func263,ntmps263;go_wp2_with (go_at_call 93;refine YZ.out.mono ?_;rintro e w3 ⟨rfl,ho,hgr⟩;refine aaI ?_);refine ζ ?_;have HO:=ζ ho;have jQ:=ζ hgr;clear ho hgr;go_wp2;go_ret;exact⟨rfl,by rw[HF.out];exact HO.out,jQ.out⟩
namespace Ku
structure EM (B:Nat) (cv:Value) (cs:List Value) (R:List (List Int)) (ps:List (Int×Int)) (W:World) (k:Nat) (pv:Value) (vs:List Value) (U:World):Prop where
 cur:∃C,ay U B cv cs C/\C.length=R.length/\∀i l,R[i]? =some l->(∀t p,t<k->ps[t]? =some p->idx R p≠some i)->C[i]? =some l
 pz:ay U B pv vs ((ps.take k).map (pathOf R))
 link:∀t x,vs[t]? =some x->∃p i,ps[t]? =some p/\t<k/\idx R p=some i/\cs[i]? =some x
 own:∀b,pv.ownBlock=some b->W.heap.size<=b
 wr:av (fun b=>cS cs b\/W.heap.size<=b) W U
section
variable {B:Nat} {cv:Value} {cs:List Value} {R:List (List Int)} {ps:List (Int×Int)} {W:World} {k:Nat} {pv:Value} {vs:List Value} {U:World}
theorem EM.later {V:World} (h:EM B cv cs R ps W k pv vs U) (hb:Below U.heap.size U V):EM B cv cs R ps W k pv vs V:=by
 obtain⟨C,hC,hl,hc⟩:=h.cur;exact⟨⟨C,hC.later hb,hl,hc⟩,h.pz.later hb,h.link,h.own,h.wr.later hb⟩
theorem EM.look (h:EM B cv cs R ps W k pv vs U) (hd:∀(t t':Nat) (p p':Int×Int),t≠t'->ps[t]? =some p->ps[t']? =some p'->key p≠key p') {p:Int×Int} {i:Nat} {l:List Int} (hp:ps[k]? =some p) (hi:idx R p=some i) (hl:R[i]? =some l):
 ∃x,cs[i]? =some x/\ak U B x l/\(∃g c,cv= .slice (some ⟨g,0,none⟩) R.length c/\U.cell? ⟨g,i,none⟩=some x)/\(∀b,x.ownBlock=some b->¬cS vs b):=by
 obtain⟨C,hC,VN,hc⟩:=h.cur;have hno:∀t q,t<k->ps[t]? =some q->idx R q≠some i:=fun t q ht hq e=>hd t k q p (by omega) hq hp (Qq e hi)
 have Yx:=hc i l hl hno;obtain⟨x,hx⟩:=hC.at' Yx;refine⟨x,hx,hC.row i x l hx Yx,?_,fun b hb hin=> ?_⟩
 .obtain⟨g,c,e,hcell⟩:=sB hC hx
  rw[VN] at e;exact⟨g,c,e,hcell⟩
 .obtain⟨t,y,hy,hyb⟩:=hin
  obtain⟨q,j,hq,ht,hj,Yq⟩:=h.link t y hy;have hij:i≠j:=fun e=>by
   subst e;exact hno t q ht hq hj
  exact hC.apart i j x y b hij hx Yq hb hyb
theorem EM.step {U2 X w4:World} {p:Int×Int} {i:Nat} {l:List Int} {x j9:Value} (h:EM B cv cs R ps W k pv vs U) (hW:∀b,(cv.ownBlock=some b\/cS cs b)->b<W.heap.size) (hd:∀(t t':Nat) (p p':Int×Int),t≠t'->ps[t]? =some p->ps[t']? =some p'->key p≠key p') (hp:ps[k]? =some p) (hi:idx R p=some i) (hl:R[i]? =some l) (hx:cs[i]? =some x) (vZ:∀b,x.ownBlock=some b->¬cS vs b)
 (hg:U.grownBy U2 x.ownBlock) (hO:ak U2 B x (fG p.1 l)) (hX:Below U2.heap.size U2 X):
 ay X B pv vs ((ps.take k).map (pathOf R))/\ak X B x (fG p.1 l)/\(∀b,x.ownBlock=some b->¬(pv.ownBlock=some b\/cS vs b))/\
 (ay w4 B j9 (vs++[x]) ((ps.take k).map (pathOf R)++[fG p.1 l])->X.grownBy w4 pv.ownBlock->(j9.ownBlock=pv.ownBlock\/j9.ownBlock=some X.heap.size)->EM B cv cs R ps W (k+1) j9 (vs++[x]) w4):=by
 obtain⟨C,hC,VN,hc⟩:=h.cur;have hxl:∀b,x.ownBlock=some b->b<W.heap.size:=fun b hb=>hW b (.inr ⟨i,x,hx,hb⟩)
 have hxp:∀b,x.ownBlock=some b->pv.ownBlock≠some b:=fun b hb e=>by
  have:=h.own b e;have:=hxl b hb;omega
 have hpz:ay X B pv vs ((ps.take k).map (pathOf R)):=(h.pz.kept fun b hb hlt=>hg.block b hlt (fun e=>by
  rcases hb with hb|hb
  .exact hxp b e.symm hb
  .exact vZ b e.symm hb)).later hX
 refine⟨hpz,hO.later hX,fun b hb rL=> ?_,fun FN hg4 hat=> ?_⟩
 .rcases rL with rL|rL
  .exact hxp b hb rL
  .exact vZ b hb rL
 .have OE:=hg.size
  have hsX:=hX.size;have hs4:=hg4.size;have hWU:=h.wr.size;have keep:∀b,b<U.heap.size->x.ownBlock≠some b->pv.ownBlock≠some b->w4.heap[b]? =U.heap[b]? :=fun b hb h1 h2=>by
   rw[hg4.block b (by omega) (fun e=>h2 e.symm),hX.block b (by omega),hg.block b hb (fun e=>h1 e.symm)]
  have hOw:ak w4 B x (fG p.1 l):=(hO.later hX).same fun b hb hlt=>hg4.block b hlt (fun e=>hxp b hb e.symm)
  have Yx:C[i]? =some l:=hc i l hl fun t q ht hq e=>hd t k q p (by omega) hq hp (Qq e hi)
  have afJ:=(aaH.1 Yx).1;refine⟨⟨C.set i (fG p.1 l),?_,by rw[acE];exact VN,?_⟩,?_,?_,?_,?_⟩
  .refine⟨by rw[acE];exact hC.len,?_,?_,hC.apart,hC.far⟩
   .rw[acE]
    exact cO hC.outer fun b hb _ hlt=>keep b hlt (fun e=>hC.far i x b hx e hb) (fun e=>by
     have a1:=h.own b e;have a2:=hW b (.inl hb);omega)
   .intro u y m hy hm
    by_cases hui:u=i
    .subst hui
     rw[hx] at hy;cases hy;rw[List.getElem?_set_self afJ] at hm;cases hm;exact hOw
    .rw[ada (acn hui)] at hm
     refine(hC.row u y m hy hm).same fun b hb hlt=>keep b hlt (fun e=>hC.apart u i y x b hui hy hx hb e) (fun e=> ?_)
     have a1:=h.own b e;have a2:=hW b (.inr ⟨u,y,hy,hb⟩);omega
  .intro j m hm hno
   have hij:j≠i:=fun e=>hno k p (by omega) hp (by rw[e];exact hi)
   rw[ada (acn hij)];exact hc j m hm fun t q ht hq=>hno t q (by omega) hq
  .have e:(ps.take (k+1)).map (pathOf R)=(ps.take k).map (pathOf R)++[fG p.1 l]:=by
    rw[acj,hp,abt];show _++[pathOf R p]=_;rw[N6 hi hl]
   rw[e];exact FN
  .intro t y hy
   have hvl:=h.pz.len;rw[aa3,abL] at hvl;have hkp:=(aaH.1 hp).1;by_cases ht:t<vs.length
   .rw[aa5 ht] at hy
    obtain⟨q,j,h1,h2,h3,h4⟩:=h.link t y hy;exact⟨q,j,h1,by omega,h3,h4⟩
   .have ht2:=(aaH.1 hy).1
    simp at ht2;have:t=k:=by omega
    subst this;rw[abk (by omega)] at hy;rw[show t-vs.length=0 by omega] at hy;cases hy;exact⟨p,i,hp,by omega,hi,hx⟩
  .intro b hb
   rcases hat with e|e
   .exact h.own b (e▸hb)
   .rw[e] at hb
    cases hb;omega
  .refine h.wr.trans ⟨?_,?_,?_,by omega,fun b hb hne=>keep b hb (fun e=>hne (.inl ⟨i,x,hx,e⟩)) (fun e=>hne (.inr (h.own b e)))⟩
   .rw[hg4.os,hX.os,hg.os]
   .rw[hg4.tape,hX.tape,hg.tape]
   .rw[hg4.output,hX.output,hg.output]
end
end Ku
end
end Go.Proofs.YtdbjpbjocmcpkaaGreatDoor
