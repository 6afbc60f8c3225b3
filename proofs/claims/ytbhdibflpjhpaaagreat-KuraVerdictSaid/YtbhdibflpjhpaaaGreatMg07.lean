import Derived.Test.YtbhdibflpjhpaaaGreatMg06
import Derived.Shelf.Lays
import Derived.Shelf.Slices.Reverse
import Derived.Ground.NamesProg
import Derived.Sort.OwnSortedInts
import Derived.ArgAppend
import Derived.Deep.DeepAppendRoom
set_option maxHeartbeats 8000000
set_option maxRecDepth 100000
namespace Go.Proofs.YtbhdibflpjhpaaaGreat
section
open Go.Proofs.Tryz
open Go.RowKit Go.Sort
namespace Ku
section
variable {es:List (Int×Int)} {n:Int}
def vt (es:List (Int×Int)) (b:Nat) (l:List Nat):List Int:=(Cs.fr es b:Int)::l.map fun x=>(Cs.to es x:Int)
theorem TJ (b:Nat) (l:List Nat) (x:Nat):vt es b (l++[x])=vt es b l++[(Cs.to es x:Int)]:=by simp[vt]
theorem Ym {hv:Si.Val n es} {b:Nat} {T:List Nat} (h:T[0]? =some b):vt es b T=ZL (vs (gs es hv) T):=by
 cases T with
 |nil=>simp at h
 |cons y T=>
  simp at h;subst h;show _=((Cs.fr es y:Nat):Int)::((y::T).map (gs es hv).to).map (fun x:Nat=>(x:Int));rw[List.map_map];unfold vt
  congr 1
  refine adE fun x _=> ?_
  show(Cs.to es x:Int)=(((gs es hv).to x:Nat):Int);rw[Eg]
end
def Yj (es:List (Int×Int)) {n:Int} (hv:Si.Val n es) (b g:Nat) (gf:Nat->Bool) (w:World) (e:Ending) (w':World):Prop:=
 ∃(v:Value) (rY:Nat->Bool),e= .returned v/\aH w' w.heap.size v (ZL (vs (gs es hv) (all (gs es hv).toSys b)))/\bN w' g es.length rY/\(∀i,rY i=true↔(gf i=true\/By (all (gs es hv).toSys b) i))/\az (fun k=>k=g) w w'
end Ku
theorem JG (p n:Nat) (es:List (Int×Int)) (g b0:Nat) (gf:Nat->Bool) (w0 w:World) (hA:bK w0 (.pointer (some ⟨p,0,none⟩)) n es) (hv:Si.Val (n:Int) es) (hw:Below w0.heap.size w0 w) (hg0:w0.heap.size<=g) (hg:bN w g es.length gf) (hb0:b0<2*es.length) (hfree:∀x∈Ku.all (Ku.gs es hv).toSys b0,gf (x/2)=false):
 Calls prog 28 #[.agg #[.pointer (some ⟨p,0,none⟩),.slice (some ⟨g,0,none⟩) es.length es.length],.int .i64 (b0:Int)] w (Ku.Yj es hv b0 g gf w):=by
 obtain⟨W,hW⟩:∃W,W=w.alloc (.cells #[.pointer (some ⟨p,0,none⟩),.slice (some ⟨g,0,none⟩) es.length es.length] 72):=⟨_,rfl⟩;have hB0:Below w.heap.size w W:=by rw[hW];exact(aae _ _).alloc (aad _) _
 have g1:W.heap[w.heap.size]? =some (.cells #[.pointer (some ⟨p,0,none⟩),.slice (some ⟨g,0,none⟩) es.length es.length] 72 (0,0)):=by rw[hW];exact heap_alloc_new w _
 obtain⟨c0,c1,-⟩:=aj g1;have dH:=hv.few;have hgw:=hg.lt;have DM:w.heap.size<W.heap.size:=lt_of_block g1;obtain⟨T,hT⟩:∃T,Ku.all (Ku.gs es hv).toSys b0=T:=⟨_,rfl⟩;have BO:b0<(Ku.gs es hv).toSys.M:=hb0;obtain⟨BA,hnd,Ln,-,-⟩:=Ku.dM BO;have O7:=ζ (Ku.all_zero BO);have EW:Hid (∀j x,T[j]? =some x->Ku.kA es x=none->j+1=T.length):=fun j x hx e=>by rw[<-hT] at hx ⊢;exact Ku.all_none BO hx e
 have afi:Hid (∀j x,T[j]? =some x->Ku.kA es x=some b0->j+1=T.length):=fun j x hx e=>by rw[<-hT] at hx ⊢;exact Ku.GP BO hx e
 have Ju:Hid (∀j x k,T[j]? =some x->Ku.kA es x=some k->k≠b0->T[j+1]? =some k):=fun j x k hx e hk=>by rw[<-hT] at hx ⊢;exact Ku.QW BO hx e hk
 have tA:Hid (∀j x,T[j]? =some x->x<2*es.length):=fun j x hx=>Ln x (by rw[hT];exact aah hx)
 have ae7:Hid (∀j x,T[j]? =some x->gf (x/2)=false):=fun j x hx=>hfree x (by rw[hT];exact aah hx)
 rw[hT] at BA hnd O7;have aeE:Hid (∀(j x:Nat),T[j]? =some x->¬Ku.By (T.take j) (x/2)):=fun j x hx ⟨y,hy,e⟩=>by
  obtain⟨i,hi,ei⟩:=acq.1 hy;rw[adJ] at hi;have hyi:T[i]? =some y:=by rw[<-ei,List.getElem_take];exact aac (by omega)
  exact Ku.Az BA hnd (fun a b e=>Ku.Gz a b e) (show i<j by omega) hyi hx e
 have bX:Hid (Ku.vt es b0 T=Ku.ZL (Ku.vs (Ku.gs es hv) T)):=Ku.Ym O7.out;have HTL:Hid (T.length<=8388608):=by
  have:=Ku.l8 (M:=2*es.length) hnd (fun x hx=>by
   obtain⟨i,hi,ei⟩:=acq.1 hx;exact tA.out i x (by rw[<-ei];exact aac hi))
  exact acA this (by omega)
 have cP:Hid (∀U:World,Below w0.heap.size w0 U->bK U (.pointer (some ⟨p,0,none⟩)) n es):=fun U hU=>hA.later hU
 have Js:Hid (∀U:World,az (fun k=>k=g) W U->Below w0.heap.size w0 U):=fun U hU=>(hw.trans (hB0.mono hw.size)).trans (hU.below (acA hw.size (by omega)) (fun k hk=>by subst hk;exact hg0))
 have GZ:Hid (∀U:World,az (fun k=>k=g) W U->U.heap[w.heap.size]? =some (.cells #[.pointer (some ⟨p,0,none⟩),.slice (some ⟨g,0,none⟩) es.length es.length] 72 (0,0))):=fun U hU=>(hU.block _ DM (by omega)).trans g1
 have lA:Hid (Calls prog 42 #[.pointer (some ⟨p,0,none⟩),.int .i64 (b0:Int)] W fun e w'=>e= .returned (.int .i64 (Cs.fr es b0:Int))/\w'=W):=by
  have:=j7 _ n es (b0:Int) W (hA.later (hw.trans (hB0.mono hw.size)));rw[Cs.jQ hb0] at this;exact this
 have pF:Hid (∀(x:Nat) (U:World),x<2*es.length->Below w0.heap.size w0 U->Calls prog 44 #[.pointer (some ⟨p,0,none⟩),.int .i64 (x:Int)] U fun e w'=>e= .returned (.int .i64 (Cs.to es x:Int))/\w'=U):=fun x U hx hU=>by
  have:=jO _ n es (x:Int) U (hA.later hU);rw[Cs.toI_in hx] at this;exact this
 have Z4:Hid (∀(h:Nat) (U:World),h<2*es.length->Below w0.heap.size w0 U->Calls prog 43 #[.agg #[.pointer (some ⟨p,0,none⟩),.slice (some ⟨g,0,none⟩) es.length es.length],.int .i64 (h:Int)] U (Ku.OnP es h U)):=fun h U hh hU=>JD p n es _ _ _ h U (hA.later hU) hv hh
 have Mt:=ζ (hg.later hB0);have fo:=ζ hB0;have HW:=ζ hW;have HT:=ζ hT;have HI0:Hid (af (W.alloc (.cells #[.int .i64 (Cs.fr es b0:Int)] 3)) W.heap.size [(Cs.fr es b0:Int)]):=heap_alloc_new W _;clear hA hB0 g1 hT BO Ln hw hg hfree BA hnd;rw[hW] at c0 c1;clear hW;go_enter func28,ntmps28;go_wp2_with (go_at_call 42;rw[<-HW.out];refine lA.out.mono ?_;rintro e w1 ⟨rfl,hw1⟩;obtain rfl:=hw1.symm;refine abQ ?_);refine ζ ?_;clear c0 c1;go_wp2
 go_loopg [1,5,6] (T.length+1) (fun d s1 s5 s6 wr=>∃(j h:Nat) (b:Bool) (rY:Nat->Bool),j<=T.length/\T.length-j<=d/\s1= .int .i64 (h:Int)/\s6= .bool b/\aH wr W.heap.size s5 (Ku.vt es b0 (T.take j))/\bN wr g es.length rY/\(∀i,rY i=true↔(gf i=true\/Ku.By (T.take j) i))/\az (fun k=>k=g) W wr/\((T[j]? =some h/\b=true)\/(j=T.length/\((b=false/\h=0)\/(b=true/\h=b0)))))
 case atStart=>
  refine⟨0,b0,true,gf,ab6 _,by omega,rfl,rfl,af.own HI0.out (aad _) rfl (by omega),Mt.out.later ((aae _ _).alloc (aad _) _),fun i=> ?_,(az.refl _ _).alloc _,.inl ⟨O7.out,rfl⟩⟩;constructor
  .exact fun h=> .inl h
  .rintro(h|⟨y,hy,_⟩)
   .exact h
   .simp at hy
 case round=>
  obtain⟨j,h,b,rY,hj,hd,rfl,rfl,hown,hgb,hiff,hwr,hc⟩:=hrel;obtain⟨U,rfl⟩:∃U,U=wr:=⟨wr,rfl⟩;have jm:=ζ hown;have HGB:=ζ hgb;have XX:=ζ hiff;have lD:=ζ hwr;have hlv:(Ku.vt es b0 (T.take j)).length=j+1:=by
   unfold Ku.vt;rw[abS,aco,adJ];omega
  obtain⟨oa,oc,qH,-,-⟩:=hown.form;rw[hlv] at qH;subst qH;have yC:=GZ.out U hwr;obtain⟨c0,c1,-⟩:=aj yC;have q7:Hid (j=T.length->∀v,aH U W.heap.size v (Ku.vt es b0 (T.take j))->Ku.Yj es hv b0 g gf w (.returned v) U):=fun hjl v ho=>by
   refine⟨v,rY,rfl,?_,HGB.out,?_,((az.refl _ w).later fo.out).trans lD.out⟩
   .have:=ho.lower (Nat.le_of_lt DM)
    rw[hjl,adI,bX.out] at this;rw[HT.out];exact this
   .have:=XX.out
    rw[hjl,adI] at this;rw[HT.out];exact this
  rcases hc with ⟨hx,rfl⟩|⟨hjl,⟨rfl,rfl⟩|⟨rfl,rfl⟩⟩
  .have hxl:=tA.out j h hx
   have hjT:=(aaf.1 hx).1;obtain⟨jh,mM⟩:∃jh,h/2=jh:=⟨_,rfl⟩;have agW:jh<es.length:=by omega
   have hno:rY jh=false:=by
    cases hb:rY jh with
    |false=>rfl
    |true=>
     rcases(hiff jh).1 hb with h1|h1
     .have:=ae7.out j h hx
      rw[mM,h1] at this;cases this
     .exact absurd (by rw[mM];exact h1) (aeE.out j h hx)
   have cg:=hgb.cell agW;rw[hno] at cg;have cf:=hgb.free jh;have i1:(h:Int).tdiv 2=(jh:Int):=by rw[acG (by omega)];omega
   have i2:(h:Int)/2=(jh:Int):=by omega
   have i3:IntKind.i64.wrap (jh:Int)=(jh:Int):=by rw[acf];omega
   have i4:(0:Int)<=(jh:Int):=by omega
   have i5:(jh:Int)<(es.length:Int):=by omega
   obtain⟨U1,SI⟩:∃U1,U1=U.setCell ⟨g,jh,none⟩ (.bool true):=⟨_,rfl⟩;have KO:az (fun k=>k=g) W U1:=by rw[SI];exact hwr.setCell rfl _
   have mY:Hid (bN U1 g es.length (Co.bM rY jh true)):=by rw[SI];exact hgb.set jh true
   have Ml:Hid (aH U1 W.heap.size (.slice oa (j+1) oc) (Ku.vt es b0 (T.take j))):=hown.same fun q hq _=>by
    rw[SI];refine heap_setCell_other U ⟨g,jh,none⟩ q _ ?_;have:=(acj hown q hq).1;show q≠g;have hgW:=Nat.lt_trans hgw DM;omega
   have aiX:=ζ (Js.out U1 KO);have aiC:=ζ (pF.out h U1 hxl aiX.out);obtain⟨e0,e1,-⟩:=aj (GZ.out U1 KO);have HX:=ζ hx;have HU1:=ζ SI;have Md:=ζ KO;have Gj:W.heap.size<=U1.heap.size:=KO.size;have ac9:(Ku.vt es b0 (T.take j)).length<=17592186044000:=by
    have:=HTL.out;rw[hlv];omega
   have kD:Hid (Ku.vt es b0 (T.take (j+1))=Ku.vt es b0 (T.take j)++[(Cs.to es h:Int)]):=by
    rw[Ku.CM hx,Ku.TJ];exact ζ rfl
   have aeY:Hid (∀i,Co.bM rY jh true i=true↔(gf i=true\/Ku.By (T.take (j+1)) i)):=fun i=>by
    rw[Ku.CM hx];unfold Co.bM;constructor
    .intro hi
     split at hi
     .rename_i hij
      exact .inr ⟨h,by simp,by omega⟩
     .rcases(XX.out i).1 hi with h1|⟨y,hy,Fe⟩
      .exact .inl h1
      .exact .inr ⟨y,aci _ hy,Fe⟩
    .intro hi
     split
     .rfl
     .rename_i hij
      refine(XX.out i).2 ?_;rcases hi with h1|⟨y,hy,Fe⟩
      .exact .inl h1
      .rcases aam.1 hy with hy|hy
       .exact .inr ⟨y,hy,Fe⟩
       .simp at hy
        subst hy;omega
   rw[SI] at e0 e1;clear hx hlv hown hgb hiff hwr yC mM hno SI KO;go_wp2_with (go_at_call 44;rw[<-HU1.out];refine aiC.out.mono ?_;rintro e w1 ⟨rfl,hw1⟩;obtain rfl:=hw1.symm;refine abQ ?_);refine ζ ?_;clear c0 c1 e0 e1 cg cf;go_wp2_with (at_builtin;refine kE rfl _ _ rfl _ W.heap.size _ _ (Cs.to es h:Int) Ml.out (by omega) ac9 rfl rfl ?_;refine abQ ?_);refine ζ ?_;intro v' w3 hrow3 _ _ hb3;have hrow4:aH w3 W.heap.size v' (Ku.vt es b0 (T.take (j+1))):=by rw[kD.out];exact hrow3
   have hw3:az (fun k=>k=g) W w3:=⟨hb3.os.trans Md.out.os,hb3.tape.trans Md.out.tape,hb3.output.trans Md.out.output,acA Md.out.size hb3.size,fun k hk hne=>(hb3.block k hk).trans (Md.out.block k hk hne)⟩;have Ms:Hid (bN w3 g es.length (Co.bM rY jh true)):=mY.out.same (hb3.block g (by omega));have Z8:=Js.out w3 hw3;have HOK:=ζ (Z4.out h w3 hxl Z8);obtain⟨e0,e1,-⟩:=aj (GZ.out w3 hw3);have Pd:=ζ hrow4;have qX:=ζ hw3;have hs3:=hw3.size;clear hrow3 hrow4 hw3 hb3 Z8;go_wp2_with (go_at_call 43;refine HOK.out.mono ?_;refine abQ ?_);refine ζ ?_;rintro e w4 ⟨k2,b2,rfl,hc2,hb4⟩;have FB:=ζ hc2;have iE:=ζ hb4;clear e0 e1 hc2 hb4;go_wp2
   go_roundg (T.length-(j+1))
   case measure=>omega
   case rel=>
    refine⟨j+1,k2,b2,Co.bM rY jh true,by omega,aad _,rfl,rfl,Pd.out.later iE.out,Ms.out.later iE.out,aeY.out,qX.out.later iE.out,?_⟩;rcases FB.out with ⟨rfl,hk⟩|⟨rfl,hk,rfl⟩
    .by_cases hkb:k2=b0
     .exact .inr ⟨afi.out j h HX.out (by rw[hk,hkb]),.inr ⟨rfl,hkb⟩⟩
     .exact .inl ⟨Ju.out j h k2 HX.out hk hkb,rfl⟩
    .exact .inr ⟨EW.out j h HX.out hk,.inl ⟨rfl,rfl⟩⟩
  .have HF:=ζ (q7.out hjl)
   clear hlv hown hgb hiff hwr yC hjl;go_wp2;go_ret;exact HF.out _ jm.out
  .have HF:=ζ (q7.out hjl)
   obtain⟨jh,mM⟩:∃jh,h/2=jh:=⟨_,rfl⟩;have hyes:rY jh=true:=(hiff jh).2 (.inr ⟨h,by rw[hjl,adI];exact aah O7.out,mM⟩);have cg:=hgb.cell (i:=jh) (by omega);rw[hyes] at cg;have i1:(h:Int).tdiv 2=(jh:Int):=by rw[acG (by omega)];omega
   have i2:(h:Int)/2=(jh:Int):=by omega
   have i3:IntKind.i64.wrap (jh:Int)=(jh:Int):=by rw[acf];omega
   have i4:(0:Int)<=(jh:Int):=by omega
   have i5:(jh:Int)<(es.length:Int):=by omega
   clear hlv hown hgb hiff hwr yC hjl;go_wp2;go_ret;exact HF.out _ jm.out
end
end Go.Proofs.YtbhdibflpjhpaaaGreat
/-
  Functions of the library, by their contracts, laid at this program.
-/
namespace Go.Proofs
open Go.Shelf
def Tryz.lays112_ren : Go.Shelf.Ren := ⟨fun | 112 => 41 | n => n, fun | 28 => 27 | 3 => 3 | 4 => 4 | 0 => 0 | n => n, fun | n => n⟩
theorem Tryz.lays112 : Go.Proofs.Lays.n112 Tryz.prog Tryz.lays112_ren := {
  mixed := by kernel_rfl
  f112 := Tryz.func41.trans (congrArg some (by kernel_rfl))
  t0 := Tryz.underlying0
  a0 := Tryz.isAgg0
  z0 := Tryz.sizeOf0
  v0 := Tryz.zeroValue0
  t3 := Tryz.underlying3
  a3 := Tryz.isAgg3
  z3 := Tryz.sizeOf3
  v3 := Tryz.zeroValue3
  t4 := Tryz.underlying4
  a4 := Tryz.isAgg4
  z4 := Tryz.sizeOf4
  v4 := Tryz.zeroValue4
  t28 := Tryz.underlying27
  a28 := Tryz.isAgg27
  z28 := Tryz.sizeOf27
  v28 := Tryz.zeroValue27 }
theorem Tryz.slices_Reverse_int (blk off cap : Nat) (zs : List Int) (w : World) (hH : Sort.Holds (Value.int .i64) w blk off zs.toArray) (hsz : zs.length ≤ 9223372036854775807) :
    Calls Tryz.prog 41 #[.slice (some ⟨blk, off, none⟩) zs.length cap] w fun e w' =>
      e = .returned (.tuple #[]) ∧ ∃ n, w' = Sort.putRow (Value.int .i64) (Sort.ahead w n) blk off zs.reverse.toArray := Any.slices_Reverse_int Tryz.lays112 blk off cap zs w hH hsz
end Go.Proofs
namespace Go.Proofs.YtbhdibflpjhpaaaGreat
section
open Go.Proofs.Tryz
open Go.RowKit Go.Sort
theorem OE (w:World):Sort.grow w #[]=w:=by
 cases w;simp[Sort.grow]
theorem wh (B:Nat) (v:Value) (R:List Int) (w:World) (h:aH w B v R) (h0:R≠[]) (hl:R.length<=17592186044000):
 Calls prog 41 #[v] w fun e w'=>e= .returned (.tuple #[])/\aH w' B v R.reverse/\w.grownBy w' v.ownBlock:=by
 have hml:R.reverse.length=R.length:=acD;rcases h.2 with ⟨rfl,h1⟩|⟨g,cap,cur,rfl,hg,hh,hc,hm,hs,ht⟩
 .exact absurd (ac0.1 h1) h0
 .rw[Nat.mul_one] at ht
  refine(Tryz.slices_Reverse_int g 0 cap R w (holds_of_blockI hh ht) (by omega)).mono ?_;rintro e w' ⟨rfl,n,rfl⟩;have a1:=ownsRow_sortedI (n:=n) (os:= #[]) hml hg hh hc hm hs;have a2:=grownBy_sortedI (w:=w) (g:=g) (n:=n) (os:= #[]) R.reverse.toArray;rw[OE] at a1 a2;refine⟨rfl,?_,a2⟩;unfold aH;rw[hml];exact a1
theorem E9 (B:Nat) (ao:Option Addr) (q c:Nat) (l:List Int) (w:World) (hq:l.length=q) (h:aH w B (.slice ao q c) l) (hB:B<=w.heap.size) (h2:2<=q) (hl:q<=17592186044000):
 Calls prog 27 #[.slice ao q c] w fun e w'=>e= .returned (.slice ao q c)/\aH w' B (.slice ao q c) (Ku.iG l)/\Below B w w':=by
 obtain⟨su,c',e,hat,-⟩:=h.form;rw[hq] at e;cases e;have jm:=ζ h;have Ph:Hid (∀b,(Value.slice ao q c).ownBlock=some b->B<=b):=fun b hb=>(acj h b hb).1
 obtain⟨q1,zW⟩:∃q1,q1=q-1:=⟨_,rfl⟩;obtain⟨q2,BC⟩:∃q2,q2=q-2:=⟨_,rfl⟩;obtain⟨x0,hx0⟩:∃x,l[0]? =some x:=⟨_,aac (by omega)⟩;obtain⟨x1,hx1⟩:∃x,l[1]? =some x:=⟨_,aac (by omega)⟩;obtain⟨xn,o7⟩:∃x,l[q1]? =some x:=⟨_,aac (by omega)⟩;obtain⟨xm,Bt⟩:∃x,l[q2]? =some x:=⟨_,aac (by omega)⟩;obtain⟨b,o,rfl,e0⟩:=hat 0 x0 hx0;obtain⟨_,_,e,e1⟩:=hat 1 x1 hx1;cases e;obtain⟨_,_,e,e2⟩:=hat q1 xn o7;cases e;obtain⟨_,_,e,e3⟩:=hat q2 xm Bt;cases e;rw[ado] at e0;have hw1:IntKind.i64.wrap ((q:Int)-1)=(q1:Int):=by rw[acf];omega
 have hw2:IntKind.i64.wrap ((q1:Int)-1)=(q2:Int):=by rw[acf];omega
 have i0:(0:Int)<(q:Int):=by omega
 have i1:(1:Int)<(q:Int):=by omega
 have i2:(0:Int)<=(q1:Int):=by omega
 have i3:(q1:Int)<(q:Int):=by omega
 have i4:(0:Int)<=(q2:Int):=by omega
 have i5:(q2:Int)<(q:Int):=by omega
 have q8:Hid (∀U:World,Below w.heap.size w U->(∀D:LW U,D.val.cell? ⟨b,o,none⟩=some (.int .i64 x0))/\(∀D:LW U,D.val.cell? ⟨b,o+1,none⟩=some (.int .i64 x1))/\(∀D:LW U,D.val.cell? ⟨b,o+q1,none⟩=some (.int .i64 xn))/\(∀D:LW U,D.val.cell? ⟨b,o+q2,none⟩=some (.int .i64 xm))):=fun U hU=>
  have key:∀(D:LW U) (i:Nat) (x:Value),w.cell? ⟨b,i,none⟩=some x->D.val.cell? ⟨b,i,none⟩=some x:=fun D i x hx=>((hU.trans (D.h.mono hU.size)).cell (p:=⟨b,i,none⟩) (block_lt_of_cell hx)).trans hx
  ⟨fun D=>key D _ _ e0,fun D=>key D _ _ e1,fun D=>key D _ _ e2,fun D=>key D _ _ e3⟩
 have Q6:Hid (Ku.iG l=if xn<x0\/(x0=xn/\xm<x1) then l.reverse else l):=by
  show _=_;unfold Ku.iG;rw[hq,<-zW,<-BC,Ku.eY hx0,Ku.eY hx1,Ku.eY o7,Ku.eY Bt]
 have Gm:l≠[]:=fun e=>by rw[e] at hq;simp at hq;omega
 have Pc:Hid (∀W,Below w.heap.size w W->Calls prog 41 #[.slice (some ⟨b,o,none⟩) q c] W fun e w'=>e= .returned (.tuple #[])/\aH w' B (.slice (some ⟨b,o,none⟩) q c) l.reverse/\W.grownBy w' (Value.slice (some ⟨b,o,none⟩) q c).ownBlock):=fun W hb=>wh B _ l W (jm.out.later hb) Gm (by omega)
 clear h hat hx0 hx1 o7 Bt zW BC e0 e1 e2 e3 Gm;obtain⟨cb,hcb⟩:∃cb,(x0==xn)=cb:=⟨_,rfl⟩;by_cases ha:xn<x0
 .have HR:Hid (Ku.iG l=l.reverse):=by show _=_;rw[Q6.out,if_pos (.inl ha)]
  have u1:decide (xn<x0)=true:=by simp only[decide_eq_true_eq];exact ha
  clear ha;go_enter func27,ntmps27;obtain⟨d0,d1,d2,d3⟩:=q8.out w (aae w.heap.size w);have hne:=LW.any w;go_wp2_with fail;refine aG (by kernel_rfl) (by kernel_rfl) ?_
  repeat (go_big_quiet_step (fail))
  refine wpQuiet_nil ?_;rintro _ ⟨E,rfl⟩;have aY:=ζ (((aae w.heap.size w)).trans (E.h.mono ((aae w.heap.size w)).size));obtain⟨W1,oA⟩:∃WE,WE=E.val:=⟨_,rfl⟩;rw[<-oA] at aY ⊢;clear d0 d1 d2 d3 hne oA;obtain⟨d0,d1,d2,d3⟩:=q8.out W1 aY.out;have hne:=LW.any W1;go_wp2_with fail;refine aG (by kernel_rfl) (by kernel_rfl) ?_
  repeat (go_big_quiet_step (fail))
  refine wpQuiet_nil ?_;rintro _ ⟨E,rfl⟩;have cj:=ζ ((aY.out).trans (E.h.mono (aY.out).size));obtain⟨W2,oA⟩:∃WE,WE=E.val:=⟨_,rfl⟩;rw[<-oA] at cj ⊢;clear d0 d1 d2 d3 hne oA;have HT:=ζ (Pc.out W2 cj.out);go_wp2_with (go_at_call 41;refine HT.out.mono ?_;rintro e w3 ⟨rfl,ho,hgr⟩;refine abQ ?_);refine ζ ?_;have HO:=ζ ho;have cz:=ζ ((cj.out.mono hB).grown hgr (acA hB cj.out.size) (fun k hk=>Ph.out k hk));clear ho hgr;go_wp2;go_ret;exact⟨rfl,by rw[HR.out];exact HO.out,cz.out⟩
 .have u1:decide (xn<x0)=false:=by simp only[decide_eq_false_iff_not];exact ha
  by_cases hb:x0=xn
  .have t1:cb=true:=by rw[<-hcb];simp[hb]
   subst t1;by_cases hc:xm<x1
   .have u2:decide (xm<x1)=true:=by simp only[decide_eq_true_eq];exact hc
    have HR:Hid (Ku.iG l=l.reverse):=by show _=_;rw[Q6.out,if_pos (.inr ⟨hb,hc⟩)]
    clear hb ha hc;go_enter func27,ntmps27;obtain⟨d0,d1,d2,d3⟩:=q8.out w (aae w.heap.size w);have hne:=LW.any w;go_wp2_with fail;refine aG (by kernel_rfl) (by kernel_rfl) ?_
    repeat (go_big_quiet_step (fail))
    refine wpQuiet_nil ?_;rintro _ ⟨E,rfl⟩;have aY:=ζ (((aae w.heap.size w)).trans (E.h.mono ((aae w.heap.size w)).size));obtain⟨W1,oA⟩:∃WE,WE=E.val:=⟨_,rfl⟩;rw[<-oA] at aY ⊢;clear d0 d1 d2 d3 hne oA;obtain⟨d0,d1,d2,d3⟩:=q8.out W1 aY.out;have hne:=LW.any W1;go_wp2_with fail;refine aG (by kernel_rfl) (by kernel_rfl) ?_
    repeat (go_big_quiet_step (fail))
    refine wpQuiet_nil ?_;rintro _ ⟨E,rfl⟩;have cj:=ζ ((aY.out).trans (E.h.mono (aY.out).size));obtain⟨W2,oA⟩:∃WE,WE=E.val:=⟨_,rfl⟩;rw[<-oA] at cj ⊢;clear d0 d1 d2 d3 hne oA;have HT:=ζ (Pc.out W2 cj.out);go_wp2_with (go_at_call 41;refine HT.out.mono ?_;rintro e w3 ⟨rfl,ho,hgr⟩;refine abQ ?_);refine ζ ?_;have HO:=ζ ho;have cz:=ζ ((cj.out.mono hB).grown hgr (acA hB cj.out.size) (fun k hk=>Ph.out k hk));clear ho hgr;go_wp2;go_ret;exact⟨rfl,by rw[HR.out];exact HO.out,cz.out⟩
   .have u2:decide (xm<x1)=false:=by simp only[decide_eq_false_iff_not];exact hc
    have HR:Hid (Ku.iG l=l):=by show _=_;rw[Q6.out,if_neg (by omega)]
    clear hb ha hc;go_enter func27,ntmps27;obtain⟨d0,d1,d2,d3⟩:=q8.out w (aae w.heap.size w);have hne:=LW.any w;go_wp2_with fail;refine aG (by kernel_rfl) (by kernel_rfl) ?_
    repeat (go_big_quiet_step (fail))
    refine wpQuiet_nil ?_;rintro _ ⟨E,rfl⟩;have aY:=ζ (((aae w.heap.size w)).trans (E.h.mono ((aae w.heap.size w)).size));obtain⟨W1,oA⟩:∃WE,WE=E.val:=⟨_,rfl⟩;rw[<-oA] at aY ⊢;clear d0 d1 d2 d3 hne oA;obtain⟨d0,d1,d2,d3⟩:=q8.out W1 aY.out;have hne:=LW.any W1;go_wp2_with fail;refine aG (by kernel_rfl) (by kernel_rfl) ?_
    repeat (go_big_quiet_step (fail))
    refine wpQuiet_nil ?_;rintro _ ⟨E,rfl⟩;have cj:=ζ ((aY.out).trans (E.h.mono (aY.out).size));obtain⟨W2,oA⟩:∃WE,WE=E.val:=⟨_,rfl⟩;rw[<-oA] at cj ⊢;clear d0 d1 d2 d3 hne oA;have HO:=ζ (jm.out.later cj.out);go_wp2;go_ret;exact⟨rfl,by rw[HR.out];exact HO.out,cj.out.mono hB⟩
  .have t1:cb=false:=by rw[<-hcb];simp[hb]
   subst t1;have HR:Hid (Ku.iG l=l):=by show _=_;rw[Q6.out,if_neg (by omega)]
   clear hb ha;go_enter func27,ntmps27;obtain⟨d0,d1,d2,d3⟩:=q8.out w (aae w.heap.size w);have hne:=LW.any w;go_wp2_with fail;refine aG (by kernel_rfl) (by kernel_rfl) ?_
   repeat (go_big_quiet_step (fail))
   refine wpQuiet_nil ?_;rintro _ ⟨E,rfl⟩;have aY:=ζ (((aae w.heap.size w)).trans (E.h.mono ((aae w.heap.size w)).size));obtain⟨W1,oA⟩:∃WE,WE=E.val:=⟨_,rfl⟩;rw[<-oA] at aY ⊢;clear d0 d1 d2 d3 hne oA;obtain⟨d0,d1,d2,d3⟩:=q8.out W1 aY.out;have hne:=LW.any W1;go_wp2_with fail;refine aG (by kernel_rfl) (by kernel_rfl) ?_
   repeat (go_big_quiet_step (fail))
   refine wpQuiet_nil ?_;rintro _ ⟨E,rfl⟩;have cj:=ζ ((aY.out).trans (E.h.mono (aY.out).size));obtain⟨W2,oA⟩:∃WE,WE=E.val:=⟨_,rfl⟩;rw[<-oA] at cj ⊢;clear d0 d1 d2 d3 hne oA;have HO:=ζ (jm.out.later cj.out);go_wp2;go_ret;exact⟨rfl,by rw[HR.out];exact HO.out,cj.out.mono hB⟩
end
section
open Go.RowKit
theorem Np {w:World} {B g p c:Nat} {xs:List Value} {z:Value} (h:w.ownsRow B 3 1 (.slice (some ⟨g,0,none⟩) (p+1) c) (p+1) (xs++[z])) (hx:xs.length=p):w.ownsRow B 3 1 (.slice (some ⟨g,0,none⟩) p c) p xs:=by
 rcases h.2 with ⟨h',_⟩|⟨g',cap,cur,e,hB,hh,hc,hm,hs,ht⟩
 .cases h'
 .cases e
  refine⟨by omega,.inr ⟨g,c,cur,rfl,hB,hh,by omega,hm,hs,?_⟩⟩;have e1:cur.toList.take (p*1)=(cur.toList.take ((p+1)*1)).take (p*1):=by rw[afQ];congr 1;omega
  rw[e1,ht,adQ (by omega),acL (by omega)]
section
variable {w w':World} {B:Nat} {v:Value} {vs:List Value} {ls:List (List Int)}
def eX (vs:List Value) (b:Nat):Prop:=∃(u:Nat) (x:Value),vs[u]? =some x/\x.ownBlock=some b
theorem aU.kept (h:aU w B v vs ls) (hb:∀b,(v.ownBlock=some b\/eX vs b)->b<w.heap.size->w'.heap[b]? =w.heap[b]?):aU w' B v vs ls:=
 ⟨h.len,lQ h.outer fun g hg _ hl=>hb g (.inl hg) hl,fun u x l hx hl=>(h.row u x l hx hl).same fun g hg hlt=>hb g (.inr ⟨u,x,hx,hg⟩) hlt,h.apart,h.far⟩
end
end
section
open Go.RowKit
section
variable {B:Nat} {v v':Value} {vs vs2:List Value} {ls vR:List (List Int)}
theorem aU.more {W w1:World} (h:aU W B v vs ls) (Ga:vs2.length=vR.length) (PK:∀(u:Nat) (x:Value) (l:List Int),vs2[u]? =some x->vR[u]? =some l->aH W B x l)
 (Jj:∀(u u':Nat) (x x':Value) (b:Nat),u≠u'->vs2[u]? =some x->vs2[u']? =some x'->x.ownBlock=some b->x'.ownBlock≠some b) (hx:∀b,eX vs2 b->¬(v.ownBlock=some b\/eX vs b))
 (hown:w1.ownsRow B 27 1 v' (ls.length+vR.length) (vs++vs2)) (hgrow:W.grownBy w1 v.ownBlock) (hat:v'.ownBlock=v.ownBlock\/v'.ownBlock=some W.heap.size):aU w1 B v' (vs++vs2) (ls++vR):=by
 have hsame:∀g,v.ownBlock≠some g->g<W.heap.size->w1.heap[g]? =W.heap[g]? :=fun g hne hg=>hgrow.block g hg (fun e=>hne e.symm)
 have hpart:∀u y,(vs++vs2)[u]? =some y->(u<vs.length/\vs[u]? =some y)\/(vs.length<=u/\vs2[u-vs.length]? =some y):=fun u y hy=>by
  by_cases hu:u<vs.length
  .rw[acF hu] at hy
   exact .inl ⟨hu,hy⟩
  .rw[acM (by omega)] at hy
   exact .inr ⟨by omega,hy⟩
 have Lj:∀{u:Nat} {x:Value},vs2[u]? =some x->∃l,vR[u]? =some l:=fun {u x} hx=>⟨_,aac (by rw[<-Ga];exact(aaf.1 hx).1)⟩
 refine⟨by simp[h.len,Ga],by rw[abZ];exact hown,fun u y k hy hk=> ?_,fun u u' y y' b hne hy hy' hb=> ?_,fun u y b hy hb=> ?_⟩
 .rcases hpart u y hy with ⟨hu,h1⟩|⟨hu,h1⟩
  .rw[acF (by rw[<-h.len];exact hu)] at hk
   exact(h.row u y k h1 hk).same fun g hg hl=>hsame g (h.far u y g h1 hg) hl
  .rw[acM (by rw[<-h.len];exact hu),<-h.len] at hk
   exact(PK _ y k h1 hk).same fun g hg hl=>hsame g (fun e=>hx g ⟨_,y,h1,hg⟩ (.inl e)) hl
 .rcases hpart u y hy with ⟨hu,h1⟩|⟨hu,h1⟩<;>rcases hpart u' y' hy' with ⟨hu',h2⟩|⟨hu',h2⟩
  .exact h.apart u u' y y' b hne h1 h2 hb
  .intro hc
   exact hx b ⟨_,y',h2,hc⟩ (.inr ⟨u,y,h1,hb⟩)
  .intro hc
   exact hx b ⟨_,y,h1,hb⟩ (.inr ⟨u',y',h2,hc⟩)
  .exact Jj _ _ y y' b (by omega) h1 h2 hb
 .intro hc
  rcases hat with e|e
  .rw[e] at hc
   rcases hpart u y hy with ⟨hu,h1⟩|⟨hu,h1⟩
   .exact h.far u y b h1 hb hc
   .exact hx b ⟨_,y,h1,hb⟩ (.inl hc)
  .have SB:=aal (e.symm.trans hc)
   rcases hpart u y hy with ⟨hu,h1⟩|⟨hu,h1⟩
   .obtain⟨k,hk⟩:=h.at h1
    have:=(acj (h.row u y k h1 hk) b hb).2;omega
   .obtain⟨k,hk⟩:=Lj h1
    have:=(acj (PK _ y k h1 hk) b hb).2;omega
theorem aU.within {W:World} (h:aU W B v vs ls) {b:Nat} (hb:v.ownBlock=some b\/eX vs b):B<=b/\b<W.heap.size:=by
 rcases hb with hb|⟨u,x,hx,hb⟩
 .exact acj h.outer b hb
 .obtain⟨l,hl⟩:=h.at hx
  exact acj (h.row u x l hx hl) b hb
end
theorem E6 {U:World} {o:Oper} {a:Act} {K:Act->World->Prop} {Q:Exit->Act->World->Prop} (s x:Operand) (ho:o.op= .call { callee:= .builtin .append,args:= #[s,x],argTypes:= #[28,28] })
 (B:Nat) (v:Value) (vs vs2:List Value) (ls vR:List (List Int)) (hR:aU U B v vs ls) (hB:B<=U.heap.size) (hs:a.eval s=v) (xo:Option Addr) (m c:Nat) (hm:vR.length=m) (hx:a.eval x= .slice xo m c) (o7:xo=none->c=0)
 (Ga:vs2.length=vR.length) (hnews:∀j u,vs2[j]? =some u->∃ad,xo=some ad/\U.cell? (ad.add j)=some u) (hone:∀u∈vs2,u.oneCell'=true)
 (PK:∀(u:Nat) (x:Value) (l:List Int),vs2[u]? =some x->vR[u]? =some l->aH U B x l)
 (Jj:∀(u u':Nat) (x x':Value) (b:Nat),u≠u'->vs2[u]? =some x->vs2[u']? =some x'->x.ownBlock=some b->x'.ownBlock≠some b) (D9:∀b,eX vs2 b->¬(v.ownBlock=some b\/eX vs b))
 (hl:(ls.length+m)*24<=140737488355328)
 (h:∀v' w',aU w' B v' (vs++vs2) (ls++vR)->U.grownBy w' v.ownBlock->(v'.ownBlock=v.ownBlock\/v'.ownBlock=some U.heap.size)->K (a.put o.dst v') w'):o.wp Tryz.prog a U K Q:=by
 obtain⟨i1,hi1,hy0,hy1,hy2⟩:=info_parts Tryz.KI;cases xo with
 |none=>
  have h0:vs2=[]:=by
   cases vs2 with
   |nil=>rfl
   |cons y vs2=>
    obtain⟨ad,e,_⟩:=hnews 0 y rfl;cases e
  subst h0;have h1:vR=[]:=ac0.1 (by rw[<-Ga];rfl);subst h1;subst hm;obtain rfl:=o7 rfl;have hr:=run_append_owned_none (P:=Tryz.prog) (w:=U) B 28 o.type 27 i1 1 Tryz.underlying28 hi1 v ls.length vs hR.outer;unfold Oper.wp execOp;simp only[ho,resolve,invoke,builtin,aeQ,aeR,ad7,aei,ac6,aeT,hs,hx];rw[acY,hr];refine h v U ?_ ⟨rfl,rfl,rfl,aad _,fun _ _ _=>rfl⟩ (.inl rfl);rw[acH,acH];exact hR
 |some ad=>
  obtain⟨v',w',hr,h2,h3,_,h5⟩:=run_append_own_at (P:=Tryz.prog) U B 28 o.type 27 i1 (.slice none 0 0) 1 24 Tryz.underlying28 hi1 hy0 hy1 hy2 rfl (by decide) v ls.length vs hR.outer ad m c vs2 (by rw[Ga,hm];omega) (fun j u hj=>by
   obtain⟨ad',e,hc⟩:=hnews j u hj;cases e;exact hc) hone (by unfold maxLen;omega) hl hB
  unfold Oper.wp execOp;simp only[ho,resolve,invoke,builtin,aeQ,aeR,ad7,aei,ac6,aeT,hs,hx,hr];refine h v' w' (hR.more Ga PK Jj D9 (by rw[hm];exact h2) h3 h5) h3 h5
end
end Go.Proofs.YtbhdibflpjhpaaaGreat
