import Derived.Test.YtdbjpbjocmcpkaaGreatDoorMk29
import Derived.Test.YtdbjpbjocmcpkaaGreatDoorMk13
set_option maxHeartbeats 8000000
set_option maxRecDepth 100000
namespace Go.Proofs.YtdbjpbjocmcpkaaGreatDoor
section
open Go.Proofs.Tryz
open Go.RowKit Go.Sort
namespace Ku
section
variable {es:List (Int×Int)} {n:Int}
def vt (es:List (Int×Int)) (b:Nat) (l:List Nat):List Int:=(Cs.fr es b:Int)::l.map fun x=>(Cs.to es x:Int)
theorem Lx (b:Nat) (l:List Nat) (x:Nat):vt es b (l++[x])=vt es b l++[(Cs.to es x:Int)]:=by simp[vt]
theorem OC {hv:Si.Val n es} {b:Nat} {T:List Nat} (h:T[0]? =some b):vt es b T=ZL (vs (gs es hv) T):=by
 cases T with
 |nil=>simp at h
 |cons y T=>
  simp at h;subst h;show _=((Cs.fr es y:Nat):Int)::((y::T).map (gs es hv).to).map (fun x:Nat=>(x:Int));rw[acI];unfold vt
  congr 1
  refine aby fun x _=> ?_
  show(Cs.to es x:Int)=(((gs es hv).to x:Nat):Int);rw[SD]
end
def OA (es:List (Int×Int)) {n:Int} (hv:Si.Val n es) (b g:Nat) (gf:Nat->Bool) (w:World) (e:Ending) (w':World):Prop:=
 ∃(v:Value) (lV:Nat->Bool),e= .returned v/\av w' w.heap.size v (ZL (vs (gs es hv) (all (gs es hv).toSys b)))/\aG w' g es.length lV/\(∀i,lV i=true↔(gf i=true\/By (all (gs es hv).toSys b) i))/\aj (fun k=>k=g) w w'
end Ku
theorem C2 (p n:Nat) (es:List (Int×Int)) (g b0:Nat) (gf:Nat->Bool) (w0 w:World) (hA:bQ w0 (.pointer (some ⟨p,0,none⟩)) n es) (hv:Si.Val (n:Int) es) (hw:Below w0.heap.size w0 w) (hg0:w0.heap.size<=g) (hg:aG w g es.length gf) (hb0:b0<2*es.length) (hfree:∀x∈Ku.all (Ku.gs es hv).toSys b0,gf (x/2)=false):
 Calls prog 211 #[.agg #[.pointer (some ⟨p,0,none⟩),.slice (some ⟨g,0,none⟩) es.length es.length],.int .i64 (b0:Int)] w (Ku.OA es hv b0 g gf w):=by
 obtain⟨W,hW⟩:∃W,W=w.alloc (.cells #[.pointer (some ⟨p,0,none⟩),.slice (some ⟨g,0,none⟩) es.length es.length] 317):=⟨_,rfl⟩;have hB0:Below w.heap.size w W:=by rw[hW];exact(aaE _ _).alloc (aaD _) _
 have g1:W.heap[w.heap.size]? =some (.cells #[.pointer (some ⟨p,0,none⟩),.slice (some ⟨g,0,none⟩) es.length es.length] 317 (0,0)):=by rw[hW];exact heap_alloc_new w _
 obtain⟨c0,c1,-⟩:=af g1;have dA:=hv.few;have Yr:=hg.lt;have GG:w.heap.size<W.heap.size:=lt_of_block g1;obtain⟨T,hT⟩:∃T,Ku.all (Ku.gs es hv).toSys b0=T:=⟨_,rfl⟩;have mI:b0<(Ku.gs es hv).toSys.M:=hb0;obtain⟨RG,hnd,EC,-,-⟩:=Ku.bL mI;have Ij:=ζ (Ku.all_zero mI);have yV:Hid (∀j x,T[j]? =some x->Ku.jG es x=none->j+1=T.length):=fun j x hx e=>by rw[<-hT] at hx ⊢;exact Ku.all_none mI hx e
 have TH:Hid (∀j x,T[j]? =some x->Ku.jG es x=some b0->j+1=T.length):=fun j x hx e=>by rw[<-hT] at hx ⊢;exact Ku.A8 mI hx e
 have tJ:Hid (∀j x k,T[j]? =some x->Ku.jG es x=some k->k≠b0->T[j+1]? =some k):=fun j x k hx e hk=>by rw[<-hT] at hx ⊢;exact Ku.Jv mI hx e hk
 have mK:Hid (∀j x,T[j]? =some x->x<2*es.length):=fun j x hx=>EC x (by rw[hT];exact aaG hx)
 have Tx:Hid (∀j x,T[j]? =some x->gf (x/2)=false):=fun j x hx=>hfree x (by rw[hT];exact aaG hx)
 rw[hT] at RG hnd Ij;have Ta:Hid (∀(j x:Nat),T[j]? =some x->¬Ku.By (T.take j) (x/2)):=fun j x hx ⟨y,hy,e⟩=>by
  obtain⟨i,hi,ei⟩:=aaT.1 hy;rw[abq] at hi;have X0:T[i]? =some y:=by rw[<-ei,List.getElem_take];exact aaC (by omega)
  exact Ku.C6 RG hnd (fun a b e=>Ku.KH a b e) (show i<j by omega) X0 hx e
 have jE:Hid (Ku.vt es b0 T=Ku.ZL (Ku.vs (Ku.gs es hv) T)):=Ku.OC Ij.out;have Y8:Hid (T.length<=8388608):=by
  have:=Ku.lW (M:=2*es.length) hnd (fun x hx=>by
   obtain⟨i,hi,ei⟩:=aaT.1 hx;exact mK.out i x (by rw[<-ei];exact aaC hi))
  exact aaM this (by omega)
 have Q8:Hid (∀U:World,Below w0.heap.size w0 U->bQ U (.pointer (some ⟨p,0,none⟩)) n es):=fun U hU=>hA.later hU
 have CM:Hid (∀U:World,aj (fun k=>k=g) W U->Below w0.heap.size w0 U):=fun U hU=>(hw.trans (hB0.mono hw.size)).trans (hU.below (aaM hw.size (by omega)) (fun k hk=>by subst hk;exact hg0))
 have Bd:Hid (∀U:World,aj (fun k=>k=g) W U->U.heap[w.heap.size]? =some (.cells #[.pointer (some ⟨p,0,none⟩),.slice (some ⟨g,0,none⟩) es.length es.length] 317 (0,0))):=fun U hU=>(hU.block _ GG (by omega)).trans g1
 have Ob:Hid (Calls prog 237 #[.pointer (some ⟨p,0,none⟩),.int .i64 (b0:Int)] W fun e w'=>e= .returned (.int .i64 (Cs.fr es b0:Int))/\w'=W):=by
  have:=AW _ n es (b0:Int) W (hA.later (hw.trans (hB0.mono hw.size)));rw[Cs.oA hb0] at this;exact this
 have NM:Hid (∀(x:Nat) (U:World),x<2*es.length->Below w0.heap.size w0 U->Calls prog 238 #[.pointer (some ⟨p,0,none⟩),.int .i64 (x:Int)] U fun e w'=>e= .returned (.int .i64 (Cs.to es x:Int))/\w'=U):=fun x U hx hU=>by
  have:=Bp _ n es (x:Int) U (hA.later hU);rw[Cs.toI_in hx] at this;exact this
 have PT:Hid (∀(h:Nat) (U:World),h<2*es.length->Below w0.heap.size w0 U->Calls prog 262 #[.agg #[.pointer (some ⟨p,0,none⟩),.slice (some ⟨g,0,none⟩) es.length es.length],.int .i64 (h:Int)] U (Ku.SX es h U)):=fun h U hh hU=>CY p n es _ _ _ h U (hA.later hU) hv hh
 have vB:=ζ (hg.later hB0);have aW:=ζ hB0;have HW:=ζ hW;have HT:=ζ hT;have Tp:Hid (aq (W.alloc (.cells #[.int .i64 (Cs.fr es b0:Int)] 3)) W.heap.size [(Cs.fr es b0:Int)]):=heap_alloc_new W _;clear hA hB0 g1 hT mI EC hw hg hfree RG hnd;rw[hW] at c0 c1;clear hW;go_enter func211,ntmps211;go_wp2_with (go_at_call 237;rw[<-HW.out];refine Ob.out.mono ?_;rintro e w1 ⟨rfl,hw1⟩;obtain rfl:=hw1.symm;refine aaH ?_);refine ζ ?_;clear c0 c1;go_wp2
 go_loopg [1,5,6] (T.length+1) (fun d s1 s5 s6 wr=>∃(j h:Nat) (b:Bool) (lV:Nat->Bool),j<=T.length/\T.length-j<=d/\s1= .int .i64 (h:Int)/\s6= .bool b/\av wr W.heap.size s5 (Ku.vt es b0 (T.take j))/\aG wr g es.length lV/\(∀i,lV i=true↔(gf i=true\/Ku.By (T.take j) i))/\aj (fun k=>k=g) W wr/\((T[j]? =some h/\b=true)\/(j=T.length/\((b=false/\h=0)\/(b=true/\h=b0)))))
 case atStart=>
  refine⟨0,b0,true,gf,aaL _,by omega,rfl,rfl,aq.own Tp.out (aaD _) rfl (by omega),vB.out.later ((aaE _ _).alloc (aaD _) _),fun i=> ?_,(aj.refl _ _).alloc _,.inl ⟨Ij.out,rfl⟩⟩;constructor
  .exact fun h=> .inl h
  .rintro(h|⟨y,hy,_⟩)
   .exact h
   .simp at hy
 case round=>
  obtain⟨j,h,b,lV,hj,hd,rfl,rfl,hown,hgb,hiff,hwr,hc⟩:=hrel;obtain⟨U,rfl⟩:∃U,U=wr:=⟨wr,rfl⟩;have fP:=ζ hown;have zY:=ζ hgb;have N9:=ζ hiff;have ke:=ζ hwr;have hlv:(Ku.vt es b0 (T.take j)).length=j+1:=by
   unfold Ku.vt;rw[abY,aaP,abq];omega
  obtain⟨oa,oc,je,-,-⟩:=hown.form;rw[hlv] at je;subst je;have dN:=Bd.out U hwr;obtain⟨c0,c1,-⟩:=af dN;have jD:Hid (j=T.length->∀v,av U W.heap.size v (Ku.vt es b0 (T.take j))->Ku.OA es hv b0 g gf w (.returned v) U):=fun hjl v ho=>by
   refine⟨v,lV,rfl,?_,zY.out,?_,((aj.refl _ w).later aW.out).trans ke.out⟩
   .have:=ho.lower (Nat.le_of_lt GG)
    rw[hjl,abn,jE.out] at this;rw[HT.out];exact this
   .have:=N9.out
    rw[hjl,abn] at this;rw[HT.out];exact this
  rcases hc with ⟨hx,rfl⟩|⟨hjl,⟨rfl,rfl⟩|⟨rfl,rfl⟩⟩
  .have hxl:=mK.out j h hx
   have hjT:=(aaF.1 hx).1;obtain⟨jh,zJ⟩:∃jh,h/2=jh:=⟨_,rfl⟩;have U8:jh<es.length:=by omega
   have hno:lV jh=false:=by
    cases hb:lV jh with
    |false=>rfl
    |true=>
     rcases(hiff jh).1 hb with h1|h1
     .have:=Tx.out j h hx
      rw[zJ,h1] at this;cases this
     .exact absurd (by rw[zJ];exact h1) (Ta.out j h hx)
   have cg:=hgb.cell U8;rw[hno] at cg;have cf:=hgb.free jh;have i1:(h:Int).tdiv 2=(jh:Int):=by rw[abj (by omega)];omega
   have i2:(h:Int)/2=(jh:Int):=by omega
   have i3:IntKind.i64.wrap (jh:Int)=(jh:Int):=by rw[aaK];omega
   have i4:(0:Int)<=(jh:Int):=by omega
   have i5:(jh:Int)<(es.length:Int):=by omega
   obtain⟨U1,vp⟩:∃U1,U1=U.setCell ⟨g,jh,none⟩ (.bool true):=⟨_,rfl⟩;have D9:aj (fun k=>k=g) W U1:=by rw[vp];exact hwr.setCell rfl _
   have gu:Hid (aG U1 g es.length (Co.bB lV jh true)):=by rw[vp];exact hgb.set jh true
   have NX:Hid (av U1 W.heap.size (.slice oa (j+1) oc) (Ku.vt es b0 (T.take j))):=hown.same fun q hq _=>by
    rw[vp];refine heap_setCell_other U ⟨g,jh,none⟩ q _ ?_;have:=(aaJ hown q hq).1;show q≠g;have hgW:=Nat.lt_trans Yr GG;omega
   have WS:=ζ (CM.out U1 D9);have Wi:=ζ (NM.out h U1 hxl WS.out);obtain⟨e0,e1,-⟩:=af (Bd.out U1 D9);have HX:=ζ hx;have S0:=ζ vp;have Fw:=ζ D9;have hsz2:W.heap.size<=U1.heap.size:=D9.size;have RX:(Ku.vt es b0 (T.take j)).length<=17592186044000:=by
    have:=Y8.out;rw[hlv];omega
   have lp:Hid (Ku.vt es b0 (T.take (j+1))=Ku.vt es b0 (T.take j)++[(Cs.to es h:Int)]):=by
    rw[Ku.wm hx,Ku.Lx];exact ζ rfl
   have Tm:Hid (∀i,Co.bB lV jh true i=true↔(gf i=true\/Ku.By (T.take (j+1)) i)):=fun i=>by
    rw[Ku.wm hx];unfold Co.bB;constructor
    .intro hi
     split at hi
     .rename_i hij
      exact .inr ⟨h,by simp,by omega⟩
     .rcases(N9.out i).1 hi with h1|⟨y,hy,D8⟩
      .exact .inl h1
      .exact .inr ⟨y,ab5 _ hy,D8⟩
    .intro hi
     split
     .rfl
     .rename_i hij
      refine(N9.out i).2 ?_;rcases hi with h1|⟨y,hy,D8⟩
      .exact .inl h1
      .rcases abl.1 hy with hy|hy
       .exact .inr ⟨y,hy,D8⟩
       .simp at hy
        subst hy;omega
   rw[vp] at e0 e1;clear hx hlv hown hgb hiff hwr dN zJ hno vp D9;go_wp2_with (go_at_call 238;rw[<-S0.out];refine Wi.out.mono ?_;rintro e w1 ⟨rfl,hw1⟩;obtain rfl:=hw1.symm;refine aaH ?_);refine ζ ?_;clear c0 c1 e0 e1 cg cf;go_wp2_with (at_builtin;refine eG rfl _ _ rfl _ W.heap.size _ _ (Cs.to es h:Int) NX.out (by omega) RX rfl rfl ?_;refine aaH ?_);refine ζ ?_;intro v' w3 hrow3 _ _ hb3;have hrow4:av w3 W.heap.size v' (Ku.vt es b0 (T.take (j+1))):=by rw[lp.out];exact hrow3
   have hw3:aj (fun k=>k=g) W w3:=⟨hb3.os.trans Fw.out.os,hb3.tape.trans Fw.out.tape,hb3.output.trans Fw.out.output,aaM Fw.out.size hb3.size,fun k hk hne=>(hb3.block k hk).trans (Fw.out.block k hk hne)⟩;have kj:Hid (aG w3 g es.length (Co.bB lV jh true)):=gu.out.same (hb3.block g (by omega));have zV:=CM.out w3 hw3;have iw:=ζ (PT.out h w3 hxl zV);obtain⟨e0,e1,-⟩:=af (Bd.out w3 hw3);have CH:=ζ hrow4;have qx:=ζ hw3;have hs3:=hw3.size;clear hrow3 hrow4 hw3 hb3 zV;go_wp2_with (go_at_call 262;refine iw.out.mono ?_;refine aaH ?_);refine ζ ?_;rintro e w4 ⟨k2,b2,rfl,hc2,hb4⟩;have TF:=ζ hc2;have eZ:=ζ hb4;clear e0 e1 hc2 hb4;go_wp2
   go_roundg (T.length-(j+1))
   case measure=>omega
   case rel=>
    refine⟨j+1,k2,b2,Co.bB lV jh true,by omega,aaD _,rfl,rfl,CH.out.later eZ.out,kj.out.later eZ.out,Tm.out,qx.out.later eZ.out,?_⟩;rcases TF.out with ⟨rfl,hk⟩|⟨rfl,hk,rfl⟩
    .by_cases hkb:k2=b0
     .exact .inr ⟨TH.out j h HX.out (by rw[hk,hkb]),.inr ⟨rfl,hkb⟩⟩
     .exact .inl ⟨tJ.out j h k2 HX.out hk hkb,rfl⟩
    .exact .inr ⟨yV.out j h HX.out hk,.inl ⟨rfl,rfl⟩⟩
  .have HF:=ζ (jD.out hjl)
   clear hlv hown hgb hiff hwr dN hjl;go_wp2;go_ret;exact HF.out _ fP.out
  .have HF:=ζ (jD.out hjl)
   obtain⟨jh,zJ⟩:∃jh,h/2=jh:=⟨_,rfl⟩;have hyes:lV jh=true:=(hiff jh).2 (.inr ⟨h,by rw[hjl,abn];exact aaG Ij.out,zJ⟩);have cg:=hgb.cell (i:=jh) (by omega);rw[hyes] at cg;have i1:(h:Int).tdiv 2=(jh:Int):=by rw[abj (by omega)];omega
   have i2:(h:Int)/2=(jh:Int):=by omega
   have i3:IntKind.i64.wrap (jh:Int)=(jh:Int):=by rw[aaK];omega
   have i4:(0:Int)<=(jh:Int):=by omega
   have i5:(jh:Int)<(es.length:Int):=by omega
   clear hlv hown hgb hiff hwr dN hjl;go_wp2;go_ret;exact HF.out _ fP.out
end
section
open Go.Proofs.Tryz
open Go.RowKit Go.Sort
theorem qC {U:World} {o:Oper} {a:Act} {K:Act->World->Prop} {Q:Exit->Act->World->Prop} (s x:Operand) (ho:o.op= .call { callee:= .builtin .append,args:= #[s,x],argTypes:= #[25,25] })
 (B:Nat) (v:Value) (vs:List Value) (ls:List (List Int)) (xa:Option Addr) (xn xc:Nat) (l:List Int) (hR:ay U B v vs ls) (hB:B<=U.heap.size) (hs:a.eval s=v) (c:Nat) (hx:a.eval x= .slice (some ⟨c,0,none⟩) 1 1) (hc:U.cell? ⟨c,0,none⟩=some (.slice xa xn xc))
 (hO:av U B (.slice xa xn xc) l) (nk:∀b,(Value.slice xa xn xc).ownBlock=some b->¬(v.ownBlock=some b\/bY vs b)) (hl:ls.length<=4194304)
 (h:∀v' w',ay w' B v' (vs++[.slice xa xn xc]) (ls++[l])->U.grownBy w' v.ownBlock->(v'.ownBlock=v.ownBlock\/v'.ownBlock=some U.heap.size)->K (a.put o.dst v') w'):o.wp prog a U K Q:=by
 refine zm s x ho B v vs [.slice xa xn xc] ls [l] hR hB hs (some ⟨c,0,none⟩) 1 1 rfl hx (fun e=>by cases e) rfl (fun j u hj=> ?_) (fun u hu=> ?_) (fun u y k hy hk=> ?_) (fun u u' y y' b hne hy hy'=> ?_) (fun b hb'=> ?_) (by omega) h
 .obtain rfl:j=0:=by
   have:=(aaF.1 hj).1;simp at this;exact this
  cases hj;exact⟨_,rfl,hc⟩
 .cases aa6.1 hu
  rfl
 .obtain rfl:u=0:=by
   have:=(aaF.1 hy).1;simp at this;exact this
  cases hy;cases hk;exact hO
 .have h1:=(aaF.1 hy).1
  have h2:=(aaF.1 hy').1;simp at h1 h2;omega
 .obtain⟨u,y,hy,hyb⟩:=hb'
  obtain rfl:u=0:=by
   have:=(aaF.1 hy).1;simp at this;exact this
  cases hy;exact nk b hyb
namespace Ku
structure rU (es:List (Int×Int)) {n:Int} (hv:Si.Val n es) (g:Nat) (W:World) (i:Nat) (v:Value) (us:List Value) (gf:Nat->Bool) (U:World):Prop where
 rws:ay U W.heap.size v us (rows es hv i)
 gone:aG U g es.length gf
 iff:∀e,gf e=true↔∃l∈fO es hv i,By l e
 wrote:aj (fun k=>k=g\/W.heap.size<=k) W U
def JH (es:List (Int×Int)) {n:Int} (hv:Si.Val n es) (w:World) (e:Ending) (w':World):Prop:=∃v us,e= .returned v/\ay w' w.heap.size v us (rows es hv es.length)/\Below w.heap.size w w'
theorem Nv {es:List (Int×Int)} {n:Int} {hv:Si.Val n es} {k:Nat} (h:First es hv k):fO es hv (k+1)=fO es hv k++[ch es hv k]:=by
 simp only[fO];rw[if_pos h]
theorem PB {es:List (Int×Int)} {n:Int} {hv:Si.Val n es} {k:Nat} (h:¬First es hv k):fO es hv (k+1)=fO es hv k:=by
 simp only[fO];rw[if_neg h]
section
variable {es:List (Int×Int)} {n:Int} {hv:Si.Val n es} {g i:Nat} {W U:World} {v:Value} {us:List Value} {gf:Nat->Bool}
theorem rU.first (h:rU es hv g W i v us gf U) (hi:i<es.length):gf i=true↔¬First es hv i:=(h.iff i).trans (JU hi)
theorem rU.skip (h:rU es hv g W i v us gf U) (hf:¬First es hv i):rU es hv g W (i+1) v us gf U:=⟨by rw[LK hf];exact h.rws,h.gone,by rw[PB hf];exact h.iff,h.wrote⟩
theorem Bg {W X w4:World} {g:Nat} {r:Option Nat} (hg:X.grownBy w4 r) (hX:aj (fun k=>k=g\/W.heap.size<=k) W X) (hr:∀k,r=some k->W.heap.size<=k):aj (fun k=>k=g\/W.heap.size<=k) W w4:=
 ⟨hg.os.trans hX.os,hg.tape.trans hX.tape,hg.output.trans hX.output,aaM hX.size hg.size,fun k hk hne=>(hg.block k (aa0 hk hX.size) (fun e=>hne (.inr (hr k e.symm)))).trans (hX.block k hk hne)⟩
theorem rU.mid {U1 U2 U3 V:World} {b:Nat} {lV:Nat->Bool} {x:Value} (h:rU es hv g W i v us gf U) (hg:g<W.heap.size) (hf:First es hv i) (hV:Below U.heap.size U V) (h1:Below V.heap.size V U1) (hb:nS es hv i b) (h2:aj (fun k=>k=g) U1 U2) (hgo:aG U2 g es.length lV) (hiff:∀e,lV e=true↔(gf e=true\/By (all (gs es hv).toSys b) e)) (h3:Below U1.heap.size U2 U3) (hO:av U3 U1.heap.size x (dJ (ZL (vs (gs es hv) (all (gs es hv).toSys b))))):
 ay U3 W.heap.size v us (rows es hv i)/\av U3 W.heap.size x (ZL (vs (gs es hv) (ch es hv i)))/\(∀b,x.ownBlock=some b->¬(v.ownBlock=some b\/bY us b))/\aG U3 g es.length lV/\(∀e,lV e=true↔∃l∈fO es hv (i+1),By l e)/\aj (fun k=>k=g\/W.heap.size<=k) W U3/\W.heap.size<=U3.heap.size:=by
 obtain⟨b1,b2,b3⟩:=hb;obtain⟨e1,e2⟩:=A7 hf b1 b2 b3;have s0:=h.wrote.size;have sV:=hV.size;have s1:=h1.size;have s2:=h2.size;have s3:=h3.size;have keep:∀k,k≠g->k<U.heap.size->U3.heap[k]? =U.heap[k]? :=fun k hk hl=>by
  rw[h3.block k (by omega),h2.block k (by omega) hk,h1.block k (by omega),hV.block k hl]
 refine⟨h.rws.kept fun k hk hl=>keep k (by have:=(h.rws.within hk).1;omega) hl,?_,fun k hk hc=> ?_,hgo.same (h3.block g (by omega)),fun e=> ?_,?_,by omega⟩
 .rw[CV,<-e1] at hO
  exact hO.lower (by omega)
 .have a1:=(h.rws.within hc).2
  have a2:=(aaJ hO k hk).1;omega
 .rw[hiff e,h.iff e,Nv hf,<-e2 e]
  constructor
  .rintro(⟨l,hl,hb⟩|hb)
   .exact⟨l,ab5 _ hl,hb⟩
   .exact⟨_,List.mem_append_right _ (aa6.2 rfl),hb⟩
  .rintro⟨l,hl,hb⟩
   rcases abl.1 hl with hl|hl
   .exact .inl ⟨l,hl,hb⟩
   .cases aa6.1 hl
    exact .inr hb
 .refine h.wrote.trans ⟨?_,?_,?_,by omega,fun k hk hne=>keep k (fun e=>hne (.inl e)) hk⟩
  .rw[h3.os,h2.os,h1.os,hV.os]
  .rw[h3.tape,h2.tape,h1.tape,hV.tape]
  .rw[h3.output,h2.output,h1.output,hV.output]
end
end Ku
theorem Bl (p n:Nat) (es:List (Int×Int)) (w:World) (hA:bQ w (.pointer (some ⟨p,0,none⟩)) n es) (hv:Si.Val (n:Int) es):
 Calls prog 147 #[.pointer (some ⟨p,0,none⟩)] w (Ku.JH es hv w):=by
 have HM:Hid (∀U:World,Below w.heap.size w U->Calls prog 177 #[.pointer (some ⟨p,0,none⟩)] U fun e w'=>e= .returned (.int .i64 (es.length:Int))/\w'=U):=fun U hU=>Jy _ n es U (hA.later hU)
 have HA:=ζ hA;have dA:=hv.few;obtain⟨i0,xO,hz0,hz1,hz2⟩:=info_parts Tryz.sM;have i1:(0:Int)<=(es.length:Int):=by omega
 have i2:(es.length:Int)<=140737488355328:=by omega
 have Zt:=ζ (HM.out w (aaE _ _));have hmk:∀W,(Instr.makeSlice 237 (.int .i64 (es.length:Int)) (.int .i64 (es.length:Int))).run prog W= .ok (.slice (some ⟨W.heap.size,0,none⟩) es.length es.length) (W.alloc (.cells (madeCells #[.bool false] es.length) 4)):=fun W=>by
  have:=run_make (P:=prog) W 237 4 i0 (.bool false) Tryz.underlying237 xO hz0 .i64 .i64 (es.length:Int) (es.length:Int) (by omega) (aci _) (by rw[hz2];omega) (by omega);rw[this,hz1];simp[Value.cells]
 obtain⟨W1,hW1⟩:∃W1,W1=w.alloc (.cells (madeCells #[.bool false] es.length) 4):=⟨_,rfl⟩;obtain⟨W,hW⟩:∃W,W=W1.alloc (.cells #[.pointer (some ⟨p,0,none⟩),.slice (some ⟨w.heap.size,0,none⟩) es.length es.length] 317):=⟨_,rfl⟩;have hsz:W1.heap.size=w.heap.size+1:=by rw[hW1];simp
 have hB1:Below w.heap.size w W1:=by rw[hW1];exact(aaE _ _).alloc (aaD _) _
 have hB2:Below W1.heap.size W1 W:=by rw[hW];exact(aaE _ _).alloc (aaD _) _
 have hB0:Below w.heap.size w W:=hB1.trans (hB2.mono hB1.size);have g1:W.heap[w.heap.size+1]? =some (.cells #[.pointer (some ⟨p,0,none⟩),.slice (some ⟨w.heap.size,0,none⟩) es.length es.length] 317 (0,0)):=by rw[hW,<-hsz];exact heap_alloc_new W1 _
 have vB:Hid (aG W w.heap.size es.length (fun _=>false)):=by
  have:aG W1 w.heap.size es.length (fun _=>false):=by rw[hW1];exact mU rfl _
  exact this.later hB2
 have GG:w.heap.size+1<W.heap.size:=lt_of_block g1;have HW:Hid (W=(w.alloc (.cells (madeCells #[.bool false] es.length) 4)).alloc (.cells #[.pointer (some ⟨p,0,none⟩),.slice (some ⟨w.heap.size,0,none⟩) es.length es.length] 317)):=by rw[hW,hW1];exact ζ rfl
 have Zr:=ζ (HM.out W hB0);have aW:=ζ hB0;have CM:Hid (∀U:World,aj (fun k=>k=w.heap.size\/W.heap.size<=k) W U->Below w.heap.size w U):=fun U hU=>hB0.trans (hU.below (by omega) (fun k hk=>by omega))
 have Bd:Hid (∀U:World,aj (fun k=>k=w.heap.size\/W.heap.size<=k) W U->U.heap[w.heap.size+1]? =some (.cells #[.pointer (some ⟨p,0,none⟩),.slice (some ⟨w.heap.size,0,none⟩) es.length es.length] 317 (0,0))):=fun U hU=>(hU.block _ GG (by omega)).trans g1
 clear hA hW1 hW hsz hB1 hB2 hB0 g1;go_enter func147,ntmps147;go_wp2_with (go_at_call 177;refine Zt.out.mono ?_;rintro e w1 ⟨rfl,hw1⟩;obtain rfl:=hw1.symm;refine aaH ?_);refine ζ ?_;go_wp2_with (go_at_call 177;rw[<-HW.out];refine Zr.out.mono ?_;rintro e w1 ⟨rfl,hw1⟩;obtain rfl:=hw1.symm;refine aaH ?_);refine ζ ?_;clear hmk;go_wp2;go_loopw [4,13] (fun v cv wr=>∃(i:Nat) (us:List Value) (gf:Nat->Bool),i<=es.length/\cv= .int .i64 (i:Int)/\Ku.rU es hv w.heap.size W i v us gf wr) (fun _ cv _=>es.length-(intOf cv).toNat)
 case atStart=>exact⟨0,[],fun _=>false,aaL _,rfl,ay.nil _ _,vB.out,fun e=>by simp[Ku.fO],aj.refl _ _⟩
 case round=>
  obtain⟨i,us,gf,hi,rfl,hch⟩:=hrel;obtain⟨U,rfl⟩:∃U,U=wr:=⟨wr,rfl⟩;have nQ:=ζ hch;obtain⟨va,vc,je⟩:=bJ hch.rws;obtain⟨J,hJ⟩:∃J,(Ku.rows es hv i).length=J:=⟨_,rfl⟩;rw[hJ] at je;subst je;have HJ:=ζ hJ;have hJi:J<=i:=by rw[<-hJ,Ku.qM];exact Ku.uK i
  have hwi:IntKind.i64.wrap ((i:Int)+1)=(i:Int)+1:=by rw[aaK];omega
  have N4:=ζ (CM.out U hch.wrote);by_cases hlt:i<es.length
  .have aX:(i:Int)<(es.length:Int):=by omega
   have aap:(0:Int)<=(i:Int):=by omega
   obtain⟨c0,c1,-⟩:=af (Bd.out U hch.wrote);have cg:=hch.gone.cell hlt;have AQ:=hch.first hlt
   cases hb:gf i with
   |true=>
    rw[hb] at cg AQ;have HN:=ζ (hch.skip (AQ.1 rfl));clear hch hJ hb AQ;go_wp2;go_roundw
    case rel=>exact⟨i+1,us,gf,by omega,by go_num,HN.out⟩
    case measure=>simp[intOf];omega
   |false=>
    rw[hb] at cg AQ;have hf:Ku.First es hv i:=aa9 fun h=>by have:=AQ.2 h;cases this
    have ZJ:Hid (∀e',Ku.By (Ku.ch es hv i) e'->gf e'=false):=fun e' he'=>by
     cases hc:gf e' with
     |false=>rfl
     |true=>exact absurd ((hch.iff e').1 hc) (Ku.ER hlt hf he')
    have zB:=hch.wrote;have Z3:=zB.size;have HS:Hid (∀V:World,aj (fun k=>k=w.heap.size\/W.heap.size<=k) W V->V.cell? ⟨w.heap.size+1,0,none⟩=some (.pointer (some ⟨p,0,none⟩))/\V.cell? ⟨w.heap.size+1,1,none⟩=some (.slice (some ⟨w.heap.size,0,none⟩) es.length es.length)):=fun V hV=>by
     obtain⟨a1,a2,-⟩:=af (Bd.out V hV);exact⟨a1,a2⟩
    have Xr:Hid (∀V:World,Below U.heap.size U V->Calls prog 212 #[.agg #[.pointer (some ⟨p,0,none⟩),.slice (some ⟨w.heap.size,0,none⟩) es.length es.length],.int .i64 (i:Int)] V (Ku.Ra es hv i V)):=fun V hV=>CZ p n es _ _ _ i V (HA.out.later (N4.out.trans (hV.mono N4.out.size))) hv hlt
    have Xu:Hid (∀(V U1:World) (b:Nat),Below U.heap.size U V->Below V.heap.size V U1->Ku.nS es hv i b->Calls prog 211 #[.agg #[.pointer (some ⟨p,0,none⟩),.slice (some ⟨w.heap.size,0,none⟩) es.length es.length],.int .i64 (b:Int)] U1 (Ku.OA es hv b w.heap.size gf U1)):=fun V U1 b hV h1 hb=>by
     have hbl:Below U.heap.size U U1:=hV.trans (h1.mono hV.size);refine C2 p n es w.heap.size b gf w U1 HA.out hv (N4.out.trans (hbl.mono N4.out.size)) (aaD _) (nQ.out.gone.later hbl) hb.1 fun x hx=> ?_
     exact ZJ.out _ (((Ku.A7 hf hb.1 hb.2.1 hb.2.2).2 _).2 ⟨x,hx,rfl⟩)
    have hbr:Below U.heap.size U U.drew:=(aaE _ _).drew;have Ss:aj (fun k=>k=w.heap.size\/W.heap.size<=k) W U.drew:=zB.drew;have HLEN:Hid (∀b,Ku.nS es hv i b->2<=(Ku.ZL (Ku.vs (Ku.gs es hv) (Ku.all (Ku.gs es hv).toSys b))).length/\(Ku.ZL (Ku.vs (Ku.gs es hv) (Ku.all (Ku.gs es hv).toSys b))).length<=17592186044000):=fun b hb=>by
     obtain⟨-,nd,lt,-,-⟩:=Ku.bL (S:=(Ku.gs es hv).toSys) hb.1;have h1:=Ku.NA (S:=(Ku.gs es hv).toSys) hb.1;have h2:=Ku.lW nd lt;have h3:(Ku.gs es hv).toSys.M=2*es.length:=rfl;rw[Ku.fB,Ku.bI (fun e=>by rw[e] at h1;simp at h1)];omega
    clear hb AQ hch hJ;go_wp2_with fail
    go_region_held3 (fun V=>V.cell? ⟨w.heap.size+1,0,none⟩=some (.pointer (some ⟨p,0,none⟩))/\V.cell? ⟨w.heap.size+1,1,none⟩=some (.slice (some ⟨w.heap.size,0,none⟩) es.length es.length))
     (exact HS.out _ (by first|assumption|exact Ss|(refine aj.drew ?_;assumption)|(refine aj.alloc ?_ _;assumption)|(refine aj.drew ?_;refine aj.alloc ?_ _;assumption)))
     (first
       |(go_at_call 212;refine(Xr.out _ hbr).mono ?_;rintro e u1 ⟨b,rfl,M6,hb1⟩;have VC:aj (fun k=>k=w.heap.size\/W.heap.size<=k) W u1:=Ss.later hb1)
       |(go_at_call 211;refine(Xu.out _ _ _ hbr hb1 M6).mono ?_;rintro e u2 ⟨v2,YQ,rfl,ho2,hg2,hi2,hw2⟩;have YD:aj (fun k=>k=w.heap.size\/W.heap.size<=k) W u2:=VC.trans (hw2.mono fun k _ hk=> .inl hk);obtain⟨xa,xc,je,-,-⟩:=ho2.form;obtain⟨Lc,Sx⟩:∃Lc,(Ku.ZL (Ku.vs (Ku.gs es hv) (Ku.all (Ku.gs es hv).toSys b))).length=Lc:=⟨_,rfl⟩;rw[Sx] at je;subst je)
       |(go_at_call 210;refine(zq u1.heap.size xa Lc xc _ u2 Sx ho2 hw2.size (by have:=(HLEN.out b M6).1;omega) (by have:=(HLEN.out b M6).2;omega)).mono ?_;rintro e u3 ⟨rfl,B8,hb3⟩;obtain⟨m1,m2,m3,m4,m5,m6,m7⟩:=nQ.out.mid (by omega) hf hbr hb1 M6 hw2 hg2 hi2 hb3 B8)
       |(rw[if_pos (by rfl)];refine qC _ _ (by rfl) W.heap.size (.slice va J vc) us (Ku.rows es hv i) xa Lc xc _ (m1.later (by first|exact(aaE _ _).alloc (aaD _) _|exact((aaE _ _).alloc (aaD _) _).drew)) (by simp;omega) (by rfl) u3.heap.size (by rfl) (by first|exact(cell_one_new _ _ _ 0 _ rfl)|exact cell_one_new _ _ _) (m2.later (by first|exact(aaE _ _).alloc (aaD _) _|exact((aaE _ _).alloc (aaD _) _).drew)) m3 (by rw[HJ.out];omega) ?_;intro v4 w4 G1 hg4 _;have VB:aj (fun k=>k=w.heap.size\/W.heap.size<=k) W w4:=Ku.Bg hg4 (by first|exact m6.alloc _|exact(m6.alloc _).drew) (fun k hk=>(aaJ m1.outer k hk).1)))
    have jB:Hid (Ku.rU es hv w.heap.size W (i+1) v4 (us++[.slice xa Lc xc]) YQ w4):=⟨by rw[Ku.JX hf];exact G1,m4.same ((hg4.block _ (by simp;omega) (fun e=>by have:=(aaJ m1.outer _ e.symm).1;omega)).trans (heap_alloc_old _ _ (by omega))),m5,VB⟩;clear G1 hg4 VB m1 m2 m3 m4 m5 m6 m7 B8 hb3 Sx ho2 hg2 hi2 hw2 YD VC M6 hb1 c0 c1 cg hbr Ss;go_wp2;go_roundw
    case rel=>exact⟨i+1,_,_,by omega,by go_num,jB.out⟩
    case measure=>simp[intOf];omega
  .have hd:¬((i:Int)<(es.length:Int)):=by omega
   obtain rfl:i=es.length:=by omega
   clear hch hJ;go_wp2;go_ret;exact⟨_,us,rfl,nQ.out.rws.lower (by omega),N4.out⟩
end
section
open Go.Proofs.Tryz
open Go.RowKit Go.Sort
namespace Ku
def bz (es:List (Int×Int)):Nat->List Nat
 |0=>[]
 |k+1=>if dg es k≠0/\dg es k≠2 then bz es k++[k] else bz es k
theorem yE {es:List (Int×Int)} {k:Nat} (h:dg es k≠0/\dg es k≠2):bz es (k+1)=bz es k++[k]:=if_pos h
theorem vM {es:List (Int×Int)} {k:Nat} (h:¬(dg es k≠0/\dg es k≠2)):bz es (k+1)=bz es k:=if_neg h
theorem uO (es:List (Int×Int)) (k:Nat):(bz es k).length<=k:=by
 induction k with
 |zero=>simp[bz]
 |succ k ih=>
  unfold bz
  split
  .simp;omega
  .omega
def XC (es:List (Int×Int)) (n:Nat) (w:World) (e:Ending) (w':World):Prop:=∃v,e= .returned v/\av w' w.heap.size v (ZL (bz es n))/\Below w.heap.size w w'
end Ku
theorem uU (p n:Nat) (es:List (Int×Int)) (w:World) (hA:bQ w (.pointer (some ⟨p,0,none⟩)) n es) (hv:Si.Val (n:Int) es):
 Calls prog 144 #[.pointer (some ⟨p,0,none⟩)] w (Ku.XC es n w):=by
 have hn:n<=1048576:=by have:=hv.hi;omega
 have HN:=ζ (Jw _ n es w hA);have HD:Hid (∀(v:Nat) (U:World),v<n->Below w.heap.size w U->Calls prog 209 #[.pointer (some ⟨p,0,none⟩),.int .i64 (v:Int)] U fun e w'=>e= .returned (.int .i64 (Ku.dg es v:Int))/\w'=U):=fun v U hv' hU=>by
  have:=jT _ n es (v:Int) U (hA.later hU);rw[Ku.vK hv'] at this;exact this
 clear hA hv;go_enter func144,ntmps144;go_wp2_with (go_at_call 123;refine HN.out.mono ?_;rintro e w1 ⟨rfl,hw1⟩;obtain rfl:=hw1.symm;refine aaH ?_);refine ζ ?_;go_wp2;go_loopw [3,8] (fun v cv wr=>∃k:Nat,k<=n/\cv= .int .i64 (k:Int)/\av wr w.heap.size v (Ku.ZL (Ku.bz es k))/\Below w.heap.size w wr) (fun _ cv _=>n-(intOf cv).toNat)
 case atStart=>exact⟨0,aaL _,rfl,av.nil _ _,aaE _ _⟩
 case round=>
  obtain⟨k,hk,rfl,hown,hb⟩:=hrel;obtain⟨U,rfl⟩:∃U,U=wr:=⟨wr,rfl⟩;have fP:=ζ hown;have HB:=ζ hb;have hs0:=hb.size;have hwk:IntKind.i64.wrap ((k:Int)+1)=(k:Int)+1:=by rw[aaK];omega
  by_cases hlt:k<n
  .have aX:(k:Int)<(n:Int):=by omega
   have oW:=ζ (HD.out k U hlt hb);obtain⟨d,hd⟩:∃d,Ku.dg es k=d:=⟨_,rfl⟩;rw[hd] at oW;have IA:=ζ hd;clear hown hb hd;go_wp2_with (go_at_call 209;refine oW.out.mono ?_;rintro e w1 ⟨rfl,hw1⟩;obtain rfl:=hw1.symm;refine aaH ?_);refine ζ ?_;by_cases hc:d≠0/\d≠2
   .have t1:((d:Int) != 0)=true:=by simp;omega
    have t2:((d:Int) != 2)=true:=by simp;omega
    have lp:Hid (Ku.ZL (Ku.bz es (k+1))=Ku.ZL (Ku.bz es k)++[(k:Int)]):=by
     refine ζ ?_;rw[Ku.yE (by rw[IA.out];exact hc)];simp[Ku.ZL]
    have fY:(Ku.ZL (Ku.bz es k)).length<=17592186044000:=by
     rw[Ku.fB];have:=Ku.uO es k;omega
    clear hc;go_wp2_with (at_builtin;refine eG rfl _ _ rfl _ w.heap.size _ _ (k:Int) fP.out hs0 fY rfl rfl ?_;refine aaH ?_);refine ζ ?_;intro v' w3 hrow3 _ _ hb3;have HR:=ζ hrow3;have aK:=ζ (HB.out.trans hb3);clear hrow3 hb3;go_wp2;go_roundw
    case rel=>exact⟨k+1,by omega,by go_num,by rw[lp.out];exact HR.out,aK.out⟩
    case measure=>simp[intOf];omega
   .have lp:Hid (Ku.ZL (Ku.bz es (k+1))=Ku.ZL (Ku.bz es k)):=by
     refine ζ ?_;rw[Ku.vM (by rw[IA.out];exact hc)]
    by_cases h0:d=0
    .have t1:((d:Int) != 0)=false:=by simp[h0]
     clear hc h0;go_wp2;go_roundw
     case rel=>exact⟨k+1,by omega,by go_num,by rw[lp.out];exact fP.out,HB.out⟩
     case measure=>simp[intOf];omega
    .have t1:((d:Int) != 0)=true:=by simp;omega
     have t2:((d:Int) != 2)=false:=by simp;omega
     clear hc h0;go_wp2;go_roundw
     case rel=>exact⟨k+1,by omega,by go_num,by rw[lp.out];exact fP.out,HB.out⟩
     case measure=>simp[intOf];omega
  .have hd:¬((k:Int)<(n:Int)):=by omega
   obtain rfl:k=n:=by omega
   clear hown hb;go_wp2;go_ret;exact⟨_,rfl,fP.out,HB.out⟩
theorem FY (p n:Nat) (es:List (Int×Int)) (la:Option Addr) (q lc d:Nat) (L:List Nat) (w:World) (hA:bQ w (.pointer (some ⟨p,0,none⟩)) n es) (hq:L.length=q) (hL:aZ w la (Ku.ZL L)) (hb:∀v∈L,v<n) (hl:q<=17592186044000) (r:Bool) (hr:r=true↔∀v∈L,Ku.dg es v=d):
 Calls prog 145 #[.pointer (some ⟨p,0,none⟩),.slice la q lc,.int .i64 (d:Int)] w fun e w'=>e= .returned (.bool r)/\Below w.heap.size w w':=by
 have HD:Hid (∀(v:Nat) (U:World),v<n->Below w.heap.size w U->Calls prog 209 #[.pointer (some ⟨p,0,none⟩),.int .i64 (v:Int)] U fun e w'=>e= .returned (.int .i64 (Ku.dg es v:Int))/\w'=U):=fun v U hv' hU=>by
  have:=jT _ n es (v:Int) U (hA.later hU);rw[Ku.vK hv'] at this;exact this
 have HL:=ζ hL;have Ix:=ζ hb;have HR:=ζ hr;have HQ:=ζ hq;clear hA hL hb hr hq;go_enter func145,ntmps145;go_wp2;go_loopw [11] (fun cv wr=>∃k:Nat,k<=q/\cv= .int .i64 (k:Int)/\(∀(i v:Nat),i<k->L[i]? =some v->Ku.dg es v=d)/\wr=w) (fun cv _=>q-(intOf cv).toNat)
 case atStart=>exact⟨0,aaL _,rfl,fun i v hi=>by omega,rfl⟩
 case round=>
  obtain⟨k,hk,rfl,hall,hwr⟩:=hrel;obtain rfl:=hwr.symm;have dQ:=ζ hall;have hwk:IntKind.i64.wrap ((k:Int)+1)=(k:Int)+1:=by rw[aaK];omega
  clear hwr hall;by_cases hlt:k<q
  .have aX:(k:Int)<(q:Int):=by omega
   have hk0:(0:Int)<=(k:Int):=by omega
   obtain⟨v,hv⟩:∃v,L[k]? =some v:=⟨_,aaC (by rw[HQ.out];exact hlt)⟩;have Un:(Ku.ZL L)[k]? =some (v:Int):=by rw[Ku.ND,hv];rfl
   obtain⟨b,o,rfl,d0⟩:=HL.out k _ Un;have oW:=ζ (HD.out v w (Ix.out v (aaG hv)) (aaE _ _));obtain⟨dv,hd⟩:∃dv,Ku.dg es v=dv:=⟨_,rfl⟩;rw[hd] at oW;have IA:=ζ hd;have HV:=ζ hv;clear hv Un hd;by_cases hc:dv=d
   .have t1:((dv:Int) != (d:Int))=false:=by simp[hc]
    have HN:Hid (∀(i v:Nat),i<k+1->L[i]? =some v->Ku.dg es v=d):=fun i v' hi hv'=>by
     by_cases e:i=k
     .subst e
      rw[HV.out] at hv';cases hv';rw[IA.out];exact hc
     .exact dQ.out i v' (by omega) hv'
    clear hc;go_wp2_with (go_at_call 209;refine oW.out.mono ?_;rintro e w1 ⟨rfl,hw1⟩;obtain rfl:=hw1.symm;refine aaH ?_);refine ζ ?_;go_wp2;go_roundw
    case rel=>exact⟨k+1,by omega,by go_num,HN.out,by first|rfl|trivial⟩
    case measure=>simp[intOf];omega
   .have t1:((dv:Int) != (d:Int))=true:=by simp;omega
    have HF:Hid (r=false):=by
     refine ζ ?_;cases hr:r with
     |false=>rfl
     |true=>exact absurd (by rw[<-IA.out];exact HR.out.1 hr v (aaG HV.out)) hc
    clear hc;go_wp2_with (go_at_call 209;refine oW.out.mono ?_;rintro e w1 ⟨rfl,hw1⟩;obtain rfl:=hw1.symm;refine aaH ?_);refine ζ ?_;go_wp2;go_ret;exact⟨by rw[HF.out];rfl,aaE _ _⟩
  .have hd:¬((k:Int)<(q:Int)):=by omega
   have HF:Hid (r=true):=HR.out.2 fun v hv=>by
    obtain⟨i,hi⟩:=abf hv;exact dQ.out i v (by have:=(aaF.1 hi).1;rw[HQ.out] at this;omega) hi
   go_wp2;go_ret;exact⟨by rw[HF.out];rfl,aaE _ _⟩
end
end Go.Proofs.YtdbjpbjocmcpkaaGreatDoor
