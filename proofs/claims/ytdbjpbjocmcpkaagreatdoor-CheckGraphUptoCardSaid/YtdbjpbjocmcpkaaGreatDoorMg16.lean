import Derived.Test.YtdbjpbjocmcpkaaGreatDoorMg15
import Derived.Test.YtdbjpbjocmcpkaaGreatDoorMg04
import Derived.Maps.OwnSet
import Derived.DeepKeys4
set_option maxHeartbeats 8000000
set_option maxRecDepth 100000
namespace Go.Proofs.YtdbjpbjocmcpkaaGreatDoor
section
open Go.Proofs.Tryz
open Go.RowKit Go.Sort
namespace Ku
section
variable {es:List (Int×Int)} {n:Int}
def vt (es:List (Int×Int)) (b:Nat) (l:List Nat):List Int:=(Cs.fr es b:Int)::l.map fun x=>(Cs.to es x:Int)
theorem Qu (b:Nat) (l:List Nat) (x:Nat):vt es b (l++[x])=vt es b l++[(Cs.to es x:Int)]:=by simp[vt]
theorem Ua {hv:Si.Val n es} {b:Nat} {T:List Nat} (h:T[0]? =some b):vt es b T=ZL (vs (gs es hv) T):=by
 cases T with
 |nil=>simp at h
 |cons y T=>
  simp at h;subst h;show _=((Cs.fr es y:Nat):Int)::((y::T).map (gs es hv).to).map (fun x:Nat=>(x:Int));rw[adq];unfold vt
  congr 1
  refine abT fun x _=> ?_
  show(Cs.to es x:Int)=(((gs es hv).to x:Nat):Int);rw[Gy]
end
def T8 (es:List (Int×Int)) {n:Int} (hv:Si.Val n es) (b g:Nat) (gf:Nat->Bool) (w:World) (e:Ending) (w':World):Prop:=
 ∃(v:Value) (oU:Nat->Bool),e= .returned v/\aj w' w.heap.size v (ZL (vs (gs es hv) (all (gs es hv).toSys b)))/\aF w' g es.length oU/\(∀i,oU i=true↔(gf i=true\/By (all (gs es hv).toSys b) i))/\aq (fun k=>k=g) w w'
end Ku
theorem Ho (p n:Nat) (es:List (Int×Int)) (g b0:Nat) (gf:Nat->Bool) (w0 w:World) (hA:cL w0 (.pointer (some ⟨p,0,none⟩)) n es) (hv:Si.Val (n:Int) es) (hw:Below w0.heap.size w0 w) (hg0:w0.heap.size<=g) (hg:aF w g es.length gf) (hb0:b0<2*es.length) (hfree:∀x∈Ku.all (Ku.gs es hv).toSys b0,gf (x/2)=false):
 Calls prog 211 #[.agg #[.pointer (some ⟨p,0,none⟩),.slice (some ⟨g,0,none⟩) es.length es.length],.int .i64 (b0:Int)] w (Ku.T8 es hv b0 g gf w):=by
 obtain⟨W,hW⟩:∃W,W=w.alloc (.cells #[.pointer (some ⟨p,0,none⟩),.slice (some ⟨g,0,none⟩) es.length es.length] 317):=⟨_,rfl⟩;have hB0:Below w.heap.size w W:=by rw[hW];exact(aae _ _).alloc (aad _) _
 have g1:W.heap[w.heap.size]? =some (.cells #[.pointer (some ⟨p,0,none⟩),.slice (some ⟨g,0,none⟩) es.length es.length] 317 (0,0)):=by rw[hW];exact heap_alloc_new w _
 obtain⟨c0,c1,-⟩:=af g1;have bQ:=hv.few;have Jw:=hg.lt;have vU:w.heap.size<W.heap.size:=lt_of_block g1;obtain⟨T,hT⟩:∃T,Ku.all (Ku.gs es hv).toSys b0=T:=⟨_,rfl⟩;have zO:b0<(Ku.gs es hv).toSys.M:=hb0;obtain⟨Xz,hnd,lR,-,-⟩:=Ku.bJ zO;have CQ:=ζ (Ku.all_zero zO);have uV:Hid (∀j x,T[j]? =some x->Ku.fL es x=none->j+1=T.length):=fun j x hx e=>by rw[<-hT] at hx ⊢;exact Ku.all_none zO hx e
 have Nc:Hid (∀j x,T[j]? =some x->Ku.fL es x=some b0->j+1=T.length):=fun j x hx e=>by rw[<-hT] at hx ⊢;exact Ku.xS zO hx e
 have pL:Hid (∀j x k,T[j]? =some x->Ku.fL es x=some k->k≠b0->T[j+1]? =some k):=fun j x k hx e hk=>by rw[<-hT] at hx ⊢;exact Ku.Al zO hx e hk
 have l5:Hid (∀j x,T[j]? =some x->x<2*es.length):=fun j x hx=>lR x (by rw[hT];exact aai hx)
 have Zy:Hid (∀j x,T[j]? =some x->gf (x/2)=false):=fun j x hx=>hfree x (by rw[hT];exact aai hx)
 rw[hT] at Xz hnd CQ;have Zb:Hid (∀(j x:Nat),T[j]? =some x->¬Ku.By (T.take j) (x/2)):=fun j x hx ⟨y,hy,e⟩=>by
  obtain⟨i,hi,ei⟩:=aaT.1 hy;rw[abu] at hi;have Jd:T[i]? =some y:=by rw[<-ei,List.getElem_take];exact aac (by omega)
  exact Ku.Ht Xz hnd (fun a b e=>Ku.Px a b e) (show i<j by omega) Jd hx e
 have jf:Hid (Ku.vt es b0 T=Ku.ZL (Ku.vs (Ku.gs es hv) T)):=Ku.Ua CQ.out;have xX:Hid (T.length<=8388608):=by
  have:=Ku.fk (M:=2*es.length) hnd (fun x hx=>by
   obtain⟨i,hi,ei⟩:=aaT.1 hx;exact l5.out i x (by rw[<-ei];exact aac hi))
  exact aaD this (by omega)
 have WX:Hid (∀U:World,Below w0.heap.size w0 U->cL U (.pointer (some ⟨p,0,none⟩)) n es):=fun U hU=>hA.later hU
 have G3:Hid (∀U:World,aq (fun k=>k=g) W U->Below w0.heap.size w0 U):=fun U hU=>(hw.trans (hB0.mono hw.size)).trans (hU.below (aaD hw.size (by omega)) (fun k hk=>by subst hk;exact hg0))
 have Fc:Hid (∀U:World,aq (fun k=>k=g) W U->U.heap[w.heap.size]? =some (.cells #[.pointer (some ⟨p,0,none⟩),.slice (some ⟨g,0,none⟩) es.length es.length] 317 (0,0))):=fun U hU=>(hU.block _ vU (by omega)).trans g1
 have yh:Hid (Calls prog 237 #[.pointer (some ⟨p,0,none⟩),.int .i64 (b0:Int)] W fun e w'=>e= .returned (.int .i64 (Cs.fr es b0:Int))/\w'=W):=by
  have:=EW _ n es (b0:Int) W (hA.later (hw.trans (hB0.mono hw.size)));rw[Cs.oV hb0] at this;exact this
 have Td:Hid (∀(x:Nat) (U:World),x<2*es.length->Below w0.heap.size w0 U->Calls prog 238 #[.pointer (some ⟨p,0,none⟩),.int .i64 (x:Int)] U fun e w'=>e= .returned (.int .i64 (Cs.to es x:Int))/\w'=U):=fun x U hx hU=>by
  have:=Fq _ n es (x:Int) U (hA.later hU);rw[Cs.toI_in hx] at this;exact this
 have Ql:Hid (∀(h:Nat) (U:World),h<2*es.length->Below w0.heap.size w0 U->Calls prog 262 #[.agg #[.pointer (some ⟨p,0,none⟩),.slice (some ⟨g,0,none⟩) es.length es.length],.int .i64 (h:Int)] U (Ku.YR es h U)):=fun h U hh hU=>Hj p n es _ _ _ h U (hA.later hU) hv hh
 have j4:=ζ (hg.later hB0);have aH:=ζ hB0;have HW:=ζ hW;have HT:=ζ hT;have Eb:Hid (ak (W.alloc (.cells #[.int .i64 (Cs.fr es b0:Int)] 3)) W.heap.size [(Cs.fr es b0:Int)]):=heap_alloc_new W _;clear hA hB0 g1 hT zO lR hw hg hfree Xz hnd;rw[hW] at c0 c1;clear hW;go_enter func211,ntmps211;go_wp2_with (go_at_call 237;rw[<-HW.out];refine yh.out.mono ?_;rintro e w1 ⟨rfl,hw1⟩;obtain rfl:=hw1.symm;refine aaj ?_);refine ζ ?_;clear c0 c1;go_wp2
 go_loopg [1,5,6] (T.length+1) (fun d s1 s5 s6 wr=>∃(j h:Nat) (b:Bool) (oU:Nat->Bool),j<=T.length/\T.length-j<=d/\s1= .int .i64 (h:Int)/\s6= .bool b/\aj wr W.heap.size s5 (Ku.vt es b0 (T.take j))/\aF wr g es.length oU/\(∀i,oU i=true↔(gf i=true\/Ku.By (T.take j) i))/\aq (fun k=>k=g) W wr/\((T[j]? =some h/\b=true)\/(j=T.length/\((b=false/\h=0)\/(b=true/\h=b0)))))
 case atStart=>
  refine⟨0,b0,true,gf,aax _,by omega,rfl,rfl,ak.own Eb.out (aad _) rfl (by omega),j4.out.later ((aae _ _).alloc (aad _) _),fun i=> ?_,(aq.refl _ _).alloc _,.inl ⟨CQ.out,rfl⟩⟩;constructor
  .exact fun h=> .inl h
  .rintro(h|⟨y,hy,_⟩)
   .exact h
   .simp at hy
 case round=>
  obtain⟨j,h,b,oU,hj,hd,rfl,rfl,hown,hgb,hiff,hwr,hc⟩:=hrel;obtain⟨U,rfl⟩:∃U,U=wr:=⟨wr,rfl⟩;have ct:=ζ hown;have pM:=ζ hgb;have TE:=ζ hiff;have j8:=ζ hwr;have hlv:(Ku.vt es b0 (T.take j)).length=j+1:=by
   unfold Ku.vt;rw[abl,aaE,abu];omega
  obtain⟨oa,oc,bZ,-,-⟩:=hown.form;rw[hlv] at bZ;subst bZ;have eH:=Fc.out U hwr;obtain⟨c0,c1,-⟩:=af eH;have l8:Hid (j=T.length->∀v,aj U W.heap.size v (Ku.vt es b0 (T.take j))->Ku.T8 es hv b0 g gf w (.returned v) U):=fun hjl v ho=>by
   refine⟨v,oU,rfl,?_,pM.out,?_,((aq.refl _ w).later aH.out).trans j8.out⟩
   .have:=ho.lower (adE vU)
    rw[hjl,abW,jf.out] at this;rw[HT.out];exact this
   .have:=TE.out
    rw[hjl,abW] at this;rw[HT.out];exact this
  rcases hc with ⟨hx,rfl⟩|⟨hjl,⟨rfl,rfl⟩|⟨rfl,rfl⟩⟩
  .have hxl:=l5.out j h hx
   have X0:=(aah.1 hx).1;obtain⟨jh,uu⟩:∃jh,h/2=jh:=⟨_,rfl⟩;have aa9:jh<es.length:=by omega
   have hno:oU jh=false:=by
    cases hb:oU jh with
    |false=>rfl
    |true=>
     rcases(hiff jh).1 hb with h1|h1
     .have:=Zy.out j h hx
      rw[uu,h1] at this;cases this
     .exact absurd (by rw[uu];exact h1) (Zb.out j h hx)
   have cg:=hgb.cell aa9;rw[hno] at cg;have cf:=hgb.free jh;have i1:(h:Int).tdiv 2=(jh:Int):=by rw[abK (by omega)];omega
   have i2:(h:Int)/2=(jh:Int):=by omega
   have i3:IntKind.i64.wrap (jh:Int)=(jh:Int):=by rw[aam];omega
   have i4:(0:Int)<=(jh:Int):=by omega
   have i5:(jh:Int)<(es.length:Int):=by omega
   obtain⟨U1,zQ⟩:∃U1,U1=U.setCell ⟨g,jh,none⟩ (.bool true):=⟨_,rfl⟩;have Je:aq (fun k=>k=g) W U1:=by rw[zQ];exact hwr.setCell rfl _
   have gL:Hid (aF U1 g es.length (Co.bS oU jh true)):=by rw[zQ];exact hgb.set jh true
   have zX:Hid (aj U1 W.heap.size (.slice oa (j+1) oc) (Ku.vt es b0 (T.take j))):=hown.same fun q hq _=>by
    rw[zQ];refine heap_setCell_other U ⟨g,jh,none⟩ q _ ?_;have:=(aap hown q hq).1;show q≠g;have hgW:=Nat.lt_trans Jw vU;omega
   have acZ:=ζ (G3.out U1 Je);have acp:=ζ (Td.out h U1 hxl acZ.out);obtain⟨e0,e1,-⟩:=af (Fc.out U1 Je);have HX:=ζ hx;have YV:=ζ zQ;have KD:=ζ Je;have hsz2:W.heap.size<=U1.heap.size:=Je.size;have XT:(Ku.vt es b0 (T.take j)).length<=17592186044000:=by
    have:=xX.out;rw[hlv];omega
   have gS:Hid (Ku.vt es b0 (T.take (j+1))=Ku.vt es b0 (T.take j)++[(Cs.to es h:Int)]):=by
    rw[Ku.tV hx,Ku.Qu];exact ζ rfl
   have Zt:Hid (∀i,Co.bS oU jh true i=true↔(gf i=true\/Ku.By (T.take (j+1)) i)):=fun i=>by
    rw[Ku.tV hx];unfold Co.bS;constructor
    .intro hi
     split at hi
     .rename_i hij
      exact .inr ⟨h,by simp,by omega⟩
     .rcases(TE.out i).1 hi with h1|⟨y,hy,zJ⟩
      .exact .inl h1
      .exact .inr ⟨y,ab0 _ hy,zJ⟩
    .intro hi
     split
     .rfl
     .rename_i hij
      refine(TE.out i).2 ?_;rcases hi with h1|⟨y,hy,zJ⟩
      .exact .inl h1
      .rcases abG.1 hy with hy|hy
       .exact .inr ⟨y,hy,zJ⟩
       .simp at hy
        subst hy;omega
   rw[zQ] at e0 e1;clear hx hlv hown hgb hiff hwr eH uu hno zQ Je;go_wp2_with (go_at_call 238;rw[<-YV.out];refine acp.out.mono ?_;rintro e w1 ⟨rfl,hw1⟩;obtain rfl:=hw1.symm;refine aaj ?_);refine ζ ?_;clear c0 c1 e0 e1 cg cf;go_wp2_with (at_builtin;refine bB rfl _ _ rfl _ W.heap.size _ _ (Cs.to es h:Int) zX.out (by omega) XT rfl rfl ?_;refine aaj ?_);refine ζ ?_;intro v' w3 hrow3 _ _ hb3;have hrow4:aj w3 W.heap.size v' (Ku.vt es b0 (T.take (j+1))):=by rw[gS.out];exact hrow3
   have hw3:aq (fun k=>k=g) W w3:=⟨hb3.os.trans KD.out.os,hb3.tape.trans KD.out.tape,hb3.output.trans KD.out.output,aaD KD.out.size hb3.size,fun k hk hne=>(hb3.block k hk).trans (KD.out.block k hk hne)⟩;have l7:Hid (aF w3 g es.length (Co.bS oU jh true)):=gL.out.same (hb3.block g (by omega));have uW:=G3.out w3 hw3;have fX:=ζ (Ql.out h w3 hxl uW);obtain⟨e0,e1,-⟩:=af (Fc.out w3 hw3);have xY:=ζ hrow4;have uR:=ζ hw3;have hs3:=hw3.size;clear hrow3 hrow4 hw3 hb3 uW;go_wp2_with (go_at_call 262;refine fX.out.mono ?_;refine aaj ?_);refine ζ ?_;rintro e w4 ⟨k2,b2,rfl,hc2,hb4⟩;have sU:=ζ hc2;have dy:=ζ hb4;clear e0 e1 hc2 hb4;go_wp2
   go_roundg (T.length-(j+1))
   case measure=>omega
   case rel=>
    refine⟨j+1,k2,b2,Co.bS oU jh true,by omega,aad _,rfl,rfl,xY.out.later dy.out,l7.out.later dy.out,Zt.out,uR.out.later dy.out,?_⟩;rcases sU.out with ⟨rfl,hk⟩|⟨rfl,hk,rfl⟩
    .by_cases hkb:k2=b0
     .exact .inr ⟨Nc.out j h HX.out (by rw[hk,hkb]),.inr ⟨rfl,hkb⟩⟩
     .exact .inl ⟨pL.out j h k2 HX.out hk hkb,rfl⟩
    .exact .inr ⟨uV.out j h HX.out hk,.inl ⟨rfl,rfl⟩⟩
  .have HF:=ζ (l8.out hjl)
   clear hlv hown hgb hiff hwr eH hjl;go_wp2;go_ret;exact HF.out _ ct.out
  .have HF:=ζ (l8.out hjl)
   obtain⟨jh,uu⟩:∃jh,h/2=jh:=⟨_,rfl⟩;have hyes:oU jh=true:=(hiff jh).2 (.inr ⟨h,by rw[hjl,abW];exact aai CQ.out,uu⟩);have cg:=hgb.cell (i:=jh) (by omega);rw[hyes] at cg;have i1:(h:Int).tdiv 2=(jh:Int):=by rw[abK (by omega)];omega
   have i2:(h:Int)/2=(jh:Int):=by omega
   have i3:IntKind.i64.wrap (jh:Int)=(jh:Int):=by rw[aam];omega
   have i4:(0:Int)<=(jh:Int):=by omega
   have i5:(jh:Int)<(es.length:Int):=by omega
   clear hlv hown hgb hiff hwr eH hjl;go_wp2;go_ret;exact HF.out _ ct.out
end
section
open Go.Proofs.Tryz
open Go.RowKit Go.Sort
theorem vk {U:World} {o:Oper} {a:Act} {K:Act->World->Prop} {Q:Exit->Act->World->Prop} (s x:Operand) (ho:o.op= .call { callee:= .builtin .append,args:= #[s,x],argTypes:= #[25,25] })
 (B:Nat) (v:Value) (vs:List Value) (ls:List (List Int)) (xa:Option Addr) (xn xc:Nat) (l:List Int) (hR:ay U B v vs ls) (hB:B<=U.heap.size) (hs:a.eval s=v) (c:Nat) (hx:a.eval x= .slice (some ⟨c,0,none⟩) 1 1) (hc:U.cell? ⟨c,0,none⟩=some (.slice xa xn xc))
 (hO:aj U B (.slice xa xn xc) l) (qI:∀b,(Value.slice xa xn xc).ownBlock=some b->¬(v.ownBlock=some b\/cC vs b)) (hl:ls.length<=4194304)
 (h:∀v' w',ay w' B v' (vs++[.slice xa xn xc]) (ls++[l])->U.grownBy w' v.ownBlock->(v'.ownBlock=v.ownBlock\/v'.ownBlock=some U.heap.size)->K (a.put o.dst v') w'):o.wp prog a U K Q:=by
 refine Db s x ho B v vs [.slice xa xn xc] ls [l] hR hB hs (some ⟨c,0,none⟩) 1 1 rfl hx (fun e=>by cases e) rfl (fun j u hj=> ?_) (fun u hu=> ?_) (fun u y k hy hk=> ?_) (fun u u' y y' b hne hy hy'=> ?_) (fun b hb'=> ?_) (by omega) h
 .obtain rfl:j=0:=by
   have:=(aah.1 hj).1;simp at this;exact this
  cases hj;exact⟨_,rfl,hc⟩
 .cases abg.1 hu
  rfl
 .obtain rfl:u=0:=by
   have:=(aah.1 hy).1;simp at this;exact this
  cases hy;cases hk;exact hO
 .have h1:=(aah.1 hy).1
  have h2:=(aah.1 hy').1;simp at h1 h2;omega
 .obtain⟨u,y,hy,hyb⟩:=hb'
  obtain rfl:u=0:=by
   have:=(aah.1 hy).1;simp at this;exact this
  cases hy;exact qI b hyb
namespace Ku
structure wV (es:List (Int×Int)) {n:Int} (hv:Si.Val n es) (g:Nat) (W:World) (i:Nat) (v:Value) (us:List Value) (gf:Nat->Bool) (U:World):Prop where
 rws:ay U W.heap.size v us (rows es hv i)
 gone:aF U g es.length gf
 iff:∀e,gf e=true↔∃l∈jF es hv i,By l e
 wrote:aq (fun k=>k=g\/W.heap.size<=k) W U
def Oj (es:List (Int×Int)) {n:Int} (hv:Si.Val n es) (w:World) (e:Ending) (w':World):Prop:=∃v us,e= .returned v/\ay w' w.heap.size v us (rows es hv es.length)/\Below w.heap.size w w'
theorem SQ {es:List (Int×Int)} {n:Int} {hv:Si.Val n es} {k:Nat} (h:First es hv k):jF es hv (k+1)=jF es hv k++[ch es hv k]:=by
 simp only[jF];rw[if_pos h]
theorem Vk {es:List (Int×Int)} {n:Int} {hv:Si.Val n es} {k:Nat} (h:¬First es hv k):jF es hv (k+1)=jF es hv k:=by
 simp only[jF];rw[if_neg h]
section
variable {es:List (Int×Int)} {n:Int} {hv:Si.Val n es} {g i:Nat} {W U:World} {v:Value} {us:List Value} {gf:Nat->Bool}
theorem wV.first (h:wV es hv g W i v us gf U) (hi:i<es.length):gf i=true↔¬First es hv i:=(h.iff i).trans (Ev hi)
theorem wV.skip (h:wV es hv g W i v us gf U) (hf:¬First es hv i):wV es hv g W (i+1) v us gf U:=⟨by rw[Ia hf];exact h.rws,h.gone,by rw[Vk hf];exact h.iff,h.wrote⟩
theorem Fh {W X w4:World} {g:Nat} {r:Option Nat} (hg:X.grownBy w4 r) (hX:aq (fun k=>k=g\/W.heap.size<=k) W X) (hr:∀k,r=some k->W.heap.size<=k):aq (fun k=>k=g\/W.heap.size<=k) W w4:=
 ⟨hg.os.trans hX.os,hg.tape.trans hX.tape,hg.output.trans hX.output,aaD hX.size hg.size,fun k hk hne=>(hg.block k (aa5 hk hX.size) (fun e=>hne (.inr (hr k e.symm)))).trans (hX.block k hk hne)⟩
theorem wV.mid {U1 U2 U3 V:World} {b:Nat} {oU:Nat->Bool} {x:Value} (h:wV es hv g W i v us gf U) (hg:g<W.heap.size) (hf:First es hv i) (hV:Below U.heap.size U V) (h1:Below V.heap.size V U1) (hb:rD es hv i b) (h2:aq (fun k=>k=g) U1 U2) (hgo:aF U2 g es.length oU) (hiff:∀e,oU e=true↔(gf e=true\/By (all (gs es hv).toSys b) e)) (h3:Below U1.heap.size U2 U3) (hO:aj U3 U1.heap.size x (bM (ZL (vs (gs es hv) (all (gs es hv).toSys b))))):
 ay U3 W.heap.size v us (rows es hv i)/\aj U3 W.heap.size x (ZL (vs (gs es hv) (ch es hv i)))/\(∀b,x.ownBlock=some b->¬(v.ownBlock=some b\/cC us b))/\aF U3 g es.length oU/\(∀e,oU e=true↔∃l∈jF es hv (i+1),By l e)/\aq (fun k=>k=g\/W.heap.size<=k) W U3/\W.heap.size<=U3.heap.size:=by
 obtain⟨b1,b2,b3⟩:=hb;obtain⟨e1,e2⟩:=E6 hf b1 b2 b3;have s0:=h.wrote.size;have sV:=hV.size;have s1:=h1.size;have s2:=h2.size;have s3:=h3.size;have keep:∀k,k≠g->k<U.heap.size->U3.heap[k]? =U.heap[k]? :=fun k hk hl=>by
  rw[h3.block k (by omega),h2.block k (by omega) hk,h1.block k (by omega),hV.block k hl]
 refine⟨h.rws.kept fun k hk hl=>keep k (by have:=(h.rws.within hk).1;omega) hl,?_,fun k hk hc=> ?_,hgo.same (h3.block g (by omega)),fun e=> ?_,?_,by omega⟩
 .rw[qd,<-e1] at hO
  exact hO.lower (by omega)
 .have a1:=(h.rws.within hc).2
  have a2:=(aap hO k hk).1;omega
 .rw[hiff e,h.iff e,SQ hf,<-e2 e]
  constructor
  .rintro(⟨l,hl,hb⟩|hb)
   .exact⟨l,ab0 _ hl,hb⟩
   .exact⟨_,ad8 _ (abg.2 rfl),hb⟩
  .rintro⟨l,hl,hb⟩
   rcases abG.1 hl with hl|hl
   .exact .inl ⟨l,hl,hb⟩
   .cases abg.1 hl
    exact .inr hb
 .refine h.wrote.trans ⟨?_,?_,?_,by omega,fun k hk hne=>keep k (fun e=>hne (.inl e)) hk⟩
  .rw[h3.os,h2.os,h1.os,hV.os]
  .rw[h3.tape,h2.tape,h1.tape,hV.tape]
  .rw[h3.output,h2.output,h1.output,hV.output]
end
end Ku
theorem Fo (p n:Nat) (es:List (Int×Int)) (w:World) (hA:cL w (.pointer (some ⟨p,0,none⟩)) n es) (hv:Si.Val (n:Int) es):
 Calls prog 147 #[.pointer (some ⟨p,0,none⟩)] w (Ku.Oj es hv w):=by
 have HM:Hid (∀U:World,Below w.heap.size w U->Calls prog 177 #[.pointer (some ⟨p,0,none⟩)] U fun e w'=>e= .returned (.int .i64 (es.length:Int))/\w'=U):=fun U hU=>N8 _ n es U (hA.later hU)
 have HA:=ζ hA;have bQ:=hv.few;obtain⟨i0,mj,hz0,hz1,hz2⟩:=info_parts Tryz.nR;have i1:(0:Int)<=(es.length:Int):=by omega
 have i2:(es.length:Int)<=140737488355328:=by omega
 have HM0:=ζ (HM.out w (aae _ _));have hmk:∀W,(Instr.makeSlice 237 (.int .i64 (es.length:Int)) (.int .i64 (es.length:Int))).run prog W= .ok (.slice (some ⟨W.heap.size,0,none⟩) es.length es.length) (W.alloc (.cells (madeCells #[.bool false] es.length) 4)):=fun W=>by
  have:=run_make (P:=prog) W 237 4 i0 (.bool false) Tryz.underlying237 mj hz0 .i64 .i64 (es.length:Int) (es.length:Int) (by omega) (acE _) (by rw[hz2];omega) (by omega);rw[this,hz1];simp[Value.cells]
 obtain⟨W1,hW1⟩:∃W1,W1=w.alloc (.cells (madeCells #[.bool false] es.length) 4):=⟨_,rfl⟩;obtain⟨W,hW⟩:∃W,W=W1.alloc (.cells #[.pointer (some ⟨p,0,none⟩),.slice (some ⟨w.heap.size,0,none⟩) es.length es.length] 317):=⟨_,rfl⟩;have hsz:W1.heap.size=w.heap.size+1:=by rw[hW1];simp
 have hB1:Below w.heap.size w W1:=by rw[hW1];exact(aae _ _).alloc (aad _) _
 have hB2:Below W1.heap.size W1 W:=by rw[hW];exact(aae _ _).alloc (aad _) _
 have hB0:Below w.heap.size w W:=hB1.trans (hB2.mono hB1.size);have g1:W.heap[w.heap.size+1]? =some (.cells #[.pointer (some ⟨p,0,none⟩),.slice (some ⟨w.heap.size,0,none⟩) es.length es.length] 317 (0,0)):=by rw[hW,<-hsz];exact heap_alloc_new W1 _
 have j4:Hid (aF W w.heap.size es.length (fun _=>false)):=by
  have:aF W1 w.heap.size es.length (fun _=>false):=by rw[hW1];exact jV rfl _
  exact this.later hB2
 have vU:w.heap.size+1<W.heap.size:=lt_of_block g1;have HW:Hid (W=(w.alloc (.cells (madeCells #[.bool false] es.length) 4)).alloc (.cells #[.pointer (some ⟨p,0,none⟩),.slice (some ⟨w.heap.size,0,none⟩) es.length es.length] 317)):=by rw[hW,hW1];exact ζ rfl
 have HMW:=ζ (HM.out W hB0);have aH:=ζ hB0;have G3:Hid (∀U:World,aq (fun k=>k=w.heap.size\/W.heap.size<=k) W U->Below w.heap.size w U):=fun U hU=>hB0.trans (hU.below (by omega) (fun k hk=>by omega))
 have Fc:Hid (∀U:World,aq (fun k=>k=w.heap.size\/W.heap.size<=k) W U->U.heap[w.heap.size+1]? =some (.cells #[.pointer (some ⟨p,0,none⟩),.slice (some ⟨w.heap.size,0,none⟩) es.length es.length] 317 (0,0))):=fun U hU=>(hU.block _ vU (by omega)).trans g1
 clear hA hW1 hW hsz hB1 hB2 hB0 g1;go_enter func147,ntmps147;go_wp2_with (go_at_call 177;refine HM0.out.mono ?_;rintro e w1 ⟨rfl,hw1⟩;obtain rfl:=hw1.symm;refine aaj ?_);refine ζ ?_;go_wp2_with (go_at_call 177;rw[<-HW.out];refine HMW.out.mono ?_;rintro e w1 ⟨rfl,hw1⟩;obtain rfl:=hw1.symm;refine aaj ?_);refine ζ ?_;clear hmk;go_wp2;go_loopw [4,13] (fun v cv wr=>∃(i:Nat) (us:List Value) (gf:Nat->Bool),i<=es.length/\cv= .int .i64 (i:Int)/\Ku.wV es hv w.heap.size W i v us gf wr) (fun _ cv _=>es.length-(intOf cv).toNat)
 case atStart=>exact⟨0,[],fun _=>false,aax _,rfl,ay.nil _ _,j4.out,fun e=>by simp[Ku.jF],aq.refl _ _⟩
 case round=>
  obtain⟨i,us,gf,hi,rfl,hch⟩:=hrel;obtain⟨U,rfl⟩:∃U,U=wr:=⟨wr,rfl⟩;have iz:=ζ hch;obtain⟨va,vc,bZ⟩:=bG hch.rws;obtain⟨J,hJ⟩:∃J,(Ku.rows es hv i).length=J:=⟨_,rfl⟩;rw[hJ] at bZ;subst bZ;have HJ:=ζ hJ;have hJi:J<=i:=by rw[<-hJ,Ku.kF];exact Ku.qU i
  have hwi:IntKind.i64.wrap ((i:Int)+1)=(i:Int)+1:=by rw[aam];omega
  have Tx:=ζ (G3.out U hch.wrote);by_cases hlt:i<es.length
  .have aQ:(i:Int)<(es.length:Int):=by omega
   have VW:(0:Int)<=(i:Int):=by omega
   obtain⟨c0,c1,-⟩:=af (Fc.out U hch.wrote);have cg:=hch.gone.cell hlt;have ER:=hch.first hlt
   cases hb:gf i with
   |true=>
    rw[hb] at cg ER;have HN:=ζ (hch.skip (ER.1 rfl));clear hch hJ hb ER;go_wp2;go_roundw
    case rel=>exact⟨i+1,us,gf,by omega,by go_num,HN.out⟩
    case measure=>simp[intOf];omega
   |false=>
    rw[hb] at cg ER;have hf:Ku.First es hv i:=abp fun h=>by have:=ER.2 h;cases this
    have HCN:Hid (∀e',Ku.By (Ku.ch es hv i) e'->gf e'=false):=fun e' he'=>by
     cases hc:gf e' with
     |false=>rfl
     |true=>exact absurd ((hch.iff e').1 hc) (Ku.JW hlt hf he')
    have Dv:=hch.wrote;have agz:=Dv.size;have HS:Hid (∀V:World,aq (fun k=>k=w.heap.size\/W.heap.size<=k) W V->V.cell? ⟨w.heap.size+1,0,none⟩=some (.pointer (some ⟨p,0,none⟩))/\V.cell? ⟨w.heap.size+1,1,none⟩=some (.slice (some ⟨w.heap.size,0,none⟩) es.length es.length)):=fun V hV=>by
     obtain⟨a1,a2,-⟩:=af (Fc.out V hV);exact⟨a1,a2⟩
    have adJ:Hid (∀V:World,Below U.heap.size U V->Calls prog 212 #[.agg #[.pointer (some ⟨p,0,none⟩),.slice (some ⟨w.heap.size,0,none⟩) es.length es.length],.int .i64 (i:Int)] V (Ku.WZ es hv i V)):=fun V hV=>Hl p n es _ _ _ i V (HA.out.later (Tx.out.trans (hV.mono Tx.out.size))) hv hlt
    have adP:Hid (∀(V U1:World) (b:Nat),Below U.heap.size U V->Below V.heap.size V U1->Ku.rD es hv i b->Calls prog 211 #[.agg #[.pointer (some ⟨p,0,none⟩),.slice (some ⟨w.heap.size,0,none⟩) es.length es.length],.int .i64 (b:Int)] U1 (Ku.T8 es hv b w.heap.size gf U1)):=fun V U1 b hV h1 hb=>by
     have hbl:Below U.heap.size U U1:=hV.trans (h1.mono hV.size);refine Ho p n es w.heap.size b gf w U1 HA.out hv (Tx.out.trans (hbl.mono Tx.out.size)) (aad _) (iz.out.gone.later hbl) hb.1 fun x hx=> ?_
     exact HCN.out _ (((Ku.E6 hf hb.1 hb.2.1 hb.2.2).2 _).2 ⟨x,hx,rfl⟩)
    have hbr:Below U.heap.size U U.drew:=(aae _ _).drew;have Yo:aq (fun k=>k=w.heap.size\/W.heap.size<=k) W U.drew:=Dv.drew;have HLEN:Hid (∀b,Ku.rD es hv i b->2<=(Ku.ZL (Ku.vs (Ku.gs es hv) (Ku.all (Ku.gs es hv).toSys b))).length/\(Ku.ZL (Ku.vs (Ku.gs es hv) (Ku.all (Ku.gs es hv).toSys b))).length<=17592186044000):=fun b hb=>by
     obtain⟨-,nd,lt,-,-⟩:=Ku.bJ (S:=(Ku.gs es hv).toSys) hb.1;have h1:=Ku.CD (S:=(Ku.gs es hv).toSys) hb.1;have h2:=Ku.fk nd lt;have h3:(Ku.gs es hv).toSys.M=2*es.length:=rfl;rw[Ku.bL,Ku.bC (fun e=>by rw[e] at h1;simp at h1)];omega
    clear hb ER hch hJ;go_wp2_with fail
    go_region_held3 (fun V=>V.cell? ⟨w.heap.size+1,0,none⟩=some (.pointer (some ⟨p,0,none⟩))/\V.cell? ⟨w.heap.size+1,1,none⟩=some (.slice (some ⟨w.heap.size,0,none⟩) es.length es.length))
     (exact HS.out _ (by first|assumption|exact Yo|(refine aq.drew ?_;assumption)|(refine aq.alloc ?_ _;assumption)|(refine aq.drew ?_;refine aq.alloc ?_ _;assumption)))
     (first
       |(go_at_call 212;refine(adJ.out _ hbr).mono ?_;rintro e u1 ⟨b,rfl,BW,hb1⟩;have hT1:aq (fun k=>k=w.heap.size\/W.heap.size<=k) W u1:=Yo.later hb1)
       |(go_at_call 211;refine(adP.out _ _ _ hbr hb1 BW).mono ?_;rintro e u2 ⟨v2,gf2,rfl,ho2,hg2,hi2,hw2⟩;have hT2:aq (fun k=>k=w.heap.size\/W.heap.size<=k) W u2:=hT1.trans (hw2.mono fun k _ hk=> .inl hk);obtain⟨xa,xc,bZ,-,-⟩:=ho2.form;obtain⟨Lc,PB⟩:∃Lc,(Ku.ZL (Ku.vs (Ku.gs es hv) (Ku.all (Ku.gs es hv).toSys b))).length=Lc:=⟨_,rfl⟩;rw[PB] at bZ;subst bZ)
       |(go_at_call 210;refine(Dd u1.heap.size xa Lc xc _ u2 PB ho2 hw2.size (by have:=(HLEN.out b BW).1;omega) (by have:=(HLEN.out b BW).2;omega)).mono ?_;rintro e u3 ⟨rfl,mY,hb3⟩;obtain⟨m1,m2,m3,m4,m5,m6,m7⟩:=iz.out.mid (by omega) hf hbr hb1 BW hw2 hg2 hi2 hb3 mY)
       |(rw[if_pos (by rfl)];refine vk _ _ (by rfl) W.heap.size (.slice va J vc) us (Ku.rows es hv i) xa Lc xc _ (m1.later (by first|exact(aae _ _).alloc (aad _) _|exact((aae _ _).alloc (aad _) _).drew)) (by simp;omega) (by rfl) u3.heap.size (by rfl) (by first|exact(cell_one_new _ _ _ 0 _ rfl)|exact cell_one_new _ _ _) (m2.later (by first|exact(aae _ _).alloc (aad _) _|exact((aae _ _).alloc (aad _) _).drew)) m3 (by rw[HJ.out];omega) ?_;intro v4 w4 DR hg4 _;have hT4:aq (fun k=>k=w.heap.size\/W.heap.size<=k) W w4:=Ku.Fh hg4 (by first|exact m6.alloc _|exact(m6.alloc _).drew) (fun k hk=>(aap m1.outer k hk).1)))
    have pR:Hid (Ku.wV es hv w.heap.size W (i+1) v4 (us++[.slice xa Lc xc]) gf2 w4):=⟨by rw[Ku.Ex hf];exact DR,m4.same ((hg4.block _ (by simp;omega) (fun e=>by have:=(aap m1.outer _ e.symm).1;omega)).trans (heap_alloc_old _ _ (by omega))),m5,hT4⟩;clear DR hg4 hT4 m1 m2 m3 m4 m5 m6 m7 mY hb3 PB ho2 hg2 hi2 hw2 hT2 hT1 BW hb1 c0 c1 cg hbr Yo;go_wp2;go_roundw
    case rel=>exact⟨i+1,_,_,by omega,by go_num,pR.out⟩
    case measure=>simp[intOf];omega
  .have hd:¬((i:Int)<(es.length:Int)):=by omega
   obtain rfl:i=es.length:=by omega
   clear hch hJ;go_wp2;go_ret;exact⟨_,us,rfl,iz.out.rws.lower (by omega),Tx.out⟩
end
section
open Go.Proofs.Tryz
open Go.RowKit Go.Sort
namespace Ku
def aW (es:List (Int×Int)):Nat->List Nat
 |0=>[]
 |k+1=>if dg es k≠0/\dg es k≠2 then aW es k++[k] else aW es k
theorem qW {es:List (Int×Int)} {k:Nat} (h:dg es k≠0/\dg es k≠2):aW es (k+1)=aW es k++[k]:=if_pos h
theorem Aj {es:List (Int×Int)} {k:Nat} (h:¬(dg es k≠0/\dg es k≠2)):aW es (k+1)=aW es k:=if_neg h
theorem zi (es:List (Int×Int)) (k:Nat):(aW es k).length<=k:=by
 induction k with
 |zero=>simp[aW]
 |succ k ih=>
  unfold aW
  split
  .simp;omega
  .omega
def adY (es:List (Int×Int)) (n:Nat) (w:World) (e:Ending) (w':World):Prop:=∃v,e= .returned v/\aj w' w.heap.size v (ZL (aW es n))/\Below w.heap.size w w'
end Ku
theorem zA (p n:Nat) (es:List (Int×Int)) (w:World) (hA:cL w (.pointer (some ⟨p,0,none⟩)) n es) (hv:Si.Val (n:Int) es):
 Calls prog 144 #[.pointer (some ⟨p,0,none⟩)] w (Ku.adY es n w):=by
 have hn:n<=1048576:=by have:=hv.hi;omega
 have HN:=ζ (N7 _ n es w hA);have HD:Hid (∀(v:Nat) (U:World),v<n->Below w.heap.size w U->Calls prog 209 #[.pointer (some ⟨p,0,none⟩),.int .i64 (v:Int)] U fun e w'=>e= .returned (.int .i64 (Ku.dg es v:Int))/\w'=U):=fun v U hv' hU=>by
  have:=mJ _ n es (v:Int) U (hA.later hU);rw[Ku.Ag hv'] at this;exact this
 clear hA hv;go_enter func144,ntmps144;go_wp2_with (go_at_call 123;refine HN.out.mono ?_;rintro e w1 ⟨rfl,hw1⟩;obtain rfl:=hw1.symm;refine aaj ?_);refine ζ ?_;go_wp2;go_loopw [3,8] (fun v cv wr=>∃k:Nat,k<=n/\cv= .int .i64 (k:Int)/\aj wr w.heap.size v (Ku.ZL (Ku.aW es k))/\Below w.heap.size w wr) (fun _ cv _=>n-(intOf cv).toNat)
 case atStart=>exact⟨0,aax _,rfl,aj.nil _ _,aae _ _⟩
 case round=>
  obtain⟨k,hk,rfl,hown,hb⟩:=hrel;obtain⟨U,rfl⟩:∃U,U=wr:=⟨wr,rfl⟩;have ct:=ζ hown;have HB:=ζ hb;have hs0:=hb.size;have hwk:IntKind.i64.wrap ((k:Int)+1)=(k:Int)+1:=by rw[aam];omega
  by_cases hlt:k<n
  .have aQ:(k:Int)<(n:Int):=by omega
   have sO:=ζ (HD.out k U hlt hb);obtain⟨d,hd⟩:∃d,Ku.dg es k=d:=⟨_,rfl⟩;rw[hd] at sO;have M9:=ζ hd;clear hown hb hd;go_wp2_with (go_at_call 209;refine sO.out.mono ?_;rintro e w1 ⟨rfl,hw1⟩;obtain rfl:=hw1.symm;refine aaj ?_);refine ζ ?_;by_cases hc:d≠0/\d≠2
   .have t1:((d:Int) != 0)=true:=by simp;omega
    have t2:((d:Int) != 2)=true:=by simp;omega
    have gS:Hid (Ku.ZL (Ku.aW es (k+1))=Ku.ZL (Ku.aW es k)++[(k:Int)]):=by
     refine ζ ?_;rw[Ku.qW (by rw[M9.out];exact hc)];simp[Ku.ZL]
    have dW:(Ku.ZL (Ku.aW es k)).length<=17592186044000:=by
     rw[Ku.bL];have:=Ku.zi es k;omega
    clear hc;go_wp2_with (at_builtin;refine bB rfl _ _ rfl _ w.heap.size _ _ (k:Int) ct.out hs0 dW rfl rfl ?_;refine aaj ?_);refine ζ ?_;intro v' w3 hrow3 _ _ hb3;have HR:=ζ hrow3;have aJ:=ζ (HB.out.trans hb3);clear hrow3 hb3;go_wp2;go_roundw
    case rel=>exact⟨k+1,by omega,by go_num,by rw[gS.out];exact HR.out,aJ.out⟩
    case measure=>simp[intOf];omega
   .have gS:Hid (Ku.ZL (Ku.aW es (k+1))=Ku.ZL (Ku.aW es k)):=by
     refine ζ ?_;rw[Ku.Aj (by rw[M9.out];exact hc)]
    by_cases h0:d=0
    .have t1:((d:Int) != 0)=false:=by simp[h0]
     clear hc h0;go_wp2;go_roundw
     case rel=>exact⟨k+1,by omega,by go_num,by rw[gS.out];exact ct.out,HB.out⟩
     case measure=>simp[intOf];omega
    .have t1:((d:Int) != 0)=true:=by simp;omega
     have t2:((d:Int) != 2)=false:=by simp;omega
     clear hc h0;go_wp2;go_roundw
     case rel=>exact⟨k+1,by omega,by go_num,by rw[gS.out];exact ct.out,HB.out⟩
     case measure=>simp[intOf];omega
  .have hd:¬((k:Int)<(n:Int)):=by omega
   obtain rfl:k=n:=by omega
   clear hown hb;go_wp2;go_ret;exact⟨_,rfl,ct.out,HB.out⟩
theorem KZ (p n:Nat) (es:List (Int×Int)) (la:Option Addr) (q lc d:Nat) (L:List Nat) (w:World) (hA:cL w (.pointer (some ⟨p,0,none⟩)) n es) (hq:L.length=q) (hL:aU w la (Ku.ZL L)) (hb:∀v∈L,v<n) (hl:q<=17592186044000) (r:Bool) (hr:r=true↔∀v∈L,Ku.dg es v=d):
 Calls prog 145 #[.pointer (some ⟨p,0,none⟩),.slice la q lc,.int .i64 (d:Int)] w fun e w'=>e= .returned (.bool r)/\Below w.heap.size w w':=by
 have HD:Hid (∀(v:Nat) (U:World),v<n->Below w.heap.size w U->Calls prog 209 #[.pointer (some ⟨p,0,none⟩),.int .i64 (v:Int)] U fun e w'=>e= .returned (.int .i64 (Ku.dg es v:Int))/\w'=U):=fun v U hv' hU=>by
  have:=mJ _ n es (v:Int) U (hA.later hU);rw[Ku.Ag hv'] at this;exact this
 have HL:=ζ hL;have M4:=ζ hb;have HR:=ζ hr;have HQ:=ζ hq;clear hA hL hb hr hq;go_enter func145,ntmps145;go_wp2;go_loopw [11] (fun cv wr=>∃k:Nat,k<=q/\cv= .int .i64 (k:Int)/\(∀(i v:Nat),i<k->L[i]? =some v->Ku.dg es v=d)/\wr=w) (fun cv _=>q-(intOf cv).toNat)
 case atStart=>exact⟨0,aax _,rfl,fun i v hi=>by omega,rfl⟩
 case round=>
  obtain⟨k,hk,rfl,hall,hwr⟩:=hrel;obtain rfl:=hwr.symm;have iG:=ζ hall;have hwk:IntKind.i64.wrap ((k:Int)+1)=(k:Int)+1:=by rw[aam];omega
  clear hwr hall;by_cases hlt:k<q
  .have aQ:(k:Int)<(q:Int):=by omega
   have hk0:(0:Int)<=(k:Int):=by omega
   obtain⟨v,hv⟩:∃v,L[k]? =some v:=⟨_,aac (by rw[HQ.out];exact hlt)⟩;have hvz:(Ku.ZL L)[k]? =some (v:Int):=by rw[Ku.CG,hv];rfl
   obtain⟨b,o,rfl,d0⟩:=HL.out k _ hvz;have sO:=ζ (HD.out v w (M4.out v (aai hv)) (aae _ _));obtain⟨dv,hd⟩:∃dv,Ku.dg es v=dv:=⟨_,rfl⟩;rw[hd] at sO;have M9:=ζ hd;have HV:=ζ hv;clear hv hvz hd;by_cases hc:dv=d
   .have t1:((dv:Int) != (d:Int))=false:=by simp[hc]
    have HN:Hid (∀(i v:Nat),i<k+1->L[i]? =some v->Ku.dg es v=d):=fun i v' hi hv'=>by
     by_cases e:i=k
     .subst e
      rw[HV.out] at hv';cases hv';rw[M9.out];exact hc
     .exact iG.out i v' (by omega) hv'
    clear hc;go_wp2_with (go_at_call 209;refine sO.out.mono ?_;rintro e w1 ⟨rfl,hw1⟩;obtain rfl:=hw1.symm;refine aaj ?_);refine ζ ?_;go_wp2;go_roundw
    case rel=>exact⟨k+1,by omega,by go_num,HN.out,by first|rfl|trivial⟩
    case measure=>simp[intOf];omega
   .have t1:((dv:Int) != (d:Int))=true:=by simp;omega
    have HF:Hid (r=false):=by
     refine ζ ?_;cases hr:r with
     |false=>rfl
     |true=>exact absurd (by rw[<-M9.out];exact HR.out.1 hr v (aai HV.out)) hc
    clear hc;go_wp2_with (go_at_call 209;refine sO.out.mono ?_;rintro e w1 ⟨rfl,hw1⟩;obtain rfl:=hw1.symm;refine aaj ?_);refine ζ ?_;go_wp2;go_ret;exact⟨by rw[HF.out];rfl,aae _ _⟩
  .have hd:¬((k:Int)<(q:Int)):=by omega
   have HF:Hid (r=true):=HR.out.2 fun v hv=>by
    obtain⟨i,hi⟩:=aaS hv;exact iG.out i v (by have:=(aah.1 hi).1;rw[HQ.out] at this;omega) hi
   go_wp2;go_ret;exact⟨by rw[HF.out];rfl,aae _ _⟩
end
section
open Go.Proofs.Tryz
open Go.RowKit Go.Sort Go.Maps
theorem O4:laidOutB prog=true:=by kernel_rfl
theorem Ib:(57:TypeId)<prog.types.size:=of_decide_eq_true (by kernel_rfl)
theorem Ol:(match prog.underlying 57 with|some (.array _ _)|some (.struct _)=>true|_=>false)=true:=by kernel_rfl
theorem LM:prog.keyTypeAt 2 57=true:=by kernel_rfl
theorem Bu:Keyed prog 57:=Keyed.of_law (deep_law_laid O4 (m:=2) (by omega) Ib LM Ol)
theorem Gc:prog.keyType 57=true:=by kernel_rfl
theorem Cz:prog.cellsOf 57=2:=by kernel_rfl
theorem Lz {a b:Nat} (h:a<b):∃m,b=m+1:=⟨b-1,by omega⟩
theorem K6:∃m,prog.types.size=m+1:=Lz Ib
theorem KY (w:World):(zeroValue 3).run prog w= .ok (.int .i64 0) w:=by kernel_rfl
def nG (e:Int×Int):Value:= .agg #[.int .i64 e.1,.int .i64 e.2]
def nQ (e:Int×Int):Lit:= .string (keyBytes [.int .i64 e.1,.int .i64 e.2])
theorem keyOf_pair {e:Int×Int} (h:fW e):keyOf prog 57 (nG e)=some (nQ e):=by
 obtain⟨m,hm⟩:=K6;have w1:=Qs h.1;have w2:=Qs h.2;unfold keyOf nG nQ;simp only[Tryz.underlying57];rw[if_pos (by simp[Gc,Value.formed,Tryz.underlying57,Cz]),hm];unfold Program.keyLits;simp only[Tryz.underlying57,Value.cells];rw[if_pos (by rw[Cz];rfl),show List.range 2=[0,1] from rfl];simp[uJ,Program.keyLits,Tryz.underlying3,w1,w2]
theorem yL (e:Int×Int):WideAt.IsKeyLit (nQ e):=by unfold nQ;trivial
theorem O5 {a b:Int×Int} (ha:fW a) (hb:fW b) (h:nQ a=nQ b):a=b:=by
 have h1:=keyOf_pair ha;have h2:=keyOf_pair hb;rw[<-h] at h2;have:=Bu.inj h1 h2;unfold nG at this;simp at this;exact Prod.ext this.1 this.2
namespace Ku
def OM (w:World) (b n:Nat) (f:Int×Int->Option Nat):Prop:=∃D:DataW Unit,w.ownsMap prog 57 (plainElem prog 3) b n D/\∀p,fW p->Maps.has D (nQ p)=(f p).isSome/\D.atKey (nQ p) (.lit (.int .i64 0))= .lit (.int .i64 (((f p).getD 0:Nat):Int))
def Hp (f:Int×Int->Option Nat) (p:Int×Int) (i:Nat):Int×Int->Option Nat:=fun q=>if q=p then some i else f q
section
variable {w w':World} {b n:Nat} {f:Int×Int->Option Nat}
theorem OM.kept (h:OM w b n f) (hb:w'.heap[b]? =w.heap[b]?):OM w' b n f:=by
 obtain⟨D,⟨es,clock,h1,h2⟩,h3⟩:=h;exact⟨D,⟨es,clock,hb.trans h1,h2⟩,h3⟩
theorem OM.lt (h:OM w b n f):b<w.heap.size:=by
 obtain⟨D,h1,_⟩:=h;exact h1.lt
theorem OM.later (h:OM w b n f) (hb:Below w.heap.size w w'):OM w' b n f:=h.kept (hb.block b h.lt)
theorem OM.new (w:World):OM (w.alloc (.map #[] 0)) w.heap.size 0 (fun _=>none):=⟨.map [],World.ownsMap_made _ _ _ _,fun p _=>⟨by simp[Maps.has],rfl⟩⟩
theorem OM.Q3 (h:OM w b n f) {p:Int×Int} (hp:fW p):(Instr.lookup 246 (.map (some b)) (nG p) true).run prog w= .ok (.tuple #[.int .i64 (((f p).getD 0:Nat):Int),.bool (f p).isSome]) w:=by
 obtain⟨D,hD,hf⟩:=h;obtain⟨v,ps,hrun,hv⟩:=hD.look_ok (t:=246) Bu Tryz.underlying246 (KY w) (plainElem_int Tryz.underlying3 (by decide)) (keyOf_pair hp);obtain⟨c,rfl,hc,_⟩:=plainElem_int_inv Tryz.underlying3 hv;obtain⟨h1,h2⟩:=hf p hp;rw[h1] at hrun;have:=congrArg Prod.fst hc;dsimp only at this;rw[h2] at this;cases this;exact hrun
theorem OM.look (h:OM w b n f) {p:Int×Int} (hp:fW p):∃c:Int,(Instr.lookup 246 (.map (some b)) (nG p) true).run prog w= .ok (.tuple #[.int .i64 c,.bool (f p).isSome]) w/\∀i:Nat,f p=some i->c=(i:Int):=⟨_,h.Q3 hp,fun i hi=>by rw[hi];rfl⟩
theorem OM.put {D:DataW Unit} (hf:∀p,fW p->Maps.has D (nQ p)=(f p).isSome/\D.atKey (nQ p) (.lit (.int .i64 0))= .lit (.int .i64 (((f p).getD 0:Nat):Int))) (hD:IsMap D) {p:Int×Int} (hp:fW p) (i:Nat) (h:w'.ownsMap prog 57 (plainElem prog 3) b (n+1) (D.put (nQ p) (.lit (.int .i64 (i:Int))))):OM w' b (n+1) (Hp f p i):=by
 refine⟨_,h,fun q hq=> ?_⟩;unfold Hp;by_cases e:q=p
 .subst e
  rw[if_pos rfl,has_put_same hD (yL q),atKey_put_same hD (yL q)];exact⟨rfl,rfl⟩
 .have hk:nQ q≠nQ p:=fun h=>e (O5 hq hp h)
  rw[if_neg e,has_put_other hk,atKey_put_other hk];exact hf q hq
end
def ends (l:List Int):Int×Int:=(gI l 0,gI l (l.length-1))
def opn (R:List (List Int)):Nat->Int×Int->Option Nat
 |0=>fun _=>none
 |k+1=>if (ends (R.getD k [])).1≠(ends (R.getD k [])).2 then Hp (opn R k) (ends (R.getD k [])) k else opn R k
theorem A8 {R:List (List Int)} {k:Nat} {l:List Int} (hl:R[k]? =some l) (h:(ends l).1≠(ends l).2):opn R (k+1)=Hp (opn R k) (ends l) k:=by
 have e:R.getD k []=l:=by rw[aao,hl];rfl
 simp only[opn];rw[e,if_pos h]
theorem FW {R:List (List Int)} {k:Nat} {l:List Int} (hl:R[k]? =some l) (h:(ends l).1=(ends l).2):opn R (k+1)=opn R k:=by
 have e:R.getD k []=l:=by rw[aao,hl];rfl
 simp only[opn];rw[e,if_neg (by simpa using h)]
theorem ju {R:List (List Int)} {p:Int×Int} {i:Nat}:∀{k:Nat},k<=R.length->opn R k p=some i->i<k/\∃l,R[i]? =some l/\ends l=p/\p.1≠p.2
 |0,_,h=>by cases h
 |k+1,hk,h=>by
  obtain⟨l,hl⟩:∃l,R[k]? =some l:=⟨_,aac (by omega)⟩;by_cases he:(ends l).1=(ends l).2
  .rw[FW hl he] at h
   obtain⟨h1,h2⟩:=ju (by omega) h;exact⟨by omega,h2⟩
  .rw[A8 hl he] at h
   unfold Hp at h
   split at h
   .rename_i e
    cases h;exact⟨by omega,l,hl,e.symm,by rw[e];exact he⟩
   .obtain⟨h1,h2⟩:=ju (by omega) h
    exact⟨by omega,h2⟩
theorem xp {R:List (List Int)} {p:Int×Int}:∀{k:Nat},k<=R.length->opn R k p=none->p.1≠p.2->∀i l,i<k->R[i]? =some l->ends l≠p
 |0,_,_,_,i,l,hi,_=>by omega
 |k+1,hk,h,hp,i,l',hi,hl'=>by
  obtain⟨l,hl⟩:∃l,R[k]? =some l:=⟨_,aac (by omega)⟩;by_cases he:(ends l).1=(ends l).2
  .rw[FW hl he] at h
   by_cases hik:i=k
   .subst hik
    rw[hl] at hl';cases hl';intro e;rw[e] at he;exact hp he
   .exact xp (by omega) h hp i l' (by omega) hl'
  .rw[A8 hl he] at h
   unfold Hp at h
   split at h
   .cases h
   .rename_i hne
    by_cases hik:i=k
    .subst hik
     rw[hl] at hl';cases hl';exact fun e=>hne e.symm
    .exact xp (by omega) h hp i l' (by omega) hl'
def YQ (R:List (List Int)) (cv:Value) (w:World) (e:Ending) (w':World):Prop:=∃b,e= .returned (.agg #[cv,.map (some b)])/\w.heap.size<=b/\OM w' b R.length (opn R R.length)/\Below w.heap.size w w'
end Ku
end
end Go.Proofs.YtdbjpbjocmcpkaaGreatDoor
