import Derived.Test.YtdbjpbjocmcpkaaGreatDoorMj29
set_option maxHeartbeats 16000000
set_option maxRecDepth 100000
namespace Go.Proofs.YtdbjpbjocmcpkaaGreatDoor
section
open Go.RowKit Go.Sort
namespace Ku
def CG:Nat->Code->Code
 |0,c=>c
 |n+1,.seq _ d=>CG n d
 |_+1,c=>c
structure KL (B0 kb rb:Nat) (kd:Int) (bv:Value) (R:List (List Int)) (br:List Int) (V:World) (ps:List (Nat×Nat)) (pv:Value) (vs:List Value) (W:World):Prop where
 low:av (fun b=>b=kb) V W
 box:W.heap[kb]? =some (.cells #[.int .i64 kd,bv,pv] 82 (0,0))
 own:W.ownsRow V.heap.size 55 1 pv ps.length vs
 len:vs.length=ps.length
 sees:∀(u:Nat) (x:Value) (p:Nat×Nat),vs[u]? =some x->ps[u]? =some p->fW W x (way R br p).1
 far:∀(u:Nat) (x:Value) (b:Nat),vs[u]? =some x->x.ownBlock=some b->b≠kb/\b≠rb/\pv.ownBlock≠some b/\b<W.heap.size/\B0<=b
 one:∀p∈ps,(way R br p).2=1
section
variable {B0 kb rb:Nat} {kd:Int} {bv:Value} {R:List (List Int)} {br:List Int} {V:World} {ps:List (Nat×Nat)} {pv:Value} {vs:List Value} {W:World}
theorem KL.lt (h:KL B0 kb rb kd bv R br V ps pv vs W):kb<W.heap.size:=(abX.1 h.box).1
theorem KL.later {W':World} (h:KL B0 kb rb kd bv R br V ps pv vs W) (hb:Below W.heap.size W W'):KL B0 kb rb kd bv R br V ps pv vs W':=by
 refine⟨h.low.later hb,aZ h.box hb,cO h.own (fun g _ _ hg=>hb.block g hg),h.len,fun u x p hx hp=>(h.sees u x p hx hp).later hb,fun u x b hx hb'=> ?_,h.one⟩;obtain⟨a1,a2,a3,a4,a5⟩:=h.far u x b hx hb';exact⟨a1,a2,a3,abd a4 hb.size,a5⟩
theorem KL.push {W3:World} {ob:Obj} {x j9:Value} {p:Nat×Nat} (hkV:kb<V.heap.size) (h:KL B0 kb rb kd bv R br V ps pv vs W) (hx:fW W x (way R br p).1) (hone:(way R br p).2=1) (hxb:∀b,x.ownBlock=some b->b≠kb/\b≠rb/\pv.ownBlock≠some b/\b<W.heap.size/\B0<=b)
 (ho:W3.ownsRow V.heap.size 55 1 j9 (ps.length+1) (vs++[x])) (hg:(W.alloc ob).grownBy W3 pv.ownBlock) (hat:j9.ownBlock=pv.ownBlock\/j9.ownBlock=some (W.heap.size+1)):
 (W3.cell? ⟨kb,2,none⟩=some pv/\W3.frozen? ⟨kb,2,none⟩=false)/\KL B0 kb rb kd bv R br V (ps++[p]) j9 (vs++[x]) (W3.setCell ⟨kb,2,none⟩ j9):=by
 have hk:=h.lt;have hVW:=h.low.size;have LH:∀b,pv.ownBlock=some b->V.heap.size<=b:=fun b hb=>(aaO h.own b hb).1
 have keep:∀b,b<W.heap.size->pv.ownBlock≠some b->W3.heap[b]? =W.heap[b]? :=fun b hb hne=>by
  rw[hg.block b (by simp;omega) (fun e=>hne e.symm)];exact heap_alloc_old W ob hb
 have Vx:W3.heap[kb]? =some (.cells #[.int .i64 kd,bv,pv] 82 (0,0)):=(keep kb hk (fun e=>by have:=LH kb e;omega)).trans h.box;obtain⟨_,_,c2,cf⟩:=aQ Vx;have hsz:W.heap.size<=W3.heap.size:=by have:=hg.size;simp at this;omega
 have Zo:(W3.setCell ⟨kb,2,none⟩ j9).heap.size=W3.heap.size:=by simp
 have XK:∀b,b≠kb->(W3.setCell ⟨kb,2,none⟩ j9).heap[b]? =W3.heap[b]? :=fun b hb=>heap_setCell_other _ ⟨kb,2,none⟩ b _ hb
 have hall:∀(u:Nat) (y:Value),(vs++[x])[u]? =some y->(∃u',vs[u']? =some y/\u'=u/\u<ps.length)\/(y=x/\u=ps.length):=fun u y hy=>by
  by_cases hu:u<vs.length
  .rw[aa5 hu] at hy
   exact .inl ⟨u,hy,rfl,by rw[<-h.len];exact hu⟩
  .rw[abk (by omega)] at hy
   have:u-vs.length=0:=by
    have:=(aaH.1 hy).1;simp at this;omega
   rw[this] at hy;cases hy;exact .inr ⟨rfl,by rw[<-h.len];omega⟩
 refine⟨⟨c2,cf 2⟩,?_,?_,?_,by simp[h.len],?_,?_,?_⟩
 .refine⟨?_,?_,?_,by rw[Zo];omega,fun b hb hne=> ?_⟩
  .exact(show W3.os=V.os from hg.os.trans h.low.os)
  .exact(show W3.tape=V.tape from hg.tape.trans h.low.tape)
  .exact(show W3.output=V.output from hg.output.trans h.low.output)
  .rw[XK b hne,keep b (by omega) (fun e=>by have:=LH b e;omega)]
   exact h.low.block b hb hne
 .rw[heap_setCell_same W3 kb 2 _ _ _ Vx]
  simp
 .rw[aaZ]
  exact cO ho (fun g hg1 hg2 _=>XK g (by omega))
 .intro u y q hy hq
  rcases hall u y hy with ⟨u',rK,rfl,hlt⟩|⟨rfl,rfl⟩
  .rw[aa5 hlt] at hq
   refine(h.sees u' y q rK hq).same fun b hb=> ?_
   obtain⟨a1,_,a2,a3,_⟩:=h.far u' y b rK hb;rw[XK b a1,keep b a3 a2]
  .rw[abk (by omega)] at hq
   simp at hq;subst hq;refine hx.same fun b hb=> ?_
   obtain⟨a1,_,a2,a3,_⟩:=hxb b hb;rw[XK b a1,keep b a3 a2]
 .intro u y b hy hb
  have key:b≠kb/\b≠rb/\pv.ownBlock≠some b/\b<W.heap.size/\B0<=b:=by
   rcases hall u y hy with ⟨u',rK,rfl,hlt⟩|⟨rfl,rfl⟩
   .exact h.far u' y b rK hb
   .exact hxb b hb
  obtain⟨a1,a0,a2,a3,a5⟩:=key;refine⟨a1,a0,fun e=> ?_,by rw[Zo];omega,a5⟩;rcases hat with e1|e1
  .exact a2 (e1▸e)
  .rw[e1] at e
   cases e;omega
 .intro q hq
  rcases abo.1 hq with hq|hq
  .exact h.one q hq
  .cases abe.1 hq
   exact hone
theorem KL.aaM (h:KL B0 kb rb kd bv R br V ps pv vs W) {W':World} (hk:∀b,b≠rb->b<W.heap.size->W'.heap[b]? =W.heap[b]?) (hr:rb<V.heap.size) (hB:B0<=V.heap.size):yL B0 W' pv (ps.map fun p=>(way R br p).1):=by
 have hrow:W'.ownsRow V.heap.size 55 1 pv ps.length vs:=cO h.own fun g _ hg hl=>hk g (by omega) hl
 rcases h.own.2 with ⟨e,h0⟩|⟨g,cap,cur,e,_⟩
 .refine⟨none,0,by rw[e,aa3,h0],fun k l hl=> ?_⟩
  have:=(aaH.1 hl).1;rw[aa3] at this;omega
 .refine⟨_,cap,by rw[e,aa3],fun k l hl=> ?_⟩
  rw[abj] at hl;obtain⟨p,hp,rfl⟩:=abI.1 hl;obtain⟨x,hx⟩:∃x,vs[k]? =some x:=⟨_,aaE (by rw[h.len];exact(aaH.1 hp).1)⟩;refine⟨g,0,x,rfl,aa1 hB (aaO h.own g (by rw[e];rfl)).1,?_,(h.sees k x p hx hp).same fun b hb=> ?_,fun b hb=>(h.far k x b hx hb).2.2.2.2⟩
  .have:=ab5 hrow (g:=g) (by rw[e];rfl) k x hx
   have ea:((⟨g,0,none⟩:Addr).add k)=⟨g,0+k,none⟩:=by
    by_cases h0:k=0<;>simp[Addr.add,h0]
   rw[ea] at this;exact this
  .obtain⟨_,a2,_,a4,_⟩:=h.far k x b hx hb
   exact hk b a2 a4
end
theorem KH (kd L:Nat):∀{i j:Nat},(fk kd i j).length<=j/\(out kd L i).length<=i*L:=by
 have h1:∀i j,(fk kd i j).length<=j:=by
  intro i j
  induction j with
  |zero=>exact aaF _
  |succ j ih=>
   unfold fk
   split
   .rw[aaZ];simp;omega
   .omega
 intro i j;refine⟨h1 i j,?_⟩
 induction i with
 |zero=>simp[out]
 |succ i ih=>
  unfold out;rw[aaZ,adF];have:=h1 i L;omega
theorem Dd {kd i j:Nat} (hij:i<j) (hs:¬(kd=2/\(3<=i\/j<3))):∀{k:Nat},j<k->(i,j)∈fk kd i k
 |0,h=>by omega
 |k+1,h=>by
  by_cases e:j=k
  .subst e
   rw[Lr hij hs];simp
  .have:=Dd hij hs (k:=k) (by omega)
   unfold fk
   split
   .exact abV _ this
   .exact this
theorem Dc {kd q i j:Nat} (hi:i<q) (hij:i<j) (hj:j<q) (hs:¬(kd=2/\(3<=i\/j<3))):(i,j)∈out kd q q:=by
 have:∀k,i<k->(i,j)∈out kd q k:=by
  intro k
  induction k with
  |zero=>intro h;omega
  |succ k ih=>
   intro h;unfold out;by_cases e:i=k
   .subst e
    exact adz _ (Dd hij hs hj)
   .exact abV _ (ih (by omega))
 exact this q hi
end Ku
theorem TZ {t0 t1 t3 t4 t5 t6 t8 t9 t10 t11 t12 t14 t15 t16 t17 t18 t19 t20 t21 t22 t23 t24 t25 t26 t27 t28 t29 t30 t31 t32 t33 t34 t35 t36 t37 t38 t39 t40 t41 t42 t43 t44 t45 t46 t47 t48 t49 t50 t51 t52 t53 t54 t55 t56 t57 t58 t59 t60 t61 t62 t63 t64 t65 t66 t67 t68 t69 t70 t71 t72 t73 t74 t75 t76 t77 t78 t79 t80 t81 t82 t83 t84 t85 t86 t87 t88 t89 t90 t91 t92 t93 t94 t95 t96 t97 t98 t99 t100 t101 t102 t103 t104 t105 t106 t107 t108 t109 t110 t111 t112 t113 t114 t115 t116 t117 t118 t119 t120 t121 t122 t123 t124 t125 t126 t127 t128 t129 t130 t131 t132 t133 t134 t135 t136 t137 t138 t139 t140 t141:Value} (B kb rb J cc q bc kd:Nat) (ca ba:Option Addr) (us:List Value) (R:List (List Int)) (br:List Int) (n:Int) (es:List (Int×Int)) (w V:World)
 (Vj:kd=1\/kd=2) (hq:br.length=q) (OJ:q<=6) (hJ:R.length=J) (Md:J<=17592186044000) (Mc:ay V B (.slice ca J cc) us R) (Fz:∀b,((Value.slice ca J cc).ownBlock=some b\/cS us b)->b≠kb/\b≠rb) (hlr:∀l∈R,1<=l.length/\l.length<=17592186044000)
 (hbr:aV V ba br) (LZ:∀x,ba=some x->x.block≠kb/\x.block≠rb/\w.heap.size<=x.block) (hBw:w.heap.size<=B) (jD:V.heap[kb]? =some (.cells #[.int .i64 (kd:Int),.slice ba q bc,.slice none 0 0] 82 (0,0))) (hrb:V.heap[rb]? =some (.cells #[.int .i64 0,.slice none 0 0,.slice none 0 0] 82 (0,0))) (hne:rb≠kb)
 (eT:w.heap.size<=kb/\w.heap.size<=rb) (hB:Below w.heap.size w V) (hpost:∀e w',Ku.Found w.heap.size kd R br e w'->Below w.heap.size w w'->Ku.EI n es w e w'):
 Code.wp Tryz.prog (Ku.CG 12 (Tryz.f33.body.getD .skip)) (bodyPost Tryz.prog Tryz.f33 (Ku.EI n es w)) { tmps:= #[t0,t1,.pointer (some ⟨rb,0,none⟩),t3,t4,t5,t6,.slice ca J cc,t8,t9,t10,t11,t12,.pointer (some ⟨kb,0,none⟩),t14,t15,t16,t17,t18,t19,t20,t21,t22,t23,t24,t25,t26,t27,t28,t29,t30,t31,t32,t33,t34,t35,t36,t37,t38,t39,t40,t41,t42,t43,t44,t45,t46,t47,t48,t49,t50,t51,t52,t53,t54,t55,t56,t57,t58,t59,t60,t61,t62,t63,t64,t65,t66,t67,t68,t69,t70,t71,t72,t73,t74,t75,t76,t77,t78,t79,t80,t81,t82,t83,t84,t85,t86,t87,t88,t89,t90,t91,t92,t93,t94,t95,t96,t97,t98,t99,t100,t101,t102,t103,t104,t105,t106,t107,t108,t109,t110,t111,t112,t113,t114,t115,t116,t117,t118,t119,t120,t121,t122,t123,t124,t125,t126,t127,t128,t129,t130,t131,t132,t133,t134,t135,t136,t137,t138,t139,t140,t141],defers:=[] } V:=by
 obtain⟨iR,Yl,Yt,hR1,hR2⟩:=info_parts Tryz.nu;have hkV:kb<V.heap.size:=lt_of_block jD;have hrV:rb<V.heap.size:=lt_of_block hrb;have Nq:Hid (Ku.KL w.heap.size kb rb (kd:Int) (.slice ba q bc) R br V [] (.slice none 0 0) [] V):=⟨av.refl _ _,jD,acG _ _ _ _,rfl,fun u x p hx=>by simp at hx,fun u x b hx=>by simp at hx,fun p hp=>by simp at hp⟩;have JO:Hid (∀U:World,av (fun b=>b=kb) V U->ay U B (.slice ca J cc) us R/\aV U ba br/\U.heap[rb]? =some (.cells #[.int .i64 0,.slice none 0 0,.slice none 0 0] 82 (0,0))/\Below w.heap.size w U):=fun U hU=>by
  refine⟨Mc.kept fun b hb hl=>hU.block b hl (Fz b hb).1,fun j x hj=> ?_,(hU.block rb hrV hne).trans hrb,?_⟩
  .obtain⟨b,o,rfl,hc⟩:=hbr j x hj
   exact⟨b,o,rfl,(abF (a:=⟨b,o+j,none⟩) (hU.block b (block_lt_of_cell hc) (LZ _ rfl).1)).trans hc⟩
  .exact⟨hU.os.trans hB.os,hU.tape.trans hB.tape,hU.output.trans hB.output,aa1 hB.size hU.size,fun b hb=>(hU.block b (abd hb hB.size) (by omega)).trans (hB.block b hb)⟩
 have HQ:=ζ hq;have HJ:=ζ hJ;have EU:=ζ hlr;have BU:=ζ Fz;have HUL:Hid (∀b,cS us b->b<V.heap.size/\w.heap.size<=b):=fun b hb=>⟨(Mc.within (.inr hb)).2,aa1 hBw (Mc.within (.inr hb)).1⟩
 have Fy:w.heap.size<=V.heap.size:=hB.size;have yZ:=ζ LZ;have PI:=ζ hpost;have HKD:=ζ Vj;have ake:kd<=2:=by omega
 clear jD hrb Mc hbr hB hq hJ hlr Fz LZ hpost Vj;simp only[Tryz.f33,Option.getD,Ku.CG];go_wp2;go_loopw [14] (fun cv wr=>∃(i:Nat) (pv:Value) (vs:List Value),i<=q/\cv= .int .i64 (i:Int)/\Ku.KL w.heap.size kb rb (kd:Int) (.slice ba q bc) R br V (Ku.out kd q i) pv vs wr) (fun cv _=>q-(intOf cv).toNat)
 case atStart=>exact⟨0,_,_,aaR _,rfl,Nq.out⟩
 case round=>
  obtain⟨i,pv,vs,hiN,rfl,hks⟩:=hrel;obtain⟨U,rfl⟩:∃U,U=wr:=⟨wr,rfl⟩;have WU:=ζ hks;have hwi:IntKind.i64.wrap ((i:Int)+1)=(i:Int)+1:=by rw[aaK];omega
  obtain⟨b0,b1,b2,bf⟩:=aQ hks.box;by_cases hlt:i<q
  .have aP:(i:Int)<(q:Int):=by omega
   clear hks bf;go_wp2;go_loopw [15] (fun cv wx=>∃(j:Nat) (z:Int) (pv:Value) (vs:List Value),i+1<=j/\j<=q/\cv= .int .i64 z/\z=(j:Int)/\Ku.KL w.heap.size kb rb (kd:Int) (.slice ba q bc) R br V (Ku.out kd q i++Ku.fk kd i j) pv vs wx) (fun cv _=>q-(intOf cv).toNat)
   case atStart=>exact⟨i+1,_,pv,vs,aaF _,by omega,rfl,by omega,by rw[Ku.Ls kd i (aaF _),abP];exact WU.out⟩
   case round=>
    obtain⟨j,z,j9,vs',hij,hjN,rfl,rfl,hks⟩:=hrel;obtain⟨X,rfl⟩:∃X,X=wr:=⟨wr,rfl⟩;have Ag:=ζ hks;have X7:IntKind.i64.wrap ((j:Int)+1)=(j:Int)+1:=by rw[aaK];omega
    clear b0 b1 b2;obtain⟨b0,b1,b2,bf⟩:=aQ hks.box;by_cases hjt:j<q
    .have aki:(j:Int)<(q:Int):=by omega
     by_cases hsk:kd=2/\(3<=i\/j<3)
     .have HN:Hid (Ku.fk kd i (j+1)=Ku.fk kd i j):=Ku.XZ hsk
      have k2:((kd:Int)==2)=true:=by rw[hsk.1];rfl
      clear hks bf;by_cases hi3:3<=i
      .have g3:(3:Int)<=(i:Int):=by omega
       clear hsk;go_wp2;go_roundw
       case rel=>exact⟨j+1,_,j9,vs',by omega,by omega,rfl,by omega,by rw[HN.out];exact Ag.out⟩
       case measure=>simp[intOf];omega
      .have g3:¬(3:Int)<=(i:Int):=by omega
       have g4:(j:Int)<3:=by omega
       clear hsk;go_wp2;go_roundw
       case rel=>exact⟨j+1,_,j9,vs',by omega,by omega,rfl,by omega,by rw[HN.out];exact Ag.out⟩
       case measure=>simp[intOf];omega
     .have HN:Hid (Ku.fk kd i (j+1)=Ku.fk kd i j++[(i,j)]):=Ku.Lr (by omega) hsk
      obtain⟨hRX,SR,UX,UE⟩:=JO.out X hks.low;obtain⟨x,hx⟩:∃x,br[i]? =some x:=⟨_,aaE (by rw[HQ.out];exact hlt)⟩;obtain⟨y,hy⟩:∃y,br[j]? =some y:=⟨_,aaE (by rw[HQ.out];exact hjt)⟩;obtain⟨bb,bo,rfl,cx⟩:=SR i x hx;obtain⟨b',o',e',cy⟩:=SR j y hy;cases e';have JQ:=ζ (Ku.bR hx);have W6:=ζ (Ku.bR hy);have nS:(0:Int)<=(i:Int):=by omega
      have hj0:(0:Int)<=(j:Int):=by omega
      have hS:∀Y,Below X.heap.size X Y->(Y.cell? ⟨kb,1,none⟩=some (.slice (some ⟨bb,bo,none⟩) q bc)/\Y.cell? ⟨bb,bo+i,none⟩=some (.int .i64 x)/\Y.cell? ⟨bb,bo+j,none⟩=some (.int .i64 y)/\Below X.heap.size X Y):=fun Y hY=>⟨(hY.cell (p:=⟨kb,1,none⟩) (block_lt_of_cell b1)).trans b1,(hY.cell (p:=⟨bb,bo+i,none⟩) (block_lt_of_cell cx)).trans cx,(hY.cell (p:=⟨bb,bo+j,none⟩) (block_lt_of_cell cy)).trans cy,hY⟩
      have HS:=ζ hS;have hbr:Below X.heap.size X X.drew:=(aaG _ _).drew;have Hy:Hid (∀Y,Below X.heap.size X Y->Calls Tryz.prog 66 #[.slice ca J cc,.int .i64 x,.int .i64 y] Y (Ku.Xw us R x y Y)):=fun Y hY=>Fv B ca J cc us R x y Y HJ.out (hRX.later hY) Md EU.out
      have Tt:=ζ UE;have HRB:Hid (X.heap[rb]? =some (.cells #[.int .i64 0,.slice none 0 0,.slice none 0 0] 82 (0,0))):=ζ UX;have YY:=ζ hsk;have k2:((kd:Int)==2)=false\/(((kd:Int)==2)=true/\¬(3:Int)<=(i:Int)/\¬(j:Int)<3):=by
       by_cases h:kd=2
       .exact .inr ⟨by rw[h];rfl,by omega,by omega⟩
       .exact .inl (by simp;omega)
      clear hks bf hRX SR UX UE hx hy hS hsk;have afA:∀(X6:World) (v:Value),Ku.fW X6 v (Ku.cI R x y R.length).1->Ku.From us X v->Below X.heap.size X X6->True:=fun _ _ _ _ _=>trivial
      clear afA;rcases k2 with k2|⟨k2,g3,g4⟩
      .go_wp2_with fail
       go_region_held3 (fun Y=>Y.cell? ⟨kb,1,none⟩=some (.slice (some ⟨bb,bo,none⟩) q bc)/\Y.cell? ⟨bb,bo+i,none⟩=some (.int .i64 x)/\Y.cell? ⟨bb,bo+j,none⟩=some (.int .i64 y)/\Below X.heap.size X Y)
        (exact HS.out _ (by first|assumption|exact hbr))
        ((go_at_call 66;refine(Hy.out _ (by first|assumption|exact hbr)).mono ?_;rintro e w6 ⟨v6,rfl,Jc,zS,dO⟩;have hbz:Below X.heap.size X w6:=acd (by first|assumption|exact hbr) (dO.mono (acv (by first|assumption|exact hbr)))))
       have JP:=ζ (Ag.out.later hbz);have EO:Hid (Ku.way R br (i,j)=Ku.cI R x y R.length):=by
        unfold Ku.way;rw[JQ.out,W6.out];exact ζ rfl
       have hf:Ku.From us X v6:=zS;have aeo:X.heap.size<=w6.heap.size:=hbz.size;by_cases h1:(Ku.cI R x y R.length).2=1
       .have e1:(((Ku.cI R x y R.length).2:Int)==1)=true:=by rw[h1];rfl
        rw[e1];have hnn:=Ku.EA R x y (fun l hl=>(EU.out l hl).1) R.length (aaF _) (by rw[h1];decide);have PB:Hid (∀b,v6.ownBlock=some b->b≠kb/\b≠rb/\j9.ownBlock≠some b/\b<w6.heap.size/\w.heap.size<=b):=by
         refine ζ fun b hb=> ?_
         have a4:=Jc.lt hnn hb;have hpl:=fun e=>aaO Ag.out.own b e
         rcases hf b hb with ⟨u,hu,hub⟩|hge
         .obtain⟨t,ht⟩:=abg hu
          have hin:cS us b:=⟨t,u,ht,hub⟩;have a1:=BU.out b (.inr hin);have a2:=HUL.out b hin;refine⟨a1.1,a1.2,fun e=> ?_,a4,a2.2⟩;have:=(hpl e).1;omega
         .have hv:=Ag.out.low.size
          refine⟨by omega,by omega,fun e=> ?_,a4,by omega⟩;have:=(hpl e).2;omega
        obtain⟨va,vc,cG,Vm⟩:=Jc;obtain⟨Lb,BR⟩:∃Lb,(Ku.cI R x y R.length).1.length=Lb:=⟨_,rfl⟩;have BW:Hid (Ku.fW w6 v6 (Ku.way R br (i,j)).1):=by rw[EO.out];exact⟨va,vc,cG,Vm⟩
        rw[BR] at cG;subst cG;obtain⟨P,hP⟩:∃P,(Ku.out kd q i++Ku.fk kd i j).length=P:=⟨_,rfl⟩;have hPl:P<=100:=by
         rw[<-hP,aaZ];have h1:=(Ku.KH kd q (i:=i) (j:=j));have h2:i*q<=6*6:=adu (by omega) (by omega);omega
        obtain⟨pa,pc,hpe⟩:∃pa pc,j9= .slice pa P pc:=by
         rcases Ag.out.own.2 with ⟨e,h0⟩|⟨g,cap,cur,e,_⟩
         .exact⟨none,0,by rw[e,<-hP,h0]⟩
         .exact⟨_,cap,by rw[e,<-hP]⟩
        subst hpe;obtain⟨c0,c1,c2,cf⟩:=aQ JP.out.box;have FK:=cf 2;have ET:Hid (w6.ownsRow V.heap.size 55 1 (.slice pa P pc) P vs'):=by
         have:=JP.out.own;rw[hP] at this;exact ζ this
        have HP:=ζ hP;have hV6:V.heap.size<=w6.heap.size:=JP.out.low.size;have HWO:Hid ((Ku.way R br (i,j)).2=1):=by rw[EO.out];exact h1
        clear cf hbz dO zS hf hnn Vm BR hP h1 e1 hbr b0 b1 b2 cx cy HS Hy;go_wp2_with (at_builtin;refine wpList_append_own_at _ rfl _ _ 25 rfl V.heap.size 55 iR (.slice none 0 0) 1 24 Tryz.underlying25 Yl Yt hR1 hR2 rfl (by decide) _ _ _ rfl (abv ET.out _) ⟨w6.heap.size,0,none⟩ 1 1 [.slice va Lb vc] rfl rfl (cell_one_new _ _ _) (by simp[Value.oneCell']) (by unfold maxLen;omega) (by omega) (by simp;omega) ?_;refine aaI ?_);refine ζ ?_;intro v' w4 gT mq _ sK;have sJ:v'.ownBlock=(Value.slice pa P pc).ownBlock\/v'.ownBlock=some (w6.heap.size+1):=by simpa using sK
        obtain⟨⟨d2,d3⟩,hK4⟩:=JP.out.push hkV BW.out HWO.out PB.out (by rw[HP.out];exact gT) mq sJ;obtain⟨qa,qc,hqe⟩:∃qa qc,v'= .slice qa (P+1) qc:=by
         rcases gT.2 with ⟨e,h0⟩|⟨g,cap,cur,e,_⟩
         .omega
         .exact⟨_,cap,e⟩
        subst hqe;have WV:=ζ hK4;clear gT mq sK sJ hK4;go_wp2;go_roundw
        case rel=>exact⟨j+1,_,_,_,by omega,by omega,rfl,by omega,by rw[HN.out,<-abb];exact WV.out⟩
        case measure=>simp[intOf];omega
       .have e1:(((Ku.cI R x y R.length).2:Int)==1)=false:=by simp;omega
        rw[e1];obtain⟨z0,z1,z2,zf⟩:=aQ (aZ HRB.out hbz);have hz0:=zf 0;have hz1:=zf 1;have hz2:=zf 2;have mE:=ζ (Tt.out.trans (hbz.mono Tt.out.size));have cB:Hid ((Ku.way R br (i,j)).2≠1):=by rw[EO.out];exact h1
        have Nn:Hid ((i,j)∈Ku.out kd br.length br.length):=by
         rw[HQ.out];exact ζ (Ku.Dc hlt (by omega) hjt YY.out)
        clear zf hbz dO zS hf Jc h1 e1 hbr b0 b1 b2 cx cy HS Hy;go_wp2;refine bodyPost_ret (bW rfl rfl _ _ rb _ _ _ _ _ rfl rfl rfl (az z0 z1 z2 _ _ _).1 (az z0 z1 z2 _ _ _).2.1 (az z0 z1 z2 _ _ _).2.2) rfl ?_;exact PI.out _ _ (.inl ⟨⟨(i,j),Nn.out,cB.out⟩,rfl⟩) (bX mE.out eT.2 _ _ _)
      .go_wp2_with fail
       go_region_held3 (fun Y=>Y.cell? ⟨kb,1,none⟩=some (.slice (some ⟨bb,bo,none⟩) q bc)/\Y.cell? ⟨bb,bo+i,none⟩=some (.int .i64 x)/\Y.cell? ⟨bb,bo+j,none⟩=some (.int .i64 y)/\Below X.heap.size X Y)
        (exact HS.out _ (by first|assumption|exact hbr))
        ((go_at_call 66;refine(Hy.out _ (by first|assumption|exact hbr)).mono ?_;rintro e w6 ⟨v6,rfl,Jc,zS,dO⟩;have hbz:Below X.heap.size X w6:=acd (by first|assumption|exact hbr) (dO.mono (acv (by first|assumption|exact hbr)))))
       have JP:=ζ (Ag.out.later hbz);have EO:Hid (Ku.way R br (i,j)=Ku.cI R x y R.length):=by
        unfold Ku.way;rw[JQ.out,W6.out];exact ζ rfl
       have hf:Ku.From us X v6:=zS;have aeo:X.heap.size<=w6.heap.size:=hbz.size;by_cases h1:(Ku.cI R x y R.length).2=1
       .have e1:(((Ku.cI R x y R.length).2:Int)==1)=true:=by rw[h1];rfl
        rw[e1];have hnn:=Ku.EA R x y (fun l hl=>(EU.out l hl).1) R.length (aaF _) (by rw[h1];decide);have PB:Hid (∀b,v6.ownBlock=some b->b≠kb/\b≠rb/\j9.ownBlock≠some b/\b<w6.heap.size/\w.heap.size<=b):=by
         refine ζ fun b hb=> ?_
         have a4:=Jc.lt hnn hb;have hpl:=fun e=>aaO Ag.out.own b e
         rcases hf b hb with ⟨u,hu,hub⟩|hge
         .obtain⟨t,ht⟩:=abg hu
          have hin:cS us b:=⟨t,u,ht,hub⟩;have a1:=BU.out b (.inr hin);have a2:=HUL.out b hin;refine⟨a1.1,a1.2,fun e=> ?_,a4,a2.2⟩;have:=(hpl e).1;omega
         .have hv:=Ag.out.low.size
          refine⟨by omega,by omega,fun e=> ?_,a4,by omega⟩;have:=(hpl e).2;omega
        obtain⟨va,vc,cG,Vm⟩:=Jc;obtain⟨Lb,BR⟩:∃Lb,(Ku.cI R x y R.length).1.length=Lb:=⟨_,rfl⟩;have BW:Hid (Ku.fW w6 v6 (Ku.way R br (i,j)).1):=by rw[EO.out];exact⟨va,vc,cG,Vm⟩
        rw[BR] at cG;subst cG;obtain⟨P,hP⟩:∃P,(Ku.out kd q i++Ku.fk kd i j).length=P:=⟨_,rfl⟩;have hPl:P<=100:=by
         rw[<-hP,aaZ];have h1:=(Ku.KH kd q (i:=i) (j:=j));have h2:i*q<=6*6:=adu (by omega) (by omega);omega
        obtain⟨pa,pc,hpe⟩:∃pa pc,j9= .slice pa P pc:=by
         rcases Ag.out.own.2 with ⟨e,h0⟩|⟨g,cap,cur,e,_⟩
         .exact⟨none,0,by rw[e,<-hP,h0]⟩
         .exact⟨_,cap,by rw[e,<-hP]⟩
        subst hpe;obtain⟨c0,c1,c2,cf⟩:=aQ JP.out.box;have FK:=cf 2;have ET:Hid (w6.ownsRow V.heap.size 55 1 (.slice pa P pc) P vs'):=by
         have:=JP.out.own;rw[hP] at this;exact ζ this
        have HP:=ζ hP;have hV6:V.heap.size<=w6.heap.size:=JP.out.low.size;have HWO:Hid ((Ku.way R br (i,j)).2=1):=by rw[EO.out];exact h1
        clear cf hbz dO zS hf hnn Vm BR hP h1 e1 hbr b0 b1 b2 cx cy HS Hy;go_wp2_with (at_builtin;refine wpList_append_own_at _ rfl _ _ 25 rfl V.heap.size 55 iR (.slice none 0 0) 1 24 Tryz.underlying25 Yl Yt hR1 hR2 rfl (by decide) _ _ _ rfl (abv ET.out _) ⟨w6.heap.size,0,none⟩ 1 1 [.slice va Lb vc] rfl rfl (cell_one_new _ _ _) (by simp[Value.oneCell']) (by unfold maxLen;omega) (by omega) (by simp;omega) ?_;refine aaI ?_);refine ζ ?_;intro v' w4 gT mq _ sK;have sJ:v'.ownBlock=(Value.slice pa P pc).ownBlock\/v'.ownBlock=some (w6.heap.size+1):=by simpa using sK
        obtain⟨⟨d2,d3⟩,hK4⟩:=JP.out.push hkV BW.out HWO.out PB.out (by rw[HP.out];exact gT) mq sJ;obtain⟨qa,qc,hqe⟩:∃qa qc,v'= .slice qa (P+1) qc:=by
         rcases gT.2 with ⟨e,h0⟩|⟨g,cap,cur,e,_⟩
         .omega
         .exact⟨_,cap,e⟩
        subst hqe;have WV:=ζ hK4;clear gT mq sK sJ hK4;go_wp2;go_roundw
        case rel=>exact⟨j+1,_,_,_,by omega,by omega,rfl,by omega,by rw[HN.out,<-abb];exact WV.out⟩
        case measure=>simp[intOf];omega
       .have e1:(((Ku.cI R x y R.length).2:Int)==1)=false:=by simp;omega
        rw[e1];obtain⟨z0,z1,z2,zf⟩:=aQ (aZ HRB.out hbz);have hz0:=zf 0;have hz1:=zf 1;have hz2:=zf 2;have mE:=ζ (Tt.out.trans (hbz.mono Tt.out.size));have cB:Hid ((Ku.way R br (i,j)).2≠1):=by rw[EO.out];exact h1
        have Nn:Hid ((i,j)∈Ku.out kd br.length br.length):=by
         rw[HQ.out];exact ζ (Ku.Dc hlt (by omega) hjt YY.out)
        clear zf hbz dO zS hf Jc h1 e1 hbr b0 b1 b2 cx cy HS Hy;go_wp2;refine bodyPost_ret (bW rfl rfl _ _ rb _ _ _ _ _ rfl rfl rfl (az z0 z1 z2 _ _ _).1 (az z0 z1 z2 _ _ _).2.1 (az z0 z1 z2 _ _ _).2.2) rfl ?_;exact PI.out _ _ (.inl ⟨⟨(i,j),Nn.out,cB.out⟩,rfl⟩) (bX mE.out eT.2 _ _ _)
    .have hd:¬((j:Int)<(q:Int)):=by omega
     obtain rfl:j=q:=by omega
     clear hks bf;go_wp2;go_roundw
     case rel=>exact⟨i+1,j9,vs',by omega,by go_num,Ag.out⟩
     case measure=>simp[intOf];omega
  .have hd:¬((i:Int)<(q:Int)):=by omega
   obtain rfl:i=q:=by omega
   clear hks bf;obtain⟨-,SR,UX,UE⟩:=JO.out U WU.out.low;obtain⟨z0,z1,z2,zf⟩:=aQ UX;have hz0:=zf 0;have hz1:=zf 1;have hz2:=zf 2;obtain⟨P,hP⟩:∃P,(Ku.out kd i i).length=P:=⟨_,rfl⟩;obtain⟨pa,pc,hpe⟩:∃pa pc,pv= .slice pa P pc:=by
    rcases WU.out.own.2 with ⟨e,h0⟩|⟨g,cap,cur,e,_⟩
    .exact⟨none,0,by rw[e,<-hP,h0]⟩
    .exact⟨_,cap,by rw[e,<-hP]⟩
   subst hpe;have HP:=ζ hP;have Tt:=ζ UE;have jX:=ζ SR;clear zf UX hP UE SR;go_wp2_with fail;go_big_region;go_wp2;refine bodyPost_ret (bW rfl rfl _ _ rb _ _ _ _ _ rfl rfl rfl (az z0 z1 z2 _ _ _).1 (az z0 z1 z2 _ _ _).2.1 (az z0 z1 z2 _ _ _).2.2) rfl ?_;have ot:∀(x y z:Value) (b:Nat),b≠rb->(((U.setCell ⟨rb,0,none⟩ x).setCell ⟨rb,1,none⟩ y).setCell ⟨rb,2,none⟩ z).heap[b]? =U.heap[b]? :=fun x y z b hb=>by
    rw[heap_setCell_other _ ⟨rb,2,none⟩ b _ hb,heap_setCell_other _ ⟨rb,1,none⟩ b _ hb,heap_setCell_other _ ⟨rb,0,none⟩ b _ hb]
   refine PI.out _ _ (.inr ⟨?_,.slice ba i bc,.slice pa P pc,?_,⟨ba,bc,by rw[HQ.out],fun j x hj=> ?_⟩,fun b hb=> ?_,?_⟩) (bX Tt.out eT.2 _ _ _).drew
   .rw[HQ.out]
    exact WU.out.one
   .rw[HQ.out,HP.out,HJ.out]
    rfl
   .obtain⟨b,o,kK,hc⟩:=jX.out j x hj
    exact⟨b,o,kK,(abF (w:=U) (a:=⟨b,o+j,none⟩) (by exact ot _ _ _ b (yZ.out _ kK).2.1)).trans hc⟩
   .cases ba with
    |none=>cases hb
    |some x=>
     have b7:x.block=b:=by simpa[Value.ownBlock] using hb
     rw[<-b7];exact(yZ.out x rfl).2.2
   .rw[HQ.out]
    exact WU.out.aaM (fun b hb _=>by exact ot _ _ _ b hb) hrV Fy
end
end Go.Proofs.YtdbjpbjocmcpkaaGreatDoor
