import Derived.Test.YtdbjpbjocmcpkaaGreatDoorMg29
import Derived.Deep.Cut
set_option maxHeartbeats 16000000
set_option maxRecDepth 100000
namespace Go.Proofs.YtdbjpbjocmcpkaaGreatDoor
section
open Go.RowKit Go.Sort
namespace Ku
def AK:Nat->Code->Code
 |0,c=>c
 |n+1,.seq _ d=>AK n d
 |_+1,c=>c
structure KL (B0 kb rb:Nat) (kd:Int) (bv:Value) (R:List (List Int)) (br:List Int) (V:World) (ps:List (Nat×Nat)) (pv:Value) (vs:List Value) (W:World):Prop where
 low:aq (fun b=>b=kb) V W
 box:W.heap[kb]? =some (.cells #[.int .i64 kd,bv,pv] 82 (0,0))
 own:W.ownsRow V.heap.size 55 1 pv ps.length vs
 len:vs.length=ps.length
 sees:∀(u:Nat) (x:Value) (p:Nat×Nat),vs[u]? =some x->ps[u]? =some p->fq W x (way R br p).1
 far:∀(u:Nat) (x:Value) (b:Nat),vs[u]? =some x->x.ownBlock=some b->b≠kb/\b≠rb/\pv.ownBlock≠some b/\b<W.heap.size/\B0<=b
 one:∀p∈ps,(way R br p).2=1
section
variable {B0 kb rb:Nat} {kd:Int} {bv:Value} {R:List (List Int)} {br:List Int} {V:World} {ps:List (Nat×Nat)} {pv:Value} {vs:List Value} {W:World}
theorem KL.lt (h:KL B0 kb rb kd bv R br V ps pv vs W):kb<W.heap.size:=(aa3.1 h.box).1
theorem KL.later {W':World} (h:KL B0 kb rb kd bv R br V ps pv vs W) (hb:Below W.heap.size W W'):KL B0 kb rb kd bv R br V ps pv vs W':=by
 refine⟨h.low.later hb,aX h.box hb,bV h.own (fun g _ _ hg=>hb.block g hg),h.len,fun u x p hx hp=>(h.sees u x p hx hp).later hb,fun u x b hx hb'=> ?_,h.one⟩;obtain⟨a1,a2,a3,a4,a5⟩:=h.far u x b hx hb';exact⟨a1,a2,a3,aa5 a4 hb.size,a5⟩
theorem KL.push {W3:World} {ob:Obj} {x jl:Value} {p:Nat×Nat} (XX:kb<V.heap.size) (h:KL B0 kb rb kd bv R br V ps pv vs W) (hx:fq W x (way R br p).1) (hone:(way R br p).2=1) (hxb:∀b,x.ownBlock=some b->b≠kb/\b≠rb/\pv.ownBlock≠some b/\b<W.heap.size/\B0<=b)
 (ho:W3.ownsRow V.heap.size 55 1 jl (ps.length+1) (vs++[x])) (hg:(W.alloc ob).grownBy W3 pv.ownBlock) (hat:jl.ownBlock=pv.ownBlock\/jl.ownBlock=some (W.heap.size+1)):
 (W3.cell? ⟨kb,2,none⟩=some pv/\W3.frozen? ⟨kb,2,none⟩=false)/\KL B0 kb rb kd bv R br V (ps++[p]) jl (vs++[x]) (W3.setCell ⟨kb,2,none⟩ jl):=by
 have hk:=h.lt;have hVW:=h.low.size;have Jo:∀b,pv.ownBlock=some b->V.heap.size<=b:=fun b hb=>(aap h.own b hb).1
 have keep:∀b,b<W.heap.size->pv.ownBlock≠some b->W3.heap[b]? =W.heap[b]? :=fun b hb hne=>by
  rw[hg.block b (by simp;omega) (fun e=>hne e.symm)];exact heap_alloc_old W ob hb
 have Sp:W3.heap[kb]? =some (.cells #[.int .i64 kd,bv,pv] 82 (0,0)):=(keep kb hk (fun e=>by have:=Jo kb e;omega)).trans h.box;obtain⟨_,_,c2,cf⟩:=aO Sp;have hsz:W.heap.size<=W3.heap.size:=by have:=hg.size;simp at this;omega
 have VK:(W3.setCell ⟨kb,2,none⟩ jl).heap.size=W3.heap.size:=by simp
 have Ul:∀b,b≠kb->(W3.setCell ⟨kb,2,none⟩ jl).heap[b]? =W3.heap[b]? :=fun b hb=>heap_setCell_other _ ⟨kb,2,none⟩ b _ hb
 have hall:∀(u:Nat) (y:Value),(vs++[x])[u]? =some y->(∃u',vs[u']? =some y/\u'=u/\u<ps.length)\/(y=x/\u=ps.length):=fun u y hy=>by
  by_cases hu:u<vs.length
  .rw[aaH hu] at hy
   exact .inl ⟨u,hy,rfl,by rw[<-h.len];exact hu⟩
  .rw[abb (by omega)] at hy
   have:u-vs.length=0:=by
    have:=(aah.1 hy).1;simp at this;omega
   rw[this] at hy;cases hy;exact .inr ⟨rfl,by rw[<-h.len];omega⟩
 refine⟨⟨c2,cf 2⟩,?_,?_,?_,by simp[h.len],?_,?_,?_⟩
 .refine⟨?_,?_,?_,by rw[VK];omega,fun b hb hne=> ?_⟩
  .exact(show W3.os=V.os from hg.os.trans h.low.os)
  .exact(show W3.tape=V.tape from hg.tape.trans h.low.tape)
  .exact(show W3.output=V.output from hg.output.trans h.low.output)
  .rw[Ul b hne,keep b (by omega) (fun e=>by have:=Jo b e;omega)]
   exact h.low.block b hb hne
 .rw[heap_setCell_same W3 kb 2 _ _ _ Sp]
  simp
 .rw[aar]
  exact bV ho (fun g hg1 hg2 _=>Ul g (by omega))
 .intro u y q hy hq
  rcases hall u y hy with ⟨u',uq,rfl,hlt⟩|⟨rfl,rfl⟩
  .rw[aaH hlt] at hq
   refine(h.sees u' y q uq hq).same fun b hb=> ?_
   obtain⟨a1,_,a2,a3,_⟩:=h.far u' y b uq hb;rw[Ul b a1,keep b a3 a2]
  .rw[abb (by omega)] at hq
   simp at hq;subst hq;refine hx.same fun b hb=> ?_
   obtain⟨a1,_,a2,a3,_⟩:=hxb b hb;rw[Ul b a1,keep b a3 a2]
 .intro u y b hy hb
  have key:b≠kb/\b≠rb/\pv.ownBlock≠some b/\b<W.heap.size/\B0<=b:=by
   rcases hall u y hy with ⟨u',uq,rfl,hlt⟩|⟨rfl,rfl⟩
   .exact h.far u' y b uq hb
   .exact hxb b hb
  obtain⟨a1,a0,a2,a3,a5⟩:=key;refine⟨a1,a0,fun e=> ?_,by rw[VK];omega,a5⟩;rcases hat with e1|e1
  .exact a2 (e1▸e)
  .rw[e1] at e
   cases e;omega
 .intro q hq
  rcases abG.1 hq with hq|hq
  .exact h.one q hq
  .cases abg.1 hq
   exact hone
theorem KL.Xa (h:KL B0 kb rb kd bv R br V ps pv vs W) {W':World} (hk:∀b,b≠rb->b<W.heap.size->W'.heap[b]? =W.heap[b]?) (hr:rb<V.heap.size) (hB:B0<=V.heap.size):wJ B0 W' pv (ps.map fun p=>(way R br p).1):=by
 have hrow:W'.ownsRow V.heap.size 55 1 pv ps.length vs:=bV h.own fun g _ hg hl=>hk g (by omega) hl
 rcases h.own.2 with ⟨e,h0⟩|⟨g,cap,cur,e,_⟩
 .refine⟨none,0,by rw[e,aaE,h0],fun k l hl=> ?_⟩
  have:=(aah.1 hl).1;rw[aaE] at this;omega
 .refine⟨_,cap,by rw[e,aaE],fun k l hl=> ?_⟩
  rw[aaP] at hl;obtain⟨p,hp,rfl⟩:=abA.1 hl;obtain⟨x,hx⟩:∃x,vs[k]? =some x:=⟨_,aac (by rw[h.len];exact(aah.1 hp).1)⟩;refine⟨g,0,x,rfl,aaD hB (aap h.own g (by rw[e];rfl)).1,?_,(h.sees k x p hx hp).same fun b hb=> ?_,fun b hb=>(h.far k x b hx hb).2.2.2.2⟩
  .have:=aco hrow (g:=g) (by rw[e];rfl) k x hx
   have ea:((⟨g,0,none⟩:Addr).add k)=⟨g,0+k,none⟩:=by
    by_cases h0:k=0<;>simp[Addr.add,h0]
   rw[ea] at this;exact this
  .obtain⟨_,a2,_,a4,_⟩:=h.far k x b hx hb
   exact hk b a2 a4
end
theorem Iu (kd L:Nat):∀{i j:Nat},(mV kd i j).length<=j/\(out kd L i).length<=i*L:=by
 have h1:∀i j,(mV kd i j).length<=j:=by
  intro i j
  induction j with
  |zero=>exact aad _
  |succ j ih=>
   unfold mV
   split
   .rw[aar];simp;omega
   .omega
 intro i j;refine⟨h1 i j,?_⟩
 induction i with
 |zero=>simp[out]
 |succ i ih=>
  unfold out;rw[aar,aed];have:=h1 i L;omega
theorem Bi {kd i j:Nat} (hij:i<j) (hs:¬(kd=2/\(3<=i\/j<3))):∀{k:Nat},j<k->(i,j)∈mV kd i k
 |0,h=>by omega
 |k+1,h=>by
  by_cases e:j=k
  .subst e
   rw[I8 hij hs];simp
  .have:=Bi hij hs (k:=k) (by omega)
   unfold mV
   split
   .exact ab0 _ this
   .exact this
theorem Bh {kd q i j:Nat} (hi:i<q) (hij:i<j) (hj:j<q) (hs:¬(kd=2/\(3<=i\/j<3))):(i,j)∈out kd q q:=by
 have:∀k,i<k->(i,j)∈out kd q k:=by
  intro k
  induction k with
  |zero=>intro h;omega
  |succ k ih=>
   intro h;unfold out;by_cases e:i=k
   .subst e
    exact ad8 _ (Bi hij hs hj)
   .exact ab0 _ (ih (by omega))
 exact this q hi
end Ku
theorem QG {t0 t1 t3 t4 t5 t6 t8 t9 t10 t11 t12 t14 t15 t16 t17 t18 t19 t20 t21 t22 t23 t24 t25 t26 t27 t28 t29 t30 t31 t32 t33 t34 t35 t36 t37 t38 t39 t40 t41 t42 t43 t44 t45 t46 t47 t48 t49 t50 t51 t52 t53 t54 t55 t56 t57 t58 t59 t60 t61 t62 t63 t64 t65 t66 t67 t68 t69 t70 t71 t72 t73 t74 t75 t76 t77 t78 t79 t80 t81 t82 t83 t84 t85 t86 t87 t88 t89 t90 t91 t92 t93 t94 t95 t96 t97 t98 t99 t100 t101 t102 t103 t104 t105 t106 t107 t108 t109 t110 t111 t112 t113 t114 t115 t116 t117 t118 t119 t120 t121 t122 t123 t124 t125 t126 t127 t128 t129 t130 t131 t132 t133 t134 t135 t136 t137 t138 t139 t140 t141:Value} (B kb rb J cc q bc kd:Nat) (ca ba:Option Addr) (us:List Value) (R:List (List Int)) (br:List Int) (n:Int) (es:List (Int×Int)) (w V:World)
 (RZ:kd=1\/kd=2) (hq:br.length=q) (L6:q<=6) (hJ:R.length=J) (JJ:J<=17592186044000) (JI:ay V B (.slice ca J cc) us R) (Dx:∀b,((Value.slice ca J cc).ownBlock=some b\/cC us b)->b≠kb/\b≠rb) (hlr:∀l∈R,1<=l.length/\l.length<=17592186044000)
 (hbr:aU V ba br) (DL:∀x,ba=some x->x.block≠kb/\x.block≠rb/\w.heap.size<=x.block) (hBw:w.heap.size<=B) (eH:V.heap[kb]? =some (.cells #[.int .i64 (kd:Int),.slice ba q bc,.slice none 0 0] 82 (0,0))) (hrb:V.heap[rb]? =some (.cells #[.int .i64 0,.slice none 0 0,.slice none 0 0] 82 (0,0))) (hne:rb≠kb)
 (dB:w.heap.size<=kb/\w.heap.size<=rb) (hB:Below w.heap.size w V) (hpost:∀e w',Ku.Found w.heap.size kd R br e w'->Below w.heap.size w w'->Ku.CL n es w e w'):
 Code.wp Tryz.prog (Ku.AK 12 (Tryz.f33.body.getD .skip)) (bodyPost Tryz.prog Tryz.f33 (Ku.CL n es w)) { tmps:= #[t0,t1,.pointer (some ⟨rb,0,none⟩),t3,t4,t5,t6,.slice ca J cc,t8,t9,t10,t11,t12,.pointer (some ⟨kb,0,none⟩),t14,t15,t16,t17,t18,t19,t20,t21,t22,t23,t24,t25,t26,t27,t28,t29,t30,t31,t32,t33,t34,t35,t36,t37,t38,t39,t40,t41,t42,t43,t44,t45,t46,t47,t48,t49,t50,t51,t52,t53,t54,t55,t56,t57,t58,t59,t60,t61,t62,t63,t64,t65,t66,t67,t68,t69,t70,t71,t72,t73,t74,t75,t76,t77,t78,t79,t80,t81,t82,t83,t84,t85,t86,t87,t88,t89,t90,t91,t92,t93,t94,t95,t96,t97,t98,t99,t100,t101,t102,t103,t104,t105,t106,t107,t108,t109,t110,t111,t112,t113,t114,t115,t116,t117,t118,t119,t120,t121,t122,t123,t124,t125,t126,t127,t128,t129,t130,t131,t132,t133,t134,t135,t136,t137,t138,t139,t140,t141],defers:=[] } V:=by
 obtain⟨iR,UQ,U0,hR1,hR2⟩:=info_parts Tryz.lK;have XX:kb<V.heap.size:=lt_of_block eH;have hrV:rb<V.heap.size:=lt_of_block hrb;have KQ:Hid (Ku.KL w.heap.size kb rb (kd:Int) (.slice ba q bc) R br V [] (.slice none 0 0) [] V):=⟨aq.refl _ _,eH,acO _ _ _ _,rfl,fun u x p hx=>by simp at hx,fun u x b hx=>by simp at hx,fun p hp=>by simp at hp⟩;have G4:Hid (∀U:World,aq (fun b=>b=kb) V U->ay U B (.slice ca J cc) us R/\aU U ba br/\U.heap[rb]? =some (.cells #[.int .i64 0,.slice none 0 0,.slice none 0 0] 82 (0,0))/\Below w.heap.size w U):=fun U hU=>by
  refine⟨JI.kept fun b hb hl=>hU.block b hl (Dx b hb).1,fun j x hj=> ?_,(hU.block rb hrV hne).trans hrb,?_⟩
  .obtain⟨b,o,rfl,hc⟩:=hbr j x hj
   exact⟨b,o,rfl,(abJ (a:=⟨b,o+j,none⟩) (hU.block b (block_lt_of_cell hc) (DL _ rfl).1)).trans hc⟩
  .exact⟨hU.os.trans hB.os,hU.tape.trans hB.tape,hU.output.trans hB.output,aaD hB.size hU.size,fun b hb=>(hU.block b (aa5 hb hB.size) (by omega)).trans (hB.block b hb)⟩
 have HQ:=ζ hq;have HJ:=ζ hJ;have CX:=ζ hlr;have zU:=ζ Dx;have HUL:Hid (∀b,cC us b->b<V.heap.size/\w.heap.size<=b):=fun b hb=>⟨(JI.within (.inr hb)).2,aaD hBw (JI.within (.inr hb)).1⟩
 have Dw:w.heap.size<=V.heap.size:=hB.size;have wU:=ζ DL;have M0:=ζ hpost;have HKD:=ζ RZ;have agO:kd<=2:=by omega
 clear eH hrb JI hbr hB hq hJ hlr Dx DL hpost RZ;simp only[Tryz.f33,Option.getD,Ku.AK];go_wp2;go_loopw [14] (fun cv wr=>∃(i:Nat) (pv:Value) (vs:List Value),i<=q/\cv= .int .i64 (i:Int)/\Ku.KL w.heap.size kb rb (kd:Int) (.slice ba q bc) R br V (Ku.out kd q i) pv vs wr) (fun cv _=>q-(intOf cv).toNat)
 case atStart=>exact⟨0,_,_,aax _,rfl,KQ.out⟩
 case round=>
  obtain⟨i,pv,vs,hiN,rfl,hks⟩:=hrel;obtain⟨U,rfl⟩:∃U,U=wr:=⟨wr,rfl⟩;have TA:=ζ hks;have hwi:IntKind.i64.wrap ((i:Int)+1)=(i:Int)+1:=by rw[aam];omega
  obtain⟨b0,b1,b2,bf⟩:=aO hks.box;by_cases hlt:i<q
  .have aQ:(i:Int)<(q:Int):=by omega
   clear hks bf;go_wp2;go_loopw [15] (fun cv wx=>∃(j:Nat) (z:Int) (pv:Value) (vs:List Value),i+1<=j/\j<=q/\cv= .int .i64 z/\z=(j:Int)/\Ku.KL w.heap.size kb rb (kd:Int) (.slice ba q bc) R br V (Ku.out kd q i++Ku.mV kd i j) pv vs wx) (fun cv _=>q-(intOf cv).toNat)
   case atStart=>exact⟨i+1,_,pv,vs,aad _,by omega,rfl,by omega,by rw[Ku.I9 kd i (aad _),abQ];exact TA.out⟩
   case round=>
    obtain⟨j,z,jl,vs',hij,hjN,rfl,rfl,hks⟩:=hrel;obtain⟨X,rfl⟩:∃X,X=wr:=⟨wr,rfl⟩;have x9:=ζ hks;have UC:IntKind.i64.wrap ((j:Int)+1)=(j:Int)+1:=by rw[aam];omega
    clear b0 b1 b2;obtain⟨b0,b1,b2,bf⟩:=aO hks.box;by_cases XZ:j<q
    .have agS:(j:Int)<(q:Int):=by omega
     by_cases hsk:kd=2/\(3<=i\/j<3)
     .have HN:Hid (Ku.mV kd i (j+1)=Ku.mV kd i j):=Ku.Ux hsk
      have k2:((kd:Int)==2)=true:=by rw[hsk.1];rfl
      clear hks bf;by_cases X7:3<=i
      .have g3:(3:Int)<=(i:Int):=by omega
       clear hsk;go_wp2;go_roundw
       case rel=>exact⟨j+1,_,jl,vs',by omega,by omega,rfl,by omega,by rw[HN.out];exact x9.out⟩
       case measure=>simp[intOf];omega
      .have g3:¬(3:Int)<=(i:Int):=by omega
       have g4:(j:Int)<3:=by omega
       clear hsk;go_wp2;go_roundw
       case rel=>exact⟨j+1,_,jl,vs',by omega,by omega,rfl,by omega,by rw[HN.out];exact x9.out⟩
       case measure=>simp[intOf];omega
     .have HN:Hid (Ku.mV kd i (j+1)=Ku.mV kd i j++[(i,j)]):=Ku.I8 (by omega) hsk
      obtain⟨hRX,PD,RA,Rj⟩:=G4.out X hks.low;obtain⟨x,hx⟩:∃x,br[i]? =some x:=⟨_,aac (by rw[HQ.out];exact hlt)⟩;obtain⟨y,hy⟩:∃y,br[j]? =some y:=⟨_,aac (by rw[HQ.out];exact XZ)⟩;obtain⟨bb,bo,rfl,cx⟩:=PD i x hx;obtain⟨b',o',e',cy⟩:=PD j y hy;cases e';have G6:=ζ (Ku.bK hx);have TG:=ζ (Ku.bK hy);have mj:(0:Int)<=(i:Int):=by omega
      have hj0:(0:Int)<=(j:Int):=by omega
      have hS:∀Y,Below X.heap.size X Y->(Y.cell? ⟨kb,1,none⟩=some (.slice (some ⟨bb,bo,none⟩) q bc)/\Y.cell? ⟨bb,bo+i,none⟩=some (.int .i64 x)/\Y.cell? ⟨bb,bo+j,none⟩=some (.int .i64 y)/\Below X.heap.size X Y):=fun Y hY=>⟨(hY.cell (p:=⟨kb,1,none⟩) (block_lt_of_cell b1)).trans b1,(hY.cell (p:=⟨bb,bo+i,none⟩) (block_lt_of_cell cx)).trans cx,(hY.cell (p:=⟨bb,bo+j,none⟩) (block_lt_of_cell cy)).trans cy,hY⟩
      have HS:=ζ hS;have hbr:Below X.heap.size X X.drew:=(aae _ _).drew;have Fe:Hid (∀Y,Below X.heap.size X Y->Calls Tryz.prog 66 #[.slice ca J cc,.int .i64 x,.int .i64 y] Y (Ku.T7 us R x y Y)):=fun Y hY=>Dt B ca J cc us R x y Y HJ.out (hRX.later hY) JJ CX.out
      have Qi:=ζ Rj;have HRB:Hid (X.heap[rb]? =some (.cells #[.int .i64 0,.slice none 0 0,.slice none 0 0] 82 (0,0))):=ζ RA;have HSK:=ζ hsk;have k2:((kd:Int)==2)=false\/(((kd:Int)==2)=true/\¬(3:Int)<=(i:Int)/\¬(j:Int)<3):=by
       by_cases h:kd=2
       .exact .inr ⟨by rw[h];rfl,by omega,by omega⟩
       .exact .inl (by simp;omega)
      clear hks bf hRX PD RA Rj hx hy hS hsk;have abO:∀(X6:World) (v:Value),Ku.fq X6 v (Ku.cj R x y R.length).1->Ku.From us X v->Below X.heap.size X X6->True:=fun _ _ _ _ _=>trivial
      clear abO;rcases k2 with k2|⟨k2,g3,g4⟩
      .go_wp2_with fail
       go_region_held3 (fun Y=>Y.cell? ⟨kb,1,none⟩=some (.slice (some ⟨bb,bo,none⟩) q bc)/\Y.cell? ⟨bb,bo+i,none⟩=some (.int .i64 x)/\Y.cell? ⟨bb,bo+j,none⟩=some (.int .i64 y)/\Below X.heap.size X Y)
        (exact HS.out _ (by first|assumption|exact hbr))
        ((go_at_call 66;refine(Fe.out _ (by first|assumption|exact hbr)).mono ?_;rintro e w6 ⟨v6,rfl,Gj,xK,fP⟩;have hbz:Below X.heap.size X w6:=acI (by first|assumption|exact hbr) (fP.mono (ac6 (by first|assumption|exact hbr)))))
       have G5:=ζ (x9.out.later hbz);have CR:Hid (Ku.way R br (i,j)=Ku.cj R x y R.length):=by
        unfold Ku.way;rw[G6.out,TG.out];exact ζ rfl
       have hf:Ku.From us X v6:=xK;have aay:X.heap.size<=w6.heap.size:=hbz.size;by_cases h1:(Ku.cj R x y R.length).2=1
       .have e1:(((Ku.cj R x y R.length).2:Int)==1)=true:=by rw[h1];rfl
        rw[e1];have hnn:=Ku.CB R x y (fun l hl=>(CX.out l hl).1) R.length (aad _) (by rw[h1];decide);have MU:Hid (∀b,v6.ownBlock=some b->b≠kb/\b≠rb/\jl.ownBlock≠some b/\b<w6.heap.size/\w.heap.size<=b):=by
         refine ζ fun b hb=> ?_
         have a4:=Gj.lt hnn hb;have hpl:=fun e=>aap x9.out.own b e
         rcases hf b hb with ⟨u,hu,Xw⟩|hge
         .obtain⟨t,ht⟩:=aaS hu
          have hin:cC us b:=⟨t,u,ht,Xw⟩;have a1:=zU.out b (.inr hin);have a2:=HUL.out b hin;refine⟨a1.1,a1.2,fun e=> ?_,a4,a2.2⟩;have:=(hpl e).1;omega
         .have hv:=x9.out.low.size
          refine⟨by omega,by omega,fun e=> ?_,a4,by omega⟩;have:=(hpl e).2;omega
        obtain⟨va,vc,bZ,R7⟩:=Gj;obtain⟨Lb,zR⟩:∃Lb,(Ku.cj R x y R.length).1.length=Lb:=⟨_,rfl⟩;have Y2:Hid (Ku.fq w6 v6 (Ku.way R br (i,j)).1):=by rw[CR.out];exact⟨va,vc,bZ,R7⟩
        rw[zR] at bZ;subst bZ;obtain⟨P,hP⟩:∃P,(Ku.out kd q i++Ku.mV kd i j).length=P:=⟨_,rfl⟩;have hPl:P<=100:=by
         rw[<-hP,aar];have h1:=(Ku.Iu kd q (i:=i) (j:=j));have h2:i*q<=6*6:=ad2 (by omega) (by omega);omega
        obtain⟨pa,pc,mW⟩:∃pa pc,jl= .slice pa P pc:=by
         rcases x9.out.own.2 with ⟨e,h0⟩|⟨g,cap,cur,e,_⟩
         .exact⟨none,0,by rw[e,<-hP,h0]⟩
         .exact⟨_,cap,by rw[e,<-hP]⟩
        subst mW;obtain⟨c0,c1,c2,cf⟩:=aO G5.out.box;have DK:=cf 2;have CW:Hid (w6.ownsRow V.heap.size 55 1 (.slice pa P pc) P vs'):=by
         have:=G5.out.own;rw[hP] at this;exact ζ this
        have HP:=ζ hP;have hV6:V.heap.size<=w6.heap.size:=G5.out.low.size;have YT:Hid ((Ku.way R br (i,j)).2=1):=by rw[CR.out];exact h1
        clear cf hbz fP xK hf hnn R7 zR hP h1 e1 hbr b0 b1 b2 cx cy HS Fe;go_wp2_with (at_builtin;refine wpList_append_own_at _ rfl _ _ 25 rfl V.heap.size 55 iR (.slice none 0 0) 1 24 Tryz.underlying25 UQ U0 hR1 hR2 rfl (by decide) _ _ _ rfl (abH CW.out _) ⟨w6.heap.size,0,none⟩ 1 1 [.slice va Lb vc] rfl rfl (cell_one_new _ _ _) (by simp[Value.oneCell']) (by unfold maxLen;omega) (by omega) (by simp;omega) ?_;refine aaj ?_);refine ζ ?_;intro v' w4 mX kL _ lQ;have qJ:v'.ownBlock=(Value.slice pa P pc).ownBlock\/v'.ownBlock=some (w6.heap.size+1):=by simpa using lQ
        obtain⟨⟨d2,d3⟩,hK4⟩:=G5.out.push XX Y2.out YT.out MU.out (by rw[HP.out];exact mX) kL qJ;obtain⟨qa,qc,XJ⟩:∃qa qc,v'= .slice qa (P+1) qc:=by
         rcases mX.2 with ⟨e,h0⟩|⟨g,cap,cur,e,_⟩
         .omega
         .exact⟨_,cap,e⟩
        subst XJ;have TB:=ζ hK4;clear mX kL lQ qJ hK4;go_wp2;go_roundw
        case rel=>exact⟨j+1,_,_,_,by omega,by omega,rfl,by omega,by rw[HN.out,<-aaR];exact TB.out⟩
        case measure=>simp[intOf];omega
       .have e1:(((Ku.cj R x y R.length).2:Int)==1)=false:=by simp;omega
        rw[e1];obtain⟨z0,z1,z2,zf⟩:=aO (aX HRB.out hbz);have hz0:=zf 0;have hz1:=zf 1;have hz2:=zf 2;have ot:=ζ (Qi.out.trans (hbz.mono Qi.out.size));have cG:Hid ((Ku.way R br (i,j)).2≠1):=by rw[CR.out];exact h1
        have KO:Hid ((i,j)∈Ku.out kd br.length br.length):=by
         rw[HQ.out];exact ζ (Ku.Bh hlt (by omega) XZ HSK.out)
        clear zf hbz fP xK hf Gj h1 e1 hbr b0 b1 b2 cx cy HS Fe;go_wp2;refine bodyPost_ret (bN rfl rfl _ _ rb _ _ _ _ _ rfl rfl rfl (au z0 z1 z2 _ _ _).1 (au z0 z1 z2 _ _ _).2.1 (au z0 z1 z2 _ _ _).2.2) rfl ?_;exact M0.out _ _ (.inl ⟨⟨(i,j),KO.out,cG.out⟩,rfl⟩) (bO ot.out dB.2 _ _ _)
      .go_wp2_with fail
       go_region_held3 (fun Y=>Y.cell? ⟨kb,1,none⟩=some (.slice (some ⟨bb,bo,none⟩) q bc)/\Y.cell? ⟨bb,bo+i,none⟩=some (.int .i64 x)/\Y.cell? ⟨bb,bo+j,none⟩=some (.int .i64 y)/\Below X.heap.size X Y)
        (exact HS.out _ (by first|assumption|exact hbr))
        ((go_at_call 66;refine(Fe.out _ (by first|assumption|exact hbr)).mono ?_;rintro e w6 ⟨v6,rfl,Gj,xK,fP⟩;have hbz:Below X.heap.size X w6:=acI (by first|assumption|exact hbr) (fP.mono (ac6 (by first|assumption|exact hbr)))))
       have G5:=ζ (x9.out.later hbz);have CR:Hid (Ku.way R br (i,j)=Ku.cj R x y R.length):=by
        unfold Ku.way;rw[G6.out,TG.out];exact ζ rfl
       have hf:Ku.From us X v6:=xK;have aay:X.heap.size<=w6.heap.size:=hbz.size;by_cases h1:(Ku.cj R x y R.length).2=1
       .have e1:(((Ku.cj R x y R.length).2:Int)==1)=true:=by rw[h1];rfl
        rw[e1];have hnn:=Ku.CB R x y (fun l hl=>(CX.out l hl).1) R.length (aad _) (by rw[h1];decide);have MU:Hid (∀b,v6.ownBlock=some b->b≠kb/\b≠rb/\jl.ownBlock≠some b/\b<w6.heap.size/\w.heap.size<=b):=by
         refine ζ fun b hb=> ?_
         have a4:=Gj.lt hnn hb;have hpl:=fun e=>aap x9.out.own b e
         rcases hf b hb with ⟨u,hu,Xw⟩|hge
         .obtain⟨t,ht⟩:=aaS hu
          have hin:cC us b:=⟨t,u,ht,Xw⟩;have a1:=zU.out b (.inr hin);have a2:=HUL.out b hin;refine⟨a1.1,a1.2,fun e=> ?_,a4,a2.2⟩;have:=(hpl e).1;omega
         .have hv:=x9.out.low.size
          refine⟨by omega,by omega,fun e=> ?_,a4,by omega⟩;have:=(hpl e).2;omega
        obtain⟨va,vc,bZ,R7⟩:=Gj;obtain⟨Lb,zR⟩:∃Lb,(Ku.cj R x y R.length).1.length=Lb:=⟨_,rfl⟩;have Y2:Hid (Ku.fq w6 v6 (Ku.way R br (i,j)).1):=by rw[CR.out];exact⟨va,vc,bZ,R7⟩
        rw[zR] at bZ;subst bZ;obtain⟨P,hP⟩:∃P,(Ku.out kd q i++Ku.mV kd i j).length=P:=⟨_,rfl⟩;have hPl:P<=100:=by
         rw[<-hP,aar];have h1:=(Ku.Iu kd q (i:=i) (j:=j));have h2:i*q<=6*6:=ad2 (by omega) (by omega);omega
        obtain⟨pa,pc,mW⟩:∃pa pc,jl= .slice pa P pc:=by
         rcases x9.out.own.2 with ⟨e,h0⟩|⟨g,cap,cur,e,_⟩
         .exact⟨none,0,by rw[e,<-hP,h0]⟩
         .exact⟨_,cap,by rw[e,<-hP]⟩
        subst mW;obtain⟨c0,c1,c2,cf⟩:=aO G5.out.box;have DK:=cf 2;have CW:Hid (w6.ownsRow V.heap.size 55 1 (.slice pa P pc) P vs'):=by
         have:=G5.out.own;rw[hP] at this;exact ζ this
        have HP:=ζ hP;have hV6:V.heap.size<=w6.heap.size:=G5.out.low.size;have YT:Hid ((Ku.way R br (i,j)).2=1):=by rw[CR.out];exact h1
        clear cf hbz fP xK hf hnn R7 zR hP h1 e1 hbr b0 b1 b2 cx cy HS Fe;go_wp2_with (at_builtin;refine wpList_append_own_at _ rfl _ _ 25 rfl V.heap.size 55 iR (.slice none 0 0) 1 24 Tryz.underlying25 UQ U0 hR1 hR2 rfl (by decide) _ _ _ rfl (abH CW.out _) ⟨w6.heap.size,0,none⟩ 1 1 [.slice va Lb vc] rfl rfl (cell_one_new _ _ _) (by simp[Value.oneCell']) (by unfold maxLen;omega) (by omega) (by simp;omega) ?_;refine aaj ?_);refine ζ ?_;intro v' w4 mX kL _ lQ;have qJ:v'.ownBlock=(Value.slice pa P pc).ownBlock\/v'.ownBlock=some (w6.heap.size+1):=by simpa using lQ
        obtain⟨⟨d2,d3⟩,hK4⟩:=G5.out.push XX Y2.out YT.out MU.out (by rw[HP.out];exact mX) kL qJ;obtain⟨qa,qc,XJ⟩:∃qa qc,v'= .slice qa (P+1) qc:=by
         rcases mX.2 with ⟨e,h0⟩|⟨g,cap,cur,e,_⟩
         .omega
         .exact⟨_,cap,e⟩
        subst XJ;have TB:=ζ hK4;clear mX kL lQ qJ hK4;go_wp2;go_roundw
        case rel=>exact⟨j+1,_,_,_,by omega,by omega,rfl,by omega,by rw[HN.out,<-aaR];exact TB.out⟩
        case measure=>simp[intOf];omega
       .have e1:(((Ku.cj R x y R.length).2:Int)==1)=false:=by simp;omega
        rw[e1];obtain⟨z0,z1,z2,zf⟩:=aO (aX HRB.out hbz);have hz0:=zf 0;have hz1:=zf 1;have hz2:=zf 2;have ot:=ζ (Qi.out.trans (hbz.mono Qi.out.size));have cG:Hid ((Ku.way R br (i,j)).2≠1):=by rw[CR.out];exact h1
        have KO:Hid ((i,j)∈Ku.out kd br.length br.length):=by
         rw[HQ.out];exact ζ (Ku.Bh hlt (by omega) XZ HSK.out)
        clear zf hbz fP xK hf Gj h1 e1 hbr b0 b1 b2 cx cy HS Fe;go_wp2;refine bodyPost_ret (bN rfl rfl _ _ rb _ _ _ _ _ rfl rfl rfl (au z0 z1 z2 _ _ _).1 (au z0 z1 z2 _ _ _).2.1 (au z0 z1 z2 _ _ _).2.2) rfl ?_;exact M0.out _ _ (.inl ⟨⟨(i,j),KO.out,cG.out⟩,rfl⟩) (bO ot.out dB.2 _ _ _)
    .have hd:¬((j:Int)<(q:Int)):=by omega
     obtain rfl:j=q:=by omega
     clear hks bf;go_wp2;go_roundw
     case rel=>exact⟨i+1,jl,vs',by omega,by go_num,x9.out⟩
     case measure=>simp[intOf];omega
  .have hd:¬((i:Int)<(q:Int)):=by omega
   obtain rfl:i=q:=by omega
   clear hks bf;obtain⟨-,PD,RA,Rj⟩:=G4.out U TA.out.low;obtain⟨z0,z1,z2,zf⟩:=aO RA;have hz0:=zf 0;have hz1:=zf 1;have hz2:=zf 2;obtain⟨P,hP⟩:∃P,(Ku.out kd i i).length=P:=⟨_,rfl⟩;obtain⟨pa,pc,mW⟩:∃pa pc,pv= .slice pa P pc:=by
    rcases TA.out.own.2 with ⟨e,h0⟩|⟨g,cap,cur,e,_⟩
    .exact⟨none,0,by rw[e,<-hP,h0]⟩
    .exact⟨_,cap,by rw[e,<-hP]⟩
   subst mW;have HP:=ζ hP;have Qi:=ζ Rj;have iI:=ζ PD;clear zf RA hP Rj PD;go_wp2_with fail;go_big_region;go_wp2;refine bodyPost_ret (bN rfl rfl _ _ rb _ _ _ _ _ rfl rfl rfl (au z0 z1 z2 _ _ _).1 (au z0 z1 z2 _ _ _).2.1 (au z0 z1 z2 _ _ _).2.2) rfl ?_;have BR:∀(x y z:Value) (b:Nat),b≠rb->(((U.setCell ⟨rb,0,none⟩ x).setCell ⟨rb,1,none⟩ y).setCell ⟨rb,2,none⟩ z).heap[b]? =U.heap[b]? :=fun x y z b hb=>by
    rw[heap_setCell_other _ ⟨rb,2,none⟩ b _ hb,heap_setCell_other _ ⟨rb,1,none⟩ b _ hb,heap_setCell_other _ ⟨rb,0,none⟩ b _ hb]
   refine M0.out _ _ (.inr ⟨?_,.slice ba i bc,.slice pa P pc,?_,⟨ba,bc,by rw[HQ.out],fun j x hj=> ?_⟩,fun b hb=> ?_,?_⟩) (bO Qi.out dB.2 _ _ _).drew
   .rw[HQ.out]
    exact TA.out.one
   .rw[HQ.out,HP.out,HJ.out]
    rfl
   .obtain⟨b,o,iN,hc⟩:=iI.out j x hj
    exact⟨b,o,iN,(abJ (w:=U) (a:=⟨b,o+j,none⟩) (by exact BR _ _ _ b (wU.out _ iN).2.1)).trans hc⟩
   .cases ba with
    |none=>cases hb
    |some x=>
     have ck:x.block=b:=by simpa[Value.ownBlock] using hb
     rw[<-ck];exact(wU.out x rfl).2.2
   .rw[HQ.out]
    exact TA.out.Xa (fun b hb _=>by exact BR _ _ _ b hb) hrV Dw
end
section
open Go.RowKit Go.Sort
theorem zI (n:Int) (ao:Option Addr) (cap:Nat) (es:List (Int×Int)) (w:World) (he:ah w ao es) (hl:es.length<=4611686018427387904):
 Calls Tryz.prog 33 #[.agg #[.int .i64 n,.slice ao es.length cap]] w (Ku.CL n es w):=by
 obtain⟨W1,hW1⟩:∃W1,W1=w.alloc (.cells #[.int .i64 n,.slice ao es.length cap] 24):=⟨_,rfl⟩;obtain⟨W,hW⟩:∃W,W=W1.alloc (.cells #[.int .i64 0,.slice none 0 0,.slice none 0 0] 82):=⟨_,rfl⟩;have hsz:W1.heap.size=w.heap.size+1:=by rw[hW1];simp
 have g1:W1.heap[w.heap.size]? =some (.cells #[.int .i64 n,.slice ao es.length cap] 24 (0,0)):=by rw[hW1];exact heap_alloc_new w _
 have hB1:Below w.heap.size w W1:=by rw[hW1];exact(aae _ _).alloc (aad _) _
 have hB2:Below W1.heap.size W1 W:=by rw[hW];exact(aae _ _).alloc (aad _) _
 have hB0:Below w.heap.size w W:=hB1.trans (hB2.mono hB1.size);have G1:=ζ (aX g1 hB2);have g2:W.heap[w.heap.size+1]? =some (.cells #[.int .i64 0,.slice none 0 0,.slice none 0 0] 82 (0,0)):=by rw[hW,<-hsz];exact heap_alloc_new W1 _
 have G2:=ζ g2;have Sw:W=(w.alloc (.cells #[.int .i64 n,.slice ao es.length cap] 24)).alloc (.cells #[.int .i64 0,.slice none 0 0,.slice none 0 0] 82):=by rw[hW,hW1]
 have HW:=ζ Sw;have HE:=ζ (he.later hB0);have pO:=ζ (tE n ao cap es W (he.later hB0) hl);have aH:=ζ hB0;obtain⟨q0,q1,-⟩:=af G1.out;rw[Sw] at q0 q1;clear hW1 hW Sw hsz g1 g2 hB1 hB2 hB0 he;go_enter Tryz.func33,Tryz.ntmps33;go_wp2_with (go_at_call 62;rw[<-HW.out];refine pO.out.mono ?_;refine aaj ?_);refine ζ ?_;rintro e w1 ⟨cI,hb1⟩;have kB:=ζ (aH.out.trans (hb1.mono aH.out.size));have G11:=ζ (aX G1.out hb1);have VE:=ζ (aX G2.out hb1);obtain⟨z0,z1,z2,zf⟩:=aO VE.out;clear q0 q1;obtain⟨q0,q1,-⟩:=af G11.out;rcases cI with ⟨hv,gd,m,rfl,rfl,hgd,Gt⟩|⟨hv,rfl⟩
 .have hval:Si.Val (m:Int) es:=Si.aK.1 hv
  have bQ:=hval.few;have ZC:=ζ Gt.at;have zZ:Hid ((Si.aS (m:Int) es).length=m):=by
   refine ζ ?_;simp[Si.iQ]
  have HV:=ζ hval;have G7:=ζ (Gd (m:Int) ao cap es w1 (HE.out.later hb1) hl);have hs1:=kB.out.size;have hm:m<=17592186044000:=by have:=hval.hi;omega
  clear hv Gt hb1 hval pO z0 z1 z2 zf;go_wp2_with (go_at_call 63;refine G7.out.mono ?_;refine aaj ?_);refine ζ ?_;rintro e w2 ⟨cI,hb2⟩;rcases cI with ⟨NN,-⟩|⟨hv',vc,us,rfl,iY⟩
  .have:=Si.aK.2 HV.out
   rw[this] at NN;cases NN
  .obtain⟨J,hJ⟩:∃J,(Ku.rows es hv' es.length).length=J:=⟨_,rfl⟩
   have HJ:=ζ hJ;have nr:=ζ iY;obtain⟨va,K5,bZ⟩:=bG iY;rw[hJ] at bZ;subst bZ;have Vz:=ζ (ZC.out.later hb2);have G12:=ζ (aX G11.out hb2);have G22:=ζ (aX VE.out hb2);have tR:=ζ (kB.out.trans (hb2.mono kB.out.size));have acy:Hid (w1.heap.size<=w2.heap.size):=ζ hb2.size;have sU:=ζ (vR (some ⟨gd,0,none⟩) m m (Si.aS (m:Int) es) 2 w2 zZ.out Vz.out hm);clear iY hb2 hJ q0 q1 G7;go_wp2_with (go_at_call 64;refine sU.out.mono ?_;refine aaj ?_);refine ζ ?_;rintro e w3 ⟨v2,rfl,ho2,hb3⟩;obtain⟨a2,c2,hv2,-,-⟩:=ho2.form;obtain⟨N2,U5⟩:∃N2,(Ku.cA (Si.aS (m:Int) es) 2 m).length=N2:=⟨_,rfl⟩;have ag7:N2<=m:=by rw[<-U5];exact Ku.mE _ _ _
   rw[U5] at hv2;subst hv2;have wP:=ζ U5;have acB:=ζ (nr.out.later hb3);have HD3:=ζ (Vz.out.later hb3);have G13:=ζ (aX G12.out hb3);have G23:=ζ (aX G22.out hb3);have WT:=ζ (tR.out.trans (hb3.mono tR.out.size));have acw:Hid (w1.heap.size<=w3.heap.size):=ζ (aaD acy.out hb3.size);have yl:Hid (∀V,Below w3.heap.size w3 V->Calls Tryz.prog 64 #[.slice (some ⟨gd,0,none⟩) m m,.int .i64 0] V fun e w'=>∃v,e= .returned v/\aj w' V.heap.size v (Ku.cA (Si.aS (m:Int) es) 0 m)/\Below V.heap.size V w'):=fun V hV=>vR (some ⟨gd,0,none⟩) m m (Si.aS (m:Int) es) 0 V zZ.out (HD3.out.later hV) hm
   obtain⟨N0,Yw⟩:∃N0,(Ku.cA (Si.aS (m:Int) es) 0 m).length=N0:=⟨_,rfl⟩;have ag8:N0<=m:=by rw[<-Yw];exact Ku.mE _ _ _
   have Vv:=ζ Yw;obtain⟨q0,-,-⟩:=af G13.out;have hS:∀V,Below w3.heap.size w3 V->(V.cell? ⟨w.heap.size,0,none⟩=some (.int .i64 (m:Int))/\Below w3.heap.size w3 V):=fun V hV=>⟨(hV.cell (p:=⟨w.heap.size,0,none⟩) (block_lt_of_cell q0)).trans q0,hV⟩
   have HS:=ζ hS;have hbr:Below w3.heap.size w3 w3.drew:=(aae _ _).drew;have ags:IntKind.i64.wrap ((m:Int)-(N0:Int))=(m:Int)-(N0:Int):=by rw[aam];omega
   have aan:IntKind.i64.wrap ((m:Int)-(N0:Int)-(N2:Int))=(m:Int)-(N0:Int)-(N2:Int):=by rw[aam];omega
   clear ho2 hb3 U5 Yw hS sU;go_wp2_with fail
   go_region_held3 (fun V=>V.cell? ⟨w.heap.size,0,none⟩=some (.int .i64 (m:Int))/\Below w3.heap.size w3 V)
    (exact HS.out _ (by first|assumption|exact hbr))
    ((go_at_call 64;refine(yl.out _ (by first|assumption|exact hbr)).mono ?_;rintro e w6 ⟨v0,rfl,ho0,fP⟩;have hbz:Below w3.heap.size w3 w6:=acI (by first|assumption|exact hbr) (fP.mono (ac6 (by first|assumption|exact hbr)));obtain⟨a0,c0,hv0,-,-⟩:=ho0.form;rw[Vv.out] at hv0;subst hv0))
   have acA:=ζ (acB.out.later hbz);have G26:=ζ (aX G23.out hbz);have WS:=ζ (WT.out.trans (hbz.mono WT.out.size));have Wx:Hid (w1.heap.size<=w6.heap.size):=ζ (aaD acw.out hbz.size);have HD6:=ζ (HD3.out.later hbz);have z7:=ζ (vR (some ⟨gd,0,none⟩) m m (Si.aS (m:Int) es) 4 w6 zZ.out HD6.out hm);clear hbz fP hbr ho0 HS yl q0;go_wp2_with (go_at_call 64;refine z7.out.mono ?_;refine aaj ?_);refine ζ ?_;rintro e w7 ⟨v4,rfl,zL,zP⟩;obtain⟨a4,c4,hv4,hi4,Wh⟩:=zL.form;have adK:=ζ Wh;clear Wh;obtain⟨N4,Yu⟩:∃N4,(Ku.cA (Si.aS (m:Int) es) 4 m).length=N4:=⟨_,rfl⟩;rw[Yu] at hv4;subst hv4;have Zi:=ζ Yu;have M6:=ζ hi4;have acz:=ζ (acA.out.later zP);have G27:=ζ (aX G26.out zP);have WR:=ζ (WS.out.trans (zP.mono WS.out.size));have acv:Hid (w6.heap.size<=w7.heap.size):=ζ zP.size;have Ec:=ζ (vR (some ⟨gd,0,none⟩) m m (Si.aS (m:Int) es) 3 w7 zZ.out (HD6.out.later zP) hm);clear zL zP Yu hi4 z7;go_wp2_with (go_at_call 64;refine Ec.out.mono ?_;refine aaj ?_);refine ζ ?_;rintro e w8 ⟨v3,rfl,mY,Pu⟩;obtain⟨a3,c3,hv3,X7,Wi⟩:=mY.form;have ahc:=ζ Wi;have Ww:Hid (w6.heap.size<=w7.heap.size/\w7.heap.size<=w8.heap.size):=⟨acv.out,Pu.size⟩;clear Wi;obtain⟨N3,Yv⟩:∃N3,(Ku.cA (Si.aS (m:Int) es) 3 m).length=N3:=⟨_,rfl⟩;rw[Yv] at hv3;subst hv3;have Tv:=ζ Yv;have jd:=ζ X7;have ac9:=ζ (M6.out.later Pu);have E8:=ζ (acz.out.later Pu);have VD:=ζ (aX G27.out Pu);have C8:=ζ (WR.out.trans (Pu.mono WR.out.size));clear mY Pu Yv X7 Ec;have H5:Hid (Ku.KB (Si.aS (m:Int) es) m (Ku.rows es hv' es.length)↔(N4=5/\(m:Int)-(N0:Int)-(N2:Int)=5/\J=10)):=by
    refine ζ ?_;unfold Ku.KB Ku.xh;rw[Zi.out,Vv.out,wP.out,HJ.out]
   have ZJ:Hid (Ku.zn (Si.aS (m:Int) es) m (Ku.rows es hv' es.length)↔(N3=6/\(m:Int)-(N0:Int)-(N2:Int)=6/\J=9)):=by
    refine ζ ?_;unfold Ku.zn Ku.xh;rw[Tv.out,Vv.out,wP.out,HJ.out]
   obtain⟨RI,Yt⟩:∃RI,(m:Int)-(N0:Int)-(N2:Int)=RI:=⟨_,rfl⟩;rw[Yt] at H5 ZJ aan ⊢;obtain⟨y1,hy1⟩:∃y,((N4:Int)==5)=y:=⟨_,rfl⟩;obtain⟨y2,hy2⟩:∃y,(RI==5)=y:=⟨_,rfl⟩;obtain⟨y3,Pj⟩:∃y,((J:Int)==10)=y:=⟨_,rfl⟩;obtain⟨x1,hx1⟩:∃y,((N3:Int)==6)=y:=⟨_,rfl⟩;obtain⟨x2,hx2⟩:∃y,(RI==6)=y:=⟨_,rfl⟩;obtain⟨x3,hx3⟩:∃y,((J:Int)==9)=y:=⟨_,rfl⟩;have hsum:=Ku.OV (Si.aS (m:Int) es) m;rw[Vv.out,wP.out,Tv.out,Zi.out] at hsum;obtain⟨z0,z1,z2,zf⟩:=aO VD.out;have hk1:w.heap.size+1<w8.heap.size:=(aa3.1 VD.out).1;have hkn:w.heap.size+1≠w8.heap.size:=by omega
   have agp:=zf 0;have ago:=zf 1;have agn:=zf 2;by_cases hA:N4=5/\RI=5/\J=10
   .have HIS:Hid (Ku.KB (Si.aS (m:Int) es) m (Ku.rows es hv' es.length)):=H5.out.2 hA
    obtain⟨hA1,hA2,Va⟩:=hA;have e1:y1=true:=by rw[<-hy1,hA1];rfl
    have e2:y2=true:=by rw[<-hy2,hA2];rfl
    have e3:y3=true:=by rw[<-Pj,Va];rfl
    have e4:x1=false:=by
     rw[<-hx1];simp;omega
    subst e1 e2 e3 e4;have hN5:N4<=6:=by omega
    have CX:Hid (∀l∈Ku.rows es hv' es.length,1<=l.length/\l.length<=17592186044000):=by
     refine ζ fun l hl=> ?_
     obtain⟨t,ht⟩:=aaS hl;obtain⟨c,hc,rfl⟩:=Ku.qp ht;have ng:=Ku.wE (hv:=hv') (aad _) (aai hc);rw[Ku.bL,Ku.bC ng.ne];have:=Ku.GK ng;omega
    have JJ:J<=17592186044000:=by omega
    obtain⟨V,hV⟩:∃V,V=w8.alloc (.cells #[.int .i64 1,.slice a4 N4 c4,.slice none 0 0] 82):=⟨_,rfl⟩;have DM:Below w8.heap.size w8 V:=by rw[hV];exact(aae _ _).alloc (aad _) _
    have gK:V.heap[w8.heap.size]? =some (.cells #[.int .i64 1,.slice a4 N4 c4,.slice none 0 0] 82 (0,0)):=by rw[hV];exact heap_alloc_new w8 _
    have hw1:w.heap.size+1<w1.heap.size:=lt_of_block VE.out;have h6:w1.heap.size<=w6.heap.size:=Wx.out;have h78:=Ww.out;have HT:=ζ (fun (e:Ending) (w':World) (hf:Ku.Found w.heap.size 1 (Ku.rows es hv' es.length) (Ku.cA (Si.aS (m:Int) es) 4 m) e w') (hb:Below w.heap.size w w')=>(⟨.inr ⟨m,hv',rfl,.inr (.inl ⟨HIS.out,hf⟩)⟩,hb⟩:Ku.CL (m:Int) es w e w'));have k1:ay V w1.heap.size (.slice va J K5) us (Ku.rows es hv' es.length):=E8.out.later DM;have k2:∀b,((Value.slice va J K5).ownBlock=some b\/cC us b)->b≠w8.heap.size/\b≠w.heap.size+1:=fun b hb=>by
     have:=E8.out.within hb;omega
    have k3:∀x,a4=some x->x.block≠w8.heap.size/\x.block≠w.heap.size+1/\w.heap.size<=x.block:=fun x hx=>by
     have:=adK.out x hx;omega
    have k4:V.heap[w.heap.size+1]? =_:=aX VD.out DM;have k5:Below w.heap.size w V:=C8.out.trans (DM.mono C8.out.size);have k6:aU V a4 (Ku.cA (Si.aS (m:Int) es) 4 m):=ac9.out.later DM;have iG:=ζ (And.intro k1 (And.intro k2 (And.intro k3 (And.intro k4 (And.intro k5 (And.intro k6 gK))))));obtain⟨c0,-,-,-⟩:=aO gK;have HV:=ζ hV;rw[hV] at c0;clear hA1 hA2 Va hsum hx2 hx3 x2 x3 zf Yt k1 k2 k3 k4 k5 k6 DM gK hV
    go_upto_region 16 with fail
    rw[<-HV.out];obtain⟨k1,k2,k3,k4,k5,k6,gK⟩:=iG.out;clear c0;obtain⟨c0,-,-,-⟩:=aO gK
    repeat (first|exact QG w1.heap.size w8.heap.size (w.heap.size+1) J K5 N4 c4 1 va a4 us (Ku.rows es hv' es.length) (Ku.cA (Si.aS (m:Int) es) 4 m) (m:Int) es w V (.inl rfl) Zi.out hN5 HJ.out JJ k1 k2 CX.out k6 k3 (by omega) gK k4 hkn ⟨by omega,by omega⟩ k5 HT.out|go_step)
   .by_cases hB:N3=6/\RI=6/\J=9
    .have HIS:Hid (Ku.zn (Si.aS (m:Int) es) m (Ku.rows es hv' es.length)):=ZJ.out.2 hB
     obtain⟨hB1,hB2,hB3⟩:=hB;have e1:x1=true:=by rw[<-hx1,hB1];rfl
     have e2:x2=true:=by rw[<-hx2,hB2];rfl
     have e3:x3=true:=by rw[<-hx3,hB3];rfl
     have e4:y1=false:=by
      rw[<-hy1];simp;omega
     subst e1 e2 e3 e4;have H6:Hid (N3=6):=ζ hB1;have CX:Hid (∀l∈Ku.rows es hv' es.length,1<=l.length/\l.length<=17592186044000):=by
      refine ζ fun l hl=> ?_
      obtain⟨t,ht⟩:=aaS hl;obtain⟨c,hc,rfl⟩:=Ku.qp ht;have ng:=Ku.wE (hv:=hv') (aad _) (aai hc);rw[Ku.bL,Ku.bC ng.ne];have:=Ku.GK ng;omega
     have JJ:J<=17592186044000:=by omega
     obtain⟨V,hV⟩:∃V,V=w8.alloc (.cells #[.int .i64 2,.slice none 0 0,.slice none 0 0] 82):=⟨_,rfl⟩;have DM:Below w8.heap.size w8 V:=by rw[hV];exact(aae _ _).alloc (aad _) _
     have gK:V.heap[w8.heap.size]? =some (.cells #[.int .i64 2,.slice none 0 0,.slice none 0 0] 82 (0,0)):=by rw[hV];exact heap_alloc_new w8 _
     have hw1:w.heap.size+1<w1.heap.size:=lt_of_block VE.out;have h6:w1.heap.size<=w6.heap.size:=Wx.out;have h78:=Ww.out;have gJ:=ζ (IZ w1.heap.size va J K5 us (Ku.rows es hv' es.length) a3 N3 c3 (Ku.cA (Si.aS (m:Int) es) 3 m) V HJ.out (E8.out.later DM) JJ CX.out Tv.out (jd.out.later DM) (by omega));have LS:w8.heap.size<V.heap.size:=lt_of_block gK;have HGK:=ζ gK;have HBK:=ζ DM;have HV:=ζ hV;have HT:=ζ (fun (e:Ending) (w':World) (hf:Ku.Found w.heap.size 2 (Ku.rows es hv' es.length) (Ku.e6 (Ku.rows es hv' es.length) (Ku.cA (Si.aS (m:Int) es) 3 m) 6++Ku.iO (Ku.rows es hv' es.length) (Ku.cA (Si.aS (m:Int) es) 3 m) 6) e w') (hb:Below w.heap.size w w')=>(⟨.inr ⟨m,hv',rfl,.inr (.inr ⟨HIS.out,hf⟩)⟩,hb⟩:Ku.CL (m:Int) es w e w'));clear hA hB1 hB2 hB3 hsum hy2 Pj y2 y3 zf Yt DM gK hV;go_wp2_with (go_at_call 65;rw[<-HV.out];refine gJ.out.mono ?_;refine aaj ?_);refine ζ ?_;rintro e w9 ⟨v9,rfl,XM,UY⟩;rw[H6.out] at XM;obtain⟨sa,sc,bZ,X5,Wd⟩:=XM.form;obtain⟨br,hbr⟩:∃br,Ku.e6 (Ku.rows es hv' es.length) (Ku.cA (Si.aS (m:Int) es) 3 m) 6++Ku.iO (Ku.rows es hv' es.length) (Ku.cA (Si.aS (m:Int) es) 3 m) 6=br:=⟨_,rfl⟩;have hbl:br.length=6:=by rw[<-hbr,aar];exact Ku.tX _ _ 6
     rw[hbr] at bZ X5 HT;obtain⟨q6,L6⟩:∃q6,br.length=q6:=⟨_,rfl⟩;rw[L6] at bZ hbl;subst bZ;have HQ6:=ζ L6;have aaN:q6<=6:=by omega
     have g9:=aX HGK.out UY;obtain⟨y0,y1,y2,yf⟩:=aO g9;have hyf:=yf 1;have hs9:=UY.size;obtain⟨X,hX⟩:∃X,X=w9.setCell ⟨w8.heap.size,1,none⟩ (.slice sa q6 sc):=⟨_,rfl⟩;have gX:X.heap[w8.heap.size]? =some (.cells #[.int .i64 2,.slice sa q6 sc,.slice none 0 0] 82 (0,0)):=by
      rw[hX,heap_setCell_same w9 w8.heap.size 1 _ _ _ g9];simp
     have oX:∀b,b≠w8.heap.size->X.heap[b]? =w9.heap[b]? :=fun b hb=>by
      rw[hX];exact heap_setCell_other _ ⟨w8.heap.size,1,none⟩ b _ hb
     have NP:Below w8.heap.size w8 w9:=HBK.out.trans (UY.mono HBK.out.size);have We:Below w.heap.size w X:=by
      rw[hX];exact(C8.out.trans (NP.mono C8.out.size)).setCell (p:=⟨w8.heap.size,1,none⟩) (by have:=C8.out.size;omega) _
     have k1:ay X w1.heap.size (.slice va J K5) us (Ku.rows es hv' es.length):=(E8.out.later NP).kept fun b hb _=>oX b (by have:=E8.out.within hb;omega)
     have k2:∀b,((Value.slice va J K5).ownBlock=some b\/cC us b)->b≠w8.heap.size/\b≠w.heap.size+1:=fun b hb=>by
      have:=E8.out.within hb;omega
     have k3:∀x,sa=some x->x.block≠w8.heap.size/\x.block≠w.heap.size+1/\w.heap.size<=x.block:=fun x hx=>by
      have:=Wd x hx;omega
     have k4:X.heap[w.heap.size+1]? =some (.cells #[.int .i64 0,.slice none 0 0,.slice none 0 0] 82 (0,0)):=(oX _ hkn).trans (aX VD.out NP);have k6:aU X sa br:=fun j x hj=>by
      obtain⟨b,o,he,hc⟩:=X5 j x hj;exact⟨b,o,he,(abJ (a:=⟨b,o+j,none⟩) (oX b (k3 _ he).1)).trans hc⟩
     have iG:=ζ (And.intro k1 (And.intro k2 (And.intro k3 (And.intro k4 (And.intro We (And.intro k6 gX))))));have HX:=ζ hX;clear yf hbr hbl L6 k1 k2 k3 k4 k6 We gX oX NP hX XM X5 Wd UY g9
     go_upto_region 16 with fail
     rw[<-HX.out];obtain⟨k1,k2,k3,k4,k5,k6,gK⟩:=iG.out;clear y0 y1 y2;obtain⟨c0,-,-,-⟩:=aO gK
     repeat (first|exact QG w1.heap.size w8.heap.size (w.heap.size+1) J K5 q6 sc 2 va sa us (Ku.rows es hv' es.length) br (m:Int) es w X (.inr rfl) HQ6.out aaN HJ.out JJ k1 k2 CX.out k6 k3 (by omega) gK k4 hkn ⟨by omega,by omega⟩ k5 HT.out|go_step)
    .have HNA:Hid (¬Ku.KB (Si.aS (m:Int) es) m (Ku.rows es hv' es.length)):=fun h=>hA (H5.out.1 h)
     have HNB:Hid (¬Ku.zn (Si.aS (m:Int) es) m (Ku.rows es hv' es.length)):=fun h=>hB (ZJ.out.1 h)
     have hya:y1=false\/(y1=true/\y2=false)\/(y1=true/\y2=true/\y3=false):=by
      have hno:¬(y1=true/\y2=true/\y3=true):=fun ⟨a,b,c⟩=>hA ⟨by have:=hy1.trans a;simp at this;omega,by have:=hy2.trans b;simpa using this,by have:=Pj.trans c;simp at this;omega⟩
      revert hno;clear hy1 hy2 Pj;cases y1<;>cases y2<;>cases y3<;>simp
     have UB:x1=false\/(x1=true/\x2=false)\/(x1=true/\x2=true/\x3=false):=by
      have hno:¬(x1=true/\x2=true/\x3=true):=fun ⟨a,b,c⟩=>hB ⟨by have:=hx1.trans a;simp at this;omega,by have:=hx2.trans b;simpa using this,by have:=hx3.trans c;simp at this;omega⟩
      revert hno;clear hx1 hx2 hx3;cases x1<;>cases x2<;>cases x3<;>simp
     clear hA hB hsum zf;rcases hya with rfl|⟨rfl,rfl⟩|⟨rfl,rfl,rfl⟩<;>rcases UB with rfl|⟨rfl,rfl⟩|⟨rfl,rfl,rfl⟩
     all_goals
      go_wp2;refine bodyPost_ret (bN rfl rfl _ _ (w.heap.size+1) _ _ _ _ _ rfl rfl rfl (CC (au z0 z1 z2 _ _ _).1 _) (CC (au z0 z1 z2 _ _ _).2.1 _) (CC (au z0 z1 z2 _ _ _).2.2 _)) rfl ?_;exact⟨.inr ⟨m,hv',rfl,.inl ⟨HNA.out,HNB.out,rfl⟩⟩,(bO C8.out (by omega) _ _ _).alloc (bO C8.out (by omega) _ _ _).size _⟩
 .have HV:=ζ hv
  clear hv hb1;go_wp2;refine bodyPost_ret (bN rfl rfl _ _ (w.heap.size+1) _ _ _ _ _ rfl rfl rfl (au z0 z1 z2 _ _ _).1 (au z0 z1 z2 _ _ _).2.1 (au z0 z1 z2 _ _ _).2.2) rfl ?_;exact⟨.inl ⟨HV.out,rfl⟩,bO kB.out (by omega) _ _ _⟩
end
end Go.Proofs.YtdbjpbjocmcpkaaGreatDoor
