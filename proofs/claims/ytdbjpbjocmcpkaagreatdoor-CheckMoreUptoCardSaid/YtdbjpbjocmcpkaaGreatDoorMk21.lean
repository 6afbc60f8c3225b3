import Derived.Test.YtdbjpbjocmcpkaaGreatDoorMk20
set_option maxHeartbeats 4000000
set_option maxRecDepth 100000
namespace Go.Proofs.YtdbjpbjocmcpkaaGreatDoor
section
open Go.Proofs.Tryz
open Go.RowKit
def j9 (w:World) (T o:Nat) (t:Nu.Tok):Prop:=
 w.cell? ⟨T,o,none⟩=some (.int .i64 t.kind)/\w.cell? ⟨T,o+1,none⟩=some (.int .i64 t.at')/\w.cell? ⟨T,o+2,none⟩=some (.int .i64 t.fin)/\w.cell? ⟨T,o+3,none⟩=some (.int .i64 t.num)
def bT (w:World) (T o:Nat) (l:List Nu.Tok):Prop:=∀j t,l[j]? =some t->j9 w T (o+j*4) t
theorem j9.lt {w:World} {T o:Nat} {t:Nu.Tok} (h:j9 w T o t):T<w.heap.size:=block_lt_of_cell h.1
theorem j9.below {w w':World} {B T o:Nat} {t:Nu.Tok} (h:j9 w T o t) (hb:Below B w w') (hT:T<B):j9 w' T o t:=
 ⟨(hb.cell (p:=⟨T,o,none⟩) hT).trans h.1,(hb.cell (p:=⟨T,o+1,none⟩) hT).trans h.2.1,(hb.cell (p:=⟨T,o+2,none⟩) hT).trans h.2.2.1,(hb.cell (p:=⟨T,o+3,none⟩) hT).trans h.2.2.2⟩
theorem bT.below {w w':World} {B T o:Nat} {l:List Nu.Tok} (h:bT w T o l) (hb:Below B w w') (hT:T<B):bT w' T o l:=
 fun j t hj=>(h j t hj).below hb hT
theorem bT.fst {w:World} {T o:Nat} {l:List Nu.Tok} (h:bT w T o l) (hl:l≠[]):j9 w T o (Pa.tk l 0):=by
 cases l with
 |nil=>exact absurd rfl hl
 |cons t l=>simpa[Pa.tk] using h 0 t rfl
theorem bT.snd {w:World} {T o:Nat} {l:List Nu.Tok} (h:bT w T o l) (hl:l.length=2):j9 w T (o+4) (Pa.tk l 1):=by
 cases l with
 |nil=>simp at hl
 |cons t l=>cases l with
  |nil=>simp at hl
  |cons u l=>simpa[Pa.tk] using h 1 u rfl
theorem zM (w:World) (r:Option Nat):w.grownBy w r:=⟨rfl,rfl,rfl,aaD _,fun _ _ _=>rfl⟩
theorem bO.put {w:World} {b:Nat} {s:Pa.St} {v:Value} (h:bO w b s v) (x:Bool) (n m:Int) (ps:List (Int×Int)):
 bO (((w.setCell ⟨b,0,none⟩ (.bool x)).setCell ⟨b,1,none⟩ (.int .i64 n)).setCell ⟨b,2,none⟩ (.int .i64 m)) b ⟨x,n,m,ps⟩ v:=by
 unfold bO at h ⊢;have h1:=heap_setCell_same w b 0 _ _ (.bool x) h;have h2:=heap_setCell_same _ b 1 _ _ (.int .i64 n) h1;have h3:=heap_setCell_same _ b 2 _ _ (.int .i64 m) h2;simpa using h3
theorem bO.alloc {w:World} {b:Nat} {s:Pa.St} {v:Value} (h:bO w b s v) (o:Obj):bO (w.alloc o) b s v:=(aaO w o b h.lt).trans h
theorem nG {w w':World} {b:Option Nat} (h:Below w.heap.size w w'):w.grownBy w' b/\Below w.heap.size w w':=⟨⟨h.os,h.tape,h.output,h.size,fun k hk _=>h.block k hk⟩,h⟩
theorem Er (b:Nat) (s:Pa.St) (v:Value) (T o cap:Nat) (l:List Nu.Tok) (w:World) (hr:bO w b s v) (hl:bT w T o l) (hne:l≠[]) (hlen:l.length<=33554433) (Cc:T≠b):
 Calls prog 154 #[.pointer (some ⟨b,0,none⟩),.slice (some ⟨T,o,none⟩) l.length cap] w fun e w'=>
  e= .returned (gB (Pa.header s l))/\w.grownBy w' (some b)/\match Pa.header s l with
   | .error _=>Below w.heap.size w w'
   | .ok s'=>bO w' b s' v:=by
 have hlt:=hr.lt;have hpos:0<l.length:=acu.2 hne;have vq:=(hl.fst hne).lt;obtain⟨k0,k1,k2,k3⟩:=hl.fst hne;have ap:(0:Int)<(l.length:Int):=by omega
 unfold Pa.header gB IY;by_cases h2:l.length=2
 .have j0:((l.length:Int) != 2)=false:=by simp;omega
  have YT:(1:Int)<(l.length:Int):=by omega
  obtain⟨q0,q1,q2,q3⟩:=hl.snd h2;rw[if_neg (by omega)];by_cases hn:1048576<(Pa.tk l 0).num
  .rw[if_pos hn]
   go_enter func154,ntmps154;go_wp2_with (go_at_call 156;refine(cH 21 (Pa.tk l 0) _).mono ?_;rintro e w1 ⟨rfl,hb⟩;unfold aH;obtain⟨hc,hf⟩:=l9 hb;have hz:=hb.size;simp at hz);refine bodyPost_ret (v:= .agg #[.int .i64 21,.int .i64 (Pa.tk l 0).at']) (by simp[results,results154,go_sem,hc]) rfl ⟨rfl,?_⟩;exact nG ((((((aaE _ _).alloc (aaD _) _)).trans (hb.mono (by simp))).setCell (by simp) _).setCell (by simp) _)
  .rw[if_neg hn]
   by_cases hm:2097152<(Pa.tk l 1).num
   .rw[if_pos hm]
    go_enter func154,ntmps154;go_wp2_with (go_at_call 156;refine(cH 22 (Pa.tk l 1) _).mono ?_;rintro e w1 ⟨rfl,hb⟩;unfold aH;obtain⟨hc,hf⟩:=l9 hb;have hz:=hb.size;simp at hz);refine bodyPost_ret (v:= .agg #[.int .i64 22,.int .i64 (Pa.tk l 1).at']) (by simp[results,results154,go_sem,hc]) rfl ⟨rfl,?_⟩;exact nG ((((((aaE _ _).alloc (aaD _) _)).trans (hb.mono (by simp))).setCell (by simp) _).setCell (by simp) _)
   .rw[if_neg hm]
    have c0:=hr.c0;have c1:=hr.c1;have c2:=hr.c2;have f0:=hr.free 0;have f1:=hr.free 1;have f2:=hr.free 2;have aaz:b≠T:=fun h=>Cc h.symm
    go_enter func154,ntmps154;go_wp2_with fail
    go_region
    go_wp2;refine bodyPost_ret (v:= .agg #[.int .i64 0,.int .i64 0]) (by simp[results,results154,go_sem]) rfl ⟨rfl,?_,?_⟩
    .exact zN (ig (grownBy_setCell (grownBy_setCell (grownBy_setCell (zM _ _) 0 _) 1 _) 2 _) _)
    .exact(hr.put true _ _ s.pairs).alloc _
 .have j0:((l.length:Int) != 2)=true:=by simp;omega
  rw[if_pos h2];go_enter func154,ntmps154;go_wp2_with (go_at_call 156;refine(cH 20 (Pa.tk l 0) _).mono ?_;rintro e w1 ⟨rfl,hb⟩;unfold aH;obtain⟨hc,hf⟩:=l9 hb;have hz:=hb.size;simp at hz);refine bodyPost_ret (v:= .agg #[.int .i64 20,.int .i64 (Pa.tk l 0).at']) (by simp[results,results154,go_sem,hc]) rfl ⟨rfl,?_⟩;exact nG ((((((aaE _ _).alloc (aaD _) _)).trans (hb.mono (by simp))).setCell (by simp) _).setCell (by simp) _)
end
section
open Go.Proofs.Tryz
open Go.RowKit
theorem Tryz.Ks:(prog.info? 57).map (fun i=>(i.zero,i.size,i.bytes))=some (some (.agg #[.int .i64 0,.int .i64 0]),2,16):=by kernel_rfl
def sY (ps:List (Int×Int)):List Value:=ps.flatMap fun p=>[.int .i64 p.1,.int .i64 p.2]
theorem EN (ps:List (Int×Int)) (p:Int×Int):sY (ps++[p])=sY ps++[.int .i64 p.1,.int .i64 p.2]:=by simp[sY]
def aF (w:World) (B:Nat) (v:Value) (ps:List (Int×Int)):Prop:=w.ownsRow B 57 2 v ps.length (sY ps)
structure Kept (b:Nat) (v:Value) (w w':World):Prop where
 os:w'.os=w.os
 tape:w'.tape=w.tape
 output:w'.output=w.output
 size:w.heap.size<=w'.heap.size
 block:∀k,k<w.heap.size->k≠b->some k≠v.ownBlock->w'.heap[k]? =w.heap[k]?
theorem Kept.of_below {b:Nat} {v:Value} {w w':World} (h:Below w.heap.size w w'):Kept b v w w':=⟨h.os,h.tape,h.output,h.size,fun k hk _ _=>h.block k hk⟩
theorem Kept.J8 {b:Nat} {v:Value} {w w':World} (h:w.grownBy w' (some b)):Kept b v w w':=⟨h.os,h.tape,h.output,h.size,fun k hk hne _=>h.block k hk (by simpa using hne)⟩
def nK (B b:Nat) (v:Value) (r:Except (Int×Int) Pa.St) (w w':World):Prop:=match r with
 | .error _=>True
 | .ok s'=>∃v',bO w' b s' v'/\aF w' B v' s'.pairs/\∀g,v'.ownBlock=some g->v.ownBlock=some g\/w.heap.size<=g
def oL (B b:Nat) (v:Value) (r:Except (Int×Int) Pa.St) (w:World) (e:Ending) (w':World):Prop:=
 e= .returned (gB r)/\Kept b v w w'/\nK B b v r w w'
theorem aF.form {w:World} {B:Nat} {v:Value} {ps:List (Int×Int)} (h:aF w B v ps):∃ao cap,v= .slice ao ps.length cap/\ps.length<=cap/\(∀x,ao=some x->B<=x.block/\x.block<w.heap.size):=by
 rcases h.2 with ⟨rfl,h0⟩|⟨g,cap,cur,rfl,hg,hh,hc,_⟩
 .exact⟨none,0,by rw[h0],by omega,fun x h=>by cases h⟩
 .exact⟨_,cap,rfl,hc,fun x h=>by cases h;exact⟨hg,lt_of_block hh⟩⟩
theorem aF.far {w:World} {B b:Nat} {v:Value} {ps:List (Int×Int)} (h:aF w B v ps) (hb:b<B):v.ownBlock≠some b:=by
 obtain⟨ao,cap,rfl,_,hx⟩:=h.form;cases ao with
 |none=>simp[Value.ownBlock]
 |some x=>have:=hx x rfl;simp[Value.ownBlock];omega
theorem aF.grown {w w':World} {B b:Nat} {v:Value} {ps:List (Int×Int)} (h:aF w B v ps) (hg:w.grownBy w' (some b)) (hb:b<B):aF w' B v ps:=by
 refine⟨h.1,?_⟩;rcases h.2 with h|⟨g,cap,cur,e,hgB,hh,hr⟩
 .exact .inl h
 .exact .inr ⟨g,cap,cur,e,hgB,(hg.block g (lt_of_block hh) (by simp;omega)).trans hh,hr⟩
theorem aF.below {w w':World} {B A:Nat} {v:Value} {ps:List (Int×Int)} (h:aF w B v ps) (hb:Below A w w') (hA:w.heap.size<=A):aF w' B v ps:=by
 refine⟨h.1,?_⟩;rcases h.2 with h|⟨g,cap,cur,e,hgB,hh,hr⟩
 .exact .inl h
 .exact .inr ⟨g,cap,cur,e,hgB,(hb.block g (by have:=lt_of_block hh;omega)).trans hh,hr⟩
theorem dU {w:World} {r:Nat} {a b:Value} {t:TypeId} (h:w.heap[r]? =some (.cells #[a,b] t (0,0))):w.cell? ⟨r,0,none⟩=some a/\w.cell? ⟨r,1,none⟩=some b/\∀i,w.frozen? ⟨r,i,none⟩=false:=by
 refine⟨?_,?_,fun i=> ?_⟩<;>simp[World.cell?,World.frozen?,h]
theorem bO.store {w:World} {b:Nat} {s:Pa.St} {v:Value} (h:bO w b s v) (v':Value) (ps:List (Int×Int)):bO (w.setCell ⟨b,3,none⟩ v') b ⟨s.begun,s.n,s.m,ps⟩ v':=by
 unfold bO at h ⊢;have h1:=heap_setCell_same w b 3 _ _ v' h;simpa using h1
theorem KV {B b:Nat} {s:Pa.St} {va:Option Addr} {vc gg nD:Nat} {p q:Int} {w W w1:World} {x:Obj} (hlt:b<w.heap.size) (hb:b<B) (hbW:Below w.heap.size w W) (Ky:W.heap.size=w.heap.size+1)
 (hr:bO W b s (.slice va s.pairs.length vc)) (hp:aF W B (.slice va s.pairs.length vc) s.pairs) (hv:∀x,va=some x->B<=x.block/\x.block<w.heap.size)
 (hown:w1.ownsRow B 57 2 (.slice (some ⟨gg,0,none⟩) (s.pairs.length+1) nD) (s.pairs.length+1) (sY s.pairs++[.int .i64 p,.int .i64 q])) (hg:(W.alloc x).drew.grownBy w1 (Value.slice va s.pairs.length vc).ownBlock)
 (hat:(Value.slice va s.pairs.length vc).ownBlock=some gg\/gg=W.heap.size+1) (a0 a1:Value):
 Kept b (.slice va s.pairs.length vc) w (((w1.setCell ⟨b,3,none⟩ (.slice (some ⟨gg,0,none⟩) (s.pairs.length+1) nD)).setCell ⟨w.heap.size,0,none⟩ a0).setCell ⟨w.heap.size,1,none⟩ a1)/\
 ∃v',bO (((w1.setCell ⟨b,3,none⟩ (.slice (some ⟨gg,0,none⟩) (s.pairs.length+1) nD)).setCell ⟨w.heap.size,0,none⟩ a0).setCell ⟨w.heap.size,1,none⟩ a1) b ⟨s.begun,s.n,s.m,s.pairs++[(p,q)]⟩ v'/\
  aF (((w1.setCell ⟨b,3,none⟩ (.slice (some ⟨gg,0,none⟩) (s.pairs.length+1) nD)).setCell ⟨w.heap.size,0,none⟩ a0).setCell ⟨w.heap.size,1,none⟩ a1) B v' (s.pairs++[(p,q)])/\∀g,v'.ownBlock=some g->(Value.slice va s.pairs.length vc).ownBlock=some g\/w.heap.size<=g:=by
 have oy:∀k,k≠b->k≠w.heap.size->(((w1.setCell ⟨b,3,none⟩ (.slice (some ⟨gg,0,none⟩) (s.pairs.length+1) nD)).setCell ⟨w.heap.size,0,none⟩ a0).setCell ⟨w.heap.size,1,none⟩ a1).heap[k]? =w1.heap[k]? :=fun k h1 h2=>by
  rw[heap_setCell_other _ ⟨w.heap.size,1,none⟩ k a1 h2,heap_setCell_other _ ⟨w.heap.size,0,none⟩ k a0 h2,heap_setCell_other _ ⟨b,3,none⟩ k _ h1]
 have hne:∀k,k<B->some k≠(Value.slice va s.pairs.length vc).ownBlock:=fun k hk=>(hp.far hk).symm
 have hold:∀k,k<W.heap.size->some k≠(Value.slice va s.pairs.length vc).ownBlock->w1.heap[k]? =W.heap[k]? :=fun k hk h=>by
  rw[hg.block k (by show k<(W.alloc x).heap.size;simp;omega) h];exact aaO W x k hk
 have hsz:=hg.size;have hsz':W.heap.size+1<=w1.heap.size:=by
  have:(W.alloc x).heap.size<=w1.heap.size:=hsz;simpa using this
 have Vh:gg≠b/\gg≠w.heap.size:=by
  rcases hat with h|h
  .cases va with
   |none=>simp[Value.ownBlock] at h
   |some y=>have:=hv y rfl;simp[Value.ownBlock] at h;omega
  .omega
 have hrd:bO (w1.setCell ⟨b,3,none⟩ (.slice (some ⟨gg,0,none⟩) (s.pairs.length+1) nD)) b ⟨s.begun,s.n,s.m,s.pairs++[(p,q)]⟩ (.slice (some ⟨gg,0,none⟩) (s.pairs.length+1) nD):=by
  have h1:bO w1 b s (.slice va s.pairs.length vc):=(hold b (by omega) (hne b hb)).trans hr;exact h1.store _ _
 refine⟨⟨?_,?_,?_,by simp;omega,fun k hk hkb hkv=> ?_⟩,.slice (some ⟨gg,0,none⟩) (s.pairs.length+1) nD,?_,?_,fun g h=> ?_⟩
 .exact(hg.os.trans hbW.os)
 .exact(hg.tape.trans hbW.tape)
 .exact(hg.output.trans hbW.output)
 .rw[oy k hkb (by omega),hold k (by omega) hkv]
  exact hbW.block k (by omega)
 .unfold bO
  rw[heap_setCell_other _ ⟨w.heap.size,1,none⟩ b a1 (by simp;omega),heap_setCell_other _ ⟨w.heap.size,0,none⟩ b a0 (by simp;omega)];exact hrd
 .unfold aF
  rw[EN,aaN];refine⟨hown.1,?_⟩;rcases hown.2 with ⟨h,_⟩|⟨g',c',cur,e,hgB,hh,GL⟩
  .cases h
  .cases e
   exact .inr ⟨gg,nD,cur,rfl,hgB,(oy gg Vh.1 Vh.2).trans hh,GL⟩
 .simp[Value.ownBlock] at h
  subst h;rcases hat with h|h
  .exact .inl h
  .exact .inr (by omega)
theorem KW (B b:Nat) (s:Pa.St) (v:Value) (T o cap:Nat) (l:List Nu.Tok) (w:World) (hr:bO w b s v) (hp:aF w B v s.pairs) (hl:bT w T o l) (hne:l≠[]) (hlen:l.length<=33554433) (hT:T<B) (hb:b<B) (hB:B<=w.heap.size) (hps:s.pairs.length<=33554432):
 Calls prog 155 #[.pointer (some ⟨b,0,none⟩),.slice (some ⟨T,o,none⟩) l.length cap] w (oL B b v (Pa.uE s l) w):=by
 have hlt:=hr.lt;have hpos:0<l.length:=acu.2 hne;have vq:=(hl.fst hne).lt;obtain⟨k0,k1,k2,k3⟩:=hl.fst hne;have ap:(0:Int)<(l.length:Int):=by omega
 obtain⟨va,vc,rfl,hvc,O8⟩:=hp.form;have c1:=hr.c1;have c2:=hr.c2;have c3:=hr.c3;have f3:=hr.free 3;have HR:=ζ hr;have HP:=ζ hp;have We:=ζ O8;clear hr hp O8;unfold oL Pa.uE gB IY nK;by_cases hm:(s.pairs.length:Int)=s.m
 .have jm:((s.pairs.length:Int)==s.m)=true:=by simp[hm]
  rw[if_pos hm];have HM:=ζ hm;clear hm;go_enter func155,ntmps155;go_wp2_with fail;go_quiet (fail);go_wp2_with (go_at_call 156;refine(cH 26 (Pa.tk l 0) _).mono ?_;rintro e w1 ⟨rfl,hb1⟩;unfold aH;obtain⟨hc,hf⟩:=l9 hb1;have hz:=hb1.size;simp at hz);refine bodyPost_ret (v:= .agg #[.int .i64 26,.int .i64 (Pa.tk l 0).at']) (by simp[results,results155,go_sem,hc]) rfl ⟨rfl,?_,trivial⟩;exact Kept.of_below (((((below_drewN ((aaE _ _).alloc (aaD _) _) nq).trans (hb1.mono (by simp))).setCell (by simp) _).setCell (by simp) _))
 .have jm:((s.pairs.length:Int)==s.m)=false:=by simp[hm]
  rw[if_neg hm];have HM:=ζ hm;clear hm;by_cases h2:l.length=2
  .have j0:((l.length:Int) != 2)=false:=by simp;omega
   have YT:(1:Int)<(l.length:Int):=by omega
   obtain⟨q0,q1,q2,q3⟩:=hl.snd h2;rw[if_neg (by omega)];by_cases hu:s.n<=(Pa.tk l 0).num
   .rw[if_pos hu]
    go_enter func155,ntmps155;go_wp2_with fail;go_quiet (fail);go_wp2_with fail;go_quiet (fail);go_wp2_with (go_at_call 156;refine(cH 24 (Pa.tk l 0) _).mono ?_;rintro e w1 ⟨rfl,hb1⟩;unfold aH;obtain⟨hc,hf⟩:=l9 hb1;have hz:=hb1.size;simp at hz);refine bodyPost_ret (v:= .agg #[.int .i64 24,.int .i64 (Pa.tk l 0).at']) (by simp[results,results155,go_sem,hc]) rfl ⟨rfl,?_,trivial⟩;exact Kept.of_below (((((below_drewN ((aaE _ _).alloc (aaD _) _) _).trans (hb1.mono (by simp))).setCell (by simp) _).setCell (by simp) _))
   .rw[if_neg hu]
    by_cases hv:s.n<=(Pa.tk l 1).num
    .rw[if_pos hv]
     go_enter func155,ntmps155;go_wp2_with fail;go_quiet (fail);go_wp2_with fail;go_quiet (fail);go_wp2_with fail;go_quiet (fail);go_wp2_with (go_at_call 156;refine(cH 24 (Pa.tk l 1) _).mono ?_;rintro e w1 ⟨rfl,hb1⟩;unfold aH;obtain⟨hc,hf⟩:=l9 hb1;have hz:=hb1.size;simp at hz);refine bodyPost_ret (v:= .agg #[.int .i64 24,.int .i64 (Pa.tk l 1).at']) (by simp[results,results155,go_sem,hc]) rfl ⟨rfl,?_,trivial⟩;exact Kept.of_below (((((below_drewN ((aaE _ _).alloc (aaD _) _) _).trans (hb1.mono (by simp))).setCell (by simp) _).setCell (by simp) _))
    .rw[if_neg hv]
     obtain⟨i0,hi,hz0,hz1,hz2⟩:=info_parts Tryz.Ks;have ab:=HP.out.far hb;have aT:=HP.out.far hT;go_enter func155,ntmps155;go_wp2_with fail;go_quiet (fail);go_wp2_with fail;go_quiet (fail);go_wp2_with fail;go_quiet (fail);go_wp2_with fail;generalize hW:(((w.alloc (.cells #[.int .i64 0,.int .i64 0] 39)).drewN _).drewN _).drewN nq=W;have hbW:Below w.heap.size w W:=by rw[<-hW];exact below_drewN (below_drewN (below_drewN ((aaE _ _).alloc (aaD _) _) _) _) _
     have Ky:W.heap.size=w.heap.size+1:=by rw[<-hW];simp[World.drewN]
     have hres:W.heap[w.heap.size]? =some (.cells #[.int .i64 0,.int .i64 0] 39 (0,0)):=by rw[<-hW];exact heap_alloc_new w _
     have O9:=HR.out.below hbW hlt;have UG:=HP.out.below hbW (aaD _);have e3:=O9.c3;have g3:=O9.free 3;have m3:W.cell? ⟨T,o+3,none⟩=some (.int .i64 (Pa.tk l 0).num):=(hbW.cell (p:=⟨T,o+3,none⟩) vq).trans k3;have n3:W.cell? ⟨T,o+4+3,none⟩=some (.int .i64 (Pa.tk l 1).num):=(hbW.cell (p:=⟨T,o+4+3,none⟩) vq).trans q3;have ltb:b<W.heap.size:=by omega
     have ltT:T<W.heap.size:=by omega
     have ar:some w.heap.size≠(Value.slice va s.pairs.length vc).ownBlock:=fun h=>by
      cases va with
      |none=>simp[Value.ownBlock] at h
      |some x=>have:=(We.out x rfl).2;simp[Value.ownBlock] at h;omega
     have vv:=ζ Ky;clear Ky;have Ba:=ζ hres;have yS:=ζ O9;have Wu:=ζ UG;have eM:=ζ hbW;have HL:=ζ hl;clear hres O9 UG hbW hW k0 k1 k2 k3 q0 q1 q2 q3 c1 c2 c3 f3 hl jm hu hv
     go_region_law
      (refine step_append_lies _ (by rfl) _ _ _ (by rfl) B 57 i0 _ 2 16 Tryz.underlying59 hi hz0 hz1 hz2 rfl (by omega) (.slice va s.pairs.length vc) s.pairs.length (sY s.pairs) (by rfl) ((Wu.out.alloc _).drew)
        ⟨W.heap.size,0,none⟩ 1 1 [.int .i64 (Pa.tk l 0).num,.int .i64 (Pa.tk l 1).num] (by rfl) (by rfl) (ab7 (cs:= #[.int .i64 (Pa.tk l 0).num,.int .i64 (Pa.tk l 1).num]) (t:=57) (fr:=(0,0)) (heap_alloc_new W _)) (by simp[Value.oneCell'])
        (by omega) (by unfold maxLen;omega) (by omega) (by have:=vv.out;simp;omega) (W.heap.size+1) (by simp) ?_;intro gg nD w1 hown1 hgrow hat Qj;have x3:=(hgrow.cell_far ⟨b,3,none⟩ (by simp;omega) (abM ab)).trans (yS.out.alloc _).c3;have x4:=(hgrow.frozen_far ⟨b,3,none⟩ (by simp;omega) (abM ab)).trans ((yS.out.alloc _).free 3);have y0:=hgrow.block w.heap.size (by have:=vv.out;simp;omega) ar;have y1:=y0.trans ((aaO W _ _ (lt_of_block Ba.out)).trans Ba.out);clear y0;obtain⟨z0,z1,z2⟩:=dU y1;have Y1:=ζ y1;clear y1)
     all_goals go_wp2
     all_goals
      refine bodyPost_ret (v:= .agg #[.int .i64 0,.int .i64 0]) (by simp[results,results155,go_sem, *]) rfl ⟨rfl,?_⟩;exact KV hlt hb eM.out vv.out yS.out Wu.out We.out hown1 hgrow hat _ _
  .have j0:((l.length:Int) != 2)=true:=by simp;omega
   rw[if_pos h2];go_enter func155,ntmps155;go_wp2_with fail;go_quiet (fail);go_wp2_with (go_at_call 156;refine(cH 23 (Pa.tk l 0) _).mono ?_;rintro e w1 ⟨rfl,hb1⟩;unfold aH;obtain⟨hc,hf⟩:=l9 hb1;have hz:=hb1.size;simp at hz);refine bodyPost_ret (v:= .agg #[.int .i64 23,.int .i64 (Pa.tk l 0).at']) (by simp[results,results155,go_sem,hc]) rfl ⟨rfl,?_,trivial⟩;exact Kept.of_below (((((below_drewN ((aaE _ _).alloc (aaD _) _) nq).trans (hb1.mono (by simp))).setCell (by simp) _).setCell (by simp) _))
end
section
open Go.Proofs.Tryz
open Go.RowKit
namespace Pa
theorem Cb {s:St} {l:List Nu.Tok} {x:Int×Int} (h:header s l= .error x):20<=x.1/\x.1<=26:=by
 unfold header at h
 split at h
 .cases h;simp
 .split at h
  .cases h;simp
  .split at h
   .cases h;simp
   .cases h
theorem Ho {s:St} {l:List Nu.Tok} {x:Int×Int} (h:uE s l= .error x):20<=x.1/\x.1<=26:=by
 unfold uE at h
 split at h
 .cases h;simp
 .split at h
  .cases h;simp
  .split at h
   .cases h;simp
   .split at h
    .cases h;simp
    .cases h
theorem xx {s:St} {l:List Nu.Tok} {x:Int×Int} (h:line s l= .error x):20<=x.1/\x.1<=26:=by
 unfold line at h
 split at h
 .exact Ho h
 .exact Cb h
theorem AY {s:St} {a:Int} {x:Int×Int} (h:fin s a= .error x):20<=x.1/\x.1<=26:=by
 unfold fin at h
 split at h
 .cases h;simp
 .split at h
  .cases h;simp
  .cases h
theorem Jo {s s':St} {a:Int} (h:fin s a= .ok s'):s'=s:=by
 unfold fin at h
 split at h
 .cases h
 .split at h
  .cases h
  .cases h;rfl
theorem uh {s s':St} {l:List Nu.Tok} (h:line s l= .ok s'):s'.pairs.length<=s.pairs.length+1:=by
 unfold line at h
 split at h
 .unfold uE at h
  split at h
  .cases h
  .split at h
   .cases h
   .split at h
    .cases h
    .split at h
     .cases h
     .cases h;simp
 .unfold header at h
  split at h
  .cases h
  .split at h
   .cases h
   .split at h
    .cases h
    .cases h;simp
end Pa
theorem GY (B b:Nat) (s:Pa.St) (v:Value) (T o cap:Nat) (l:List Nu.Tok) (w:World) (hr:bO w b s v) (hp:aF w B v s.pairs) (hl:bT w T o l) (hne:l≠[]) (hlen:l.length<=33554433) (Cc:T≠b) (hb:b<B):
 Calls prog 154 #[.pointer (some ⟨b,0,none⟩),.slice (some ⟨T,o,none⟩) l.length cap] w (oL B b v (Pa.header s l) w):=by
 refine(Er b s v T o cap l w hr hl hne hlen Cc).mono ?_;rintro e w1 ⟨he,hg,hx⟩;refine⟨he,Kept.J8 hg,?_⟩;unfold nK;cases hh:Pa.header s l with
 |error x=>trivial
 |ok s'=>
  rw[hh] at hx;refine⟨v,hx,?_,fun g h=> .inl h⟩;have e:s'.pairs=s.pairs:=by
   unfold Pa.header at hh
   split at hh
   .cases hh
   .split at hh
    .cases hh
    .split at hh
     .cases hh
     .cases hh;rfl
  rw[e];exact hp.grown hg hb
theorem AD {b:Nat} {v:Value} {w w1:World} (hlt:b<w.heap.size) (hf:∀g,v.ownBlock=some g->g<w.heap.size) (hk:Kept b v (w.alloc (.cells #[.int .i64 0,.int .i64 0] 39)) w1):
 w1.heap[w.heap.size]? =some (.cells #[.int .i64 0,.int .i64 0] 39 (0,0)):=by
 rw[hk.block w.heap.size (by simp) (by omega) (fun h=>by have:=hf _ h.symm;omega)];exact heap_alloc_new w _
theorem AG {B b:Nat} {v:Value} {r:Except (Int×Int) Pa.St} {w w1:World} {x:Obj} (hlt:b<w.heap.size) (hf:∀g,v.ownBlock=some g->g<w.heap.size) (hk:Kept b v (w.alloc x) w1) (ho:nK B b v r (w.alloc x) w1) (a0 a1:Value):
 Kept b v w ((w1.setCell ⟨w.heap.size,0,none⟩ a0).setCell ⟨w.heap.size,1,none⟩ a1)/\nK B b v r w ((w1.setCell ⟨w.heap.size,0,none⟩ a0).setCell ⟨w.heap.size,1,none⟩ a1):=by
 have oy:∀k,k≠w.heap.size->((w1.setCell ⟨w.heap.size,0,none⟩ a0).setCell ⟨w.heap.size,1,none⟩ a1).heap[k]? =w1.heap[k]? :=fun k h=>by
  rw[heap_setCell_other _ ⟨w.heap.size,1,none⟩ k a1 h,heap_setCell_other _ ⟨w.heap.size,0,none⟩ k a0 h]
 have hsz:w.heap.size+1<=w1.heap.size:=by simpa using hk.size
 refine⟨⟨hk.os,hk.tape,hk.output,by simp;omega,fun k hk1 h1 h2=> ?_⟩,?_⟩
 .rw[oy k (by omega),hk.block k (by simp;omega) h1 h2]
  exact aaO w x k hk1
 .cases r with
  |error y=>trivial
  |ok s'=>
   obtain⟨v',hr,hp,hg⟩:=ho;refine⟨v',(oy b (by omega)).trans hr,⟨hp.1,?_⟩,fun g h=> ?_⟩
   .rcases hp.2 with h|⟨g,cap,cur,rfl,hgB,hh,GL⟩
    .exact .inl h
    .refine .inr ⟨g,cap,cur,rfl,hgB,(oy g ?_).trans hh,GL⟩
     rcases hg g rfl with h|h
     .have:=hf g h;omega
     .simp at h;omega
   .rcases hg g h with h|h
    .exact .inl h
    .exact .inr (by simp at h;omega)
theorem AH (B b:Nat) (s:Pa.St) (v:Value) (T o cap:Nat) (l:List Nu.Tok) (w:World) (hr:bO w b s v) (hp:aF w B v s.pairs) (hl:bT w T o l) (hne:l≠[]) (hlen:l.length<=33554433) (Cc:T≠b) (hT:T<B) (hb:b<B) (hB:B<=w.heap.size) (hps:s.pairs.length<=33554432):
 Calls prog 108 #[.pointer (some ⟨b,0,none⟩),.slice (some ⟨T,o,none⟩) l.length cap] w (oL B b v (Pa.line s l) w):=by
 have hlt:=hr.lt;have c0:=hr.c0;have Qr:∀g,v.ownBlock=some g->g<w.heap.size:=fun g h=>by
  obtain⟨ao,cap,rfl,_,hx⟩:=hp.form;cases ao with
  |none=>simp[Value.ownBlock] at h
  |some x=>have:=hx x rfl;simp[Value.ownBlock] at h;omega
 have jg:Below w.heap.size w (w.alloc (.cells #[.int .i64 0,.int .i64 0] 39)):=(aaE _ _).alloc (aaD _) _;have UC:=hr.below jg hlt;have ME:=hp.below jg (aaD _);have hl0:=hl.below jg (by omega);have HR:=ζ UC;have HP:=ζ ME;have HL:=ζ hl0;have aW:=ζ jg;have HF:=ζ Qr;clear hr hp hl UC ME hl0 jg Qr;unfold Pa.line;cases hbg:s.begun
 .rw[if_neg (by simp)]
  rw[hbg] at c0;have IC:=ζ hbg;clear hbg;go_enter func108,ntmps108;go_wp2_with (go_at_call 154;refine(GY B b s v T o cap l _ HR.out HP.out HL.out hne hlen Cc hb).mono ?_;rintro e w1 ⟨rfl,hk,ho⟩;obtain⟨z0,z1,z2⟩:=dU (AD hlt HF.out hk);unfold gB aH;have HK:=ζ hk;have HO:=ζ ho;clear hk ho);refine bodyPost_ret (v:=gB (Pa.header s l)) (by simp[results,results108,go_sem, *];rfl) rfl ⟨rfl,AG hlt HF.out HK.out HO.out _ _⟩
 .rw[if_pos rfl]
  rw[hbg] at c0;have IC:=ζ hbg;clear hbg;go_enter func108,ntmps108;go_wp2_with (go_at_call 155;refine(KW B b s v T o cap l _ HR.out HP.out HL.out hne hlen hT hb (by simp;omega) hps).mono ?_;rintro e w1 ⟨rfl,hk,ho⟩;obtain⟨z0,z1,z2⟩:=dU (AD hlt HF.out hk);unfold gB aH;have HK:=ζ hk;have HO:=ζ ho;clear hk ho);refine bodyPost_ret (v:=gB (Pa.uE s l)) (by simp[results,results108,go_sem, *];rfl) rfl ⟨rfl,AG hlt HF.out HK.out HO.out _ _⟩
theorem AE (B b:Nat) (s:Pa.St) (v:Value) (T o cap ln:Nat) (l:List Nu.Tok) (w:World) (x:Int×Int) (hx:Pa.line s l= .error x) (hr:bO w b s v) (hp:aF w B v s.pairs) (hl:bT w T o l) (lO:ln=l.length) (hne:l≠[]) (hlen:l.length<=33554433) (Cc:T≠b) (hT:T<B) (hb:b<B) (hB:B<=w.heap.size) (hps:s.pairs.length<=33554432):
 Calls prog 108 #[.pointer (some ⟨b,0,none⟩),.slice (some ⟨T,o,none⟩) ln cap] w fun e w'=>e= .returned (aH x)/\Kept b v w w':=by
 subst lO;refine(AH B b s v T o cap l w hr hp hl hne hlen Cc hT hb hB hps).mono ?_;rw[hx];exact fun e w' h=>⟨h.1,h.2.1⟩
theorem xw (B b:Nat) (s:Pa.St) (v:Value) (T o cap ln:Nat) (l:List Nu.Tok) (w:World) (s':Pa.St) (hx:Pa.line s l= .ok s') (hr:bO w b s v) (hp:aF w B v s.pairs) (hl:bT w T o l) (lO:ln=l.length) (hne:l≠[]) (hlen:l.length<=33554433) (Cc:T≠b) (hT:T<B) (hb:b<B) (hB:B<=w.heap.size) (hps:s.pairs.length<=33554432):
 Calls prog 108 #[.pointer (some ⟨b,0,none⟩),.slice (some ⟨T,o,none⟩) ln cap] w fun e w'=>e= .returned (aH (0,0))/\Kept b v w w'/\∃v',bO w' b s' v'/\aF w' B v' s'.pairs:=by
 subst lO;refine(AH B b s v T o cap l w hr hp hl hne hlen Cc hT hb hB hps).mono ?_;rw[hx];exact fun e w' ⟨h1,h2,v',h3,h4,_⟩=>⟨h1,h2,v',h3,h4⟩
theorem EX (B b:Nat) (s:Pa.St) (v:Value) (t:Nu.Tok) (w:World) (x:Int×Int) (hx:Pa.fin s t.at'= .error x) (hr:bO w b s v) (hp:aF w B v s.pairs):
 Calls prog 109 #[.pointer (some ⟨b,0,none⟩),jJ t] w fun e w'=>e= .returned (aH x)/\Below w.heap.size w w':=by
 obtain⟨ao,cap,rfl,_⟩:=hp.form;refine(EY b s ao cap t w hr).mono ?_;rw[hx];exact fun e w' h=>h
theorem Jp (B b:Nat) (s s':Pa.St) (v:Value) (t:Nu.Tok) (w:World) (hx:Pa.fin s t.at'= .ok s') (hr:bO w b s v) (hp:aF w B v s.pairs):
 Calls prog 109 #[.pointer (some ⟨b,0,none⟩),jJ t] w fun e w'=>e= .returned (aH (0,0))/\Below w.heap.size w w':=by
 obtain⟨ao,cap,rfl,_⟩:=hp.form;refine(EY b s ao cap t w hr).mono ?_;rw[hx];exact fun e w' h=>h
theorem bT.drop {w:World} {T:Nat} {us vs:List Nu.Tok} (h:bT w T 0 (us++vs)) (k:Nat):bT w T (k*4) (us.drop k):=fun j t hj=>by
 rw[acS] at hj;have hlt:=(aaF.1 hj).1;have:=h (k+j) t (by rw[aaU hlt];exact hj);rwa[show 0+(k+j)*4=k*4+j*4 by omega] at this
theorem aF.low {w:World} {B k:Nat} {v:Value} {ps:List (Int×Int)} (h:aF w B v ps) (hk:k<B) (i:Nat) (a:Value):aF (w.setCell ⟨k,i,none⟩ a) B v ps:=by
 refine⟨h.1,?_⟩;rcases h.2 with h|⟨g,cap,cur,e,hgB,hh,hr⟩
 .exact .inl h
 .exact .inr ⟨g,cap,cur,e,hgB,(heap_setCell_other w ⟨k,i,none⟩ g a (by simp;omega)).trans hh,hr⟩
theorem aF.base {w:World} {B A:Nat} {v:Value} {ps:List (Int×Int)} (h:aF w B v ps) (hA:A<=B):aF w A v ps:=by
 refine⟨h.1,?_⟩;rcases h.2 with h|⟨g,cap,cur,e,hgB,hr⟩
 .exact .inl h
 .exact .inr ⟨g,cap,cur,e,by omega,hr⟩
theorem aF.drew {w:World} {B:Nat} {v:Value} {ps:List (Int×Int)} (h:aF w B v ps):aF w.drew B v ps:=h
end
end Go.Proofs.YtdbjpbjocmcpkaaGreatDoor
