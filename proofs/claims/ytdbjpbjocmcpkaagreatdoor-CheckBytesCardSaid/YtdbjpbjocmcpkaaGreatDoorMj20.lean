import Derived.Test.YtdbjpbjocmcpkaaGreatDoorMj18
import Derived.Test.YtdbjpbjocmcpkaaGreatDoorMj04
import Derived.BigRegion
import Derived.Deep.RegionLaw
set_option maxHeartbeats 4000000
set_option maxRecDepth 100000
namespace Go.Proofs.YtdbjpbjocmcpkaaGreatDoor
section
open Go.Proofs.Tryz
open Go.RowKit
def dm (w:World) (b:Nat) (s:Pa.St) (v:Value):Prop:=
 w.heap[b]? =some (.cells #[.bool s.begun,.int .i64 s.n,.int .i64 s.m,v] 183 (0,0))
section
variable {w w':World} {b:Nat} {s:Pa.St} {v:Value}
theorem dm.lt (h:dm w b s v):b<w.heap.size:=lt_of_block h
theorem dm.c0 (h:dm w b s v):w.cell? ⟨b,0,none⟩=some (.bool s.begun):=by unfold dm at h;simp[World.cell?,h]
theorem dm.c1 (h:dm w b s v):w.cell? ⟨b,1,none⟩=some (.int .i64 s.n):=by unfold dm at h;simp[World.cell?,h]
theorem dm.c2 (h:dm w b s v):w.cell? ⟨b,2,none⟩=some (.int .i64 s.m):=by unfold dm at h;simp[World.cell?,h]
theorem dm.c3 (h:dm w b s v):w.cell? ⟨b,3,none⟩=some v:=by unfold dm at h;simp[World.cell?,h]
theorem dm.free (h:dm w b s v) (i:Nat):w.frozen? ⟨b,i,none⟩=false:=by unfold dm at h;simp[World.frozen?,h]
theorem dm.below {B:Nat} (h:dm w b s v) (hb:Below B w w') (hlt:b<B):dm w' b s v:=(hb.block b hlt).trans h
end
def nX (t:Nu.Tok):Value:= .agg #[.int .i64 t.kind,.int .i64 t.at',.int .i64 t.fin,.int .i64 t.num]
def aO (x:Int×Int):Value:= .agg #[.int .i64 x.1,.int .i64 x.2]
theorem eM (c:Int) (t:Nu.Tok) (w:World):
 Calls prog 156 #[.int .i64 c,nX t] w fun e w'=>e= .returned (aO (c,t.at'))/\Below w.heap.size w w':=by
 unfold nX aO;go_enter func156,ntmps156;go_wp2;exact bodyPost_ret (v:= .agg #[.int .i64 c,.int .i64 t.at']) (by simp[results,results156,go_sem]) rfl ⟨rfl,((aaG _ _).alloc (aaF _) _).alloc (by simp) _⟩
theorem qU {W w1:World} (hb:Below W.heap.size W w1):(∀b o,b<W.heap.size->w1.cell? ⟨b,o,none⟩=W.cell? ⟨b,o,none⟩)/\(∀b o,b<W.heap.size->w1.frozen? ⟨b,o,none⟩=W.frozen? ⟨b,o,none⟩):=
 ⟨fun b o h=>hb.cell (p:=⟨b,o,none⟩) h,fun b o h=>hb.frozen (p:=⟨b,o,none⟩) h⟩
def Qf (r:Except (Int×Int) Pa.St):Int×Int:=match r with
 | .error x=>x
 | .ok _=>(0,0)
def kR (r:Except (Int×Int) Pa.St):Value:=aO (Qf r)
theorem Mz (b:Nat) (s:Pa.St) (ao:Option Addr) (cap:Nat) (t:Nu.Tok) (w:World) (hr:dm w b s (.slice ao s.pairs.length cap)):
 Calls prog 109 #[.pointer (some ⟨b,0,none⟩),nX t] w fun e w'=>e= .returned (kR (Pa.fin s t.at'))/\Below w.heap.size w w':=by
 have hlt:=hr.lt;have c0:=hr.c0;have c2:=hr.c2;have c3:=hr.c3;clear hr;obtain⟨begun,n,m,ps⟩:=s;dsimp only at c0 c2 c3;unfold Pa.fin kR Qf;dsimp only;cases begun
 .rw[if_pos rfl]
  unfold nX;go_enter func109,ntmps109;go_wp2_with (go_at_call 156;refine(eM 20 t _).mono ?_;refine aaI ?_);refine ζ ?_;rintro e w1 ⟨rfl,hb⟩;unfold aO;obtain⟨hc,hf⟩:=qU hb;have hz:=hb.size;simp at hz;go_wp2;refine bodyPost_ret (v:= .agg #[.int .i64 20,.int .i64 t.at']) (by simp[results,results109,go_sem,hc]) rfl ⟨rfl,?_⟩;exact((((((aaG _ _).alloc (aaF _) _).alloc (by simp) _).trans (hb.mono (by simp;omega))).setCell (by simp) _).setCell (by simp) _)
 .rw[if_neg (by simp)]
  by_cases hl:(ps.length:Int)<m
  .rw[if_pos hl]
   unfold nX;go_enter func109,ntmps109;go_wp2_with fail;go_quiet (fail);go_wp2_with (go_at_call 156;refine(eM 25 t _).mono ?_;refine aaI ?_);refine ζ ?_;rintro e w1 ⟨rfl,hb⟩;unfold aO;obtain⟨hc,hf⟩:=qU hb;have hz:=hb.size;simp at hz;go_wp2;refine bodyPost_ret (v:= .agg #[.int .i64 25,.int .i64 t.at']) (by simp[results,results109,go_sem,hc]) rfl ⟨rfl,?_⟩;exact(((below_drewN (((aaG _ _).alloc (aaF _) _).alloc (by simp) _) nq).trans (hb.mono (by simp;omega))).setCell (by simp) _).setCell (by simp) _
  .rw[if_neg hl]
   unfold nX;go_enter func109,ntmps109;go_wp2_with fail;go_quiet (fail);go_wp2;refine bodyPost_ret (v:= .agg #[.int .i64 0,.int .i64 0]) (by simp[results,results109,go_sem]) rfl ⟨rfl,?_⟩;exact((below_drewN (((aaG _ _).alloc (aaF _) _).alloc (by simp) _) nq).setCell (by simp) _).setCell (by simp) _
end
section
open Go.Proofs.Tryz
open Go.RowKit
def oV (w:World) (T o:Nat) (t:Nu.Tok):Prop:=
 w.cell? ⟨T,o,none⟩=some (.int .i64 t.kind)/\w.cell? ⟨T,o+1,none⟩=some (.int .i64 t.at')/\w.cell? ⟨T,o+2,none⟩=some (.int .i64 t.fin)/\w.cell? ⟨T,o+3,none⟩=some (.int .i64 t.num)
def dG (w:World) (T o:Nat) (l:List Nu.Tok):Prop:=∀j t,l[j]? =some t->oV w T (o+j*4) t
theorem oV.lt {w:World} {T o:Nat} {t:Nu.Tok} (h:oV w T o t):T<w.heap.size:=block_lt_of_cell h.1
theorem oV.below {w w':World} {B T o:Nat} {t:Nu.Tok} (h:oV w T o t) (hb:Below B w w') (hT:T<B):oV w' T o t:=
 ⟨(hb.cell (p:=⟨T,o,none⟩) hT).trans h.1,(hb.cell (p:=⟨T,o+1,none⟩) hT).trans h.2.1,(hb.cell (p:=⟨T,o+2,none⟩) hT).trans h.2.2.1,(hb.cell (p:=⟨T,o+3,none⟩) hT).trans h.2.2.2⟩
theorem dG.below {w w':World} {B T o:Nat} {l:List Nu.Tok} (h:dG w T o l) (hb:Below B w w') (hT:T<B):dG w' T o l:=
 fun j t hj=>(h j t hj).below hb hT
theorem dG.fst {w:World} {T o:Nat} {l:List Nu.Tok} (h:dG w T o l) (hl:l≠[]):oV w T o (Pa.tk l 0):=by
 cases l with
 |nil=>exact absurd rfl hl
 |cons t l=>simpa[Pa.tk] using h 0 t rfl
theorem dG.snd {w:World} {T o:Nat} {l:List Nu.Tok} (h:dG w T o l) (hl:l.length=2):oV w T (o+4) (Pa.tk l 1):=by
 cases l with
 |nil=>simp at hl
 |cons t l=>cases l with
  |nil=>simp at hl
  |cons u l=>simpa[Pa.tk] using h 1 u rfl
theorem FO (w:World) (r:Option Nat):w.grownBy w r:=⟨rfl,rfl,rfl,aaF _,fun _ _ _=>rfl⟩
theorem dm.put {w:World} {b:Nat} {s:Pa.St} {v:Value} (h:dm w b s v) (x:Bool) (n m:Int) (ps:List (Int×Int)):
 dm (((w.setCell ⟨b,0,none⟩ (.bool x)).setCell ⟨b,1,none⟩ (.int .i64 n)).setCell ⟨b,2,none⟩ (.int .i64 m)) b ⟨x,n,m,ps⟩ v:=by
 unfold dm at h ⊢;have h1:=heap_setCell_same w b 0 _ _ (.bool x) h;have h2:=heap_setCell_same _ b 1 _ _ (.int .i64 n) h1;have h3:=heap_setCell_same _ b 2 _ _ (.int .i64 m) h2;simpa using h3
theorem dm.alloc {w:World} {b:Nat} {s:Pa.St} {v:Value} (h:dm w b s v) (o:Obj):dm (w.alloc o) b s v:=(aa0 w o b h.lt).trans h
theorem tj {w w':World} {b:Option Nat} (h:Below w.heap.size w w'):w.grownBy w' b/\Below w.heap.size w w':=⟨⟨h.os,h.tape,h.output,h.size,fun k hk _=>h.block k hk⟩,h⟩
theorem LS (b:Nat) (s:Pa.St) (v:Value) (T o cap:Nat) (l:List Nu.Tok) (w:World) (hr:dm w b s v) (hl:dG w T o l) (hne:l≠[]) (hlen:l.length<=33554433) (Jn:T≠b):
 Calls prog 154 #[.pointer (some ⟨b,0,none⟩),.slice (some ⟨T,o,none⟩) l.length cap] w fun e w'=>
  e= .returned (kR (Pa.header s l))/\w.grownBy w' (some b)/\match Pa.header s l with
   | .error _=>Below w.heap.size w w'
   | .ok s'=>dm w' b s' v:=by
 have hlt:=hr.lt;have hpos:0<l.length:=ack.2 hne;have oP:=(hl.fst hne).lt;obtain⟨k0,k1,k2,k3⟩:=hl.fst hne;have ap:(0:Int)<(l.length:Int):=by omega
 unfold Pa.header kR Qf;by_cases h2:l.length=2
 .have j0:((l.length:Int) != 2)=false:=by simp;omega
  have ap1:(1:Int)<(l.length:Int):=by omega
  obtain⟨q0,q1,q2,q3⟩:=hl.snd h2;rw[if_neg (by omega)];by_cases hn:1048576<(Pa.tk l 0).num
  .rw[if_pos hn]
   go_enter func154,ntmps154;go_wp2_with (go_at_call 156;refine(eM 21 (Pa.tk l 0) _).mono ?_;rintro e w1 ⟨rfl,hb⟩;unfold aO;obtain⟨hc,hf⟩:=qU hb;have hz:=hb.size;simp at hz);refine bodyPost_ret (v:= .agg #[.int .i64 21,.int .i64 (Pa.tk l 0).at']) (by simp[results,results154,go_sem,hc]) rfl ⟨rfl,?_⟩;exact tj ((((((aaG _ _).alloc (aaF _) _)).trans (hb.mono (by simp))).setCell (by simp) _).setCell (by simp) _)
  .rw[if_neg hn]
   by_cases hm:2097152<(Pa.tk l 1).num
   .rw[if_pos hm]
    go_enter func154,ntmps154;go_wp2_with (go_at_call 156;refine(eM 22 (Pa.tk l 1) _).mono ?_;rintro e w1 ⟨rfl,hb⟩;unfold aO;obtain⟨hc,hf⟩:=qU hb;have hz:=hb.size;simp at hz);refine bodyPost_ret (v:= .agg #[.int .i64 22,.int .i64 (Pa.tk l 1).at']) (by simp[results,results154,go_sem,hc]) rfl ⟨rfl,?_⟩;exact tj ((((((aaG _ _).alloc (aaF _) _)).trans (hb.mono (by simp))).setCell (by simp) _).setCell (by simp) _)
   .rw[if_neg hm]
    have c0:=hr.c0;have c1:=hr.c1;have c2:=hr.c2;have f0:=hr.free 0;have f1:=hr.free 1;have f2:=hr.free 2;have akw:b≠T:=fun h=>Jn h.symm
    go_enter func154,ntmps154;go_wp2_with fail
    go_region
    go_wp2;refine bodyPost_ret (v:= .agg #[.int .i64 0,.int .i64 0]) (by simp[results,results154,go_sem]) rfl ⟨rfl,?_,?_⟩
    .exact FP (bO (grownBy_setCell (grownBy_setCell (grownBy_setCell (FO _ _) 0 _) 1 _) 2 _) _)
    .exact(hr.put true _ _ s.pairs).alloc _
 .have j0:((l.length:Int) != 2)=true:=by simp;omega
  rw[if_pos h2];go_enter func154,ntmps154;go_wp2_with (go_at_call 156;refine(eM 20 (Pa.tk l 0) _).mono ?_;rintro e w1 ⟨rfl,hb⟩;unfold aO;obtain⟨hc,hf⟩:=qU hb;have hz:=hb.size;simp at hz);refine bodyPost_ret (v:= .agg #[.int .i64 20,.int .i64 (Pa.tk l 0).at']) (by simp[results,results154,go_sem,hc]) rfl ⟨rfl,?_⟩;exact tj ((((((aaG _ _).alloc (aaF _) _)).trans (hb.mono (by simp))).setCell (by simp) _).setCell (by simp) _)
end
section
open Go.Proofs.Tryz
open Go.RowKit
theorem Tryz.Sl:(prog.info? 57).map (fun i=>(i.zero,i.size,i.bytes))=some (some (.agg #[.int .i64 0,.int .i64 0]),2,16):=by kernel_rfl
def wB (ps:List (Int×Int)):List Value:=ps.flatMap fun p=>[.int .i64 p.1,.int .i64 p.2]
theorem Mp (ps:List (Int×Int)) (p:Int×Int):wB (ps++[p])=wB ps++[.int .i64 p.1,.int .i64 p.2]:=by simp[wB]
def aM (w:World) (B:Nat) (v:Value) (ps:List (Int×Int)):Prop:=w.ownsRow B 57 2 v ps.length (wB ps)
structure Kept (b:Nat) (v:Value) (w w':World):Prop where
 os:w'.os=w.os
 tape:w'.tape=w.tape
 output:w'.output=w.output
 size:w.heap.size<=w'.heap.size
 block:∀k,k<w.heap.size->k≠b->some k≠v.ownBlock->w'.heap[k]? =w.heap[k]?
theorem Kept.of_below {b:Nat} {v:Value} {w w':World} (h:Below w.heap.size w w'):Kept b v w w':=⟨h.os,h.tape,h.output,h.size,fun k hk _ _=>h.block k hk⟩
theorem Kept.RQ {b:Nat} {v:Value} {w w':World} (h:w.grownBy w' (some b)):Kept b v w w':=⟨h.os,h.tape,h.output,h.size,fun k hk hne _=>h.block k hk (by simpa using hne)⟩
def tB (B b:Nat) (v:Value) (r:Except (Int×Int) Pa.St) (w w':World):Prop:=match r with
 | .error _=>True
 | .ok s'=>∃v',dm w' b s' v'/\aM w' B v' s'.pairs/\∀g,v'.ownBlock=some g->v.ownBlock=some g\/w.heap.size<=g
def uC (B b:Nat) (v:Value) (r:Except (Int×Int) Pa.St) (w:World) (e:Ending) (w':World):Prop:=
 e= .returned (kR r)/\Kept b v w w'/\tB B b v r w w'
theorem aM.form {w:World} {B:Nat} {v:Value} {ps:List (Int×Int)} (h:aM w B v ps):∃ao cap,v= .slice ao ps.length cap/\ps.length<=cap/\(∀x,ao=some x->B<=x.block/\x.block<w.heap.size):=by
 rcases h.2 with ⟨rfl,h0⟩|⟨g,cap,cur,rfl,hg,hh,hc,_⟩
 .exact⟨none,0,by rw[h0],by omega,fun x h=>by cases h⟩
 .exact⟨_,cap,rfl,hc,fun x h=>by cases h;exact⟨hg,lt_of_block hh⟩⟩
theorem aM.far {w:World} {B b:Nat} {v:Value} {ps:List (Int×Int)} (h:aM w B v ps) (hb:b<B):v.ownBlock≠some b:=by
 obtain⟨ao,cap,rfl,_,hx⟩:=h.form;cases ao with
 |none=>simp[Value.ownBlock]
 |some x=>have:=hx x rfl;simp[Value.ownBlock];omega
theorem aM.grown {w w':World} {B b:Nat} {v:Value} {ps:List (Int×Int)} (h:aM w B v ps) (hg:w.grownBy w' (some b)) (hb:b<B):aM w' B v ps:=by
 refine⟨h.1,?_⟩;rcases h.2 with h|⟨g,cap,cur,e,hgB,hh,hr⟩
 .exact .inl h
 .exact .inr ⟨g,cap,cur,e,hgB,(hg.block g (lt_of_block hh) (by simp;omega)).trans hh,hr⟩
theorem aM.below {w w':World} {B A:Nat} {v:Value} {ps:List (Int×Int)} (h:aM w B v ps) (hb:Below A w w') (hA:w.heap.size<=A):aM w' B v ps:=by
 refine⟨h.1,?_⟩;rcases h.2 with h|⟨g,cap,cur,e,hgB,hh,hr⟩
 .exact .inl h
 .exact .inr ⟨g,cap,cur,e,hgB,(hb.block g (by have:=lt_of_block hh;omega)).trans hh,hr⟩
theorem gL {w:World} {r:Nat} {a b:Value} {t:TypeId} (h:w.heap[r]? =some (.cells #[a,b] t (0,0))):w.cell? ⟨r,0,none⟩=some a/\w.cell? ⟨r,1,none⟩=some b/\∀i,w.frozen? ⟨r,i,none⟩=false:=by
 refine⟨?_,?_,fun i=> ?_⟩<;>simp[World.cell?,World.frozen?,h]
theorem dm.store {w:World} {b:Nat} {s:Pa.St} {v:Value} (h:dm w b s v) (v':Value) (ps:List (Int×Int)):dm (w.setCell ⟨b,3,none⟩ v') b ⟨s.begun,s.n,s.m,ps⟩ v':=by
 unfold dm at h ⊢;have h1:=heap_setCell_same w b 3 _ _ v' h;simpa using h1
theorem S3 {B b:Nat} {s:Pa.St} {va:Option Addr} {vc gg rD:Nat} {p q:Int} {w W w1:World} {x:Obj} (hlt:b<w.heap.size) (hb:b<B) (hbW:Below w.heap.size w W) (UO:W.heap.size=w.heap.size+1)
 (hr:dm W b s (.slice va s.pairs.length vc)) (hp:aM W B (.slice va s.pairs.length vc) s.pairs) (hv:∀x,va=some x->B<=x.block/\x.block<w.heap.size)
 (hown:w1.ownsRow B 57 2 (.slice (some ⟨gg,0,none⟩) (s.pairs.length+1) rD) (s.pairs.length+1) (wB s.pairs++[.int .i64 p,.int .i64 q])) (hg:(W.alloc x).drew.grownBy w1 (Value.slice va s.pairs.length vc).ownBlock)
 (hat:(Value.slice va s.pairs.length vc).ownBlock=some gg\/gg=W.heap.size+1) (a0 a1:Value):
 Kept b (.slice va s.pairs.length vc) w (((w1.setCell ⟨b,3,none⟩ (.slice (some ⟨gg,0,none⟩) (s.pairs.length+1) rD)).setCell ⟨w.heap.size,0,none⟩ a0).setCell ⟨w.heap.size,1,none⟩ a1)/\
 ∃v',dm (((w1.setCell ⟨b,3,none⟩ (.slice (some ⟨gg,0,none⟩) (s.pairs.length+1) rD)).setCell ⟨w.heap.size,0,none⟩ a0).setCell ⟨w.heap.size,1,none⟩ a1) b ⟨s.begun,s.n,s.m,s.pairs++[(p,q)]⟩ v'/\
  aM (((w1.setCell ⟨b,3,none⟩ (.slice (some ⟨gg,0,none⟩) (s.pairs.length+1) rD)).setCell ⟨w.heap.size,0,none⟩ a0).setCell ⟨w.heap.size,1,none⟩ a1) B v' (s.pairs++[(p,q)])/\∀g,v'.ownBlock=some g->(Value.slice va s.pairs.length vc).ownBlock=some g\/w.heap.size<=g:=by
 have uh:∀k,k≠b->k≠w.heap.size->(((w1.setCell ⟨b,3,none⟩ (.slice (some ⟨gg,0,none⟩) (s.pairs.length+1) rD)).setCell ⟨w.heap.size,0,none⟩ a0).setCell ⟨w.heap.size,1,none⟩ a1).heap[k]? =w1.heap[k]? :=fun k h1 h2=>by
  rw[heap_setCell_other _ ⟨w.heap.size,1,none⟩ k a1 h2,heap_setCell_other _ ⟨w.heap.size,0,none⟩ k a0 h2,heap_setCell_other _ ⟨b,3,none⟩ k _ h1]
 have hne:∀k,k<B->some k≠(Value.slice va s.pairs.length vc).ownBlock:=fun k hk=>(hp.far hk).symm
 have hold:∀k,k<W.heap.size->some k≠(Value.slice va s.pairs.length vc).ownBlock->w1.heap[k]? =W.heap[k]? :=fun k hk h=>by
  rw[hg.block k (by show k<(W.alloc x).heap.size;simp;omega) h];exact aa0 W x k hk
 have hsz:=hg.size;have hsz':W.heap.size+1<=w1.heap.size:=by
  have:(W.alloc x).heap.size<=w1.heap.size:=hsz;simpa using this
 have hgg:gg≠b/\gg≠w.heap.size:=by
  rcases hat with h|h
  .cases va with
   |none=>simp[Value.ownBlock] at h
   |some y=>have:=hv y rfl;simp[Value.ownBlock] at h;omega
  .omega
 have hrd:dm (w1.setCell ⟨b,3,none⟩ (.slice (some ⟨gg,0,none⟩) (s.pairs.length+1) rD)) b ⟨s.begun,s.n,s.m,s.pairs++[(p,q)]⟩ (.slice (some ⟨gg,0,none⟩) (s.pairs.length+1) rD):=by
  have h1:dm w1 b s (.slice va s.pairs.length vc):=(hold b (by omega) (hne b hb)).trans hr;exact h1.store _ _
 refine⟨⟨?_,?_,?_,by simp;omega,fun k hk hkb hkv=> ?_⟩,.slice (some ⟨gg,0,none⟩) (s.pairs.length+1) rD,?_,?_,fun g h=> ?_⟩
 .exact(hg.os.trans hbW.os)
 .exact(hg.tape.trans hbW.tape)
 .exact(hg.output.trans hbW.output)
 .rw[uh k hkb (by omega),hold k (by omega) hkv]
  exact hbW.block k (by omega)
 .unfold dm
  rw[heap_setCell_other _ ⟨w.heap.size,1,none⟩ b a1 (by simp;omega),heap_setCell_other _ ⟨w.heap.size,0,none⟩ b a0 (by simp;omega)];exact hrd
 .unfold aM
  rw[Mp,aaZ];refine⟨hown.1,?_⟩;rcases hown.2 with ⟨h,_⟩|⟨g',c',cur,e,hgB,hh,OG⟩
  .cases h
  .cases e
   exact .inr ⟨gg,rD,cur,rfl,hgB,(uh gg hgg.1 hgg.2).trans hh,OG⟩
 .simp[Value.ownBlock] at h
  subst h;rcases hat with h|h
  .exact .inl h
  .exact .inr (by omega)
theorem S4 (B b:Nat) (s:Pa.St) (v:Value) (T o cap:Nat) (l:List Nu.Tok) (w:World) (hr:dm w b s v) (hp:aM w B v s.pairs) (hl:dG w T o l) (hne:l≠[]) (hlen:l.length<=33554433) (hT:T<B) (hb:b<B) (hB:B<=w.heap.size) (hps:s.pairs.length<=33554432):
 Calls prog 155 #[.pointer (some ⟨b,0,none⟩),.slice (some ⟨T,o,none⟩) l.length cap] w (uC B b v (Pa.yw s l) w):=by
 have hlt:=hr.lt;have hpos:0<l.length:=ack.2 hne;have oP:=(hl.fst hne).lt;obtain⟨k0,k1,k2,k3⟩:=hl.fst hne;have ap:(0:Int)<(l.length:Int):=by omega
 obtain⟨va,vc,rfl,hvc,Ja⟩:=hp.form;have c1:=hr.c1;have c2:=hr.c2;have c3:=hr.c3;have f3:=hr.free 3;have HR:=ζ hr;have HP:=ζ hp;have HVB:=ζ Ja;clear hr hp Ja;unfold uC Pa.yw kR Qf tB;by_cases hm:(s.pairs.length:Int)=s.m
 .have jm:((s.pairs.length:Int)==s.m)=true:=by simp[hm]
  rw[if_pos hm];have HM:=ζ hm;clear hm;go_enter func155,ntmps155;go_wp2_with fail;go_quiet (fail);go_wp2_with (go_at_call 156;refine(eM 26 (Pa.tk l 0) _).mono ?_;rintro e w1 ⟨rfl,hb1⟩;unfold aO;obtain⟨hc,hf⟩:=qU hb1;have hz:=hb1.size;simp at hz);refine bodyPost_ret (v:= .agg #[.int .i64 26,.int .i64 (Pa.tk l 0).at']) (by simp[results,results155,go_sem,hc]) rfl ⟨rfl,?_,trivial⟩;exact Kept.of_below (((((below_drewN ((aaG _ _).alloc (aaF _) _) nq).trans (hb1.mono (by simp))).setCell (by simp) _).setCell (by simp) _))
 .have jm:((s.pairs.length:Int)==s.m)=false:=by simp[hm]
  rw[if_neg hm];have HM:=ζ hm;clear hm;by_cases h2:l.length=2
  .have j0:((l.length:Int) != 2)=false:=by simp;omega
   have ap1:(1:Int)<(l.length:Int):=by omega
   obtain⟨q0,q1,q2,q3⟩:=hl.snd h2;rw[if_neg (by omega)];by_cases hu:s.n<=(Pa.tk l 0).num
   .rw[if_pos hu]
    go_enter func155,ntmps155;go_wp2_with fail;go_quiet (fail);go_wp2_with fail;go_quiet (fail);go_wp2_with (go_at_call 156;refine(eM 24 (Pa.tk l 0) _).mono ?_;rintro e w1 ⟨rfl,hb1⟩;unfold aO;obtain⟨hc,hf⟩:=qU hb1;have hz:=hb1.size;simp at hz);refine bodyPost_ret (v:= .agg #[.int .i64 24,.int .i64 (Pa.tk l 0).at']) (by simp[results,results155,go_sem,hc]) rfl ⟨rfl,?_,trivial⟩;exact Kept.of_below (((((below_drewN ((aaG _ _).alloc (aaF _) _) _).trans (hb1.mono (by simp))).setCell (by simp) _).setCell (by simp) _))
   .rw[if_neg hu]
    by_cases hv:s.n<=(Pa.tk l 1).num
    .rw[if_pos hv]
     go_enter func155,ntmps155;go_wp2_with fail;go_quiet (fail);go_wp2_with fail;go_quiet (fail);go_wp2_with fail;go_quiet (fail);go_wp2_with (go_at_call 156;refine(eM 24 (Pa.tk l 1) _).mono ?_;rintro e w1 ⟨rfl,hb1⟩;unfold aO;obtain⟨hc,hf⟩:=qU hb1;have hz:=hb1.size;simp at hz);refine bodyPost_ret (v:= .agg #[.int .i64 24,.int .i64 (Pa.tk l 1).at']) (by simp[results,results155,go_sem,hc]) rfl ⟨rfl,?_,trivial⟩;exact Kept.of_below (((((below_drewN ((aaG _ _).alloc (aaF _) _) _).trans (hb1.mono (by simp))).setCell (by simp) _).setCell (by simp) _))
    .rw[if_neg hv]
     obtain⟨i0,hi,hz0,hz1,hz2⟩:=info_parts Tryz.Sl;have ab:=HP.out.far hb;have aT:=HP.out.far hT;go_enter func155,ntmps155;go_wp2_with fail;go_quiet (fail);go_wp2_with fail;go_quiet (fail);go_wp2_with fail;go_quiet (fail);go_wp2_with fail;generalize hW:(((w.alloc (.cells #[.int .i64 0,.int .i64 0] 39)).drewN _).drewN _).drewN nq=W;have hbW:Below w.heap.size w W:=by rw[<-hW];exact below_drewN (below_drewN (below_drewN ((aaG _ _).alloc (aaF _) _) _) _) _
     have UO:W.heap.size=w.heap.size+1:=by rw[<-hW];simp[World.drewN]
     have hres:W.heap[w.heap.size]? =some (.cells #[.int .i64 0,.int .i64 0] 39 (0,0)):=by rw[<-hW];exact heap_alloc_new w _
     have Ya:=HR.out.below hbW hlt;have hpW:=HP.out.below hbW (aaF _);have e3:=Ya.c3;have g3:=Ya.free 3;have m3:W.cell? ⟨T,o+3,none⟩=some (.int .i64 (Pa.tk l 0).num):=(hbW.cell (p:=⟨T,o+3,none⟩) oP).trans k3;have n3:W.cell? ⟨T,o+4+3,none⟩=some (.int .i64 (Pa.tk l 1).num):=(hbW.cell (p:=⟨T,o+4+3,none⟩) oP).trans q3;have ltb:b<W.heap.size:=by omega
     have ltT:T<W.heap.size:=by omega
     have ar:some w.heap.size≠(Value.slice va s.pairs.length vc).ownBlock:=fun h=>by
      cases va with
      |none=>simp[Value.ownBlock] at h
      |some x=>have:=(HVB.out x rfl).2;simp[Value.ownBlock] at h;omega
     have BV:=ζ UO;clear UO;have Bp:=ζ hres;have kP:=ζ Ya;have HPW:=ζ hpW;have cN:=ζ hbW;have HL:=ζ hl;clear hres Ya hpW hbW hW k0 k1 k2 k3 q0 q1 q2 q3 c1 c2 c3 f3 hl jm hu hv
     go_region_law
      (refine step_append_lies _ (by rfl) _ _ _ (by rfl) B 57 i0 _ 2 16 Tryz.underlying59 hi hz0 hz1 hz2 rfl (by omega) (.slice va s.pairs.length vc) s.pairs.length (wB s.pairs) (by rfl) ((HPW.out.alloc _).drew)
        ⟨W.heap.size,0,none⟩ 1 1 [.int .i64 (Pa.tk l 0).num,.int .i64 (Pa.tk l 1).num] (by rfl) (by rfl) (adO (cs:= #[.int .i64 (Pa.tk l 0).num,.int .i64 (Pa.tk l 1).num]) (t:=57) (fr:=(0,0)) (heap_alloc_new W _)) (by simp[Value.oneCell'])
        (by omega) (by unfold maxLen;omega) (by omega) (by have:=BV.out;simp;omega) (W.heap.size+1) (by simp) ?_;intro gg rD w1 hown1 hgrow hat Zy;have x3:=(hgrow.cell_far ⟨b,3,none⟩ (by simp;omega) (acn ab)).trans (kP.out.alloc _).c3;have x4:=(hgrow.frozen_far ⟨b,3,none⟩ (by simp;omega) (acn ab)).trans ((kP.out.alloc _).free 3);have y0:=hgrow.block w.heap.size (by have:=BV.out;simp;omega) ar;have y1:=y0.trans ((aa0 W _ _ (lt_of_block Bp.out)).trans Bp.out);clear y0;obtain⟨z0,z1,z2⟩:=gL y1;have Y1:=ζ y1;clear y1)
     all_goals go_wp2
     all_goals
      refine bodyPost_ret (v:= .agg #[.int .i64 0,.int .i64 0]) (by simp[results,results155,go_sem, *]) rfl ⟨rfl,?_⟩;exact S3 hlt hb cN.out BV.out kP.out HPW.out HVB.out hown1 hgrow hat _ _
  .have j0:((l.length:Int) != 2)=true:=by simp;omega
   rw[if_pos h2];go_enter func155,ntmps155;go_wp2_with fail;go_quiet (fail);go_wp2_with (go_at_call 156;refine(eM 23 (Pa.tk l 0) _).mono ?_;rintro e w1 ⟨rfl,hb1⟩;unfold aO;obtain⟨hc,hf⟩:=qU hb1;have hz:=hb1.size;simp at hz);refine bodyPost_ret (v:= .agg #[.int .i64 23,.int .i64 (Pa.tk l 0).at']) (by simp[results,results155,go_sem,hc]) rfl ⟨rfl,?_,trivial⟩;exact Kept.of_below (((((below_drewN ((aaG _ _).alloc (aaF _) _) nq).trans (hb1.mono (by simp))).setCell (by simp) _).setCell (by simp) _))
end
end Go.Proofs.YtdbjpbjocmcpkaaGreatDoor
