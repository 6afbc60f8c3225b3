import Derived.Test.YtdbjpbjocmcpkaaGreatDoorMk03
import Derived.Laws.Externs
import Derived.Lib.UnsafeStr
import Derived.Lib.Builder
import Derived.Shelf.LaysM
import Derived.Shelf.Lays
import Derived.Shelf.Strconv.AppendIntPublic10
import Derived.Shelf.Slices.Reverse
import Derived.Ground.NamesProg
import Derived.Lib.ItoaLen
import Derived.Laws.IdiomStrings
set_option maxHeartbeats 4000000
set_option maxRecDepth 100000
namespace Go.Proofs.YtdbjpbjocmcpkaaGreatDoor
section
open Go.Proofs.Tryz
open Go.RowKit
def j8 (w:World) (B b:Nat) (p:Value) (L:List UInt8) (t:Bool):Prop:=
 B<=b/\∃v,w.heap[b]? =some (.cells #[p,v,.bool t] 146 (0,0))/\Ce.II w B v L/\v.ownBlock≠some b
def bW (w:World) (B b:Nat) (L:List UInt8) (t:Bool):Prop:=j8 w B b (.pointer none) L t\/j8 w B b (.pointer (some ⟨b,0,none⟩)) L t
section
variable {w w':World} {B b:Nat} {p:Value} {L:List UInt8} {t:Bool}
theorem j8.lt (h:j8 w B b p L t):b<w.heap.size:=by
 obtain⟨_,v,hb,_⟩:=h;exact lt_of_block hb
theorem j8.later (h:j8 w B b p L t) (hb:Below w.heap.size w w'):j8 w' B b p L t:=by
 obtain⟨h0,v,h1,h2,h3⟩:=h;exact⟨h0,v,(hb.block _ (lt_of_block h1)).trans h1,bN h2 fun g _ _ h=>hb.block g h,h3⟩
theorem j8.used (h:j8 w B b p L t) (q:Value):j8 (w.setCell ⟨b,0,none⟩ q) B b q L t:=by
 obtain⟨h0,v,h1,h2,h3⟩:=h;refine⟨h0,v,?_,?_,h3⟩
 .rw[heap_setCell_same w b 0 _ _ _ h1];simp
 .exact bN h2 fun g hg _ _=>heap_setCell_other _ ⟨b,0,none⟩ g _ (by dsimp only;intro e;exact h3 (by rw[hg,e]))
theorem bW.later (h:bW w B b L t) (hb:Below w.heap.size w w'):bW w' B b L t:=h.imp (·.later hb) (·.later hb)
theorem bW.some (h:bW w B b L t):∃p,j8 w B b p L t:=h.elim (fun h=>⟨_,h⟩) (fun h=>⟨_,h⟩)
theorem j8.cells (h:j8 w B b p L t):∃vo vc,w.cell? ⟨b,0,none⟩=Option.some p/\w.cell? ⟨b,1,none⟩=Option.some (.slice vo L.length vc)/\w.cell? ⟨b,2,none⟩=Option.some (.bool t)/\(∀i,w.frozen? ⟨b,i,none⟩=false)/\w.shape? b=Option.some (146,3):=by
 obtain⟨h0,v,h1,h2,h3⟩:=h;have hv:∃vo vc,v= .slice vo L.length vc:=by
  rcases h2.2 with ⟨rfl,h⟩|⟨g,cap,cur,rfl,-⟩
  .exact⟨none,0,by rw[h]⟩
  .exact⟨_,_,rfl⟩
 obtain⟨vo,vc,rfl⟩:=hv;exact⟨vo,vc,by simp[World.cell?,h1],by simp[World.cell?,h1],by simp[World.cell?,h1],fun i=>by simp[World.frozen?,h1],by simp[World.shape?,h1]⟩
theorem j8.new (w:World) (hB:B<=w.heap.size):bW (w.alloc (.cells #[.pointer none,.slice none 0 0,.bool false] 146)) B w.heap.size [] false:=
 .inl ⟨hB,_,heap_alloc_new w _,Ce.II.nil _ _,by simp[Value.ownBlock]⟩
theorem j8.qJ (h:j8 w B b p L t):j8 (w.setCell ⟨b,2,none⟩ (.bool true)) B b p L true:=by
 obtain⟨h0,v,h1,h2,h3⟩:=h;refine⟨h0,v,?_,?_,h3⟩
 .rw[heap_setCell_same w b 2 _ _ _ h1];simp
 .exact bN h2 fun g hg _ _=>heap_setCell_other _ ⟨b,2,none⟩ g _ (by dsimp only;intro e;exact h3 (by rw[hg,e]))
end
theorem rK (b:Nat) (w:World) (h0:w.cell? ⟨b,0,none⟩=some (.pointer (some ⟨b,0,none⟩))):
 Calls prog 172 #[.pointer (some ⟨b,0,none⟩)] w fun e w'=>e= .returned (.tuple #[])/\w'=w:=by
 obtain⟨j,hj,_⟩:=abg.1 (show(prog.info? 144).map (·.size)=some 2 by kernel_rfl);go_enter func172,ntmps172;go_wp2;rw[Lib.run_neq_ptr_same w _ Tryz.underlying142 hj];go_wp2
 go_end0
 exact⟨rfl,rfl⟩
theorem qm (b:Nat) (w:World) (h0:w.cell? ⟨b,0,none⟩=some (.pointer none)) (hsh:w.shape? b=some (146,3)) (hfz:w.frozen? ⟨b,0,none⟩=false):
 Calls prog 172 #[.pointer (some ⟨b,0,none⟩)] w fun e w'=>e= .returned (.tuple #[])/\w'=w.setCell ⟨b,0,none⟩ (.pointer (some ⟨b,0,none⟩)):=by
 obtain⟨j,hj,Yo⟩:=abg.1 (show(prog.info? 144).map (·.size)=some 2 by kernel_rfl);have hj0:j.size≠0:=by rw[Yo];decide
 go_enter func172,ntmps172;go_wp2;rw[Lib.run_to_unsafe w ⟨b,0,none⟩ Tryz.underlying142 Tryz.underlying333 hj hj0 hsh (Nat.zero_lt_succ 2)];simp only[Result.andThen];rw[ac9];go_wp2;rw[run_callFunc_extern func232 (by kernel_rfl) (by kernel_rfl) (by kernel_rfl) (e:=Extern.AbiNoEscape.same) (by kernel_rfl)];rw[Lib.run_noEscape];simp only[Result.andThen];rw[ac9];go_wp2;rw[Lib.run_from_unsafe w ⟨b,0,none⟩ Tryz.underlying333 Tryz.underlying142 hj hsh (by kernel_rfl)];simp only[Result.andThen];rw[ac9];go_wp2
 go_end0
 exact⟨rfl,rfl⟩
theorem tA {w:World} {B b:Nat} {L:List UInt8} {t:Bool} (h:bW w B b L t):
 Calls prog 172 #[.pointer (some ⟨b,0,none⟩)] w fun e w'=>e= .returned (.tuple #[])/\j8 w' B b (.pointer (some ⟨b,0,none⟩)) L t/\Below B w w':=by
 rcases h with h|h
 .obtain⟨vo,vc,c0,c1,c2,fz,hsh⟩:=h.cells
  refine(qm b w c0 hsh (fz 0)).mono ?_;rintro e w' ⟨rfl,rfl⟩;exact⟨rfl,h.used _,(aaE B w).setCell (p:=⟨b,0,none⟩) h.1 _⟩
 .obtain⟨vo,vc,c0,c1,c2,fz,hsh⟩:=h.cells
  refine(rK b w c0).mono ?_;rintro e w' ⟨rfl,rfl⟩;exact⟨rfl,h,aaE B _⟩
theorem mN {w:World} {B b:Nat} {L:List UInt8} {t:Bool} (h:bW w B b L t):
 Calls prog 79 #[.pointer (some ⟨b,0,none⟩)] w fun e w'=>e= .returned (.int .i64 (L.length:Int))/\w'=w:=by
 obtain⟨p,h⟩:=h.some;obtain⟨vo,vc,c0,c1,-,fz,hsh⟩:=h.cells;clear h;go_enter func79,ntmps79;go_wp2;go_ret;exact⟨rfl,rfl⟩
theorem oX {w:World} {B b:Nat} {L S:List UInt8} {t:Bool} (h:bW w B b L t) (hB:B<=w.heap.size) (hl:L.length+S.length<=140737488355328):
 Calls prog 120 #[.pointer (some ⟨b,0,none⟩),.string ⟨S.toArray⟩] w fun e w'=>(∃v,e= .returned v)/\bW w' B b (L++S) t/\Below B w w':=by
 have HW:=ζ h;clear h;go_enter func120,ntmps120;go_wp2_with (go_at_call 172;refine(tA HW.out).mono ?_;rintro e w1 ⟨rfl,h1,hb1⟩;refine aaH ?_);refine ζ ?_;obtain⟨h0,v,hh,Pn,hne⟩:=h1;obtain⟨vo,vc,c0,c1,c2,fz,hsh⟩:=j8.cells ⟨h0,v,hh,Pn,hne⟩;obtain rfl:v= .slice vo L.length vc:=by
  have:w1.cell? ⟨b,1,none⟩=some v:=by simp[World.cell?,hh]
  exact aaQ (this.symm.trans c1)
 have hB1:B<=w1.heap.size:=aaM hB hb1.size;have aN:=ζ hb1;have rQ:=ζ hne;clear hsh hb1 hne;go_wp2_with (at_builtin;refine vS rfl _ _ rfl w1 B (.slice vo L.length vc) L S rfl rfl Pn hl hB1 ?_;refine aaH ?_);refine ζ ?_;intro v' w2 Jk hg2;have dw:∀x,(Value.slice vo L.length vc).ownBlock=some x->B<=x:=fun x e=>(aaJ Pn x e).1
 have MW:=(hg2.block b (lt_of_block hh) (fun e=>rQ.out e.symm)).trans hh;have hv':∃LA LB,v'= .slice LA (L++S).length LB:=by
  rcases Jk.2 with ⟨rfl,h⟩|⟨g,cap,cur,rfl,-⟩
  .exact⟨none,0,by rw[h]⟩
  .exact⟨_,_,rfl⟩
 obtain⟨LA,LB,rfl⟩:=hv';obtain⟨d0,d1,d2,df⟩:=aR MW;have MJ:(Value.slice LA (L++S).length LB).ownBlock≠some b:=fun e=>by
  rcases Jk.2 with ⟨h,-⟩|⟨g,cap,cur,h,-,hg,-⟩
  .rw[h] at e
   cases e
  .rw[h] at e
   obtain rfl:g=b:=by simpa[Value.ownBlock] using e
   rw[MW] at hg;have:=congrArg (fun o=>match o with|some (Obj.cells _ t _)=>t|_=>146) hg;revert this;dsimp only;decide
 have HF:=ζ (show bW (w2.setCell ⟨b,1,none⟩ (.slice LA (L++S).length LB)) B b (L++S) t from .inr ⟨h0,_,by rw[heap_setCell_same w2 b 1 _ _ _ MW];simp,bN Jk fun g hg _ _=>heap_setCell_other _ ⟨b,1,none⟩ g _ (by dsimp only;intro e;exact MJ (by rw[hg,e])),MJ⟩);have Xq:=ζ (((aN.out.grown hg2 hB1 dw).setCell (p:=⟨b,1,none⟩) h0 (.slice LA (L++S).length LB)));clear Jk hg2 dw MJ hh MW Pn;rw[aaN] at HF Xq;go_wp2;go_ret2;exact⟨⟨_,rfl⟩,HF.out,Xq.out⟩
theorem vP {w:World} {B b:Nat} {L:List UInt8} {t:Bool} (h:bW w B b L t) (h0:L≠[]):
 Calls prog 80 #[.pointer (some ⟨b,0,none⟩)] w fun e w'=>e= .returned (.string ⟨L.toArray⟩)/\Below B w w':=by
 obtain⟨p,hB,v,hbk,hown,hne⟩:=h.some;have hl0:L.length≠0:=by simpa using h0
 obtain⟨g,cap,cur,rfl,hbg,hg,hnc,hcm,hcs,RL⟩:∃g cap cur,v= .slice (some ⟨g,0,none⟩) L.length cap/\B<=g/\w.heap[g]? =some (.cells cur 5 (0,0))/\L.length<=cap/\cap<=maxLen/\cur.size=cap*1/\cur.toList.take (L.length*1)=Lib.byteCells L:=by
  rcases hown.2 with ⟨_,hz⟩|⟨g,cap,cur,hv,r⟩
  .exact absurd hz hl0
  .exact⟨g,cap,cur,hv,r⟩
 have c1:w.drew.cell? ⟨b,1,none⟩=some (.slice (some ⟨g,0,none⟩) L.length cap):=by
  have:w.drew.heap[b]? =some (.cells #[p,.slice (some ⟨g,0,none⟩) L.length cap,.bool t] 146 (0,0)):=hbk;simp[World.cell?,this]
 have hSD:(Builtin.unsafeSliceData_ #[35] 207 #[.slice (some ⟨g,0,none⟩) L.length cap]).run prog w.drew= .ok (.pointer (some ⟨g,0,none⟩)) w.drew:=
  Lib.run_unsafeSliceData_row _ _ _ _ _ _ (by omega)
 have hUS:(Builtin.unsafeString_ #[207,3] 9 #[.pointer (some ⟨g,0,none⟩),.int .i64 L.length]).run prog w.drew= .ok (.string ⟨L.toArray⟩) (w.drew.freeze ⟨g,0,none⟩ L.length):=by
  refine Lib.run_unsafeString_row w.drew 207 3 9 5 Tryz.underlying207 (by kernel_rfl) g cur.size (by have hg':w.drew.heap[g]? =some (.cells cur 5 (0,0)):=hg;simp[World.shape?,hg']) L h0 (by omega) (by unfold maxLen at hcm;omega) ?_;intro j x hx;have:=hown.cells (g:=g) rfl j (.int .u8 x.toNat) (by simp[Lib.byteCells,hx]);exact this
 clear h0 hown RL hcs hcm hnc hbk h hne;go_enter func80,ntmps80;go_wp2
 go_region
 all_goals (go_wp2;go_ret;exact⟨rfl,Lib.below_freeze (abU (aaE B w)) (p:=⟨g,0,none⟩) hbg _⟩)
end
section
open Go.RowKit
namespace Ce
end Ce
namespace Ce
def jt (l:List Int):List UInt8:=l.flatMap fun x=>32::dg x
theorem xB (x:Int):∀r,jn (x::r)=dg x++jt r
 |[]=>by simp[jn,jt]
 |y::r=>by
  have ih:=xB y r;have e:jn (x::y::r)=dg x++32::jn (y::r):=rfl;rw[e,ih];simp[jt]
end Ce
def SV (T:List UInt8) (e:Ending):Prop:=(33554432<T.length/\e= .returned (.tuple #[.string ⟨#[]⟩,.int .i64 10]))\/(T.length<=33554432/\e= .returned (.tuple #[.string ⟨T.toArray⟩,.int .i64 0]))
structure Ce.jV (w:World) (v:Value) (c:Ce.Cert) (ao eo:Option Addr) (ca ce:Nat):Prop where
 val:v= .agg #[.bool c.pl,.slice ao c.ar.length ca,.slice eo c.es.length ce]
 ar:Ce.gW w ao c.ar
 es:ah w eo c.es
theorem Ce.jV.later {w w':World} {v:Value} {c:Ce.Cert} {ao eo:Option Addr} {ca ce:Nat} (h:Ce.jV w v c ao eo ca ce) (hb:Below w.heap.size w w'):Ce.jV w' v c ao eo ca ce:=⟨h.val,h.ar.later hb,h.es.later hb⟩
structure Ce.Fits (c:Ce.Cert):Prop where
 ar:c.ar.length<=4611686018427387904
 es:c.es.length<=4611686018427387904
 row:∀l∈c.ar,l.length<=4611686018427387904
 txt:Ce.good c->(Ce.eP c).length<=70368744177664
def vN (c:Ce.Cert) (e:Ending):Prop:=(¬Ce.good c->e= .returned (.tuple #[.string ⟨#[]⟩,.int .i64 170]))/\(Ce.good c->SV (Ce.eP c) e)
end
section
open Go.RowKit
def cT (w:World) (b:Nat) (ao:Option Addr) (n cap p:Nat):Prop:=
 w.heap[b]? =some (.cells #[.slice ao n cap,.int .i64 p] 254 (0,0))
def posOf (w:World) (b:Nat):Nat:=match w.cell? ⟨b,1,none⟩ with
 |some (.int _ x)=>x.toNat
 |_=>0
section
variable {w w':World} {b:Nat} {ao:Option Addr} {n cap p:Nat} {g:Nat->Int}
theorem cT.lt (h:cT w b ao n cap p):b<w.heap.size:=lt_of_block h
theorem cT.text (h:cT w b ao n cap p):w.cell? ⟨b,0,none⟩=some (.slice ao n cap):=by unfold cT at h;simp[World.cell?,h]
theorem cT.place (h:cT w b ao n cap p):w.cell? ⟨b,1,none⟩=some (.int .i64 p):=by unfold cT at h;simp[World.cell?,h]
theorem cT.free (h:cT w b ao n cap p) (i:Nat):w.frozen? ⟨b,i,none⟩=false:=by unfold cT at h;simp[World.frozen?,h]
theorem cT.pos (h:cT w b ao n cap p):posOf w b=p:=by simp[posOf,h.place]
theorem cT.set (h:cT w b ao n cap p) (q:Nat):cT (w.setCell ⟨b,1,none⟩ (.int .i64 q)) b ao n cap q:=by
 unfold cT at h ⊢;rw[heap_setCell_same w b 1 _ _ _ h];simp
theorem cT.alloc (h:cT w b ao n cap p) (o:Obj):cT (w.alloc o) b ao n cap p:=(aaO w o b h.lt).trans h
theorem cT.kept {r:Option Nat} (h:cT w b ao n cap p) (hg:w.grownBy w' r) (hr:some b≠r):cT w' b ao n cap p:=(hg.block b h.lt hr).trans h
theorem cT.drewN (h:cT w b ao n cap p) (k:Nat):cT (w.drewN k) b ao n cap p:=h
theorem cT.jK (h:cT w b ao n cap p) {B:Nat} (hB:b≠B) (x0 x1 x2 x3:Value):cT (jK w B x0 x1 x2 x3) b ao n cap p:=(tW hB x0 x1 x2 x3).trans h
end
end
end Go.Proofs.YtdbjpbjocmcpkaaGreatDoor
namespace Go.Proofs
open Go.Shelf
def Tryz.zA:Go.Shelf.Ren:=⟨fun|176=>76|249=>119|288=>171|283=>228|284=>229|285=>230|286=>231|129=>166|317=>266|318=>267|319=>268|320=>269|337=>292|338=>293|n=>n,fun|37=>35|2=>2|3=>3|53=>269|4=>4|9=>9|171=>329|0=>0|173=>331|212=>363|51=>267|5=>5|20=>20|213=>364|46=>194|232=>388|233=>389|n=>n,fun|17=>0|18=>1|19=>2|n=>n⟩
theorem Tryz.Ki:Go.Proofs.LaysM.n176 Tryz.prog Tryz.zA:={
 mixed:=by kernel_rfl
 f129:=Tryz.func166.trans (congrArg some (by kernel_rfl))
 f176:=Tryz.func76.trans (congrArg some (by kernel_rfl))
 f249:=Tryz.func119.trans (congrArg some (by kernel_rfl))
 f283:=Tryz.func228.trans (congrArg some (by kernel_rfl))
 f284:=Tryz.func229.trans (congrArg some (by kernel_rfl))
 f285:=Tryz.func230.trans (congrArg some (by kernel_rfl))
 f286:=Tryz.func231.trans (congrArg some (by kernel_rfl))
 f288:=Tryz.func171.trans (congrArg some (by kernel_rfl))
 f317:=Tryz.func266.trans (congrArg some (by kernel_rfl))
 f318:=Tryz.func267.trans (congrArg some (by kernel_rfl))
 f319:=Tryz.func268.trans (congrArg some (by kernel_rfl))
 f320:=Tryz.func269.trans (congrArg some (by kernel_rfl))
 f337:=Tryz.func292.trans (congrArg some (by kernel_rfl))
 f338:=Tryz.func293.trans (congrArg some (by kernel_rfl))
 t0:=Tryz.underlying0
 a0:=Tryz.isAgg0
 z0:=Tryz.sizeOf0
 v0:=Tryz.zeroValue0
 t2:=Tryz.underlying2
 a2:=Tryz.isAgg2
 z2:=Tryz.sizeOf2
 v2:=Tryz.zeroValue2
 t3:=Tryz.underlying3
 a3:=Tryz.isAgg3
 z3:=Tryz.sizeOf3
 v3:=Tryz.zeroValue3
 t4:=Tryz.underlying4
 a4:=Tryz.isAgg4
 z4:=Tryz.sizeOf4
 v4:=Tryz.zeroValue4
 t5:=Tryz.underlying5
 a5:=Tryz.isAgg5
 z5:=Tryz.sizeOf5
 v5:=Tryz.zeroValue5
 t9:=Tryz.underlying9
 a9:=Tryz.isAgg9
 z9:=Tryz.sizeOf9
 v9:=Tryz.zeroValue9
 t20:=Tryz.underlying20
 a20:=Tryz.isAgg20
 z20:=Tryz.sizeOf20
 v20:=Tryz.zeroValue20
 t37:=Tryz.underlying35
 a37:=Tryz.isAgg35
 z37:=Tryz.sizeOf35
 v37:=Tryz.zeroValue35
 t46:=Tryz.underlying194
 a46:=Tryz.isAgg194
 z46:=Tryz.sizeOf194
 v46:=Tryz.zeroValue194
 t51:=Tryz.underlying267
 a51:=Tryz.isAgg267
 z51:=Tryz.sizeOf267
 v51:=Tryz.zeroValue267
 t53:=Tryz.underlying269
 a53:=Tryz.isAgg269
 z53:=Tryz.sizeOf269
 v53:=Tryz.zeroValue269
 t171:=Tryz.underlying329
 a171:=Tryz.isAgg329
 z171:=Tryz.sizeOf329
 v171:=Tryz.zeroValue329
 t173:=Tryz.underlying331
 a173:=Tryz.isAgg331
 z173:=Tryz.sizeOf331
 v173:=Tryz.zeroValue331
 t212:=Tryz.underlying363
 a212:=Tryz.isAgg363
 z212:=Tryz.sizeOf363
 v212:=Tryz.zeroValue363
 t213:=Tryz.underlying364
 a213:=Tryz.isAgg364
 z213:=Tryz.sizeOf364
 t232:=Tryz.underlying388
 a232:=Tryz.isAgg388
 z232:=Tryz.sizeOf388
 v232:=Tryz.zeroValue388
 t233:=Tryz.underlying389
 a233:=Tryz.isAgg389
 z233:=Tryz.sizeOf389
 v233:=Tryz.zeroValue389
 g17:=by kernel_rfl
 g18:=by kernel_rfl
 g19:=by kernel_rfl
 i0:=by kernel_rfl
 i2:=by kernel_rfl
 i3:=by kernel_rfl
 i4:=by kernel_rfl
 i5:=by kernel_rfl
 i9:=by kernel_rfl
 i20:=by kernel_rfl
 i37:=by kernel_rfl
 i46:=by kernel_rfl
 i51:=by kernel_rfl
 i53:=by kernel_rfl
 i171:=by kernel_rfl
 i173:=by kernel_rfl
 i212:=by kernel_rfl
 i232:=by kernel_rfl
 i233:=by kernel_rfl
 m17:=by kernel_rfl
 m18:=by kernel_rfl
 m19:=by kernel_rfl }
theorem Tryz.iU (B n:Nat) (i:Int) (h0: -9223372036854775808≤i) (h1:i≤9223372036854775807) (sv:Value) (xs:List Value) (w:World) (hown:w.ownsRow B 5 1 sv n xs) (hBw:B≤w.heap.size) (hlim:n+21≤140737488355328)
 (htab:Lib.TabBelow Tryz.prog B w "internal/strconv.uint64pow10" .u64 Lib.pow10Tab):
 Calls Tryz.prog 76 #[sv,.int .i64 i,.int .i64 10] w fun e w'=>∃v',e= .returned v'∧w'.ownsRow B 5 1 v' (n+(Lib.itoa i).length) (xs++Lib.byteCells (Lib.itoa i))∧RowKit.Below B w w'∧Lib.OthersKept 5 none w w':=Any.strconv_AppendInt_10 Tryz.Ki B n i h0 h1 sv xs w hown hBw hlim htab
def Tryz.BU:Go.Shelf.Ren:=⟨fun|112=>93|n=>n,fun|28=>55|3=>3|4=>4|0=>0|n=>n,fun|n=>n⟩
theorem Tryz.Mi:Go.Proofs.Lays.n112 Tryz.prog Tryz.BU:={
 mixed:=by kernel_rfl
 f112:=Tryz.func93.trans (congrArg some (by kernel_rfl))
 t0:=Tryz.underlying0
 a0:=Tryz.isAgg0
 z0:=Tryz.sizeOf0
 v0:=Tryz.zeroValue0
 t3:=Tryz.underlying3
 a3:=Tryz.isAgg3
 z3:=Tryz.sizeOf3
 v3:=Tryz.zeroValue3
 t4:=Tryz.underlying4
 a4:=Tryz.isAgg4
 z4:=Tryz.sizeOf4
 v4:=Tryz.zeroValue4
 t28:=Tryz.underlying55
 a28:=Tryz.isAgg55
 z28:=Tryz.sizeOf55
 v28:=Tryz.zeroValue55 }
theorem Tryz.slices_Reverse_int (blk off cap:Nat) (zs:List Int) (w:World) (hH:Sort.Holds (Value.int .i64) w blk off zs.toArray) (hsz:zs.length≤9223372036854775807):
 Calls Tryz.prog 93 #[.slice (some ⟨blk,off,none⟩) zs.length cap] w fun e w'=>
  e= .returned (.tuple #[])∧∃n,w'=Sort.putRow (Value.int .i64) (Sort.ahead w n) blk off zs.reverse.toArray:=Any.slices_Reverse_int Tryz.Mi blk off cap zs w hH hsz
end Go.Proofs
namespace Go.Proofs.YtdbjpbjocmcpkaaGreatDoor
section
open Go.Proofs.Tryz
open Go.RowKit
def iE (w:World):Prop:=Lib.TabIs prog w "internal/strconv.uint64pow10" .u64 Lib.pow10Tab
def dc (z:Nat->Int):Nat->List UInt8
 |0=>[]
 |k+1=>(if 0<k then dc z k++[32] else dc z k)++Lib.itoa (z k)
theorem mV (z:Nat->Int) (n:Nat) (hz:∀i,i<n->-9223372036854775808<=z i/\z i<=9223372036854775807):∀k,k<=n->(dc z k).length<=22*k
 |0,_=>by simp[dc]
 |k+1,hk=>by
  have ih:=mV z n hz k (by omega);have:=Lib.itoa_length_le (z k) (hz k (by omega)).1 (hz k (by omega)).2;simp only[dc];by_cases h:0<k
  .rw[if_pos h];simp;omega
  .rw[if_neg h];simp;omega
def nL (w:World) (ao:Option Addr) (n:Nat) (z:Nat->Int):Prop:=
 ∀i,i<n->(-9223372036854775808<=z i/\z i<=9223372036854775807)/\∃tb to,ao=some ⟨tb,to,none⟩/\w.cell? ⟨tb,to+i,none⟩=some (.int .i64 (z i))
theorem nL.later {w w':World} {ao:Option Addr} {n:Nat} {z:Nat->Int} (h:nL w ao n z) (hg:Below w.heap.size w w'):nL w' ao n z:=by
 intro i hi;obtain⟨hb,tb,to,e,hc⟩:=h i hi;exact⟨hb,tb,to,e,(hg.cell (p:=⟨tb,to+i,none⟩) (block_lt_of_cell hc)).trans hc⟩
theorem Tryz.Kt:(prog.info? 5).map (fun i=>(i.zero,i.size,i.bytes))=some (some (.int .u8 0),1,1):=by kernel_rfl
theorem DL (W:World) (v:Value) (e:TypeId):∀j u,[v][j]? =some u->(W.alloc (.cells #[v] e)).cell? ((⟨W.heap.size,0,none⟩:Addr).add j)=some u:=by
 intro j u' hj
 match j,hj with
 |0,hj=>simp at hj;subst hj;simp[Addr.add]
theorem BM (ao:Option Addr) (n cap:Nat) (z:Nat->Int) (w:World) (hz:nL w ao n z) (hn:n<=100000000) (ht:iE w):
 Calls prog 39 #[.slice ao n cap] w fun e w'=>e= .returned (.string ⟨(dc z n++[10]).toArray⟩)/\Below w.heap.size w w':=by
 obtain⟨i0,hi,hz0,hz1,hz2⟩:=info_parts Tryz.Kt;have hT:=acH ht;have HL:=ζ (mV z n (fun i hi=>(hz i hi).1));have HZ:=ζ hz;have HT:=ζ hT;clear hz ht hT;go_enter func39,ntmps39;go_wp2;go_loopw [3,8] (fun v c wr=>∃k:Nat,k<=n/\c= .int .i64 k/\wr.ownsRow w.heap.size 5 1 v (dc z k).length (Lib.byteCells (dc z k))/\Below w.heap.size w wr) (fun _ c _=>n-(intOf c).toNat)
 case atStart=>exact⟨0,aaL _,rfl,abX _ _ _ _,aaE _ _⟩
 case round=>
  obtain⟨k,hk,rfl,hown,hb⟩:=hrel;have fY:=HL.out k hk;have hBw:=hb.size;by_cases hlt:k<n
  .have aX:(k:Int)<(n:Int):=by omega
   obtain⟨⟨b0,b1⟩,tb,to,rfl,cq⟩:=(HZ.out.later hb) k hlt;have HS:=ζ (show dc z (k+1)=(if 0<k then dc z k++[32] else dc z k)++Lib.itoa (z k) from rfl);generalize dc z k=L at*;have HC:=ζ cq;by_cases h0:0<k
   .have YP:(0:Int)<(k:Int):=by omega
    go_wp2_with (at_builtin;refine wpList_append_own _ rfl _ _ 35 rfl w.heap.size 5 i0 (.int .u8 0) 1 1 Tryz.underlying35 hi hz0 hz1 hz2 rfl (by decide) _ _ _ rfl (hown.alloc _) ⟨wr.heap.size,0,none⟩ 1 1 [.int .u8 32] rfl rfl (DL _ _ _) (by intro u' zC;simp at zC;subst zC;rfl) (by unfold maxLen;omega) (by omega) (by simp;omega) ?_;refine aaH ?_);refine ζ ?_;intro v1 w1 hown1 hg1 _;have hb1:Below w.heap.size w w1:=(hb.alloc hBw _).grown hg1 (by simp;omega) (fun q hq=>(hown.lt q hq).1);go_wp2_with (go_at_call 76;refine(Tryz.iU w.heap.size (L.length+1) (z k) b0 b1 v1 _ w1 hown1 hb1.size (by omega) (HT.out.on hb1)).mono ?_;rintro e w2 ⟨v2,rfl,hown2,hb2,-⟩;refine aaH ?_);refine ζ ?_;have Na:=hb1.trans hb2;clear hown1 hg1 hb1 hb2 cq;go_wp2;go_roundw
    case rel=>
     refine⟨k+1,by omega,by go_num,?_,Na⟩;have e1:(L++[32]++Lib.itoa (z k)).length=L.length+1+(Lib.itoa (z k)).length:=by simp;omega
     have e2:Lib.byteCells (L++[32]++Lib.itoa (z k))=Lib.byteCells L++[.int .u8 32]++Lib.byteCells (Lib.itoa (z k)):=by simp[Lib.byteCells]
     rw[HS.out,if_pos h0,e1,e2];exact hown2
    case measure=>simp[intOf];omega
   .have YP:¬((0:Int)<(k:Int)):=by omega
    go_wp2_with (go_at_call 76;refine(Tryz.iU w.heap.size L.length (z k) b0 b1 _ _ wr hown hBw (by omega) (HT.out.on hb)).mono ?_;rintro e w2 ⟨v2,rfl,hown2,hb2,-⟩;refine aaH ?_);refine ζ ?_;have Na:=hb.trans hb2;clear hb2 cq;go_wp2;go_roundw
    case rel=>
     refine⟨k+1,by omega,by go_num,?_,Na⟩;rw[HS.out,if_neg h0];simpa[Lib.byteCells] using hown2
    case measure=>simp[intOf];omega
  .have hd:¬((k:Int)<(n:Int)):=by omega
   have hkn:k=n:=by omega
   subst hkn;obtain⟨L,hL⟩:∃L,L=dc z k:=⟨_,rfl⟩;rw[<-hL] at hown fY;have jI:=ζ hL;clear hL;go_wp2_with (at_builtin;refine wpList_append_own _ rfl _ _ 35 rfl w.heap.size 5 i0 (.int .u8 0) 1 1 Tryz.underlying35 hi hz0 hz1 hz2 rfl (by decide) _ _ _ rfl (hown.alloc _) ⟨wr.heap.size,0,none⟩ 1 1 [.int .u8 10] rfl rfl (DL _ _ _) (by intro u' zC;simp at zC;subst zC;rfl) (by unfold maxLen;omega) (by omega) (by simp;omega) ?_;refine aaH ?_);refine ζ ?_;intro v1 w1 hown1 hg1 _;have hb1:Below w.heap.size w w1:=(hb.alloc hBw _).grown hg1 (by simp;omega) (fun q hq=>(hown.lt q hq).1);have eL:Lib.byteCells L++[Value.int .u8 10]=Lib.byteCells (L++[10]):=by simp[Lib.byteCells]
   rw[eL] at hown1;rcases hown1.2 with ⟨-,h0⟩|⟨gb,c1,cur,rfl,-⟩
   .omega
   .have hcv:=run_convert_bytes_back (P:=prog) w1 35 9 5 ⟨gb,0,none⟩ c1 (L++[10]) Tryz.underlying35 Tryz.underlying5 Tryz.underlying9 (fun j hj=>hown1.cells (g:=gb) rfl j _ (by rw[Lib.byteCells,aaY,aaC hj];rfl))
    have VW:(L++[(10:UInt8)]).length=L.length+1:=by simp
    rw[VW] at hcv;clear VW;have HOW:=ζ hown1;clear hown1 hg1;go_wp2;go_ret;rw[<-jI.out];exact⟨rfl,hb1⟩
end
section
open Go.RowKit
namespace Ce
theorem Mo (x:Int):∀m:List Int,jn (m++[x])=if m=[] then dg x else jn m++32::dg x
 |[]=>rfl
 |y::r=>by
  rw[if_neg (by simp),abC,xB,xB];simp[jt]
theorem xy {l:List Int} {z:Nat->Int} (hz:∀i x,l[i]? =some x->z i=x) (h0:∀x∈l,0<=x):∀k,k<=l.length->dc z k=jn (l.take k)
 |0,_=>rfl
 |k+1,hk=>by
  have ih:=xy hz h0 k (by omega);have hx:l[k]? =some l[k]:=aaC (by omega);have ht:l.take (k+1)=l.take k++[l[k]]:=by rw[abG,hx];rfl
  rw[ht,Mo];show(if 0<k then dc z k++[32] else dc z k)++Lib.itoa (z k)=_;rw[hz k _ hx,Nu.DZ (h0 _ (aaG hx)),ih];by_cases hk0:k=0
  .subst hk0
   rw[if_neg (by omega),if_pos (by simp)];rfl
  .have hne:l.take k≠[]:=fun e=>by
    have:=congrArg List.length e;rw[abq,acL] at this;omega
   rw[if_pos (by omega),if_neg hne];simp[dg]
theorem O3 (r:List Int):2*r.length<=(jt r).length:=by
 induction r with
 |nil=>simp[jt]
 |cons x r ih=>
  have:=E2 x;have e:jt (x::r)=32::dg x++jt r:=rfl;rw[e];simp;omega
theorem Mh (l:List Int):2*l.length<=(bK l).length:=by
 unfold bK;cases l with
 |nil=>simp
 |cons x r=>
  have:=O3 r;have:=E2 x;rw[xB];simp;omega
theorem Ru (r:List Int) (h:∀x∈r,fN x):(jt r).length<=10*r.length:=by
 induction r with
 |nil=>simp[jt]
 |cons x r ih=>
  have:=oF (h x (by simp));have:=ih (fun y hy=>h y (by simp[hy]));have e:jt (x::r)=32::dg x++jt r:=rfl;rw[e];simp;omega
theorem kW (l:List Int) (h:∀x∈l,fN x):(bK l).length<=10*l.length+1:=by
 unfold bK;cases l with
 |nil=>simp[jn]
 |cons x r=>
  have:=Ru r (fun y hy=>h y (by simp[hy]));have:=oF (h x (by simp));rw[xB];simp;omega
end Ce
theorem BI {ao:Option Addr} {cap:Nat} {l:List Int} {w:World} (ha:aZ w ao l) (hok:∀x∈l,Ce.fN x) (hl:l.length<=100000000) (ht:iE w):
 Calls Tryz.prog 39 #[.slice ao l.length cap] w fun e w'=>e= .returned (.string ⟨(Ce.bK l).toArray⟩)/\Below w.heap.size w w':=by
 have hz:∀i x,l[i]? =some x->(fun i=>l.getD i 0) i=x:=fun i x hx=>by simp[hx]
 have hI:nL w ao l.length (fun i=>l.getD i 0):=fun i hi=>by
  have hx:l[i]? =some l[i]:=aaC hi;obtain⟨b,o,e,hc⟩:=ha i _ hx;have:=hok _ (aaG hx);have h0:=this.1;have h9:=this.2;rw[hz i _ hx];exact⟨⟨by omega,by omega⟩,b,o,e,hc⟩
 have h:=BM ao l.length cap _ w hI hl ht;rw[Ce.xy hz (fun x hx=>(hok x hx).1) l.length (aaD _),abn] at h;exact h
end
section
open Go.Proofs.Tryz
open Go.RowKit
theorem bW.qJ {w:World} {B b:Nat} {L:List UInt8} {t:Bool} (h:bW w B b L t):bW (w.setCell ⟨b,2,none⟩ (.bool true)) B b L true:=h.imp (·.qJ) (·.qJ)
theorem bW.base {w:World} {B b:Nat} {L:List UInt8} {t:Bool} (h:bW w B b L t):B<=b/\b<w.heap.size:=by
 obtain⟨p,h⟩:=h.some;exact⟨h.1,h.lt⟩
theorem o7 {w:World} {B b:Nat} {L:List UInt8} {t:Bool} (h:bW w B b L t) {ao:Option Addr} {m c:Nat} (hm:m<=4611686018427387) (eR:t=true\/33554432<L.length+2*m) (hL:L.length<=70368744177664):
 Calls prog 78 #[.pointer (some ⟨b,0,none⟩),.slice ao m c] w fun e w'=>e= .returned (.tuple #[])/\bW w' B b L true/\Below B w w':=by
 obtain⟨p,h1⟩:=h.some;obtain⟨vo,vc,c0,c1,c2,fz,hsh⟩:=h1.cells;have KF:=h.base;have HW:=ζ h;have HF:=ζ h.qJ;clear h1 hsh h;obtain⟨K,hK⟩:∃K,L.length=K:=⟨_,rfl⟩;have HLEN:Hid (∀_:Nat,Calls prog 79 #[.pointer (some ⟨b,0,none⟩)] w fun e w'=>e= .returned (.int .i64 (K:Int))/\w'=w):=fun _=>by rw[<-hK];exact mN HW.out
 rw[hK] at c1 eR hL;have hB:Below B w (w.setCell ⟨b,2,none⟩ (.bool true)):=(aaE B w).setCell (p:=⟨b,2,none⟩) KF.1 _;cases t with
 |true=>
  clear eR;go_enter func78,ntmps78;go_wp2;refine bodyPost_ret (v:= .tuple #[]) (by simp[results,results78]) rfl ?_;exact⟨rfl,HF.out,hB⟩
 |false=>
  have hl2:(33554432:Int)<(K:Int)+2*(m:Int):=by
   rcases eR with h|h
   .cases h
   .omega
  clear eR;go_enter func78,ntmps78;go_wp2_with (go_at_call 79;refine(HLEN.out 0).mono ?_;rintro e w' ⟨rfl,rfl⟩);refine bodyPost_ret (v:= .tuple #[]) (by simp[results,results78]) rfl ?_;exact⟨rfl,HF.out,hB⟩
theorem oZ {w:World} {B b:Nat} {L:List UInt8} (h:bW w B b L false) (hB:B<=w.heap.size) {ao:Option Addr} {c:Nat} {l:List Int} (ha:aZ w ao l) (hok:∀x∈l,Ce.fN x) (ht:iE w) (hl:L.length+2*l.length<=33554432):
 Calls prog 78 #[.pointer (some ⟨b,0,none⟩),.slice ao l.length c] w fun e w'=>e= .returned (.tuple #[])/\bW w' B b (L++Ce.bK l) false/\Below B w w':=by
 obtain⟨p,h1⟩:=h.some;obtain⟨vo,vc,c0,c1,c2,fz,hsh⟩:=h1.cells;have KF:=h.base;have HW:=ζ h;have hhi:=Ce.kW l hok;have N5:Hid (∀V,Below w.heap.size w V->Calls prog 39 #[.slice ao l.length c] V fun e w'=>e= .returned (.string ⟨(Ce.bK l).toArray⟩)/\Below V.heap.size V w'):=fun V hV=>BI (ha.later hV) hok (by omega) (acH ht V hV)
 have ke:Hid (∀V,Below w.heap.size w V->Calls prog 120 #[.pointer (some ⟨b,0,none⟩),.string ⟨(Ce.bK l).toArray⟩] V fun e w'=>(∃v,e= .returned v)/\bW w' B b (L++Ce.bK l) false/\Below B V w'):=fun V hV=>oX (HW.out.later hV) (aaM hB hV.size) (by omega)
 have hbr:Below w.heap.size w w.drew:=(aaE _ _).drew;obtain⟨S,hS⟩:∃S,Ce.bK l=S:=⟨_,rfl⟩;obtain⟨m,hm⟩:∃m,l.length=m:=⟨_,rfl⟩;obtain⟨K,hK⟩:∃K,L.length=K:=⟨_,rfl⟩;have HLEN:Hid (∀_:Nat,Calls prog 79 #[.pointer (some ⟨b,0,none⟩)] w fun e w'=>e= .returned (.int .i64 (K:Int))/\w'=w):=fun _=>by rw[<-hK];exact mN HW.out
 rw[hS,hm] at N5;rw[hS] at ke ⊢;rw[hm] at hl ⊢;rw[hK] at c1 hl;have hl2:¬((33554432:Int)<(K:Int)+2*(m:Int)):=by omega
 clear h1 hsh h hhi hm hK hS ha hok ht;go_enter func78,ntmps78;go_wp2_with (go_at_call 79;refine(HLEN.out 0).mono ?_;rintro e w' ⟨rfl,hw'⟩;obtain rfl:=hw'.symm;clear hw')
 go_region_held3 (fun V=>Below B w V)
  (first|assumption|exact hbr.mono hB)
  (first
    |(go_at_call 39;with_reducible refine(N5.out _ (by first|assumption|exact hbr)).mono ?_;rintro e w3 ⟨rfl,hb3⟩;have hbz:Below w.heap.size w w3:=hbr.trans (hb3.mono hbr.size);have Sp:Below B w w3:=hbz.mono hB)
    |(go_at_call 120;with_reducible refine(ke.out _ (by assumption)).mono ?_;rintro e w4 ⟨⟨v4,rfl⟩,hw4,hb4⟩;have YA:Below B w w4:=abL (by assumption) hb4))
 go_wp2
 go_end0
 exact⟨rfl,hw4,YA⟩
theorem qD {w:World} {B b:Nat} (h:bW w B b [] false) (hB:B<=w.heap.size) {S:List UInt8} (hS:S.length<=2) {k:Int} (hk:Ce.fN k) (ht:∀W,Below B w W->iE W):
 Calls prog 77 #[.pointer (some ⟨b,0,none⟩),.string ⟨S.toArray⟩,.int .i64 k] w fun e w'=>e= .returned (.tuple #[])/\bW w' B b (S++Ce.bK [k]) false/\Below B w w':=by
 have KF:=h.base;have ke:=ζ (oX h hB (S:=S) (by simp;omega));have HT:=ζ ht;clear h ht;go_enter func77,ntmps77;go_wp2_with (go_at_call 120;refine ke.out.mono ?_;rintro e w1 ⟨⟨v1,rfl⟩,hw1,hb1⟩;refine aaH ?_);refine ζ ?_;rw[abA] at hw1;have hB1:B<=w1.heap.size:=aaM hB hb1.size;have ha1:Below w1.heap.size w1 (w1.alloc (.cells #[.int .i64 k] 3)):=(aaE _ _).alloc (aaD _) _;have hb2:=hb1.trans (ha1.mono hB1);have hI:aZ (w1.alloc (.cells #[.int .i64 k] 3)) (some ⟨w1.heap.size,0,none⟩) [k]:=aq.at (l:=[k]) (heap_alloc_new w1 _);have HL:=ζ (oZ (c:=1) (hw1.later ha1) (by simp;omega) hI (fun x hx=>by rw[aa6.1 hx];exact hk) (HT.out _ hb2) (by simp;omega));have aC:=ζ hb2;clear ke hw1 hb1 hb2 hI;go_wp2_with (go_at_call 78;refine HL.out.mono ?_;rintro e w3 ⟨rfl,hw3,hb3⟩)
 go_end0
 exact⟨rfl,hw3,aC.out.trans hb3⟩
end
section
namespace Ce
open Nu
section
end
def Rl (L:List UInt8) (i:Nat):Int:=match L[i]? with|some x=>(x.toNat:Int)|none=> -1
end Ce
end
section
open Go.Proofs.Tryz
open Go.RowKit
section
end
theorem lC (x:Int) (w:World):Calls prog 334 #[.int .i64 x] w fun e w'=>e= .returned (.bool (decide (0<=x/\x<=999999999)))/\w'=w:=by
 by_cases h0:0<=x
 .by_cases h1:x<=999999999
  .rw[decide_eq_true ⟨h0,h1⟩]
   go_enter func334,ntmps334;go_wp2;go_ret;exact⟨rfl,rfl⟩
  .rw[decide_eq_false (fun h=>h1 h.2)]
   go_enter func334,ntmps334;go_wp2;go_ret;exact⟨rfl,rfl⟩
 .rw[decide_eq_false (fun h=>h0 h.1)]
  go_enter func334,ntmps334;go_wp2;go_ret;exact⟨rfl,rfl⟩
theorem NC (a b c d:Int) (w:World):Calls prog 227 #[.agg #[.int .i64 a,.int .i64 b],.agg #[.int .i64 c,.int .i64 d]] w fun e w'=>e= .returned (.bool (decide (c<a\/(c=a/\d<b))))/\Below w.heap.size w w':=by
 by_cases h0:c<a
 .rw[decide_eq_true (.inl h0)]
  go_enter func227,ntmps227;go_wp2;go_ret;exact⟨rfl,((aaE _ _).alloc (aaD _) _).alloc (by simp) _⟩
 .by_cases h1:c=a
  .subst h1
   by_cases h2:d<b
   .rw[decide_eq_true (.inr ⟨rfl,h2⟩)]
    go_enter func227,ntmps227;go_wp2;go_ret;exact⟨rfl,((aaE _ _).alloc (aaD _) _).alloc (by simp) _⟩
   .rw[decide_eq_false (by omega)]
    go_enter func227,ntmps227;go_wp2;go_ret;exact⟨rfl,((aaE _ _).alloc (aaD _) _).alloc (by simp) _⟩
  .have h3:(a==c)=false:=by simp;omega
   rw[decide_eq_false (by omega)];go_enter func227,ntmps227;go_wp2;go_ret;exact⟨rfl,((aaE _ _).alloc (aaD _) _).alloc (by simp) _⟩
end
section
open Go.Proofs.Tryz
open Go.RowKit
theorem pG {w:World} {ao:Option Addr} {c:Nat} {ls:List (List Int)} (h:Ce.gW w ao ls) (hs:ls.length<=4611686018427387904) (hl:∀l∈ls,l.length<=4611686018427387904):
 Calls prog 333 #[.slice ao ls.length c] w fun e w'=>Ce.Says e (Ce.I1 ls)/\Below w.heap.size w w':=by
 obtain⟨n,hn⟩:∃n,ls.length=n:=⟨_,rfl⟩;rw[hn] at hs ⊢;have HS:=ζ h;have HL:=ζ hl;have HN:=ζ hn;clear h hl hn;by_cases hc:1048576<n
 .have vk:(1048576:Int)<(n:Int):=by omega
  go_enter func333,ntmps333;go_wp2;go_ret;exact⟨Ce.Says.no fun h=>by have:=h.2;have:=HN.out;omega,aaE _ _⟩
 .have vk:¬((1048576:Int)<(n:Int)):=by omega
  go_enter func333,ntmps333;go_wp2;go_loopw [12] (fun iv wr=>∃k:Nat,k<=n/\iv= .int .i64 (k:Int)/\(∀i l,i<k->ls[i]? =some l->Ce.LS l)/\Below w.heap.size w wr) (fun iv _=>n-(intOf iv).toNat)
  case atStart=>exact⟨0,aaL _,rfl,fun i l h=>by omega,aaE _ _⟩
  case round=>
   obtain⟨k,hk,rfl,hok,cm⟩:=hrel;have iw:=ζ hok;have eM:=ζ cm;clear hok;by_cases hlt:k<n
   .have aX:(k:Int)<(n:Int):=by omega
    obtain⟨l,hl⟩:∃l,ls[k]? =some l:=⟨_,aaC (by have:=HN.out;omega)⟩;have fY:=HL.out l (aaG hl);obtain⟨b,o,xa,xc,rfl,c0,MV⟩:=(HS.out.later cm) k l hl;obtain⟨m,hm⟩:∃m,l.length=m:=⟨_,rfl⟩;have gX:=ζ hl;have HM:=ζ hm;have Lq:=ζ MV;rw[hm] at fY c0;have k0:(0:Int)<=(k:Int):=by omega
    clear hl hm MV cm;go_wp2;go_loopw [18] (fun jv wx=>∃j:Nat,j<=m/\jv= .int .i64 (j:Int)/\(∀i x,i<j->l[i]? =some x->Ce.fN x/\l.headD 0<=x)/\wx=wr) (fun jv _=>m-(intOf jv).toNat)
    case atStart=>exact⟨0,aaL _,rfl,fun i x h=>by omega,rfl⟩
    case round=>
     obtain⟨j,hj,rfl,Qg,rfl⟩:=hrel;have QW:=ζ Qg;have j0:(0:Int)<=(j:Int):=by omega
     clear Qg;by_cases Pg:j<m
     .have MR:(j:Int)<(m:Int):=by omega
      have hm0:(0:Int)<(m:Int):=by omega
      obtain⟨x,hx⟩:∃x,l[j]? =some x:=⟨_,aaC (by have:=HM.out;omega)⟩;obtain⟨y,hy⟩:∃y,l[0]? =some y:=⟨_,aaC (by have:=HM.out;omega)⟩;have hy0:l.headD 0=y:=by
       cases l with
       |nil=>cases hy
       |cons a r=>cases hy;rfl
      obtain⟨xb,xo,rfl,d0⟩:=Lq.out j x hx;obtain⟨xb',XF,e',d1⟩:=Lq.out 0 y hy;cases e';rw[abv] at d1;have HX:=ζ hx;have V8:=ζ hy0;clear hx hy hy0;by_cases hxy:x<y
      .have mA:Hid (¬Ce.LS l):=fun h=>by
        have:=(h x (aaG HX.out)).2;have:=V8.out;omega
       go_wp2;go_ret;exact⟨Ce.Says.no fun h=>mA.out (h.1 l (aaG gX.out)),eM.out⟩
      .by_cases hn1:0<=x/\x<=999999999
       .have lp:Hid (Ce.fN x):=hn1
        have HD:Hid (∀W,Calls prog 334 #[.int .i64 x] W fun e w'=>e= .returned (.bool true)/\w'=W):=fun W=>by have:=lC x W;rwa[decide_eq_true hn1] at this
        clear hn1;go_wp2_with (go_at_call 334;refine(HD.out _).mono ?_;rintro e w' ⟨rfl,hw'⟩;obtain rfl:=hw'.symm;clear hw');go_roundw
        case rel=>
         refine⟨j+1,by omega,by go_num,fun i z hi hz=> ?_,trivial⟩;by_cases hij:i=j
         .subst hij
          rw[HX.out] at hz;cases hz;exact⟨lp.out,by have:=V8.out;omega⟩
         .exact QW.out i z (by omega) hz
        case measure=>simp[intOf];omega
       .have mA:Hid (¬Ce.LS l):=fun h=>hn1 (h x (aaG HX.out)).1
        have HD:Hid (∀W,Calls prog 334 #[.int .i64 x] W fun e w'=>e= .returned (.bool false)/\w'=W):=fun W=>by have:=lC x W;rwa[decide_eq_false hn1] at this
        clear hn1;go_wp2_with (go_at_call 334;refine(HD.out _).mono ?_;rintro e w' ⟨rfl,hw'⟩;obtain rfl:=hw'.symm;clear hw');go_ret;exact⟨Ce.Says.no fun h=>mA.out (h.1 l (aaG gX.out)),eM.out⟩
     .have MR:¬((j:Int)<(m:Int)):=by omega
      go_wp2;go_roundw
      case rel=>
       refine⟨k+1,by omega,by go_num,fun i z hi hz=> ?_,eM.out⟩;by_cases hik:i=k
       .subst hik
        rw[gX.out] at hz;cases hz;intro x hx;obtain⟨u,hu⟩:=abf hx;exact QW.out u x (by have:=HM.out;have:=(aaF.1 hu).1;omega) hu
       .exact iw.out i z (by omega) hz
      case measure=>simp[intOf];omega
   .have aX:¬((k:Int)<(n:Int)):=by omega
    obtain rfl:k=n:=by omega
    go_wp2;go_ret;refine⟨Ce.Says.yes ⟨fun l hl=> ?_,by have:=HN.out;omega⟩,eM.out⟩;obtain⟨i,hi⟩:=abf hl;exact iw.out i l (by have:=HN.out;have:=(aaF.1 hi).1;omega) hi
end
section
open Go.Proofs.Tryz
open Go.RowKit
theorem yH (c:Int) (w:World):
 Calls prog 218 #[.int .u8 c] w fun e w'=>e= .returned (.bool (Nu.ak c))/\w'=w:=by
 unfold Nu.ak;by_cases h1:c=32
 .subst h1
  go_enter func218,ntmps218;go_wp2;go_ret;exact⟨rfl,rfl⟩
 .have e1:(c==32)=false:=by simp[h1]
  by_cases h2:c=9
  .subst h2
   go_enter func218,ntmps218;go_wp2;go_ret;exact⟨rfl,rfl⟩
  .have e2:(c==9)=false:=by simp[h2]
   rw[e1,e2];go_enter func218,ntmps218;go_wp2;go_ret;exact⟨by simp,rfl⟩
theorem jr (c:Int) (w:World):
 Calls prog 219 #[.int .u8 c] w fun e w'=>e= .returned (.bool (Nu.isDigit c))/\w'=w:=by
 unfold Nu.isDigit;by_cases h1:48<=c
 .have e1:decide (48<=c)=true:=by simp[h1]
  rw[e1];go_enter func219,ntmps219;go_wp2;go_ret;exact⟨by simp,rfl⟩
 .have e1:decide (48<=c)=false:=by simp[h1]
  rw[e1];go_enter func219,ntmps219;go_wp2;go_ret;exact⟨by simp,rfl⟩
end
end Go.Proofs.YtdbjpbjocmcpkaaGreatDoor
