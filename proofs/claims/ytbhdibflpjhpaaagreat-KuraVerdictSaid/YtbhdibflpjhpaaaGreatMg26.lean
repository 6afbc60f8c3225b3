import Derived.RangeFuncNested
import Derived.RangeFuncBound
import Derived.RangeFuncCalls
import Derived.RangeFuncLeaves
import Derived.Shelf.RegionOpen
import Derived.OwnWalkIn
import Derived.TacticsInMore
import Derived.LoopNIn
import Derived.LoopIn
import Derived.Test.YtbhdibflpjhpaaaGreatMg22
namespace Go.Proofs.YtbhdibflpjhpaaaGreat
section
open Go.RowKit Go.Shelf
def dc (n₀:Nat) (S:Nat->Prop) (W W':World):Prop:=Below n₀ W W'/\∀(b:Nat) (o:Obj),W.heap[b]? =some o->o.isCells=true->¬S b->W'.heap[b]? =some o
section
variable {n₀:Nat} {S:Nat->Prop} {A B C W W':World}
theorem dc.refl (n₀:Nat) (S:Nat->Prop) (W:World):dc n₀ S W W:=⟨aae _ _,fun _ _ h _ _=>h⟩
theorem dc.trans (h:dc n₀ S A B) (k:dc n₀ S B C):dc n₀ S A C:=⟨h.1.trans k.1,fun b o hb ho hs=>k.2 b o (h.2 b o hb ho hs) ho hs⟩
theorem dc.cell (h:dc n₀ S W W') {a:Addr} {v:Value} (hc:W.cell? a=some v) (hs:¬S a.block):W'.cell? a=some v:=by
 obtain⟨o,ho,hcl⟩:=cells_of_cell hc;exact(aea ((h.2 _ _ ho hcl hs).trans ho.symm)).trans hc
theorem dc.boxed (h:dc n₀ S W W') {b:Nat} {t:TypeId} {v:Value} (hb:Boxed W b t v) (hs:¬S b):Boxed W' b t v:=h.2 b _ hb rfl hs
theorem dc.grow (h:dc n₀ S A B) (hb:Below B.heap.size B C) (hn:n₀<=B.heap.size):dc n₀ S A C:=⟨h.1.trans (hb.mono hn),fun b o hA ho hs=>by
 have:=h.2 b o hA ho hs;exact(hb.block b (abR.1 this).1).trans this⟩
theorem dc.put (hn:n₀<=A.heap.size) {l:Nat} {o o':Obj} (hl:A.heap.size<=l) (h:W.heap[l]? =some o) (h1:o.isCells=false) (h2:o.isWalk=false):dc n₀ S W (W.putObj l o'):=
 ⟨belowK_b (w:=A) hn W l o o' hl h h1 h2,fun b o2 hb ho _=>by
   have:b≠l:=fun e=>by subst e;rw[h] at hb;cases hb;rw[h1] at ho;cases ho
   exact(ads this).trans hb⟩
theorem dc.own {β:Type} {B':Nat} (hn:n₀<=A.heap.size) (hB:n₀<=B'):OwnFrom B' (fun (_:β) W=>dc n₀ S A W):=fun _ X Y row hs hg hr=>
 ⟨hs.1.grown hg (acA hn hs.1.size) (fun k e=>by have:=(hr k e).1;omega),fun b o hb ho hS=>by
   have hX:=hs.2 b o hb ho hS;refine(hg.block b (abR.1 hX).1 (fun e=> ?_)).trans hX;obtain⟨_,o',ho',hc⟩:=hr b e.symm;rw[hX] at ho';cases ho';rw[ho] at hc;cases hc⟩
theorem yw {B₁ B₂:Nat} (h:KeepsFrom B₁ W W') (hB:B₁<=B₂):KeepsFrom B₂ W W':=⟨h.size,fun k o hk h0 ho=>h.same k o (acA hB hk) h0 ho⟩
theorem Qe {B₁ l:Nat} (hl:l<B₁) (o:Obj) (W:World):KeepsFrom B₁ W (W.putObj l o):=⟨by simp,fun k o' hk h0 _=>(ads (by omega)).trans h0⟩
end
theorem RoundIn.deep {m m':Nat} {P:Program} {l:Nat} {f:FuncId} {tmps:Array Value} {assign body:Code} {w:World} {R:Ending->World->Prop} (h:RoundIn Fence.wide m P l f tmps assign body w R):RoundIn Fence.wide m' P l f tmps assign body w R:=
 ⟨h.1,fun c cs _=>h.2 c cs (room_wide _)⟩
def xI {α:Type} (P:Program) (g:Nat) (lb:Array Value) (encs:α->Array Value) (n₀:Nat) (S:Nat->Prop) (zs:List α) (w:World) (m:Nat):Prop:=
 ∀(l:Nat) (J Jx:List α->World->Prop) (W:World),Below w.heap.size w W->W.heap.size<=w.heap.size+2->OwnFrom W.heap.size J->OwnFrom W.heap.size Jx->
  (∀pre x W1,pre++[x] <+: zs->J pre W1->W.heap.size+m<=W1.heap.size->∀d,YieldAt Fence.wide d P l (encs x) W1 fun e W'=>KeepsFrom W.heap.size W1 W'/\
    ((e= .returned (.bool true)/\J (pre++[x]) W'/\dc n₀ S W1 W')\/(e= .returned (.bool false)/\Jx (pre++[x]) W')))->
  J [] W->Calls P g (#[.func (.yield l) #[] #[]]++lb) W fun e W'=>(∃v,e= .returned v)/\(J zs W'\/∃pre,pre <+: zs/\Jx pre W')
abbrev TE (ro:Option Nat):Fence:={ Fence.wide with round:=ro }
abbrev ql (fn:FuncId) (a:Act) (ps:Array Tmp) (assign body:Code) (d:Nat) (st:LoopState) (pe:Option Code):Loop:={ state:=st,pending:=pe,fn,tmps:=a.tmps,params:=ps,assign,body,defers:=d }
theorem KH {α:Type} (ro:Option Nat) {n:Nat} {P:Program} {g:Operand} {ps:Array Tmp} {assign body:Code} {Q:Exit->Act->World->Prop} {a:Act} {w:World} {l d B:Nat} {mark:List Deferred} {Wf:Nat->World}
 {gf:Nat} {lb:Array Value} (hg:a.eval g= .func (.func gf) #[] lb) (eg:∀args w,(callFunc gf args).run P w= .ok (.enter gf args) w)
 {encs:α->Array Value} {n₀:Nat} {S:Nat->Prop} {zs:List α} {w0:World} {m:Nat} (hseq:xI P gf lb encs n₀ S zs w0 m)
 (hen:∀fn,(Instr.enterLoop fn a.tmps ps assign body ro).run P w= .ok (l,mark) (Wf fn)) (agv:∀fn,(Wf fn).heap[l]? =some (.loop (ql fn a ps assign body d .ready none)))
 (cq:∀fn,(Wf fn).heap.size=l+1) (hbl:∀fn,Below w0.heap.size w0 (Wf fn)) (hls:l+1<=w0.heap.size+2) (o9:w.heap.size<=l) (hBl:B<=l) (hn:n₀<=w.heap.size) (hps:∀x,(encs x).size=ps.size)
 (I:List α->World->Prop) (Ix:Code->List α->World->Prop) (hI:OwnFrom l I) (hIx:∀c,OwnFrom l (Ix c)) (h0:∀fn,I [] (Wf fn)) (Ax:α->Act->World->Prop) (hAx:∀x a',OwnFrom l (fun (_:Unit) W=>Ax x a' W))
 (hassign:∀(pre:List α) (x:α) (W:World) (K:Act->World->Prop),pre++[x] <+: zs->l+1+m<=W.heap.size->I pre W->(∀a' W',KeepsFrom B W W'->dc n₀ S W W'->I pre W'->Ax x a' W'->K a' W')->
   assign.wpIn (Fence.wide.inRound l) (n-1-1) P (Exit.then K (fun _ _ _=>False)) { tmps:=(ps.zip (encs x)).foldl (fun t (p,v)=>t.setIfInBounds p v) a.tmps,defers:=[] } W)
 (hbody:∀(pre:List α) (x:α) (a':Act) (W:World),(∃r,W.heap[l]? =some (.loop r))->pre++[x] <+: zs->l+1+m<=W.heap.size->I pre W->Ax x a' W->body.wpIn (Fence.wide.inRound l) (n-1-1) P (ownPostG B (dc n₀ S) I Ix (pre++[x]) W) a' W)
 (hdone:∀(W:World),I zs W->Q .normal { a with defers:=mark++a.defers } W)
 (hstop:∀(c:Code) (pre:List α) (W:World),pre <+: zs->Ix c pre W->c.wpIn (TE ro) n P Q { a with defers:=mark++a.defers } W):
 (Code.rangeFunc g ps assign body).wpIn (TE ro) n P Q a w:=by
 refine wpIn_rangeFunc ?_;intro fn _;have hsz:=cq fn;refine⟨l,mark,Wf fn,{ target:= .fn (.func gf) lb,args:= #[.func (.yield l) #[] #[]] },Wf fn,gf,#[.func (.yield l) #[] #[]]++lb,Wf fn,hen fn,?_,fun _ _=>trivial,?_,(fun h=>by cases h),?_⟩
 .simp only[resolve,hg]
  simp[go_sem]
 .simp[invoke,go_sem,eg]
 refine CallsIn.mono (R:=fun e W'=>(∃v,e= .returned v)/\((I zs W'/\W'.heap[l]? =some (.loop (ql fn a ps assign body d .ready none)))\/∃pre,pre <+: zs/\∃c,Ix c pre W'/\W'.heap[l]? =some (.loop (ql fn a ps assign body d .done (some c))))) ?_ ?_
 .have fG:=hseq l (fun pre W=>I pre W/\W.heap[l]? =some (.loop (ql fn a ps assign body d .ready none)))
   (fun pre W=>∃c,Ix c pre W/\W.heap[l]? =some (.loop (ql fn a ps assign body d .done (some c)))) (Wf fn) (hbl fn) (by omega)
   (fun s X Y row hs hg' hr=>⟨hI s X Y row hs.1 hg' (fun r e=>⟨by have:=(hr r e).1;omega,(hr r e).2⟩),(hg'.block l (abR.1 hs.2).1 (fun e=>by have:=(hr l e.symm).1;omega)).trans hs.2⟩)
   (fun s X Y row ⟨c,hc,hl⟩ hg' hr=>⟨c,hIx c s X Y row hc hg' (fun r e=>⟨by have:=(hr r e).1;omega,(hr r e).2⟩),(hg'.block l (abR.1 hl).1 (fun e=>by have:=(hr l e.symm).1;omega)).trans hl⟩)
   ?_ ⟨h0 fn,agv fn⟩
  .exact(callsIn_wide (n:=n-1)).2 fG
  .rintro pre x W hpx ⟨hi,hl⟩ hW dd
   have hy:=run_yield (P:=P) (args:=encs x) hl (hps x);refine⟨fn,_,assign,body,hy,RoundIn.deep (m:=n-1-1) ?_⟩;refine roundIn_of_wpIn (F:=Fence.wide) trivial (hassign pre x W _ hpx (by omega) hi ?_);clear hy;intro a' Wa Vt agO hia VQ;have hla:=Vt.same _ _ hBl hl rfl;have agH:l<Wa.heap.size:=(abR.1 hla).1;refine⟨_,run_beginRound hla rfl,?_⟩;obtain⟨W2,hW2⟩:∃W2,W2=Wa.putObj l (.loop { ql fn a ps assign body d .ready none with state:= .busy }):=⟨_,rfl⟩;have hl2:W2.heap[l]? =some (.loop { ql fn a ps assign body d .ready none with state:= .busy }):=by rw[hW2];exact World.putObj_heap_same agH
   have hk2:dc n₀ S Wa W2:=by rw[hW2];exact dc.put hn o9 hla rfl rfl
   have hf2:KeepsFrom (l+1) Wa W2:=by rw[hW2];exact Qe (Nat.lt_succ_self _) _ _
   have hi2:I pre W2:=by rw[hW2];exact hI.putObj _ hia (aad _) hla rfl
   have hx2:Ax x a' W2:=by rw[hW2];exact(hAx x a').putObj (s:=()) _ VQ (aad _) hla rfl
   rw[<-hW2];have Gj:W.heap.size<=W2.heap.size:=acA Vt.size hf2.size;refine wpIn_mono (hbody pre x a' W2 ⟨_,hl2⟩ hpx (by omega) hi2 hx2) ?_
   have fin:∀(jump:Option Code) (W3:World),KeepsFrom B W2 W3->∃W4,(Instr.endRound l jump).run P W3= .ok (.bool jump.isNone) W4/\W4=W3.putObj l (.loop (ql fn a ps assign body d (if jump.isNone then .ready else .done) jump))/\
    W3.heap[l]? =some (.loop { ql fn a ps assign body d .ready none with state:= .busy })/\W4.heap[l]? =some (.loop (ql fn a ps assign body d (if jump.isNone then .ready else .done) jump))/\KeepsFrom (Wf fn).heap.size W W4:=fun jump W3 hk3=>by
    have hl3:=hk3.same _ _ hBl hl2 rfl;refine⟨_,run_endRound (P:=P) jump hl3,rfl,hl3,World.putObj_heap_same (abR.1 hl3).1,?_⟩;rw[hsz];exact(((yw Vt (by omega)).trans hf2).trans (yw hk3 (by omega))).trans (Qe (Nat.lt_succ_self _) _ _)
   rintro e a3 W3 hp;cases e with
   |normal=>
    obtain⟨hk3,agP,BI⟩:=hp;obtain⟨W4,hr,e4,hl3,hl4,Ol⟩:=fin none W3 hk3;refine⟨_,_,hr,Ol,.inl ⟨rfl,⟨?_,hl4⟩,?_⟩⟩
    .rw[e4];exact hI.putObj _ BI (aad _) hl3 rfl
    .rw[e4];exact((agO.trans hk2).trans agP).trans (dc.put hn o9 hl3 rfl rfl)
   |ret=>
    obtain⟨hk3,BI⟩:=hp;obtain⟨W4,hr,e4,hl3,hl4,Ol⟩:=fin (some .ret) W3 hk3;exact⟨_,_,hr,Ol,.inr ⟨rfl,.ret,by rw[e4];exact(hIx _).putObj _ BI (aad _) hl3 rfl,hl4⟩⟩
   |exit id=>
    obtain⟨hk3,BI⟩:=hp;obtain⟨W4,hr,e4,hl3,hl4,Ol⟩:=fin (some (.exit id)) W3 hk3;exact⟨_,_,hr,Ol,.inr ⟨rfl,.exit id,by rw[e4];exact(hIx _).putObj _ BI (aad _) hl3 rfl,hl4⟩⟩
   |goto t=>
    obtain⟨hk3,BI⟩:=hp;obtain⟨W4,hr,e4,hl3,hl4,Ol⟩:=fin (some (.goto t)) W3 hk3;exact⟨_,_,hr,Ol,.inr ⟨rfl,.goto t,by rw[e4];exact(hIx _).putObj _ BI (aad _) hl3 rfl,hl4⟩⟩
   |panic ch=>exact hp.elim
   |outgrown=>exact hp.elim
 .rintro e W2 ⟨⟨v,rfl⟩,(⟨hi,hl⟩|⟨pre,hpre,c,hi,hl⟩)⟩
  .exact⟨none,_,run_endLoop (P:=P) hl (by simp),hdone _ (hI.putObj _ hi (aad _) hl rfl)⟩
  .exact⟨some c,_,run_endLoop (P:=P) hl (by simp),hstop c pre _ hpre ((hIx c).putObj _ hi (aad _) hl rfl)⟩
theorem Cf {α:Type} {n:Nat} {P:Program} {g:Operand} {ps:Array Tmp} {assign body:Code} {Q:Exit->Act->World->Prop} {a:Act} {w:World}
 {gf:Nat} {lb:Array Value} (hg:a.eval g= .func (.func gf) #[] lb) (eg:∀args w,(callFunc gf args).run P w= .ok (.enter gf args) w)
 {encs:α->Array Value} {n₀:Nat} {S:Nat->Prop} {zs:List α} {m:Nat} (hseq:xI P gf lb encs n₀ S zs w m) (hn:n₀<=w.heap.size) (hps:∀x,(encs x).size=ps.size)
 (I:List α->World->Prop) (Ix:Code->List α->World->Prop) (hI:OwnFrom w.heap.size I) (hIx:∀c,OwnFrom w.heap.size (Ix c)) (h0:I [] w) (Ax:α->Act->World->Prop) (hAx:∀x a',OwnFrom w.heap.size (fun (_:Unit) W=>Ax x a' W))
 (hassign:∀(l:Nat) (pre:List α) (x:α) (W:World) (K:Act->World->Prop),pre++[x] <+: zs->I pre W->(∀a' W',KeepsFrom w.heap.size W W'->dc n₀ S W W'->I pre W'->Ax x a' W'->K a' W')->
   assign.wpIn (Fence.wide.inRound l) (n-1-1) P (Exit.then K (fun _ _ _=>False)) { tmps:=(ps.zip (encs x)).foldl (fun t (p,v)=>t.setIfInBounds p v) a.tmps,defers:=[] } W)
 (hbody:∀(l:Nat) (pre:List α) (x:α) (a':Act) (W:World),w.heap.size<=l/\w.heap.size+2+m<=W.heap.size->(∃r,W.heap[l]? =some (.loop r))->pre++[x] <+: zs->I pre W->Ax x a' W->body.wpIn (Fence.wide.inRound l) (n-1-1) P (ownPostG w.heap.size (dc n₀ S) I Ix (pre++[x]) W) a' W)
 (hdone:∀(D:Nat) (W:World),w.heap.size<=D->I zs W->W.heap[D]? =some (.deferred (some []))->Q .normal { a with defers:={ target:= .collected D,args:= #[] }::a.defers } W)
 (hstop:∀(D:Nat) (c:Code) (pre:List α) (W:World),w.heap.size<=D->pre <+: zs->Ix c pre W->W.heap[D]? =some (.deferred (some []))->c.wpIn Fence.wide n P Q { a with defers:={ target:= .collected D,args:= #[] }::a.defers } W):
 (Code.rangeFunc g ps assign body).wpIn Fence.wide n P Q a w:=by
 have up:∀{β:Type} {J:β->World->Prop},OwnFrom w.heap.size J->OwnFrom (w.heap.size+1) J:=fun hJ s X Y row hs hg' hr=>hJ s X Y row hs hg' (fun r e=>⟨by have:=(hr r e).1;omega,(hr r e).2⟩)
 have dO:∀{X Y:World} {row:Option Nat},X.heap[w.heap.size]? =some (.deferred (some []))->X.grownBy Y row->(∀r,row=some r->w.heap.size+1<=r/\∃o:Obj,X.heap[r]? =some o/\o.isCells=false)->Y.heap[w.heap.size]? =some (.deferred (some [])):=fun hk hg' hr=>
  (hg'.block _ (abR.1 hk).1 (fun e=>by have:=(hr _ e.symm).1;omega)).trans hk
 have hkk:∀{X Y:World},KeepsFrom w.heap.size X Y->X.heap[w.heap.size]? =some (.deferred (some []))->Y.heap[w.heap.size]? =some (.deferred (some [])):=fun h hk=>h.same _ _ (aad _) hk rfl
 refine KH none (l:=w.heap.size+1) (d:=w.heap.size) (B:=w.heap.size) (mark:=[{ target:= .collected w.heap.size,args:= #[] }]) (w0:=w)
  (Wf:=fun fn=>(w.alloc (.deferred (some []))).alloc (.loop (ql fn a ps assign body w.heap.size .ready none))) hg eg hseq (fun fn=>run_enterLoop_outer _ _ _ _ _)
  (fun fn=>by have:=afn (w.alloc (.deferred (some []))) (.loop (ql fn a ps assign body w.heap.size .ready none));rwa[acC] at this)
  (fun fn=>by simp) (fun fn=>(((aae _ w).alloc (aad _) _).alloc (by simp) _)) (by omega) (by omega) (by omega) hn hps
  (fun pre W=>I pre W/\W.heap[w.heap.size]? =some (.deferred (some []))) (fun c pre W=>Ix c pre W/\W.heap[w.heap.size]? =some (.deferred (some [])))
  (fun s X Y row hs hg' hr=>⟨up hI s X Y row hs.1 hg' hr,dO hs.2 hg' hr⟩) (fun c s X Y row hs hg' hr=>⟨up (hIx c) s X Y row hs.1 hg' hr,dO hs.2 hg' hr⟩)
  (fun fn=>⟨hI.alloc _ (hI.alloc _ h0),(ab2 _ _ _ (by simp)).trans (afn w _)⟩) Ax (fun x a'=>up (hAx x a'))
  (fun pre x W K hpx _ hi hK=>hassign _ pre x W K hpx hi.1 (fun a' W' h1 h2 h3 h4=>hK a' W' h1 h2 ⟨h3,hkk h1 hi.2⟩ h4))
  (fun pre x a' W hl hpx hsz hi VQ=>wpIn_mono (hbody _ pre x a' W ⟨by omega,by omega⟩ hl hpx hi.1 VQ) ?_)
  (fun W hi=>hdone _ W (aad _) hi.1 hi.2) (fun c pre W hp hi=>hstop _ c pre W (aad _) hp hi.1 hi.2)
 rintro e a3 W3 hp;cases e with
 |normal=>exact⟨hp.1,hp.2.1,hp.2.2,hkk hp.1 hi.2⟩
 |ret=>exact⟨hp.1,hp.2,hkk hp.1 hi.2⟩
 |exit id=>exact⟨hp.1,hp.2,hkk hp.1 hi.2⟩
 |goto t=>exact⟨hp.1,hp.2,hkk hp.1 hi.2⟩
 |panic ch=>exact hp
 |outgrown=>exact hp
theorem acz {α:Type} {n:Nat} {P:Program} {g:Operand} {ps:Array Tmp} {assign body:Code} {Q:Exit->Act->World->Prop} {a:Act} {w:World} {l₀:Nat} {r₀:Loop} (hl₀:w.heap[l₀]? =some (.loop r₀))
 {gf:Nat} {lb:Array Value} (hg:a.eval g= .func (.func gf) #[] lb) (eg:∀args w,(callFunc gf args).run P w= .ok (.enter gf args) w)
 {encs:α->Array Value} {n₀:Nat} {S:Nat->Prop} {zs:List α} {m:Nat} (hseq:xI P gf lb encs n₀ S zs w m) (hn:n₀<=w.heap.size) (hps:∀x,(encs x).size=ps.size)
 (I:List α->World->Prop) (Ix:Code->List α->World->Prop) (hI:OwnFrom w.heap.size I) (hIx:∀c,OwnFrom w.heap.size (Ix c)) (h0:I [] w) (Ax:α->Act->World->Prop) (hAx:∀x a',OwnFrom w.heap.size (fun (_:Unit) W=>Ax x a' W))
 (hassign:∀(l:Nat) (pre:List α) (x:α) (W:World) (K:Act->World->Prop),pre++[x] <+: zs->I pre W->(∀a' W',KeepsFrom w.heap.size W W'->dc n₀ S W W'->I pre W'->Ax x a' W'->K a' W')->
   assign.wpIn (Fence.wide.inRound l) (n-1-1) P (Exit.then K (fun _ _ _=>False)) { tmps:=(ps.zip (encs x)).foldl (fun t (p,v)=>t.setIfInBounds p v) a.tmps,defers:=[] } W)
 (hbody:∀(l:Nat) (pre:List α) (x:α) (a':Act) (W:World),w.heap.size<=l/\l+1+m<=W.heap.size->(∃r,W.heap[l]? =some (.loop r))->pre++[x] <+: zs->I pre W->Ax x a' W->body.wpIn (Fence.wide.inRound l) (n-1-1) P (ownPostG w.heap.size (dc n₀ S) I Ix (pre++[x]) W) a' W)
 (hdone:∀(W:World),I zs W->Q .normal a W)
 (hstop:∀(c:Code) (pre:List α) (W:World),pre <+: zs->Ix c pre W->c.wpIn (Fence.wide.inRound l₀) n P Q a W):
 (Code.rangeFunc g ps assign body).wpIn (Fence.wide.inRound l₀) n P Q a w:=
 KH (some l₀) (l:=w.heap.size) (d:=r₀.defers) (B:=w.heap.size) (mark:=[]) (w0:=w) (Wf:=fun fn=>w.alloc (.loop (ql fn a ps assign body r₀.defers .ready none))) hg eg hseq (fun fn=>run_enterLoop_inner hl₀ _ _ _ _ _)
  (fun fn=>afn w _) (fun fn=>by simp) (fun fn=>(aae _ w).alloc (aad _) _) (by omega) (aad _) (aad _) hn hps I Ix hI hIx (fun fn=>hI.alloc _ h0) Ax hAx
  (fun pre x W K hpx _ hi hK=>hassign _ pre x W K hpx hi hK) (fun pre x a' W hl hpx hsz hi VQ=>hbody _ pre x a' W ⟨aad _,hsz⟩ hl hpx hi VQ) hdone hstop
end
section
open Go.RowKit
section
variable {P:Program} {ops:Array Oper} {md:Region.Mode} {C:World->Prop}
def Dm (o:Oper):Bool:=match o.op with| .defer _=>false|_=>true
end
end
section
open Go.RowKit
namespace aq
def bM (L:Nat->Bool) (i:Nat):Nat->Bool:=fun j=>if j=i then true else L j
theorem qp {ops:Array Oper} {a0:Act} {ρ:Nat->Value} {L:Nat->Bool}:∀{k:Nat},(∀i,i<k->L i=true)->part ops a0 ρ L k=canon ops a0 ρ k
 |0,_=>rfl
 |k+1,h=>by
  unfold part canon;rw[if_pos (h k (by omega)),qp fun i hi=>h i (by omega)]
theorem QV {P:Program} {ops:Array Oper} {Q:Exit->Act->World->Prop} {a0:Act} {w0:World} (val:Nat->Value) (C:(Nat->Bool)->World->Prop) (N:Nat) (hN:a0.tmps.size=N) (hsh:shape ops ops.size (fun _=>[])=true)
 (qM:C (fun _=>false) w0)
 (hstep:∀i o (L:Nat->Bool) w (ev:Operand->Value),ops[i]? =some o->L i=false->C L w->(∀e∈o.after,Region.binds .any e=true->L e.on=true)->(∀j o',ops[j]? =some o'->L j=true->∀e∈o'.after,Region.binds .any e=true->L e.on=true)->
   (∀j t,j<i->dst ops j=some t->t<N->ev (.tmp t)=val j)->(∀t,((List.range i).all fun j=>dst ops j != some t)=true->ev (.tmp t)=a0.eval (.tmp t))->(∀v,ev (.const v)=v)->(∀f,ev (.func f)= .func (.func f) #[] #[])->
   cJ P o ev w fun v w'=>v=val i/\C (bM L i) w')
 (hend:∀L w,(∀i,i<ops.size->L i=true)->C L w->Q .normal (canon ops a0 val ops.size) w):
 wpAny P .any ops Q ops.size (Array.replicate ops.size false) a0 w0:=by
 have hs:=fun i (hi:i<ops.size)=>acp.1 hsh i (ab1.2 hi)
 have hlt:∀{j t},dst ops j=some t->j<ops.size:=fun {j t} h=>by
  rcases adn j ops.size with h1|h1
  .exact h1
  .unfold dst at h;rw[aeA h1] at h;cases h
 have hone:∀i j t,i≠j->dst ops j=some t->dst ops i≠some t:=fun i j t hij hj hi=>by
  have h1:=hs j (hlt hj);dsimp only at h1;cases ho:ops[j]? with
  |none=>rw[ho] at h1;cases h1
  |some o=>
   have hd:o.dst=some t:=by unfold dst at hj;rw[ho] at hj;exact hj
   rw[ho] at h1;simp only[acv] at h1;have h2:=h1.1;rw[hd] at h2;have h3:=acp.1 h2 i (ab1.2 (hlt hi));simp only[ady,beq_iff_eq,bne_iff_ne] at h3;rcases h3 with h3|h3
   .exact hij h3
   .exact h3 hi
 have hop:∀i,i<ops.size->∃o,ops[i]? =some o/\o.guard=none/\(∀cs b,o.op≠.select cs b)/\
  (∀t,Operand.tmp t∈o.op.operands->∀j,j<ops.size->dst ops j=some t->j<i/\∃e∈o.after,Region.binds .any e=true/\e.on=j)/\(∀e∈o.after,Region.binds .any e=true->e.on<i):=fun i hi=>by
  have h1:=hs i hi;dsimp only at h1;cases ho:ops[i]? with
  |none=>rw[ho] at h1;cases h1
  |some o=>
   rw[ho] at h1;simp only[acv,if_pos hi] at h1;obtain⟨_,⟨⟨⟨g1,g2⟩,g4⟩,_⟩,g6⟩:=h1;refine⟨o,rfl,by simpa using g1,(fun cs b hsel=>by rw[hsel] at g2;cases g2),fun t ht j hj hd=> ?_,fun e he hb=> ?_⟩
   .have h2:=acp.1 g4 (.tmp t) (by simpa using ht)
    dsimp only at h2;have h3:=acp.1 h2 j (ab1.2 hj);simp only[ady,bne_iff_ne,acv,decide_eq_true_eq,acR,beq_iff_eq] at h3;rcases h3 with h3|⟨h3,e,he,h4⟩
    .exact absurd hd h3
    .exact⟨h3,e,by simpa using he,h4⟩
   .have h2:=adv.1 g6 e he
    rw[hb] at h2;simpa using h2
 have fin:∀(listed:Array Bool),listed.size=ops.size->Region.ready .any ops listed=[]->∀i,i<ops.size->listed.getD i false=true:=by
  intro listed hl hr i
  induction i using Nat.strongRecOn with
  |_ i ih=>
   intro hi;by_cases hb:listed.getD i false=true
   .exact hb
   .exfalso
    have hi':i<listed.size:=by omega
    have h0:listed.getD i true=false:=by
     simp[hi'] at hb ⊢;exact hb
    obtain⟨o,ho,_,_,_,jJ⟩:=hop i hi;have hm:i∈Region.ready .any ops listed:=by
     rw[mem_ready];refine⟨h0,o,ho,fun e he hbd=> ?_⟩;have:=jJ e he hbd;exact ih e.on this (by omega)
    rw[hr] at hm;cases hm
 have key:∀(fuel:Nat) (listed:Array Bool) (w:World),listed.size=ops.size->listed.toList.count false=fuel->C (fun j=>listed.getD j false) w->(∀j o',ops[j]? =some o'->listed.getD j false=true->∀e∈o'.after,Region.binds .any e=true->listed.getD e.on false=true)->
  wpAny P .any ops Q fuel listed (part ops a0 val (fun j=>listed.getD j false) ops.size) w:=by
  intro fuel
  induction fuel with
  |zero=>
   intro listed w hl hc hC hdc;have hall:∀i,i<ops.size->listed.getD i false=true:=fun i hi=>by
    have hm:¬false∈listed.toList:=fun h=>by
     have:=adp.2 h;omega
    have hi':i<listed.size:=by omega
    by_cases mP:listed[i]=true
    .simp[hi',mP]
    .exfalso
     have e:listed[i]=false:=by simpa using mP
     exact hm (by rw[<-e];simp)
   refine⟨?_,by rw[qp hall];exact hend _ _ hall hC⟩;refine afo.2 fun i hi=> ?_
   rw[mem_ready] at hi;obtain⟨h0,o,ho,_⟩:=hi;have h1:=hall i (abR.1 ho).1;have hi':i<listed.size:=by have:=(abR.1 ho).1;omega
   simp[hi'] at h0 h1;rw[h0] at h1;cases h1
  |succ fuel ih=>
   intro listed w hl hc hC hdc;refine⟨fun hr=>by rw[qp (fin listed hl hr)];exact hend _ _ (fin listed hl hr) hC,fun i hi=> ?_⟩;rw[mem_ready] at hi;obtain⟨h0,o,ho,dY⟩:=hi;have hin:=(abR.1 ho).1;have hi':i<listed.size:=by omega
   obtain⟨o',ho',hgd,hsel,hread,_⟩:=hop i hin;rw[ho] at ho';cases ho';have dQ:listed.getD i false=false:=by
    simp[hi'] at h0 ⊢;exact h0
   have hev:execOp (part ops a0 val (fun j=>listed.getD j false) ops.size).eval o=execOp (canon ops a0 val i).eval o:=by
    refine execOp_congr o hsel fun x hx=> ?_
    cases x with
    |tmp t=>
     refine pJ (fun i j hij=>hone i j t hij) (by omega) fun j hj hd=> ?_
     obtain⟨h1,e,he,hbd,rfl⟩:=hread t hx j (by omega) hd;exact⟨h1,dY e he hbd⟩
    |_=>rfl
   have tP:=hstep i o (fun j=>listed.getD j false) w (canon ops a0 val i).eval ho dQ hC dY hdc (fun j t hj hd ht=>by
    rw[dF,mF hd (fun i hi=>hone i j t hi hd) rfl i hj,if_pos (by rw[hN];exact ht)]) (fun t ht=>by
    rw[dF,gN i fun j hj _=>by
     have:=acp.1 ht j (ab1.2 hj);simpa using this]) (fun v=>rfl) (fun f=>rfl)
   unfold wpOp;rw[ho];dsimp only;have hw:Region.wanted o (yielded ops (part ops a0 val (fun j=>listed.getD j false) ops.size).tmps)=true:=by
    unfold Region.wanted;rw[hgd]
   rw[if_pos hw];refine .inl ?_;have wY:cJ P o (part ops a0 val (fun j=>listed.getD j false) ops.size).eval w fun v w'=>v=val i/\C (bM (fun j=>listed.getD j false) i) w':=by
    unfold cJ at tP ⊢;rw[hev];exact tP
   refine wY.wp fun v w' hv=> ?_
   obtain⟨rfl,hC'⟩:=hv;have D8:o.dst=dst ops i:=by unfold dst;rw[ho];rfl
   have fS:∀j,(listed.setIfInBounds i true).getD j false=if j=i then true else listed.getD j false:=fun j=>by
    by_cases e:j=i
    .subst e
     rw[if_pos rfl];simp[hi']
    .rw[if_neg e]
     exact getD_set_ne false (fun h=>e h.symm)
   rw[D8,uX hone dQ hin,pI (L':=fun j=>(listed.setIfInBounds i true).getD j false) (ρ':=val) (fun j=>(fS j).symm) (fun j _=>by unfold upd;split;rename_i e;rw[e];rfl)];refine ih (listed.setIfInBounds i true) w' (by simpa using hl) ?_ ?_ ?_
   .rw[ad5]
    have hi2:i<listed.toList.length:=by simpa using hi'
    have e:listed.toList[i]=false:=by
     simp[hi'] at h0;simpa using h0
    have hpos:0<listed.toList.count false:=adp.2 (by rw[<-e];exact adi hi2);rw[ae0 hi2,e,if_pos (by decide),if_neg (by decide)];omega
   .have e:(fun j=>(listed.setIfInBounds i true).getD j false)=bM (fun j=>listed.getD j false) i:=funext fun j=>by rw[fS];rfl
    rw[e];exact hC'
   .intro j o' hj hjl e he yE
    rw[fS] at hjl ⊢;by_cases e1:e.on=i
    .rw[if_pos e1]
    .rw[if_neg e1]
     by_cases e2:j=i
     .subst e2
      rw[ho] at hj;cases hj;exact dY e he yE
     .rw[if_neg e2] at hjl
      exact hdc j o' hj hjl e he yE
 have hnone:∀j,(Array.replicate ops.size false).getD j false=false:=fun j=>by by_cases hk:j<ops.size<;>simp[hk]
 have h0:part ops a0 val (fun j=>(Array.replicate ops.size false).getD j false) ops.size=a0:=by
  have:∀k,part ops a0 val (fun j=>(Array.replicate ops.size false).getD j false) k=a0:=by
   intro k
   induction k with
   |zero=>rfl
   |succ k ih=>
    unfold part;rw[ih,hnone k,if_neg (by decide)]
  exact this _
 have hk:=key ops.size (Array.replicate ops.size false) w0 (by simp) (by simp) (by rw[show(fun j=>(Array.replicate ops.size false).getD j false)=fun _=>false from funext hnone];exact qM) (fun j o' _ h=>by rw[hnone j] at h;cases h);rw[h0] at hk;exact hk
end aq
end
section
open Go.RowKit
namespace aq
theorem cJ.wpIn {P:Program} {l n:Nat} {o:Oper} {a:Act} {w:World} {R:Value->World->Prop} {K:Act->World->Prop} {Q:Exit->Act->World->Prop} (hnd:∀c,o.op≠.defer c) (h:cJ P o a.eval w R) (hK:∀v w',R v w'->K (a.put o.dst v) w'):o.wpIn (Fence.wide.inRound l) n P a w K Q:=by
 unfold cJ at h;unfold Oper.wpIn;refine⟨fun _ _=>trivial,?_⟩;rw[Oper.semAt_plain _ _ _ hnd];generalize (execOp a.eval o).run P w=r at h ⊢;cases r with
 |ok x w'=>
  cases x<;>simp only[Oper.uponIn] at h ⊢
  case value v=>exact hK v w' h
  case skip=>exact hK _ w' h
  case enter f args=>
   refine⟨(fun hd=>by cases hd),CallsIn.inRound l (callsIn_wide.2 (Calls.mono h fun e w'' he=> ?_))⟩;obtain⟨v,rfl,hv⟩:=he;exact hK v w'' hv
 |halt x w'=>cases h
theorem W7 {P:Program} {l n:Nat} {ops:Array Oper} {Q:Exit->Act->World->Prop} {a0:Act} {w0:World} (val:Nat->Value) (C:(Nat->Bool)->World->Prop) (N:Nat) (hN:a0.tmps.size=N) (hsh:shape ops ops.size (fun _=>[])=true) (La:ops.all Dm=true)
 (qM:C (fun _=>false) w0)
 (hstep:∀i o (L:Nat->Bool) w (ev:Operand->Value),ops[i]? =some o->L i=false->C L w->(∀e∈o.after,Region.binds .any e=true->L e.on=true)->(∀j o',ops[j]? =some o'->L j=true->∀e∈o'.after,Region.binds .any e=true->L e.on=true)->
   (∀j t,j<i->dst ops j=some t->t<N->ev (.tmp t)=val j)->(∀t,((List.range i).all fun j=>dst ops j != some t)=true->ev (.tmp t)=a0.eval (.tmp t))->(∀v,ev (.const v)=v)->(∀f,ev (.func f)= .func (.func f) #[] #[])->
   cJ P o ev w fun v w'=>v=val i/\C (bM L i) w')
 (hend:∀L w,(∀i,i<ops.size->L i=true)->C L w->Q .normal (canon ops a0 val ops.size) w):
 wpAnyIn (Fence.wide.inRound l) n P .any ops Q ops.size (Array.replicate ops.size false) a0 w0:=by
 have hs:=fun i (hi:i<ops.size)=>acp.1 hsh i (ab1.2 hi)
 have hlt:∀{j t},dst ops j=some t->j<ops.size:=fun {j t} h=>by
  rcases adn j ops.size with h1|h1
  .exact h1
  .unfold dst at h;rw[aeA h1] at h;cases h
 have hone:∀i j t,i≠j->dst ops j=some t->dst ops i≠some t:=fun i j t hij hj hi=>by
  have h1:=hs j (hlt hj);dsimp only at h1;cases ho:ops[j]? with
  |none=>rw[ho] at h1;cases h1
  |some o=>
   have hd:o.dst=some t:=by unfold dst at hj;rw[ho] at hj;exact hj
   rw[ho] at h1;simp only[acv] at h1;have h2:=h1.1;rw[hd] at h2;have h3:=acp.1 h2 i (ab1.2 (hlt hi));simp only[ady,beq_iff_eq,bne_iff_ne] at h3;rcases h3 with h3|h3
   .exact hij h3
   .exact h3 hi
 have hop:∀i,i<ops.size->∃o,ops[i]? =some o/\o.guard=none/\(∀cs b,o.op≠.select cs b)/\
  (∀t,Operand.tmp t∈o.op.operands->∀j,j<ops.size->dst ops j=some t->j<i/\∃e∈o.after,Region.binds .any e=true/\e.on=j)/\(∀e∈o.after,Region.binds .any e=true->e.on<i):=fun i hi=>by
  have h1:=hs i hi;dsimp only at h1;cases ho:ops[i]? with
  |none=>rw[ho] at h1;cases h1
  |some o=>
   rw[ho] at h1;simp only[acv,if_pos hi] at h1;obtain⟨_,⟨⟨⟨g1,g2⟩,g4⟩,_⟩,g6⟩:=h1;refine⟨o,rfl,by simpa using g1,(fun cs b hsel=>by rw[hsel] at g2;cases g2),fun t ht j hj hd=> ?_,fun e he hb=> ?_⟩
   .have h2:=acp.1 g4 (.tmp t) (by simpa using ht)
    dsimp only at h2;have h3:=acp.1 h2 j (ab1.2 hj);simp only[ady,bne_iff_ne,acv,decide_eq_true_eq,acR,beq_iff_eq] at h3;rcases h3 with h3|⟨h3,e,he,h4⟩
    .exact absurd hd h3
    .exact⟨h3,e,by simpa using he,h4⟩
   .have h2:=adv.1 g6 e he
    rw[hb] at h2;simpa using h2
 have fin:∀(listed:Array Bool),listed.size=ops.size->Region.ready .any ops listed=[]->∀i,i<ops.size->listed.getD i false=true:=by
  intro listed hl hr i
  induction i using Nat.strongRecOn with
  |_ i ih=>
   intro hi;by_cases hb:listed.getD i false=true
   .exact hb
   .exfalso
    have hi':i<listed.size:=by omega
    have h0:listed.getD i true=false:=by
     simp[hi'] at hb ⊢;exact hb
    obtain⟨o,ho,_,_,_,jJ⟩:=hop i hi;have hm:i∈Region.ready .any ops listed:=by
     rw[mem_ready];refine⟨h0,o,ho,fun e he hbd=> ?_⟩;have:=jJ e he hbd;exact ih e.on this (by omega)
    rw[hr] at hm;cases hm
 have key:∀(fuel:Nat) (listed:Array Bool) (w:World),listed.size=ops.size->listed.toList.count false=fuel->C (fun j=>listed.getD j false) w->(∀j o',ops[j]? =some o'->listed.getD j false=true->∀e∈o'.after,Region.binds .any e=true->listed.getD e.on false=true)->
  wpAnyIn (Fence.wide.inRound l) n P .any ops Q fuel listed (part ops a0 val (fun j=>listed.getD j false) ops.size) w:=by
  intro fuel
  induction fuel with
  |zero=>
   intro listed w hl hc hC hdc;have hall:∀i,i<ops.size->listed.getD i false=true:=fun i hi=>by
    have hm:¬false∈listed.toList:=fun h=>by
     have:=adp.2 h;omega
    have hi':i<listed.size:=by omega
    by_cases mP:listed[i]=true
    .simp[hi',mP]
    .exfalso
     have e:listed[i]=false:=by simpa using mP
     exact hm (by rw[<-e];simp)
   refine⟨?_,by rw[qp hall];exact hend _ _ hall hC⟩;refine afo.2 fun i hi=> ?_
   rw[mem_ready] at hi;obtain⟨h0,o,ho,_⟩:=hi;have h1:=hall i (abR.1 ho).1;have hi':i<listed.size:=by have:=(abR.1 ho).1;omega
   simp[hi'] at h0 h1;rw[h0] at h1;cases h1
  |succ fuel ih=>
   intro listed w hl hc hC hdc;refine⟨fun hr=>by rw[qp (fin listed hl hr)];exact hend _ _ (fin listed hl hr) hC,fun i hi=> ?_⟩;rw[mem_ready] at hi;obtain⟨h0,o,ho,dY⟩:=hi;have hin:=(abR.1 ho).1;have hi':i<listed.size:=by omega
   obtain⟨o',ho',hgd,hsel,hread,_⟩:=hop i hin;rw[ho] at ho';cases ho';have dQ:listed.getD i false=false:=by
    simp[hi'] at h0 ⊢;exact h0
   have hev:execOp (part ops a0 val (fun j=>listed.getD j false) ops.size).eval o=execOp (canon ops a0 val i).eval o:=by
    refine execOp_congr o hsel fun x hx=> ?_
    cases x with
    |tmp t=>
     refine pJ (fun i j hij=>hone i j t hij) (by omega) fun j hj hd=> ?_
     obtain⟨h1,e,he,hbd,rfl⟩:=hread t hx j (by omega) hd;exact⟨h1,dY e he hbd⟩
    |_=>rfl
   have tP:=hstep i o (fun j=>listed.getD j false) w (canon ops a0 val i).eval ho dQ hC dY hdc (fun j t hj hd ht=>by
    rw[dF,mF hd (fun i hi=>hone i j t hi hd) rfl i hj,if_pos (by rw[hN];exact ht)]) (fun t ht=>by
    rw[dF,gN i fun j hj _=>by
     have:=acp.1 ht j (ab1.2 hj);simpa using this]) (fun v=>rfl) (fun f=>rfl)
   unfold wpOpIn;rw[ho];dsimp only;have hw:Region.wanted o (yielded ops (part ops a0 val (fun j=>listed.getD j false) ops.size).tmps)=true:=by
    unfold Region.wanted;rw[hgd]
   rw[if_pos hw];have hnd:∀c,o.op≠.defer c:=fun c e=>by
    have:=adv.1 La o (Array.mem_of_getElem? ho);unfold Dm at this;rw[e] at this;cases this
   have wY:cJ P o (part ops a0 val (fun j=>listed.getD j false) ops.size).eval w fun v w'=>v=val i/\C (bM (fun j=>listed.getD j false) i) w':=by
    unfold cJ at tP ⊢;rw[hev];exact tP
   refine wY.wpIn hnd fun v w' hv=> ?_
   obtain⟨rfl,hC'⟩:=hv;have D8:o.dst=dst ops i:=by unfold dst;rw[ho];rfl
   have fS:∀j,(listed.setIfInBounds i true).getD j false=if j=i then true else listed.getD j false:=fun j=>by
    by_cases e:j=i
    .subst e
     rw[if_pos rfl];simp[hi']
    .rw[if_neg e]
     exact getD_set_ne false (fun h=>e h.symm)
   rw[D8,uX hone dQ hin,pI (L':=fun j=>(listed.setIfInBounds i true).getD j false) (ρ':=val) (fun j=>(fS j).symm) (fun j _=>by unfold upd;split;rename_i e;rw[e];rfl)];refine ih (listed.setIfInBounds i true) w' (by simpa using hl) ?_ ?_ ?_
   .rw[ad5]
    have hi2:i<listed.toList.length:=by simpa using hi'
    have e:listed.toList[i]=false:=by
     simp[hi'] at h0;simpa using h0
    have hpos:0<listed.toList.count false:=adp.2 (by rw[<-e];exact adi hi2);rw[ae0 hi2,e,if_pos (by decide),if_neg (by decide)];omega
   .have e:(fun j=>(listed.setIfInBounds i true).getD j false)=bM (fun j=>listed.getD j false) i:=funext fun j=>by rw[fS];rfl
    rw[e];exact hC'
   .intro j o' hj hjl e he yE
    rw[fS] at hjl ⊢;by_cases e1:e.on=i
    .rw[if_pos e1]
    .rw[if_neg e1]
     by_cases e2:j=i
     .subst e2
      rw[ho] at hj;cases hj;exact dY e he yE
     .rw[if_neg e2] at hjl
      exact hdc j o' hj hjl e he yE
 have hnone:∀j,(Array.replicate ops.size false).getD j false=false:=fun j=>by by_cases hk:j<ops.size<;>simp[hk]
 have h0:part ops a0 val (fun j=>(Array.replicate ops.size false).getD j false) ops.size=a0:=by
  have:∀k,part ops a0 val (fun j=>(Array.replicate ops.size false).getD j false) k=a0:=by
   intro k
   induction k with
   |zero=>rfl
   |succ k ih=>
    unfold part;rw[ih,hnone k,if_neg (by decide)]
  exact this _
 have hk:=key ops.size (Array.replicate ops.size false) w0 (by simp) (by simp) (by rw[show(fun j=>(Array.replicate ops.size false).getD j false)=fun _=>false from funext hnone];exact qM) (fun j o' _ h=>by rw[hnone j] at h;cases h);rw[h0] at hk;exact hk
theorem abm {P:Program} {l n:Nat} {ops:Array Oper} {Q:Exit->Act->World->Prop} {a0:Act} {w0:World} (val:Nat->Value) (C:(Nat->Bool)->World->Prop) (N:Nat) (hN:a0.tmps.size=N) (hsh:shape ops ops.size (fun _=>[])=true) (La:ops.all Dm=true)
 (qM:C (fun _=>false) w0)
 (hstep:∀i o (L:Nat->Bool) w (ev:Operand->Value),ops[i]? =some o->L i=false->C L w->(∀e∈o.after,Region.binds .any e=true->L e.on=true)->(∀j o',ops[j]? =some o'->L j=true->∀e∈o'.after,Region.binds .any e=true->L e.on=true)->
   (∀j t,j<i->dst ops j=some t->t<N->ev (.tmp t)=val j)->(∀t,((List.range i).all fun j=>dst ops j != some t)=true->ev (.tmp t)=a0.eval (.tmp t))->(∀v,ev (.const v)=v)->(∀f,ev (.func f)= .func (.func f) #[] #[])->
   cJ P o ev w fun v w'=>v=val i/\C (bM L i) w')
 (hend:∀L w a,(∀i,i<ops.size->L i=true)->C L w->Q .normal a w):
 wpAnyIn (Fence.wide.inRound l) n P .any ops Q ops.size (Array.replicate ops.size false) a0 w0:=
 W7 val C N hN hsh La qM hstep (fun L w h1 h2=>hend L w _ h1 h2)
end aq
end
end Go.Proofs.YtbhdibflpjhpaaaGreat
