import Derived.Test.YtnhcggfbkoppnaaGreatMg00
import Derived.RangeFuncNested
import Derived.RangeFuncBound
import Derived.RangeFuncCalls
import Derived.RangeFuncLeaves
import Derived.RangeFuncBox
import Derived.Shelf.Abstract
import Derived.Shelf.RegionOpen
import Derived.OwnWalkIn
import Derived.TacticsInMore
import Derived.LoopNIn
import Derived.LoopIn
import Derived.Maps.AppendAt
import Derived.Test.YtnhcggfbkoppnaaGreatMg16
import Derived.Test.YtnhcggfbkoppnaaGreatMg03
import Derived.Test.YtnhcggfbkoppnaaGreatMg05
import Derived.Deep.RegionHeld3
namespace Go.Proofs.YtnhcggfbkoppnaaGreat
section
open Go.RowKit Go.Shelf
def bE (n₀:Nat) (S:Nat→Prop) (W W':World):Prop:=Below n₀ W W'∧∀(b:Nat) (o:Obj),W.heap[b]? =some o→o.isCells=true→¬S b→W'.heap[b]? =some o
section
variable {n₀:Nat} {S:Nat→Prop} {A B C W W':World}
theorem bE.refl (n₀:Nat) (S:Nat→Prop) (W:World):bE n₀ S W W:=⟨Below.refl _ _,fun _ _ h _ _=>h⟩
theorem bE.trans (h:bE n₀ S A B) (k:bE n₀ S B C):bE n₀ S A C:=⟨h.1.trans k.1,fun b o hb ho hs=>k.2 b o (h.2 b o hb ho hs) ho hs⟩
theorem bE.cell (h:bE n₀ S W W') {a:Addr} {v:Value} (hc:W.cell? a=some v) (hs:¬S a.block):W'.cell? a=some v:=by
 obtain⟨o,ho,hcl⟩:=cells_of_cell hc
 exact(World.cell?_of_block ((h.2 _ _ ho hcl hs).trans ho.symm)).trans hc
theorem bE.boxed (h:bE n₀ S W W') {b:Nat} {t:TypeId} {v:Value} (hb:Boxed W b t v) (hs:¬S b):Boxed W' b t v:=h.2 b _ hb rfl hs
theorem bE.grow (h:bE n₀ S A B) (hb:Below B.heap.size B C) (hn:n₀≤B.heap.size):bE n₀ S A C:=⟨h.1.trans (hb.mono hn),fun b o hA ho hs=>by
 have:=h.2 b o hA ho hs
 exact(hb.block b (Array.getElem?_eq_some_iff.1 this).1).trans this⟩
theorem bE.put (hn:n₀≤A.heap.size) {l:Nat} {o o':Obj} (hl:A.heap.size≤l) (h:W.heap[l]? =some o) (h1:o.isCells=false) (h2:o.isWalk=false):bE n₀ S W (W.putObj l o'):=
 ⟨belowK_b (w:=A) hn W l o o' hl h h1 h2,fun b o2 hb ho _=>by
   have:b≠l:=fun e=>by subst e;rw[h] at hb;cases hb;rw[h1] at ho;cases ho
   exact(World.putObj_heap_other this).trans hb⟩
theorem bE.own {β:Type} {B':Nat} (hn:n₀≤A.heap.size) (hB:n₀≤B'):OwnFrom B' (fun (_:β) W=>bE n₀ S A W):=fun _ X Y row hs hg hr=>
 ⟨hs.1.grown hg (Nat.le_trans hn hs.1.size) (fun k e=>by have:=(hr k e).1;omega),fun b o hb ho hS=>by
   have hX:=hs.2 b o hb ho hS
   refine(hg.block b (Array.getElem?_eq_some_iff.1 hX).1 (fun e=> ?_)).trans hX
   obtain⟨_,o',ho',hc⟩:=hr b e.symm
   rw[hX] at ho'
   cases ho'
   rw[ho] at hc
   cases hc⟩
theorem uO {B₁ B₂:Nat} (h:KeepsFrom B₁ W W') (hB:B₁≤B₂):KeepsFrom B₂ W W':=⟨h.size,fun k o hk h0 ho=>h.same k o (Nat.le_trans hB hk) h0 ho⟩
theorem LZ {B₁ l:Nat} (hl:l<B₁) (o:Obj) (W:World):KeepsFrom B₁ W (W.putObj l o):=⟨by simp,fun k o' hk h0 _=>(World.putObj_heap_other (by omega)).trans h0⟩
end
theorem RoundIn.deep {m m':Nat} {P:Program} {l:Nat} {f:FuncId} {tmps:Array Value} {assign body:Code} {w:World} {R:Ending→World→Prop} (h:RoundIn Fence.wide m P l f tmps assign body w R):RoundIn Fence.wide m' P l f tmps assign body w R:=
 ⟨h.1,fun c cs _=>h.2 c cs (room_wide _)⟩
def tY {α:Type} (P:Program) (g:Nat) (lb:Array Value) (encs:α→Array Value) (n₀:Nat) (S:Nat→Prop) (zs:List α) (w:World) (m:Nat):Prop:=
 ∀(l:Nat) (J Jx:List α→World→Prop) (W:World),Below w.heap.size w W→W.heap.size≤w.heap.size+2→OwnFrom W.heap.size J→OwnFrom W.heap.size Jx→
  (∀pre x W1,pre++[x] <+: zs→J pre W1→W.heap.size+m≤W1.heap.size→∀d,YieldAt Fence.wide d P l (encs x) W1 fun e W'=>KeepsFrom W.heap.size W1 W'∧
    ((e= .returned (.bool true)∧J (pre++[x]) W'∧bE n₀ S W1 W')∨(e= .returned (.bool false)∧Jx (pre++[x]) W')))→
  J [] W→Calls P g (#[.func (.yield l) #[] #[]]++lb) W fun e W'=>(∃v,e= .returned v)∧(J zs W'∨∃pre,pre <+: zs∧Jx pre W')
abbrev OQ (ro:Option Nat):Fence:={ Fence.wide with round:=ro }
abbrev om (fn:FuncId) (a:Act) (ps:Array Tmp) (assign body:Code) (d:Nat) (st:LoopState) (pe:Option Code):Loop:={ state:=st,pending:=pe,fn,tmps:=a.tmps,params:=ps,assign,body,defers:=d }
theorem GR {α:Type} (ro:Option Nat) {n:Nat} {P:Program} {g:Operand} {ps:Array Tmp} {assign body:Code} {Q:Exit→Act→World→Prop} {a:Act} {w:World} {l d B:Nat} {mark:List Deferred} {Wf:Nat→World}
 {gf:Nat} {lb:Array Value} (hg:a.eval g= .func (.func gf) #[] lb) (eg:∀args w,(callFunc gf args).run P w= .ok (.enter gf args) w)
 {encs:α→Array Value} {n₀:Nat} {S:Nat→Prop} {zs:List α} {w0:World} {m:Nat} (hseq:tY P gf lb encs n₀ S zs w0 m)
 (hen:∀fn,(Instr.enterLoop fn a.tmps ps assign body ro).run P w= .ok (l,mark) (Wf fn)) (acW:∀fn,(Wf fn).heap[l]? =some (.loop (om fn a ps assign body d .ready none)))
 (dz:∀fn,(Wf fn).heap.size=l+1) (hbl:∀fn,Below w0.heap.size w0 (Wf fn)) (hls:l+1≤w0.heap.size+2) (lW:w.heap.size≤l) (hBl:B≤l) (hn:n₀≤w.heap.size) (hps:∀x,(encs x).size=ps.size)
 (I:List α→World→Prop) (Ix:Code→List α→World→Prop) (hI:OwnFrom l I) (hIx:∀c,OwnFrom l (Ix c)) (h0:∀fn,I [] (Wf fn)) (Ax:α→Act→World→Prop) (hAx:∀x a',OwnFrom l (fun (_:Unit) W=>Ax x a' W))
 (hassign:∀(pre:List α) (x:α) (W:World) (K:Act→World→Prop),pre++[x] <+: zs→l+1+m≤W.heap.size→I pre W→(∀a' W',KeepsFrom B W W'→bE n₀ S W W'→I pre W'→Ax x a' W'→K a' W')→
   assign.wpIn (Fence.wide.inRound l) (n-1-1) P (Exit.then K (fun _ _ _=>False)) { tmps:=(ps.zip (encs x)).foldl (fun t (p,v)=>t.setIfInBounds p v) a.tmps,defers:=[] } W)
 (hbody:∀(pre:List α) (x:α) (a':Act) (W:World),(∃r,W.heap[l]? =some (.loop r))→pre++[x] <+: zs→l+1+m≤W.heap.size→I pre W→Ax x a' W→body.wpIn (Fence.wide.inRound l) (n-1-1) P (ownPostG B (bE n₀ S) I Ix (pre++[x]) W) a' W)
 (hdone:∀(W:World),I zs W→Q .normal { a with defers:=mark++a.defers } W)
 (hstop:∀(c:Code) (pre:List α) (W:World),pre <+: zs→Ix c pre W→c.wpIn (OQ ro) n P Q { a with defers:=mark++a.defers } W):
 (Code.rangeFunc g ps assign body).wpIn (OQ ro) n P Q a w:=by
 refine wpIn_rangeFunc ?_
 intro fn _
 have hsz:=dz fn
 refine⟨l,mark,Wf fn,{ target:= .fn (.func gf) lb,args:= #[.func (.yield l) #[] #[]] },Wf fn,gf,#[.func (.yield l) #[] #[]]++lb,Wf fn,hen fn,?_,fun _ _=>trivial,?_,(fun h=>by cases h),?_⟩
 ·simp only[resolve,hg]
  simp[go_sem]
 ·simp[invoke,go_sem,eg]
 refine CallsIn.mono (R:=fun e W'=>(∃v,e= .returned v)∧((I zs W'∧W'.heap[l]? =some (.loop (om fn a ps assign body d .ready none)))∨∃pre,pre <+: zs∧∃c,Ix c pre W'∧W'.heap[l]? =some (.loop (om fn a ps assign body d .done (some c))))) ?_ ?_
 ·have eY:=hseq l (fun pre W=>I pre W∧W.heap[l]? =some (.loop (om fn a ps assign body d .ready none)))
   (fun pre W=>∃c,Ix c pre W∧W.heap[l]? =some (.loop (om fn a ps assign body d .done (some c)))) (Wf fn) (hbl fn) (by omega)
   (fun s X Y row hs hg' hr=>⟨hI s X Y row hs.1 hg' (fun r e=>⟨by have:=(hr r e).1;omega,(hr r e).2⟩),(hg'.block l (Array.getElem?_eq_some_iff.1 hs.2).1 (fun e=>by have:=(hr l e.symm).1;omega)).trans hs.2⟩)
   (fun s X Y row ⟨c,hc,hl⟩ hg' hr=>⟨c,hIx c s X Y row hc hg' (fun r e=>⟨by have:=(hr r e).1;omega,(hr r e).2⟩),(hg'.block l (Array.getElem?_eq_some_iff.1 hl).1 (fun e=>by have:=(hr l e.symm).1;omega)).trans hl⟩)
   ?_ ⟨h0 fn,acW fn⟩
  ·exact(callsIn_wide (n:=n-1)).2 eY
  ·rintro pre x W hpx ⟨hi,hl⟩ hW dd
   have hy:=run_yield (P:=P) (args:=encs x) hl (hps x)
   refine⟨fn,_,assign,body,hy,RoundIn.deep (m:=n-1-1) ?_⟩
   refine roundIn_of_wpIn (F:=Fence.wide) trivial (hassign pre x W _ hpx (by omega) hi ?_)
   clear hy
   intro a' Wa QJ ado hia NT
   have hla:=QJ.same _ _ hBl hl rfl
   have ade:l<Wa.heap.size:=(Array.getElem?_eq_some_iff.1 hla).1
   refine⟨_,run_beginRound hla rfl,?_⟩
   obtain⟨W2,hW2⟩:∃W2,W2=Wa.putObj l (.loop { om fn a ps assign body d .ready none with state:= .busy }):=⟨_,rfl⟩
   have hl2:W2.heap[l]? =some (.loop { om fn a ps assign body d .ready none with state:= .busy }):=by rw[hW2];exact World.putObj_heap_same ade
   have hk2:bE n₀ S Wa W2:=by rw[hW2];exact bE.put hn lW hla rfl rfl
   have hf2:KeepsFrom (l+1) Wa W2:=by rw[hW2];exact LZ (Nat.lt_succ_self _) _ _
   have hi2:I pre W2:=by rw[hW2];exact hI.putObj _ hia (Nat.le_refl _) hla rfl
   have hx2:Ax x a' W2:=by rw[hW2];exact(hAx x a').putObj (s:=()) _ NT (Nat.le_refl _) hla rfl
   rw[←hW2]
   have AE:W.heap.size≤W2.heap.size:=Nat.le_trans QJ.size hf2.size
   refine wpIn_mono (hbody pre x a' W2 ⟨_,hl2⟩ hpx (by omega) hi2 hx2) ?_
   have fin:∀(jump:Option Code) (W3:World),KeepsFrom B W2 W3→∃W4,(Instr.endRound l jump).run P W3= .ok (.bool jump.isNone) W4∧W4=W3.putObj l (.loop (om fn a ps assign body d (if jump.isNone then .ready else .done) jump))∧
    W3.heap[l]? =some (.loop { om fn a ps assign body d .ready none with state:= .busy })∧W4.heap[l]? =some (.loop (om fn a ps assign body d (if jump.isNone then .ready else .done) jump))∧KeepsFrom (Wf fn).heap.size W W4:=fun jump W3 hk3=>by
    have hl3:=hk3.same _ _ hBl hl2 rfl
    refine⟨_,run_endRound (P:=P) jump hl3,rfl,hl3,World.putObj_heap_same (Array.getElem?_eq_some_iff.1 hl3).1,?_⟩
    rw[hsz]
    exact(((uO QJ (by omega)).trans hf2).trans (uO hk3 (by omega))).trans (LZ (Nat.lt_succ_self _) _ _)
   rintro e a3 W3 hp
   cases e with
   |normal=>
    obtain⟨hk3,adp,CC⟩:=hp
    obtain⟨W4,hr,e4,hl3,hl4,A4⟩:=fin none W3 hk3
    refine⟨_,_,hr,A4,.inl ⟨rfl,⟨?_,hl4⟩,?_⟩⟩
    ·rw[e4];exact hI.putObj _ CC (Nat.le_refl _) hl3 rfl
    ·rw[e4];exact((ado.trans hk2).trans adp).trans (bE.put hn lW hl3 rfl rfl)
   |ret=>
    obtain⟨hk3,CC⟩:=hp
    obtain⟨W4,hr,e4,hl3,hl4,A4⟩:=fin (some .ret) W3 hk3
    exact⟨_,_,hr,A4,.inr ⟨rfl,.ret,by rw[e4];exact(hIx _).putObj _ CC (Nat.le_refl _) hl3 rfl,hl4⟩⟩
   |exit id=>
    obtain⟨hk3,CC⟩:=hp
    obtain⟨W4,hr,e4,hl3,hl4,A4⟩:=fin (some (.exit id)) W3 hk3
    exact⟨_,_,hr,A4,.inr ⟨rfl,.exit id,by rw[e4];exact(hIx _).putObj _ CC (Nat.le_refl _) hl3 rfl,hl4⟩⟩
   |goto t=>
    obtain⟨hk3,CC⟩:=hp
    obtain⟨W4,hr,e4,hl3,hl4,A4⟩:=fin (some (.goto t)) W3 hk3
    exact⟨_,_,hr,A4,.inr ⟨rfl,.goto t,by rw[e4];exact(hIx _).putObj _ CC (Nat.le_refl _) hl3 rfl,hl4⟩⟩
   |panic ch=>exact hp.elim
   |outgrown=>exact hp.elim
 ·rintro e W2 ⟨⟨v,rfl⟩,(⟨hi,hl⟩|⟨pre,hpre,c,hi,hl⟩)⟩
  ·exact⟨none,_,run_endLoop (P:=P) hl (by simp),hdone _ (hI.putObj _ hi (Nat.le_refl _) hl rfl)⟩
  ·exact⟨some c,_,run_endLoop (P:=P) hl (by simp),hstop c pre _ hpre ((hIx c).putObj _ hi (Nat.le_refl _) hl rfl)⟩
theorem rV {α:Type} {n:Nat} {P:Program} {g:Operand} {ps:Array Tmp} {assign body:Code} {Q:Exit→Act→World→Prop} {a:Act} {w:World}
 {gf:Nat} {lb:Array Value} (hg:a.eval g= .func (.func gf) #[] lb) (eg:∀args w,(callFunc gf args).run P w= .ok (.enter gf args) w)
 {encs:α→Array Value} {n₀:Nat} {S:Nat→Prop} {zs:List α} {m:Nat} (hseq:tY P gf lb encs n₀ S zs w m) (hn:n₀≤w.heap.size) (hps:∀x,(encs x).size=ps.size)
 (I:List α→World→Prop) (Ix:Code→List α→World→Prop) (hI:OwnFrom w.heap.size I) (hIx:∀c,OwnFrom w.heap.size (Ix c)) (h0:I [] w) (Ax:α→Act→World→Prop) (hAx:∀x a',OwnFrom w.heap.size (fun (_:Unit) W=>Ax x a' W))
 (hassign:∀(l:Nat) (pre:List α) (x:α) (W:World) (K:Act→World→Prop),pre++[x] <+: zs→I pre W→(∀a' W',KeepsFrom w.heap.size W W'→bE n₀ S W W'→I pre W'→Ax x a' W'→K a' W')→
   assign.wpIn (Fence.wide.inRound l) (n-1-1) P (Exit.then K (fun _ _ _=>False)) { tmps:=(ps.zip (encs x)).foldl (fun t (p,v)=>t.setIfInBounds p v) a.tmps,defers:=[] } W)
 (hbody:∀(l:Nat) (pre:List α) (x:α) (a':Act) (W:World),w.heap.size≤l∧w.heap.size+2+m≤W.heap.size→(∃r,W.heap[l]? =some (.loop r))→pre++[x] <+: zs→I pre W→Ax x a' W→body.wpIn (Fence.wide.inRound l) (n-1-1) P (ownPostG w.heap.size (bE n₀ S) I Ix (pre++[x]) W) a' W)
 (hdone:∀(D:Nat) (W:World),w.heap.size≤D→I zs W→W.heap[D]? =some (.deferred (some []))→Q .normal { a with defers:={ target:= .collected D,args:= #[] }::a.defers } W)
 (hstop:∀(D:Nat) (c:Code) (pre:List α) (W:World),w.heap.size≤D→pre <+: zs→Ix c pre W→W.heap[D]? =some (.deferred (some []))→c.wpIn Fence.wide n P Q { a with defers:={ target:= .collected D,args:= #[] }::a.defers } W):
 (Code.rangeFunc g ps assign body).wpIn Fence.wide n P Q a w:=by
 have up:∀{β:Type} {J:β→World→Prop},OwnFrom w.heap.size J→OwnFrom (w.heap.size+1) J:=fun hJ s X Y row hs hg' hr=>hJ s X Y row hs hg' (fun r e=>⟨by have:=(hr r e).1;omega,(hr r e).2⟩)
 have dO:∀{X Y:World} {row:Option Nat},X.heap[w.heap.size]? =some (.deferred (some []))→X.grownBy Y row→(∀r,row=some r→w.heap.size+1≤r∧∃o:Obj,X.heap[r]? =some o∧o.isCells=false)→Y.heap[w.heap.size]? =some (.deferred (some [])):=fun hk hg' hr=>
  (hg'.block _ (Array.getElem?_eq_some_iff.1 hk).1 (fun e=>by have:=(hr _ e.symm).1;omega)).trans hk
 have hkk:∀{X Y:World},KeepsFrom w.heap.size X Y→X.heap[w.heap.size]? =some (.deferred (some []))→Y.heap[w.heap.size]? =some (.deferred (some [])):=fun h hk=>h.same _ _ (Nat.le_refl _) hk rfl
 refine GR none (l:=w.heap.size+1) (d:=w.heap.size) (B:=w.heap.size) (mark:=[{ target:= .collected w.heap.size,args:= #[] }]) (w0:=w)
  (Wf:=fun fn=>(w.alloc (.deferred (some []))).alloc (.loop (om fn a ps assign body w.heap.size .ready none))) hg eg hseq (fun fn=>run_enterLoop_outer _ _ _ _ _)
  (fun fn=>by have:=World.alloc_heap_new (w.alloc (.deferred (some []))) (.loop (om fn a ps assign body w.heap.size .ready none));rwa[World.size_alloc] at this)
  (fun fn=>by simp) (fun fn=>(((Below.refl _ w).alloc (Nat.le_refl _) _).alloc (by simp) _)) (by omega) (by omega) (by omega) hn hps
  (fun pre W=>I pre W∧W.heap[w.heap.size]? =some (.deferred (some []))) (fun c pre W=>Ix c pre W∧W.heap[w.heap.size]? =some (.deferred (some [])))
  (fun s X Y row hs hg' hr=>⟨up hI s X Y row hs.1 hg' hr,dO hs.2 hg' hr⟩) (fun c s X Y row hs hg' hr=>⟨up (hIx c) s X Y row hs.1 hg' hr,dO hs.2 hg' hr⟩)
  (fun fn=>⟨hI.alloc _ (hI.alloc _ h0),(Below.heap_alloc _ _ _ (by simp)).trans (World.alloc_heap_new w _)⟩) Ax (fun x a'=>up (hAx x a'))
  (fun pre x W K hpx _ hi hK=>hassign _ pre x W K hpx hi.1 (fun a' W' h1 h2 h3 h4=>hK a' W' h1 h2 ⟨h3,hkk h1 hi.2⟩ h4))
  (fun pre x a' W hl hpx hsz hi NT=>wpIn_mono (hbody _ pre x a' W ⟨by omega,by omega⟩ hl hpx hi.1 NT) ?_)
  (fun W hi=>hdone _ W (Nat.le_refl _) hi.1 hi.2) (fun c pre W hp hi=>hstop _ c pre W (Nat.le_refl _) hp hi.1 hi.2)
 rintro e a3 W3 hp
 cases e with
 |normal=>exact⟨hp.1,hp.2.1,hp.2.2,hkk hp.1 hi.2⟩
 |ret=>exact⟨hp.1,hp.2,hkk hp.1 hi.2⟩
 |exit id=>exact⟨hp.1,hp.2,hkk hp.1 hi.2⟩
 |goto t=>exact⟨hp.1,hp.2,hkk hp.1 hi.2⟩
 |panic ch=>exact hp
 |outgrown=>exact hp
theorem Y6 {α:Type} {n:Nat} {P:Program} {g:Operand} {ps:Array Tmp} {assign body:Code} {Q:Exit→Act→World→Prop} {a:Act} {w:World} {l₀:Nat} {r₀:Loop} (hl₀:w.heap[l₀]? =some (.loop r₀))
 {gf:Nat} {lb:Array Value} (hg:a.eval g= .func (.func gf) #[] lb) (eg:∀args w,(callFunc gf args).run P w= .ok (.enter gf args) w)
 {encs:α→Array Value} {n₀:Nat} {S:Nat→Prop} {zs:List α} {m:Nat} (hseq:tY P gf lb encs n₀ S zs w m) (hn:n₀≤w.heap.size) (hps:∀x,(encs x).size=ps.size)
 (I:List α→World→Prop) (Ix:Code→List α→World→Prop) (hI:OwnFrom w.heap.size I) (hIx:∀c,OwnFrom w.heap.size (Ix c)) (h0:I [] w) (Ax:α→Act→World→Prop) (hAx:∀x a',OwnFrom w.heap.size (fun (_:Unit) W=>Ax x a' W))
 (hassign:∀(l:Nat) (pre:List α) (x:α) (W:World) (K:Act→World→Prop),pre++[x] <+: zs→I pre W→(∀a' W',KeepsFrom w.heap.size W W'→bE n₀ S W W'→I pre W'→Ax x a' W'→K a' W')→
   assign.wpIn (Fence.wide.inRound l) (n-1-1) P (Exit.then K (fun _ _ _=>False)) { tmps:=(ps.zip (encs x)).foldl (fun t (p,v)=>t.setIfInBounds p v) a.tmps,defers:=[] } W)
 (hbody:∀(l:Nat) (pre:List α) (x:α) (a':Act) (W:World),w.heap.size≤l∧l+1+m≤W.heap.size→(∃r,W.heap[l]? =some (.loop r))→pre++[x] <+: zs→I pre W→Ax x a' W→body.wpIn (Fence.wide.inRound l) (n-1-1) P (ownPostG w.heap.size (bE n₀ S) I Ix (pre++[x]) W) a' W)
 (hdone:∀(W:World),I zs W→Q .normal a W)
 (hstop:∀(c:Code) (pre:List α) (W:World),pre <+: zs→Ix c pre W→c.wpIn (Fence.wide.inRound l₀) n P Q a W):
 (Code.rangeFunc g ps assign body).wpIn (Fence.wide.inRound l₀) n P Q a w:=
 GR (some l₀) (l:=w.heap.size) (d:=r₀.defers) (B:=w.heap.size) (mark:=[]) (w0:=w) (Wf:=fun fn=>w.alloc (.loop (om fn a ps assign body r₀.defers .ready none))) hg eg hseq (fun fn=>run_enterLoop_inner hl₀ _ _ _ _ _)
  (fun fn=>World.alloc_heap_new w _) (fun fn=>by simp) (fun fn=>(Below.refl _ w).alloc (Nat.le_refl _) _) (by omega) (Nat.le_refl _) (Nat.le_refl _) hn hps I Ix hI hIx (fun fn=>hI.alloc _ h0) Ax hAx
  (fun pre x W K hpx _ hi hK=>hassign _ pre x W K hpx hi hK) (fun pre x a' W hl hpx hsz hi NT=>hbody _ pre x a' W ⟨Nat.le_refl _,hsz⟩ hl hpx hi NT) hdone hstop
end
section
open Go.RowKit
structure Wd (w:World) (p:Nat) (av:Value) (n:Nat) (es:List (Int×Int)) (f:For) (s:Df.St):Prop where
 blk:w.heap[p]? =some (.cells #[av,.slice f.a1 n f.c1,.slice f.a2 n f.c2,.slice f.a3 n f.c3,.slice f.a4 es.length f.c4] 175 (0,0))
 CV:cE w av n es
 val:Si.Val n es
 ct:dF w f s
 vf:Df.VF n es s
section
variable {w w':World} {p:Nat} {av:Value} {n:Nat} {es:List (Int×Int)} {f:For} {s:Df.St}
theorem Wd.lt (h:Wd w p av n es f s):p<w.heap.size:=lt_of_block h.blk
theorem Wd.later (h:Wd w p av n es f s) (hb:Below w.heap.size w w'):Wd w' p av n es f s:=⟨(hb.block p h.lt).trans h.blk,h.CV.later hb,h.val,h.ct.later hb,h.vf⟩
theorem Wd.c0 (h:Wd w p av n es f s):w.cell? ⟨p,0,none⟩=some av:=by simp[World.cell?,h.blk]
theorem Wd.c1 (h:Wd w p av n es f s):w.cell? ⟨p,1,none⟩=some (.slice f.a1 n f.c1):=by simp[World.cell?,h.blk]
theorem Wd.c2 (h:Wd w p av n es f s):w.cell? ⟨p,2,none⟩=some (.slice f.a2 n f.c2):=by simp[World.cell?,h.blk]
theorem Wd.c3 (h:Wd w p av n es f s):w.cell? ⟨p,3,none⟩=some (.slice f.a3 n f.c3):=by simp[World.cell?,h.blk]
theorem Wd.c4 (h:Wd w p av n es f s):w.cell? ⟨p,4,none⟩=some (.slice f.a4 es.length f.c4):=by simp[World.cell?,h.blk]
theorem Wd.ay (h:Wd w p av n es f s) {v:Nat} (hv:v<n):∃b o,f.a2=some ⟨b,o,none⟩∧∀W,Below w.heap.size w W→∀i,i<n→W.cell? ⟨b,o+i,none⟩=some (.int .i64 (Df.at_ s.ay i)):=by
 have l:=h.vf.lens
 obtain⟨b,o,e,-⟩:=bZ h.ct.l2 (i:=v) (by rw[l.2.1];exact hv)
 refine⟨b,o,e,fun W hW i hi=> ?_⟩
 obtain⟨b',o',e',d'⟩:=bZ (h.ct.later hW).l2 (i:=i) (by rw[l.2.1];exact hi)
 rw[e] at e'
 cases e'
 exact d'
theorem Wd.par (h:Wd w p av n es f s) {v:Nat} (hv:v<n):∃b o,f.a1=some ⟨b,o,none⟩∧∀W,Below w.heap.size w W→∀i,i<n→W.cell? ⟨b,o+i,none⟩=some (.int .i64 (Df.at_ s.par i)):=by
 have l:=h.vf.lens
 obtain⟨b,o,e,-⟩:=bZ h.ct.l1 (i:=v) (by rw[l.1];exact hv)
 refine⟨b,o,e,fun W hW i hi=> ?_⟩
 obtain⟨b',o',e',d'⟩:=bZ (h.ct.later hW).l1 (i:=i) (by rw[l.1];exact hi)
 rw[e] at e'
 cases e'
 exact d'
theorem Wd.ord (h:Wd w p av n es f s) {v:Nat} (hv:v<n):∃b o,f.a3=some ⟨b,o,none⟩∧∀W,Below w.heap.size w W→∀i,i<n→W.cell? ⟨b,o+i,none⟩=some (.int .i64 (Df.at_ s.ord i)):=by
 have l:=h.vf.lens
 obtain⟨b,o,e,-⟩:=bZ h.ct.l3 (i:=v) (by rw[l.2.2.1];exact hv)
 refine⟨b,o,e,fun W hW i hi=> ?_⟩
 obtain⟨b',o',e',d'⟩:=bZ (h.ct.later hW).l3 (i:=i) (by rw[l.2.2.1];exact hi)
 rw[e] at e'
 cases e'
 exact d'
theorem Wd.aJ (h:Wd w p av n es f s) {v:Nat} (hv:v<es.length):∃b o,f.a4=some ⟨b,o,none⟩∧∀W,Below w.heap.size w W→∀i,i<es.length→W.cell? ⟨b,o+i,none⟩=some (.int .i64 (Df.at_ s.aJ i)):=by
 have l:=h.vf.lens
 obtain⟨b,o,e,-⟩:=bZ h.ct.l4 (i:=v) (by rw[l.2.2.2];exact hv)
 refine⟨b,o,e,fun W hW i hi=> ?_⟩
 obtain⟨b',o',e',d'⟩:=bZ (h.ct.later hW).l4 (i:=i) (by rw[l.2.2.2];exact hi)
 rw[e] at e'
 cases e'
 exact d'
set_option maxRecDepth 100000 in
set_option maxHeartbeats 16000000 in
theorem x8 (i:Nat) (hi:i<2*es.length) (h:Wd w p av n es f s):
 Calls Tryz.prog 124 #[.pointer (some ⟨p,0,none⟩),.int .i64 (i:Int)] w fun e w'=>e= .returned (.int .i64 (Df.at_ s.ay (Cs.fr es i)))∧Below w.heap.size w w':=by
 have hl:=Cs.bH h.val hi
 obtain⟨b,o,ef,hc⟩:=h.ay hl.1
 have c0:∀D:LW w,D.val.cell? ⟨p,0,none⟩=some av:=fun D=>(h.later D.h).c0
 have c2:∀D:LW w,D.val.cell? ⟨p,2,none⟩=some (.slice (some ⟨b,o,none⟩) n f.c2):=fun D=>by have:=(h.later D.h).c2;rwa[ef] at this
 have d2:∀D:LW w,D.val.cell? ⟨b,o+Cs.fr es i,none⟩=some (.int .i64 (Df.at_ s.ay (Cs.fr es i))):=fun D=>hc D.val D.h _ hl.1
 have jO:Hid (∀D:LW w,Calls Tryz.prog 113 #[av,.int .i64 (i:Int)] D.val fun e w'=>e= .returned (.int .i64 (Cs.fr es i:Int))∧Below D.val.heap.size D.val w'):=fun D=>(j8 av n es (i:Int) D.val (h.later D.h).CV).mono fun e w' ⟨he,hw⟩=>⟨by rw[he,Cs.jI hi],by rw[hw];exact Below.refl _ _⟩
 obtain⟨t,ht⟩:∃t,Cs.fr es i=t:=⟨_,rfl⟩
 obtain⟨z,hz⟩:∃z,Df.at_ s.ay t=z:=⟨_,rfl⟩
 rw[ht,hz] at d2
 rw[ht] at jO
 rw[ht,hz]
 have t0:(0:Int)≤(t:Int):=by omega
 have t1:(t:Int)<(n:Int):=by have:=hl.1;rw[ht] at this;omega
 have hne:=LW.any w
 clear hl hc h ef ht hz hi
 go_enter Tryz.func124,Tryz.ntmps124
 go_wp2_with fail
 refine aC (by kernel_rfl) (by kernel_rfl) ?_
 repeat (go_big_quiet_step ((first|(go_at_call 113;exact Calls.lw (jO.out _)))))
 refine wpQuiet_nil ?_
 rintro _ ⟨D,rfl⟩
 go_wp2
 go_ret
 exact⟨rfl,D.h⟩
set_option maxRecDepth 100000 in
set_option maxHeartbeats 16000000 in
theorem N1 (i:Nat) (hi:i<2*es.length) (h:Wd w p av n es f s):
 Calls Tryz.prog 141 #[.pointer (some ⟨p,0,none⟩),.int .i64 (i:Int)] w fun e w'=>e= .returned (.int .i64 (Df.at_ s.ay (Cs.to es i)))∧Below w.heap.size w w':=by
 have hl:=Cs.bH h.val hi
 obtain⟨b,o,ef,hc⟩:=h.ay hl.2
 have c0:∀D:LW w,D.val.cell? ⟨p,0,none⟩=some av:=fun D=>(h.later D.h).c0
 have c2:∀D:LW w,D.val.cell? ⟨p,2,none⟩=some (.slice (some ⟨b,o,none⟩) n f.c2):=fun D=>by have:=(h.later D.h).c2;rwa[ef] at this
 have d2:∀D:LW w,D.val.cell? ⟨b,o+Cs.to es i,none⟩=some (.int .i64 (Df.at_ s.ay (Cs.to es i))):=fun D=>hc D.val D.h _ hl.2
 have jO:Hid (∀D:LW w,Calls Tryz.prog 114 #[av,.int .i64 (i:Int)] D.val fun e w'=>e= .returned (.int .i64 (Cs.to es i:Int))∧Below D.val.heap.size D.val w'):=fun D=>(lQ av n es (i:Int) D.val (h.later D.h).CV).mono fun e w' ⟨he,hw⟩=>⟨by rw[he,Cs.kB hi],by rw[hw];exact Below.refl _ _⟩
 obtain⟨t,ht⟩:∃t,Cs.to es i=t:=⟨_,rfl⟩
 obtain⟨z,hz⟩:∃z,Df.at_ s.ay t=z:=⟨_,rfl⟩
 rw[ht,hz] at d2
 rw[ht] at jO
 rw[ht,hz]
 have t0:(0:Int)≤(t:Int):=by omega
 have t1:(t:Int)<(n:Int):=by have:=hl.2;rw[ht] at this;omega
 have hne:=LW.any w
 clear hl hc h ef ht hz hi
 go_enter Tryz.func141,Tryz.ntmps141
 go_wp2_with fail
 refine aC (by kernel_rfl) (by kernel_rfl) ?_
 repeat (go_big_quiet_step ((first|(go_at_call 114;exact Calls.lw (jO.out _)))))
 refine wpQuiet_nil ?_
 rintro _ ⟨D,rfl⟩
 go_wp2
 go_ret
 exact⟨rfl,D.h⟩
set_option maxRecDepth 100000 in
set_option maxHeartbeats 16000000 in
theorem KX (i:Nat) (hi:i<2*es.length) (h:Wd w p av n es f s):
 Calls Tryz.prog 140 #[.pointer (some ⟨p,0,none⟩),.int .i64 (i:Int)] w fun e w'=>e= .returned (.bool (Df.at_ s.par (Cs.to es i) != (i:Int)))∧Below w.heap.size w w':=by
 have hl:=Cs.bH h.val hi
 obtain⟨b,o,ef,hc⟩:=h.par hl.2
 have c0:∀D:LW w,D.val.cell? ⟨p,0,none⟩=some av:=fun D=>(h.later D.h).c0
 have c1:∀D:LW w,D.val.cell? ⟨p,1,none⟩=some (.slice (some ⟨b,o,none⟩) n f.c1):=fun D=>by have:=(h.later D.h).c1;rwa[ef] at this
 have d2:∀D:LW w,D.val.cell? ⟨b,o+Cs.to es i,none⟩=some (.int .i64 (Df.at_ s.par (Cs.to es i))):=fun D=>hc D.val D.h _ hl.2
 have jO:Hid (∀D:LW w,Calls Tryz.prog 114 #[av,.int .i64 (i:Int)] D.val fun e w'=>e= .returned (.int .i64 (Cs.to es i:Int))∧Below D.val.heap.size D.val w'):=fun D=>(lQ av n es (i:Int) D.val (h.later D.h).CV).mono fun e w' ⟨he,hw⟩=>⟨by rw[he,Cs.kB hi],by rw[hw];exact Below.refl _ _⟩
 obtain⟨t,ht⟩:∃t,Cs.to es i=t:=⟨_,rfl⟩
 obtain⟨z,hz⟩:∃z,Df.at_ s.par t=z:=⟨_,rfl⟩
 rw[ht,hz] at d2
 rw[ht] at jO
 rw[ht,hz]
 have t0:(0:Int)≤(t:Int):=by omega
 have t1:(t:Int)<(n:Int):=by have:=hl.2;rw[ht] at this;omega
 have hne:=LW.any w
 clear hl hc h ef ht hz hi
 go_enter Tryz.func140,Tryz.ntmps140
 go_wp2_with fail
 refine aC (by kernel_rfl) (by kernel_rfl) ?_
 repeat (go_big_quiet_step ((first|(go_at_call 114;exact Calls.lw (jO.out _)))))
 refine wpQuiet_nil ?_
 rintro _ ⟨D,rfl⟩
 go_wp2
 go_ret
 exact⟨rfl,D.h⟩
def xy (p:Nat) (v:Int) (w:World) (e:Ending) (w':World):Prop:=
 ∃Bw Bv,e= .returned (.func (.func 137) #[] #[.pointer (some ⟨Bw,0,none⟩),.pointer (some ⟨Bv,0,none⟩)])∧w.heap.size≤Bw∧w.heap.size≤Bv∧
  Boxed w' Bw 149 (.pointer (some ⟨p,0,none⟩))∧Boxed w' Bv 3 (.int .i64 v)∧Below w.heap.size w w'
theorem zy (p:Nat) (v:Int) (w:World):Calls Tryz.prog 122 #[.pointer (some ⟨p,0,none⟩),.int .i64 v] w (xy p v w):=by
 go_enter Tryz.func122,Tryz.ntmps122
 go_wp2
 go_ret
 refine⟨w.heap.size,w.heap.size+1,rfl,Nat.le_refl _,by omega,(Boxed.new w _ _).alloc _,?_,((Below.refl _ _).alloc (Nat.le_refl _) _).alloc (by simp) _⟩
 have:=Boxed.new (w.alloc (.cells #[.pointer (some ⟨p,0,none⟩)] 149)) 3 (.int .i64 v)
 rwa[World.size_alloc] at this
end
end
section
open Go.RowKit Go.Shelf
attribute [local go_sem] Oper.semAt_some
def kg (n₀:Nat) (w:World) (ao:Option Addr) (l:List Int):Prop:=∀(j:Nat) (x:Int),l[j]? =some x→∃b o:Nat,ao=some ⟨b,o,none⟩∧b<n₀∧w.cell? ⟨b,o+j,none⟩=some (.int .i64 x)
theorem dc.under {w W:World} {ao:Option Addr} {l:List Int} (h:dc w ao l) (hb:Below w.heap.size w W):kg w.heap.size W ao l:=fun j x hj=>by
 obtain⟨b,o,e,hc⟩:=h j x hj
 exact⟨b,o,e,block_lt_of_cell hc,(hb.cell (p:=⟨b,o+j,none⟩) (block_lt_of_cell hc)).trans hc⟩
theorem kg.below {n₀:Nat} {w W:World} {ao:Option Addr} {l:List Int} (h:kg n₀ w ao l) (hb:Below n₀ w W):kg n₀ W ao l:=fun j x hj=>by
 obtain⟨b,o,e,hl,hc⟩:=h j x hj
 exact⟨b,o,e,hl,(hb.cell (p:=⟨b,o+j,none⟩) hl).trans hc⟩
end
section
open Go.RowKit Go.Shelf
attribute [local go_sem] Oper.semAt_some
theorem vV {α:Type} {zs:List α} {k:Nat} {z:α} (h:zs[k]? =some z):zs.take k++[z] <+: zs:=by
 have:zs.take (k+1)=zs.take k++[z]:=by
  rw[List.take_add_one,h]
  rfl
 rw[←this]
 exact List.take_prefix _ _
abbrev XG (x:Int):Array Value:= #[.int .i64 x]
set_option maxRecDepth 100000 in
set_option maxHeartbeats 2000000 in
theorem T6 (Bs n₀ cap:Nat) (S:Nat→Prop) (ao:Option Addr) (zs:List Int) (hz:zs.length≤8388608) (w:World) (hn₀:n₀≤w.heap.size) (hS:¬S Bs) (hB:Boxed w Bs 27 (.slice ao zs.length cap)) (hc:kg n₀ w ao zs):
 tY Tryz.prog 157 #[.pointer (some ⟨Bs,0,none⟩)] XG n₀ S zs w 0:=by
 intro l J Jx W hW _ _ _ hY h0
 have RJ:Boxed W Bs 27 (.slice ao zs.length cap):=(hW.block Bs hB.lt).trans hB
 have hcW:=hc.below (hW.mono hn₀)
 have hb0:=RJ.cell
 have HN:Hid (n₀≤W.heap.size):=Nat.le_trans hn₀ hW.size
 clear hc hB hW
 refine(callsIn_wide (n:=5)).1 ?_
 refine callsIn_of_wp Tryz.func157 rfl trivial ?_ rfl
 simp only[Tryz.ntmps157,List.size_toArray,List.length_cons,List.length_nil,Nat.reduceAdd,Nat.reduceSub,Array.replicate_succ,Array.replicate_zero,List.push_toArray,List.append_toArray,List.nil_append,List.cons_append]
 gi_wp2
 gi_loopw [6] (fun i wr=>∃k:Nat,k≤zs.length∧i= .int .i64 k∧J (zs.take k) wr∧bE n₀ S W wr∧W.heap.size≤wr.heap.size) (fun i _=>zs.length-(intOf i).toNat)
 case atStart=>exact⟨0,Nat.zero_le _,rfl,by simpa using h0,bE.refl _ _ _,Nat.le_refl _⟩
 case round=>
  obtain⟨k,hk,rfl,hJs,fN,hsz⟩:=hrel
  by_cases hlt:k<zs.length
  ·obtain⟨z,hz0⟩:∃z,zs[k]? =some z:=⟨_,List.getElem?_eq_getElem hlt⟩
   obtain⟨b,o,rfl,CG,hcz⟩:=hcW k z hz0
   have hb1:wr.cell? ⟨Bs,0,none⟩=some (.slice (some ⟨b,o,none⟩) zs.length cap):=fN.cell hb0 hS
   have hc1:wr.cell? ⟨b,o+k,none⟩=some (.int .i64 z):=(fN.1.cell (p:=⟨b,o+k,none⟩) CG).trans hcz
   obtain⟨fn,tmps,assign,body,hy,hR⟩:=hY (zs.take k) z wr (vV hz0) hJs (by omega) 4
   have lV:zs.take (k+1)=zs.take k++[z]:=by
    rw[List.take_add_one,hz0]
    rfl
   have hk0:(0:Int)≤(k:Int):=by omega
   have hk1:(k:Int)<(zs.length:Int):=by omega
   have l7:=Nu.hid lV
   have HJ:=Nu.hid hJs
   have kA:=Nu.hid fN
   have vH:=Nu.hid hsz
   clear lV hJs fN hY hcz hz0 hsz
   gi_wp2
   refine hR.mono ?_
   rintro e W3 ⟨mG,(⟨rfl,hJ3,hk3⟩|⟨rfl,hJx3⟩)⟩
   ·have BZ:=Nu.hid hJ3
    have uj:=Nu.hid hk3
    have vI:=Nu.hid mG.size
    clear hJ3 hk3 mG
    gi_wp2
    go_roundw
    case rel=>exact⟨k+1,by omega,by go_num,by rw[l7.out];exact BZ.out,kA.out.trans uj.out,Nat.le_trans vH.out vI.out⟩
    case measure=>simp[intOf];omega
   ·have IZ:=Nu.hid hJx3
    clear hJx3
    gi_wp2
    refine bodyPost_ret (results_none rfl _ _ _) rfl ?_
    exact⟨⟨_,rfl⟩,.inr ⟨_,by rw[←l7.out];exact List.take_prefix _ _,IZ.out⟩⟩
  ·have hd:¬((k:Int)<(zs.length:Int)):=by omega
   have HJ:Hid (J zs wr):=by
    show J zs wr
    rw[List.take_of_length_le (by omega)] at hJs
    exact hJs
   clear hJs fN hY
   gi_wp2
   go_end0
   exact⟨⟨_,rfl⟩,.inl HJ.out⟩
end
section
open Go.RowKit
section
variable {P:Program} {ops:Array Oper} {md:Region.Mode} {C:World→Prop}
theorem wpIn_of_quiet {l n:Nat} {o:Oper} {a:Act} {K:Act→Prop} {K':Act→World→Prop} {Q':Exit→Act→World→Prop} {w:World} (hnd:∀c,o.op≠.defer c) (hw:C w) (h:∀a w',C w'→K a→K' a w') (hh:o.quiet P a C K):o.wpIn (Fence.wide.inRound l) n P a w K' Q':=by
 obtain⟨v,h1,h2⟩:=hh
 have h3:=h1 w hw
 unfold Oper.quietAt at h3
 unfold Oper.wpIn
 refine⟨fun _ _=>trivial,?_⟩
 rw[Oper.semAt_plain _ _ _ hnd]
 generalize (execOp a.eval o).run P w=r at*
 cases r with
 |ok x w'=>
  cases x<;>simp only[Oper.quietUpon] at h3<;>simp only[Oper.uponIn]
  case value u=>
   obtain⟨e1,e2⟩:=h3
   rw[e1,e2]
   exact h _ _ hw h2
  case skip=>
   obtain⟨e1,e2⟩:=h3
   rw[e1,←e2]
   exact h _ _ hw h2
  case enter f args=>
   obtain⟨e1,hc⟩:=h3
   rw[e1]
   refine⟨(fun hd=>by cases hd),CallsIn.inRound l (callsIn_wide.2 (hc.mono fun e w'' ⟨he,hw''⟩=> ?_))⟩
   subst he
   exact h _ _ hw'' h2
 |halt x w'=>simp only[Oper.quietUpon] at h3
theorem zx {l n i:Nat} {a:Act} {K:Act→Prop} {K':Act→World→Prop} {Q':Exit→Act→World→Prop} {w:World} (hnd:∀(i:Nat) (o:Oper) c,ops[i]? =some o→o.op≠.defer c) (hC:C w) (h:∀a w',C w'→K a→K' a w') (hh:qOp P ops C i K a):wpOpIn (Fence.wide.inRound l) n P ops Q' i K' a w:=by
 unfold qOp at hh
 unfold wpOpIn
 split
 ·rename_i ho;simp only[ho] at hh;exact h _ _ hC hh
 ·rename_i o ho
  simp only[ho] at hh
  split
  ·rename_i hw;simp only[hw,if_true] at hh;exact wpIn_of_quiet (fun c=>hnd i o c ho) hC h hh
  ·rename_i hw;simp only[hw] at hh;exact⟨fun _ _=>trivial,h _ _ hC hh⟩
theorem wpAnyIn_of_quiet {l n:Nat} {Q:Act→Prop} {Q':Exit→Act→World→Prop} (hnd:∀(i:Nat) (o:Oper) c,ops[i]? =some o→o.op≠.defer c) (hQ:∀a w,C w→Q a→Q' .normal a w):∀(fuel:Nat) (listed:Array Bool) (a:Act) (w:World),C w→
 wpAnyQ P md ops C Q fuel listed a→wpAnyIn (Fence.wide.inRound l) n P md ops Q' fuel listed a w
 |0,_,_,_,hw,h=>⟨h.1,hQ _ _ hw h.2⟩
 |fuel+1,_,_,_,hw,h=>⟨fun h0=>hQ _ _ hw (h.1 h0),fun i hi=>zx hnd hw (fun a' w' hw'=>wpAnyIn_of_quiet hnd hQ fuel _ a' w' hw') (h.2 i hi)⟩
def qD (o:Oper):Bool:=match o.op with| .defer _=>false|_=>true
end
theorem gq {P:Program} {id l n:Nat} {Q:Exit→Act→World→Prop} {a:Act} {w:World} {os:List Oper} (hm:P.follows .mixedOrders=true) (hB:Region.lexB .any os.toArray=true) (hd:os.all qD=true)
 (h:wpQuiet P os.toArray (fun w'=>∃D:LW w,w'=D.val) (fun a'=>∀w',(∃D:LW w,w'=D.val)→Q .normal a' w') os a):(Code.region id os.toArray true).wpIn (Fence.wide.inRound l) n P Q a w:=by
 have hnd:∀(i:Nat) (o:Oper) c,os.toArray[i]? =some o→o.op≠.defer c:=fun i o c ho e=>by
  have:=List.all_eq_true.1 hd o (List.mem_of_getElem? (by simpa using ho))
  unfold qD at this
  rw[e] at this
  cases this
 simp only[Region.lexB,Bool.and_eq_true] at hB
 refine wpIn_region_any hm (wpAnyIn_of_quiet (C:=fun w'=>∃D:LW w,w'=D.val) (Q:=fun a'=>∀w',(∃D:LW w,w'=D.val)→Q .normal a' w') hnd (fun _ w' hw' h=>h w' hw') _ _ _ _ ⟨⟨w.drew,(Below.refl _ _).drew⟩,rfl⟩ ?_)
 have:=wpAnyQ_lex (P:=P) (C:=fun w'=>∃D:LW w,w'=D.val) (md:= .any) hB.1 os.toArray.toList 0 (Array.replicate os.toArray.size false) a (by simp) (by simpa using hB.2) (by simpa using h)
 simpa using this
end
section
open Go.RowKit Go.Shelf
theorem wD {n:Nat} {es:List (Int×Int)} {v:Nat} (hv:v<n) {x:Int}:x∈Cs.gM n es v↔∃i:Nat,x=(i:Int)∧i<2*es.length∧Cs.fr es i=v:=by
 unfold Cs.gM
 rw[Cs.ox hv,List.mem_map]
 constructor
 ·rintro⟨i,hi,rfl⟩
  obtain⟨j,hj⟩:=List.getElem?_of_mem hi
  obtain⟨h1,h2,_⟩:=Cs.nr hj
  exact⟨i,rfl,h1,h2⟩
 ·rintro⟨i,rfl,h1,h2⟩
  exact⟨i,List.mem_of_getElem? (Cs.LO h1 h2),rfl⟩
theorem x7 {α:Type} (q:α→Bool) {pre zs:List α} (h:pre <+: zs):pre.filter q <+: zs.filter q:=h.filter q
theorem pT {α:Type} (q:α→Bool) (pre:List α) (x:α):(pre++[x]).filter q=if q x=true then pre.filter q++[x] else pre.filter q:=by
 rw[List.filter_append]
 by_cases h:q x=true
 ·rw[if_pos h,List.filter_cons_of_pos h];rfl
 ·rw[if_neg h,List.filter_cons_of_neg h];simp
theorem xG {β:Type} {B B':Nat} {J:β→World→Prop} (h:OwnFrom B J) (hB:B≤B'):OwnFrom B' J:=fun s X Y row hs hg hr=>h s X Y row hs hg (fun r e=>⟨Nat.le_trans hB (hr r e).1,(hr r e).2⟩)
theorem JJ {β:Type} {B:Nat} {J:β→World→Prop} (h:OwnFrom B J) {t:β} {X Y:World} (hs:J t X) (hb:Below X.heap.size X Y):J t Y:=
 h t X Y none hs ⟨hb.os,hb.tape,hb.output,hb.size,fun k hk _=>hb.block k hk⟩ (fun r e=>by cases e)
namespace Lo
end Lo
theorem Dv {B:Nat} {A X:World} (h:Below A.heap.size A X):KeepsFrom B A X:=⟨h.size,fun k _ _ h0 _=>(h.block k (Array.getElem?_eq_some_iff.1 h0).1).trans h0⟩
def IK (n:Nat) (es:List (Int×Int)) (x:Int) (w0 w:World) (e:Ending) (w':World):Prop:=
 ∃Bs ao cap,e= .returned (.func (.func 157) #[] #[.pointer (some ⟨Bs,0,none⟩)])∧Bs=w.heap.size∧Boxed w' Bs 27 (.slice ao (Cs.gM n es x).length cap)∧dc w0 ao (Cs.gM n es x)∧Below w.heap.size w w'
set_option maxRecDepth 100000 in
set_option maxHeartbeats 2000000 in
theorem Iw (v:Value) (n:Nat) (es:List (Int×Int)) (x:Int) (w0 w:World) (h:cE w0 v n es) (hb:Below w0.heap.size w0 w):Calls Tryz.prog 138 #[v,.int .i64 x] w (IK n es x w0 w):=by
 have HL:=Nu.hid (uN v n es x w0 w h hb)
 clear h hb
 go_enter Tryz.func138,Tryz.ntmps138
 go_wp2_with (go_at_call 128;refine HL.out.mono ?_;rintro e w1 ⟨ao,cap,rfl,hi,k,hw⟩;have HI:=Nu.hid hi;have HW:=Nu.hid hw;clear hi hw)
 go_ret
 have hw:=HW.out
 have hi:=HI.out
 subst hw
 exact⟨w.heap.size,ao,cap,rfl,rfl,Boxed.new (w.drewN k) _ _,hi,(below_drewN (Below.refl _ _) k).alloc (Nat.le_refl _) _⟩
end
end Go.Proofs.YtnhcggfbkoppnaaGreat
