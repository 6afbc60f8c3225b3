import Derived.Test.YtmgoahbloppdmaaGreatMg01
import Derived.RangeFuncNested
import Derived.RangeFuncBound
import Derived.RangeFuncCalls
import Derived.RangeFuncLeaves
import Derived.RangeFuncBox
import Derived.Shelf.Abstract
import Derived.Shelf.RegionOpen
import Derived.OwnWalkIn
import Derived.TacticsInMore
import Derived.LoopNIn
import Derived.LoopIn
import Derived.Maps.AppendAt
import Derived.Test.YtmgoahbloppdmaaGreatMg07
import Derived.Test.YtmgoahbloppdmaaGreatMg11
import Derived.Test.YtmgoahbloppdmaaGreatMg05
import Derived.Test.YtmgoahbloppdmaaGreatMg10
/-
  A range over an iterator that itself ranges over another: what an iterator over a given list owes, and the law for the loop that goes over it.
-/
namespace Go.Proofs.YtmgoahbloppdmaaGreat
open Go.RowKit Go.Shelf

/-- What lay below n₀ lies as it lay, and so do all cells but those of the blocks in S. -/
def Kep (n₀ : Nat) (S : Nat → Prop) (W W' : World) : Prop := Below n₀ W W' ∧ ∀ (b : Nat) (o : Obj), W.heap[b]? = some o → o.isCells = true → ¬ S b → W'.heap[b]? = some o

section
variable {n₀ : Nat} {S : Nat → Prop} {A B C W W' : World}

theorem Kep.refl (n₀ : Nat) (S : Nat → Prop) (W : World) : Kep n₀ S W W := ⟨Below.refl _ _, fun _ _ h _ _ => h⟩
theorem Kep.trans (h : Kep n₀ S A B) (k : Kep n₀ S B C) : Kep n₀ S A C := ⟨h.1.trans k.1, fun b o hb ho hs => k.2 b o (h.2 b o hb ho hs) ho hs⟩
theorem Kep.cell (h : Kep n₀ S W W') {a : Addr} {v : Value} (hc : W.cell? a = some v) (hs : ¬ S a.block) : W'.cell? a = some v := by
  obtain ⟨o, ho, hcl⟩ := cells_of_cell hc
  exact (World.cell?_of_block ((h.2 _ _ ho hcl hs).trans ho.symm)).trans hc
theorem Kep.boxed (h : Kep n₀ S W W') {b : Nat} {t : TypeId} {v : Value} (hb : Boxed W b t v) (hs : ¬ S b) : Boxed W' b t v := h.2 b _ hb rfl hs
theorem Kep.grow (h : Kep n₀ S A B) (hb : Below B.heap.size B C) (hn : n₀ ≤ B.heap.size) : Kep n₀ S A C := ⟨h.1.trans (hb.mono hn), fun b o hA ho hs => by
  have := h.2 b o hA ho hs
  exact (hb.block b (Array.getElem?_eq_some_iff.1 this).1).trans this⟩
theorem Kep.set (h : Kep n₀ S A B) {p : Addr} (hn : n₀ ≤ p.block) (hs : S p.block) (v : Value) : Kep n₀ S A (B.setCell p v) := ⟨h.1.setCell hn v, fun b o hA ho hb => by
  have := h.2 b o hA ho hb
  exact (Below.heap_setCell B p v b (fun e => hb (by rw [e]; exact hs))).trans this⟩
theorem Kep.put (hn : n₀ ≤ A.heap.size) {l : Nat} {o o' : Obj} (hl : A.heap.size ≤ l) (h : W.heap[l]? = some o) (h1 : o.isCells = false) (h2 : o.isWalk = false) : Kep n₀ S W (W.putObj l o') :=
  ⟨belowK_b (w := A) hn W l o o' hl h h1 h2, fun b o2 hb ho _ => by
    have : b ≠ l := fun e => by subst e; rw [h] at hb; cases hb; rw [h1] at ho; cases ho
    exact (World.putObj_heap_other this).trans hb⟩
/-- It abides the turn of a block that is no cells. -/
theorem Kep.own {β : Type} {B' : Nat} (hn : n₀ ≤ A.heap.size) (hB : n₀ ≤ B') : OwnFrom B' (fun (_ : β) W => Kep n₀ S A W) := fun _ X Y row hs hg hr =>
  ⟨hs.1.grown hg (Nat.le_trans hn hs.1.size) (fun k e => by have := (hr k e).1; omega), fun b o hb ho hS => by
    have hX := hs.2 b o hb ho hS
    refine (hg.block b (Array.getElem?_eq_some_iff.1 hX).1 (fun e => ?_)).trans hX
    obtain ⟨_, o', ho', hc⟩ := hr b e.symm
    rw [hX] at ho'
    cases ho'
    rw [ho] at hc
    cases hc⟩

theorem kf_mono {B₁ B₂ : Nat} (h : KeepsFrom B₁ W W') (hB : B₁ ≤ B₂) : KeepsFrom B₂ W W' := ⟨h.size, fun k o hk h0 ho => h.same k o (Nat.le_trans hB hk) h0 ho⟩
theorem kf_put {B₁ l : Nat} (hl : l < B₁) (o : Obj) (W : World) : KeepsFrom B₁ W (W.putObj l o) := ⟨by simp, fun k o' hk h0 _ => (World.putObj_heap_other (by omega)).trans h0⟩
end

theorem RoundIn.deep {m m' : Nat} {P : Program} {l : Nat} {f : FuncId} {tmps : Array Value} {assign body : Code} {w : World} {R : Ending → World → Prop} (h : RoundIn Fence.wide m P l f tmps assign body w R) : RoundIn Fence.wide m' P l f tmps assign body w R :=
  ⟨h.1, fun c cs _ => h.2 c cs (room_wide _)⟩

/-- An iterator that gives zs, one by one: whatever the loop over it holds between its rounds; a round may say 'no more'. Ahead of its first round it has laid m blocks. -/
def SeqIt {α : Type} (P : Program) (g : Nat) (lb : Array Value) (encs : α → Array Value) (n₀ : Nat) (S : Nat → Prop) (zs : List α) (w : World) (m : Nat) : Prop :=
  ∀ (l : Nat) (J Jx : List α → World → Prop) (W : World), Below w.heap.size w W → W.heap.size ≤ w.heap.size + 2 → OwnFrom W.heap.size J → OwnFrom W.heap.size Jx →
    (∀ pre x W1, pre ++ [x] <+: zs → J pre W1 → W.heap.size + m ≤ W1.heap.size → ∀ d, YieldAt Fence.wide d P l (encs x) W1 fun e W' => KeepsFrom W.heap.size W1 W' ∧
      ((e = .returned (.bool true) ∧ J (pre ++ [x]) W' ∧ Kep n₀ S W1 W') ∨ (e = .returned (.bool false) ∧ Jx (pre ++ [x]) W'))) →
    J [] W → Calls P g (#[.func (.yield l) #[] #[]] ++ lb) W fun e W' => (∃ v, e = .returned v) ∧ (J zs W' ∨ ∃ pre, pre <+: zs ∧ Jx pre W')

/-- The fence of a walk in a round, or in none. -/
abbrev wideR (ro : Option Nat) : Fence := { Fence.wide with round := ro }

/-- A loop's record. -/
abbrev recd (fn : FuncId) (a : Act) (ps : Array Tmp) (assign body : Code) (d : Nat) (st : LoopState) (pe : Option Code) : Loop := { state := st, pending := pe, fn, tmps := a.tmps, params := ps, assign, body, defers := d }

/-- The law, whatever lies around the loop. -/
theorem it_core {α : Type} (ro : Option Nat) {n : Nat} {P : Program} {g : Operand} {ps : Array Tmp} {assign body : Code} {Q : Exit → Act → World → Prop} {a : Act} {w : World} {l d B : Nat} {mark : List Deferred} {Wf : Nat → World}
    {gf : Nat} {lb : Array Value} (hg : a.eval g = .func (.func gf) #[] lb) (eg : ∀ args w, (callFunc gf args).run P w = .ok (.enter gf args) w)
    {encs : α → Array Value} {n₀ : Nat} {S : Nat → Prop} {zs : List α} {w0 : World} {m : Nat} (hseq : SeqIt P gf lb encs n₀ S zs w0 m)
    (hen : ∀ fn, (Instr.enterLoop fn a.tmps ps assign body ro).run P w = .ok (l, mark) (Wf fn)) (hrec : ∀ fn, (Wf fn).heap[l]? = some (.loop (recd fn a ps assign body d .ready none)))
    (hlast : ∀ fn, (Wf fn).heap.size = l + 1) (hbl : ∀ fn, Below w0.heap.size w0 (Wf fn)) (hls : l + 1 ≤ w0.heap.size + 2) (hlw : w.heap.size ≤ l) (hBl : B ≤ l) (hn : n₀ ≤ w.heap.size) (hps : ∀ x, (encs x).size = ps.size)
    (I : List α → World → Prop) (Ix : Code → List α → World → Prop) (hI : OwnFrom l I) (hIx : ∀ c, OwnFrom l (Ix c)) (h0 : ∀ fn, I [] (Wf fn)) (Ax : α → Act → World → Prop) (hAx : ∀ x a', OwnFrom l (fun (_ : Unit) W => Ax x a' W))
    (hassign : ∀ (pre : List α) (x : α) (W : World) (K : Act → World → Prop), pre ++ [x] <+: zs → l + 1 + m ≤ W.heap.size → I pre W → (∀ a' W', KeepsFrom B W W' → Kep n₀ S W W' → I pre W' → Ax x a' W' → K a' W') →
      assign.wpIn (Fence.wide.inRound l) (n - 1 - 1) P (Exit.then K (fun _ _ _ => False)) { tmps := (ps.zip (encs x)).foldl (fun t (p, v) => t.setIfInBounds p v) a.tmps, defers := [] } W)
    (hbody : ∀ (pre : List α) (x : α) (a' : Act) (W : World), (∃ r, W.heap[l]? = some (.loop r)) → pre ++ [x] <+: zs → l + 1 + m ≤ W.heap.size → I pre W → Ax x a' W → body.wpIn (Fence.wide.inRound l) (n - 1 - 1) P (ownPostG B (Kep n₀ S) I Ix (pre ++ [x]) W) a' W)
    (hdone : ∀ (W : World), I zs W → Q .normal { a with defers := mark ++ a.defers } W)
    (hstop : ∀ (c : Code) (pre : List α) (W : World), pre <+: zs → Ix c pre W → c.wpIn (wideR ro) n P Q { a with defers := mark ++ a.defers } W) :
    (Code.rangeFunc g ps assign body).wpIn (wideR ro) n P Q a w := by
  refine wpIn_rangeFunc ?_
  intro fn _
  have hsz := hlast fn
  refine ⟨l, mark, Wf fn, { target := .fn (.func gf) lb, args := #[.func (.yield l) #[] #[]] }, Wf fn, gf, #[.func (.yield l) #[] #[]] ++ lb, Wf fn, hen fn, ?_, fun _ _ => trivial, ?_, (fun h => by cases h), ?_⟩
  · simp only [resolve, hg]
    simp [go_sem]
  · simp [invoke, go_sem, eg]
  refine CallsIn.mono (R := fun e W' => (∃ v, e = .returned v) ∧ ((I zs W' ∧ W'.heap[l]? = some (.loop (recd fn a ps assign body d .ready none))) ∨ ∃ pre, pre <+: zs ∧ ∃ c, Ix c pre W' ∧ W'.heap[l]? = some (.loop (recd fn a ps assign body d .done (some c))))) ?_ ?_
  · have hcall := hseq l (fun pre W => I pre W ∧ W.heap[l]? = some (.loop (recd fn a ps assign body d .ready none)))
      (fun pre W => ∃ c, Ix c pre W ∧ W.heap[l]? = some (.loop (recd fn a ps assign body d .done (some c)))) (Wf fn) (hbl fn) (by omega)
      (fun s X Y row hs hg' hr => ⟨hI s X Y row hs.1 hg' (fun r e => ⟨by have := (hr r e).1; omega, (hr r e).2⟩), (hg'.block l (Array.getElem?_eq_some_iff.1 hs.2).1 (fun e => by have := (hr l e.symm).1; omega)).trans hs.2⟩)
      (fun s X Y row ⟨c, hc, hl⟩ hg' hr => ⟨c, hIx c s X Y row hc hg' (fun r e => ⟨by have := (hr r e).1; omega, (hr r e).2⟩), (hg'.block l (Array.getElem?_eq_some_iff.1 hl).1 (fun e => by have := (hr l e.symm).1; omega)).trans hl⟩)
      ?_ ⟨h0 fn, hrec fn⟩
    · exact (callsIn_wide (n := n - 1)).2 hcall
    · rintro pre x W hpx ⟨hi, hl⟩ hW dd
      have hy := run_yield (P := P) (args := encs x) hl (hps x)
      refine ⟨fn, _, assign, body, hy, RoundIn.deep (m := n - 1 - 1) ?_⟩
      refine roundIn_of_wpIn (F := Fence.wide) trivial (hassign pre x W _ hpx (by omega) hi ?_)
      clear hy
      intro a' Wa hkfa hkpa hia hax
      have hla := hkfa.same _ _ hBl hl rfl
      have hlta : l < Wa.heap.size := (Array.getElem?_eq_some_iff.1 hla).1
      refine ⟨_, run_beginRound hla rfl, ?_⟩
      obtain ⟨W2, hW2⟩ : ∃ W2, W2 = Wa.putObj l (.loop { recd fn a ps assign body d .ready none with state := .busy }) := ⟨_, rfl⟩
      have hl2 : W2.heap[l]? = some (.loop { recd fn a ps assign body d .ready none with state := .busy }) := by rw [hW2]; exact World.putObj_heap_same hlta
      have hk2 : Kep n₀ S Wa W2 := by rw [hW2]; exact Kep.put hn hlw hla rfl rfl
      have hf2 : KeepsFrom (l + 1) Wa W2 := by rw [hW2]; exact kf_put (Nat.lt_succ_self _) _ _
      have hi2 : I pre W2 := by rw [hW2]; exact hI.putObj _ hia (Nat.le_refl _) hla rfl
      have hx2 : Ax x a' W2 := by rw [hW2]; exact (hAx x a').putObj (s := ()) _ hax (Nat.le_refl _) hla rfl
      rw [← hW2]
      have hsz2 : W.heap.size ≤ W2.heap.size := Nat.le_trans hkfa.size hf2.size
      refine wpIn_mono (hbody pre x a' W2 ⟨_, hl2⟩ hpx (by omega) hi2 hx2) ?_
      have fin : ∀ (jump : Option Code) (W3 : World), KeepsFrom B W2 W3 → ∃ W4, (Instr.endRound l jump).run P W3 = .ok (.bool jump.isNone) W4 ∧ W4 = W3.putObj l (.loop (recd fn a ps assign body d (if jump.isNone then .ready else .done) jump)) ∧
          W3.heap[l]? = some (.loop { recd fn a ps assign body d .ready none with state := .busy }) ∧ W4.heap[l]? = some (.loop (recd fn a ps assign body d (if jump.isNone then .ready else .done) jump)) ∧ KeepsFrom (Wf fn).heap.size W W4 := fun jump W3 hk3 => by
        have hl3 := hk3.same _ _ hBl hl2 rfl
        refine ⟨_, run_endRound (P := P) jump hl3, rfl, hl3, World.putObj_heap_same (Array.getElem?_eq_some_iff.1 hl3).1, ?_⟩
        rw [hsz]
        exact (((kf_mono hkfa (by omega)).trans hf2).trans (kf_mono hk3 (by omega))).trans (kf_put (Nat.lt_succ_self _) _ _)
      rintro e a3 W3 hp
      cases e with
      | normal =>
        obtain ⟨hk3, hkp3, hi3⟩ := hp
        obtain ⟨W4, hr, e4, hl3, hl4, hf4⟩ := fin none W3 hk3
        refine ⟨_, _, hr, hf4, .inl ⟨rfl, ⟨?_, hl4⟩, ?_⟩⟩
        · rw [e4]; exact hI.putObj _ hi3 (Nat.le_refl _) hl3 rfl
        · rw [e4]; exact ((hkpa.trans hk2).trans hkp3).trans (Kep.put hn hlw hl3 rfl rfl)
      | ret =>
        obtain ⟨hk3, hi3⟩ := hp
        obtain ⟨W4, hr, e4, hl3, hl4, hf4⟩ := fin (some .ret) W3 hk3
        exact ⟨_, _, hr, hf4, .inr ⟨rfl, .ret, by rw [e4]; exact (hIx _).putObj _ hi3 (Nat.le_refl _) hl3 rfl, hl4⟩⟩
      | exit id =>
        obtain ⟨hk3, hi3⟩ := hp
        obtain ⟨W4, hr, e4, hl3, hl4, hf4⟩ := fin (some (.exit id)) W3 hk3
        exact ⟨_, _, hr, hf4, .inr ⟨rfl, .exit id, by rw [e4]; exact (hIx _).putObj _ hi3 (Nat.le_refl _) hl3 rfl, hl4⟩⟩
      | goto t =>
        obtain ⟨hk3, hi3⟩ := hp
        obtain ⟨W4, hr, e4, hl3, hl4, hf4⟩ := fin (some (.goto t)) W3 hk3
        exact ⟨_, _, hr, hf4, .inr ⟨rfl, .goto t, by rw [e4]; exact (hIx _).putObj _ hi3 (Nat.le_refl _) hl3 rfl, hl4⟩⟩
      | panic ch => exact hp.elim
      | outgrown => exact hp.elim
  · rintro e W2 ⟨⟨v, rfl⟩, (⟨hi, hl⟩ | ⟨pre, hpre, c, hi, hl⟩)⟩
    · exact ⟨none, _, run_endLoop (P := P) hl (by simp), hdone _ (hI.putObj _ hi (Nat.le_refl _) hl rfl)⟩
    · exact ⟨some c, _, run_endLoop (P := P) hl (by simp), hstop c pre _ hpre ((hIx c).putObj _ hi (Nat.le_refl _) hl rfl)⟩

/-- The law, of a loop in no round. -/
theorem it_out {α : Type} {n : Nat} {P : Program} {g : Operand} {ps : Array Tmp} {assign body : Code} {Q : Exit → Act → World → Prop} {a : Act} {w : World}
    {gf : Nat} {lb : Array Value} (hg : a.eval g = .func (.func gf) #[] lb) (eg : ∀ args w, (callFunc gf args).run P w = .ok (.enter gf args) w)
    {encs : α → Array Value} {n₀ : Nat} {S : Nat → Prop} {zs : List α} {m : Nat} (hseq : SeqIt P gf lb encs n₀ S zs w m) (hn : n₀ ≤ w.heap.size) (hps : ∀ x, (encs x).size = ps.size)
    (I : List α → World → Prop) (Ix : Code → List α → World → Prop) (hI : OwnFrom w.heap.size I) (hIx : ∀ c, OwnFrom w.heap.size (Ix c)) (h0 : I [] w) (Ax : α → Act → World → Prop) (hAx : ∀ x a', OwnFrom w.heap.size (fun (_ : Unit) W => Ax x a' W))
    (hassign : ∀ (l : Nat) (pre : List α) (x : α) (W : World) (K : Act → World → Prop), pre ++ [x] <+: zs → I pre W → (∀ a' W', KeepsFrom w.heap.size W W' → Kep n₀ S W W' → I pre W' → Ax x a' W' → K a' W') →
      assign.wpIn (Fence.wide.inRound l) (n - 1 - 1) P (Exit.then K (fun _ _ _ => False)) { tmps := (ps.zip (encs x)).foldl (fun t (p, v) => t.setIfInBounds p v) a.tmps, defers := [] } W)
    (hbody : ∀ (l : Nat) (pre : List α) (x : α) (a' : Act) (W : World), w.heap.size ≤ l ∧ w.heap.size + 2 + m ≤ W.heap.size → (∃ r, W.heap[l]? = some (.loop r)) → pre ++ [x] <+: zs → I pre W → Ax x a' W → body.wpIn (Fence.wide.inRound l) (n - 1 - 1) P (ownPostG w.heap.size (Kep n₀ S) I Ix (pre ++ [x]) W) a' W)
    (hdone : ∀ (D : Nat) (W : World), w.heap.size ≤ D → I zs W → W.heap[D]? = some (.deferred (some [])) → Q .normal { a with defers := { target := .collected D, args := #[] } :: a.defers } W)
    (hstop : ∀ (D : Nat) (c : Code) (pre : List α) (W : World), w.heap.size ≤ D → pre <+: zs → Ix c pre W → W.heap[D]? = some (.deferred (some [])) → c.wpIn Fence.wide n P Q { a with defers := { target := .collected D, args := #[] } :: a.defers } W) :
    (Code.rangeFunc g ps assign body).wpIn Fence.wide n P Q a w := by
  have up : ∀ {β : Type} {J : β → World → Prop}, OwnFrom w.heap.size J → OwnFrom (w.heap.size + 1) J := fun hJ s X Y row hs hg' hr => hJ s X Y row hs hg' (fun r e => ⟨by have := (hr r e).1; omega, (hr r e).2⟩)
  have dO : ∀ {X Y : World} {row : Option Nat}, X.heap[w.heap.size]? = some (.deferred (some [])) → X.grownBy Y row → (∀ r, row = some r → w.heap.size + 1 ≤ r ∧ ∃ o : Obj, X.heap[r]? = some o ∧ o.isCells = false) → Y.heap[w.heap.size]? = some (.deferred (some [])) := fun hk hg' hr =>
    (hg'.block _ (Array.getElem?_eq_some_iff.1 hk).1 (fun e => by have := (hr _ e.symm).1; omega)).trans hk
  have hkk : ∀ {X Y : World}, KeepsFrom w.heap.size X Y → X.heap[w.heap.size]? = some (.deferred (some [])) → Y.heap[w.heap.size]? = some (.deferred (some [])) := fun h hk => h.same _ _ (Nat.le_refl _) hk rfl
  refine it_core none (l := w.heap.size + 1) (d := w.heap.size) (B := w.heap.size) (mark := [{ target := .collected w.heap.size, args := #[] }]) (w0 := w)
    (Wf := fun fn => (w.alloc (.deferred (some []))).alloc (.loop (recd fn a ps assign body w.heap.size .ready none))) hg eg hseq (fun fn => run_enterLoop_outer _ _ _ _ _)
    (fun fn => by have := World.alloc_heap_new (w.alloc (.deferred (some []))) (.loop (recd fn a ps assign body w.heap.size .ready none)); rwa [World.size_alloc] at this)
    (fun fn => by simp) (fun fn => (((Below.refl _ w).alloc (Nat.le_refl _) _).alloc (by simp) _)) (by omega) (by omega) (by omega) hn hps
    (fun pre W => I pre W ∧ W.heap[w.heap.size]? = some (.deferred (some []))) (fun c pre W => Ix c pre W ∧ W.heap[w.heap.size]? = some (.deferred (some [])))
    (fun s X Y row hs hg' hr => ⟨up hI s X Y row hs.1 hg' hr, dO hs.2 hg' hr⟩) (fun c s X Y row hs hg' hr => ⟨up (hIx c) s X Y row hs.1 hg' hr, dO hs.2 hg' hr⟩)
    (fun fn => ⟨hI.alloc _ (hI.alloc _ h0), (Below.heap_alloc _ _ _ (by simp)).trans (World.alloc_heap_new w _)⟩) Ax (fun x a' => up (hAx x a'))
    (fun pre x W K hpx _ hi hK => hassign _ pre x W K hpx hi.1 (fun a' W' h1 h2 h3 h4 => hK a' W' h1 h2 ⟨h3, hkk h1 hi.2⟩ h4))
    (fun pre x a' W hl hpx hsz hi hax => wpIn_mono (hbody _ pre x a' W ⟨by omega, by omega⟩ hl hpx hi.1 hax) ?_)
    (fun W hi => hdone _ W (Nat.le_refl _) hi.1 hi.2) (fun c pre W hp hi => hstop _ c pre W (Nat.le_refl _) hp hi.1 hi.2)
  rintro e a3 W3 hp
  cases e with
  | normal => exact ⟨hp.1, hp.2.1, hp.2.2, hkk hp.1 hi.2⟩
  | ret => exact ⟨hp.1, hp.2, hkk hp.1 hi.2⟩
  | exit id => exact ⟨hp.1, hp.2, hkk hp.1 hi.2⟩
  | goto t => exact ⟨hp.1, hp.2, hkk hp.1 hi.2⟩
  | panic ch => exact hp
  | outgrown => exact hp

/-- The law, of a loop in a round of loop l₀. -/
theorem it_in {α : Type} {n : Nat} {P : Program} {g : Operand} {ps : Array Tmp} {assign body : Code} {Q : Exit → Act → World → Prop} {a : Act} {w : World} {l₀ : Nat} {r₀ : Loop} (hl₀ : w.heap[l₀]? = some (.loop r₀))
    {gf : Nat} {lb : Array Value} (hg : a.eval g = .func (.func gf) #[] lb) (eg : ∀ args w, (callFunc gf args).run P w = .ok (.enter gf args) w)
    {encs : α → Array Value} {n₀ : Nat} {S : Nat → Prop} {zs : List α} {m : Nat} (hseq : SeqIt P gf lb encs n₀ S zs w m) (hn : n₀ ≤ w.heap.size) (hps : ∀ x, (encs x).size = ps.size)
    (I : List α → World → Prop) (Ix : Code → List α → World → Prop) (hI : OwnFrom w.heap.size I) (hIx : ∀ c, OwnFrom w.heap.size (Ix c)) (h0 : I [] w) (Ax : α → Act → World → Prop) (hAx : ∀ x a', OwnFrom w.heap.size (fun (_ : Unit) W => Ax x a' W))
    (hassign : ∀ (l : Nat) (pre : List α) (x : α) (W : World) (K : Act → World → Prop), pre ++ [x] <+: zs → I pre W → (∀ a' W', KeepsFrom w.heap.size W W' → Kep n₀ S W W' → I pre W' → Ax x a' W' → K a' W') →
      assign.wpIn (Fence.wide.inRound l) (n - 1 - 1) P (Exit.then K (fun _ _ _ => False)) { tmps := (ps.zip (encs x)).foldl (fun t (p, v) => t.setIfInBounds p v) a.tmps, defers := [] } W)
    (hbody : ∀ (l : Nat) (pre : List α) (x : α) (a' : Act) (W : World), w.heap.size ≤ l ∧ l + 1 + m ≤ W.heap.size → (∃ r, W.heap[l]? = some (.loop r)) → pre ++ [x] <+: zs → I pre W → Ax x a' W → body.wpIn (Fence.wide.inRound l) (n - 1 - 1) P (ownPostG w.heap.size (Kep n₀ S) I Ix (pre ++ [x]) W) a' W)
    (hdone : ∀ (W : World), I zs W → Q .normal a W)
    (hstop : ∀ (c : Code) (pre : List α) (W : World), pre <+: zs → Ix c pre W → c.wpIn (Fence.wide.inRound l₀) n P Q a W) :
    (Code.rangeFunc g ps assign body).wpIn (Fence.wide.inRound l₀) n P Q a w :=
  it_core (some l₀) (l := w.heap.size) (d := r₀.defers) (B := w.heap.size) (mark := []) (w0 := w) (Wf := fun fn => w.alloc (.loop (recd fn a ps assign body r₀.defers .ready none))) hg eg hseq (fun fn => run_enterLoop_inner hl₀ _ _ _ _ _)
    (fun fn => World.alloc_heap_new w _) (fun fn => by simp) (fun fn => (Below.refl _ w).alloc (Nat.le_refl _) _) (by omega) (Nat.le_refl _) (Nat.le_refl _) hn hps I Ix hI hIx (fun fn => hI.alloc _ h0) Ax hAx
    (fun pre x W K hpx _ hi hK => hassign _ pre x W K hpx hi hK) (fun pre x a' W hl hpx hsz hi hax => hbody _ pre x a' W ⟨Nat.le_refl _, hsz⟩ hl hpx hi hax) hdone hstop

end Go.Proofs.YtmgoahbloppdmaaGreat

/-
  A graph with a depth-first forest of it, as the program holds it: where half-edges begin and end, and which lead back.
-/
namespace Go.Proofs.YtmgoahbloppdmaaGreat
open Go.RowKit

/-- Block p holds the graph's Adj and the forest's lists. -/
structure Wd (w : World) (p : Nat) (av : Value) (n : Nat) (es : List (Int × Int)) (f : For) (s : Df.St) : Prop where
  blk : w.heap[p]? = some (.cells #[av, .slice f.a1 n f.c1, .slice f.a2 n f.c2, .slice f.a3 n f.c3, .slice f.a4 es.length f.c4] 63 (0, 0))
  adj : IsAdj w av n es
  val : Si.Val n es
  lst : LstF w f s
  vf : Df.VF n es s

section
variable {w w' : World} {p : Nat} {av : Value} {n : Nat} {es : List (Int × Int)} {f : For} {s : Df.St}

theorem Wd.lt (h : Wd w p av n es f s) : p < w.heap.size := lt_of_block h.blk
theorem Wd.later (h : Wd w p av n es f s) (hb : Below w.heap.size w w') : Wd w' p av n es f s := ⟨(hb.block p h.lt).trans h.blk, h.adj.later hb, h.val, h.lst.later hb, h.vf⟩
theorem Wd.c0 (h : Wd w p av n es f s) : w.cell? ⟨p, 0, none⟩ = some av := by simp [World.cell?, h.blk]
theorem Wd.c1 (h : Wd w p av n es f s) : w.cell? ⟨p, 1, none⟩ = some (.slice f.a1 n f.c1) := by simp [World.cell?, h.blk]
theorem Wd.c2 (h : Wd w p av n es f s) : w.cell? ⟨p, 2, none⟩ = some (.slice f.a2 n f.c2) := by simp [World.cell?, h.blk]
theorem Wd.c3 (h : Wd w p av n es f s) : w.cell? ⟨p, 3, none⟩ = some (.slice f.a3 n f.c3) := by simp [World.cell?, h.blk]
theorem Wd.c4 (h : Wd w p av n es f s) : w.cell? ⟨p, 4, none⟩ = some (.slice f.a4 es.length f.c4) := by simp [World.cell?, h.blk]
theorem Wd.free (h : Wd w p av n es f s) (i : Nat) : w.frozen? ⟨p, i, none⟩ = false := by simp [World.frozen?, h.blk]

/-- The places of the lists, and what they hold. -/
theorem Wd.hei (h : Wd w p av n es f s) {v : Nat} (hv : v < n) : ∃ b o, f.a2 = some ⟨b, o, none⟩ ∧ ∀ W, Below w.heap.size w W → ∀ i, i < n → W.cell? ⟨b, o + i, none⟩ = some (.int .i64 (Df.at_ s.hei i)) := by
  have l := h.vf.lens
  obtain ⟨b, o, e, -⟩ := lst_at h.lst.l2 (i := v) (by rw [l.2.1]; exact hv)
  refine ⟨b, o, e, fun W hW i hi => ?_⟩
  obtain ⟨b', o', e', d'⟩ := lst_at (h.lst.later hW).l2 (i := i) (by rw [l.2.1]; exact hi)
  rw [e] at e'
  cases e'
  exact d'
theorem Wd.par (h : Wd w p av n es f s) {v : Nat} (hv : v < n) : ∃ b o, f.a1 = some ⟨b, o, none⟩ ∧ ∀ W, Below w.heap.size w W → ∀ i, i < n → W.cell? ⟨b, o + i, none⟩ = some (.int .i64 (Df.at_ s.par i)) := by
  have l := h.vf.lens
  obtain ⟨b, o, e, -⟩ := lst_at h.lst.l1 (i := v) (by rw [l.1]; exact hv)
  refine ⟨b, o, e, fun W hW i hi => ?_⟩
  obtain ⟨b', o', e', d'⟩ := lst_at (h.lst.later hW).l1 (i := i) (by rw [l.1]; exact hi)
  rw [e] at e'
  cases e'
  exact d'
theorem Wd.ord (h : Wd w p av n es f s) {v : Nat} (hv : v < n) : ∃ b o, f.a3 = some ⟨b, o, none⟩ ∧ ∀ W, Below w.heap.size w W → ∀ i, i < n → W.cell? ⟨b, o + i, none⟩ = some (.int .i64 (Df.at_ s.ord i)) := by
  have l := h.vf.lens
  obtain ⟨b, o, e, -⟩ := lst_at h.lst.l3 (i := v) (by rw [l.2.2.1]; exact hv)
  refine ⟨b, o, e, fun W hW i hi => ?_⟩
  obtain ⟨b', o', e', d'⟩ := lst_at (h.lst.later hW).l3 (i := i) (by rw [l.2.2.1]; exact hi)
  rw [e] at e'
  cases e'
  exact d'
theorem Wd.ori (h : Wd w p av n es f s) {v : Nat} (hv : v < es.length) : ∃ b o, f.a4 = some ⟨b, o, none⟩ ∧ ∀ W, Below w.heap.size w W → ∀ i, i < es.length → W.cell? ⟨b, o + i, none⟩ = some (.int .i64 (Df.at_ s.ori i)) := by
  have l := h.vf.lens
  obtain ⟨b, o, e, -⟩ := lst_at h.lst.l4 (i := v) (by rw [l.2.2.2]; exact hv)
  refine ⟨b, o, e, fun W hW i hi => ?_⟩
  obtain ⟨b', o', e', d'⟩ := lst_at (h.lst.later hW).l4 (i := i) (by rw [l.2.2.2]; exact hi)
  rw [e] at e'
  cases e'
  exact d'

set_option maxRecDepth 100000 in
set_option maxHeartbeats 16000000 in
theorem begins_any (i : Nat) (hi : i < 2 * es.length) (h : Wd w p av n es f s) :
    Calls Tryz.prog 37 #[.pointer (some ⟨p, 0, none⟩), .int .i64 (i : Int)] w fun e w' => e = .returned (.int .i64 (Df.at_ s.hei (Cs.fr es i))) ∧ Below w.heap.size w w' := by
  have hl := Cs.half_lt h.val hi
  obtain ⟨b, o, ef, hc⟩ := h.hei hl.1
  have c0 : ∀ D : LW w, D.val.cell? ⟨p, 0, none⟩ = some av := fun D => (h.later D.h).c0
  have c2 : ∀ D : LW w, D.val.cell? ⟨p, 2, none⟩ = some (.slice (some ⟨b, o, none⟩) n f.c2) := fun D => by have := (h.later D.h).c2; rwa [ef] at this
  have d2 : ∀ D : LW w, D.val.cell? ⟨b, o + Cs.fr es i, none⟩ = some (.int .i64 (Df.at_ s.hei (Cs.fr es i))) := fun D => hc D.val D.h _ hl.1
  have HFR : Hid (∀ D : LW w, Calls Tryz.prog 41 #[av, .int .i64 (i : Int)] D.val fun e w' => e = .returned (.int .i64 (Cs.fr es i : Int)) ∧ Below D.val.heap.size D.val w') := fun D => (from_any av n es (i : Int) D.val (h.later D.h).adj).mono fun e w' ⟨he, hw⟩ => ⟨by rw [he, Cs.frI_in hi], by rw [hw]; exact Below.refl _ _⟩
  obtain ⟨t, ht⟩ : ∃ t, Cs.fr es i = t := ⟨_, rfl⟩
  obtain ⟨z, hz⟩ : ∃ z, Df.at_ s.hei t = z := ⟨_, rfl⟩
  rw [ht, hz] at d2
  rw [ht] at HFR
  rw [ht, hz]
  have t0 : (0 : Int) ≤ (t : Int) := by omega
  have t1 : (t : Int) < (n : Int) := by have := hl.1; rw [ht] at this; omega
  have hne := LW.any w
  clear hl hc h ef ht hz hi
  go_enter Tryz.func37, Tryz.ntmps37
  go_wp2_with fail
  refine wp_region_lw (by kernel_rfl) (by kernel_rfl) ?_
  repeat (go_big_quiet_step ((first | (go_at_call 41; exact Calls.lw (HFR.out _)))))
  refine wpQuiet_nil ?_
  rintro _ ⟨D, rfl⟩
  go_wp2
  go_ret
  exact ⟨rfl, D.h⟩

set_option maxRecDepth 100000 in
set_option maxHeartbeats 16000000 in
theorem ends_any (i : Nat) (hi : i < 2 * es.length) (h : Wd w p av n es f s) :
    Calls Tryz.prog 47 #[.pointer (some ⟨p, 0, none⟩), .int .i64 (i : Int)] w fun e w' => e = .returned (.int .i64 (Df.at_ s.hei (Cs.to es i))) ∧ Below w.heap.size w w' := by
  have hl := Cs.half_lt h.val hi
  obtain ⟨b, o, ef, hc⟩ := h.hei hl.2
  have c0 : ∀ D : LW w, D.val.cell? ⟨p, 0, none⟩ = some av := fun D => (h.later D.h).c0
  have c2 : ∀ D : LW w, D.val.cell? ⟨p, 2, none⟩ = some (.slice (some ⟨b, o, none⟩) n f.c2) := fun D => by have := (h.later D.h).c2; rwa [ef] at this
  have d2 : ∀ D : LW w, D.val.cell? ⟨b, o + Cs.to es i, none⟩ = some (.int .i64 (Df.at_ s.hei (Cs.to es i))) := fun D => hc D.val D.h _ hl.2
  have HFR : Hid (∀ D : LW w, Calls Tryz.prog 46 #[av, .int .i64 (i : Int)] D.val fun e w' => e = .returned (.int .i64 (Cs.to es i : Int)) ∧ Below D.val.heap.size D.val w') := fun D => (to_any av n es (i : Int) D.val (h.later D.h).adj).mono fun e w' ⟨he, hw⟩ => ⟨by rw [he, Cs.toI_in hi], by rw [hw]; exact Below.refl _ _⟩
  obtain ⟨t, ht⟩ : ∃ t, Cs.to es i = t := ⟨_, rfl⟩
  obtain ⟨z, hz⟩ : ∃ z, Df.at_ s.hei t = z := ⟨_, rfl⟩
  rw [ht, hz] at d2
  rw [ht] at HFR
  rw [ht, hz]
  have t0 : (0 : Int) ≤ (t : Int) := by omega
  have t1 : (t : Int) < (n : Int) := by have := hl.2; rw [ht] at this; omega
  have hne := LW.any w
  clear hl hc h ef ht hz hi
  go_enter Tryz.func47, Tryz.ntmps47
  go_wp2_with fail
  refine wp_region_lw (by kernel_rfl) (by kernel_rfl) ?_
  repeat (go_big_quiet_step ((first | (go_at_call 46; exact Calls.lw (HFR.out _)))))
  refine wpQuiet_nil ?_
  rintro _ ⟨D, rfl⟩
  go_wp2
  go_ret
  exact ⟨rfl, D.h⟩

set_option maxRecDepth 100000 in
set_option maxHeartbeats 16000000 in
theorem back1_any (i : Nat) (hi : i < 2 * es.length) (h : Wd w p av n es f s) :
    Calls Tryz.prog 44 #[.pointer (some ⟨p, 0, none⟩), .int .i64 (i : Int)] w fun e w' => e = .returned (.bool (Df.at_ s.par (Cs.to es i) != (i : Int))) ∧ Below w.heap.size w w' := by
  have hl := Cs.half_lt h.val hi
  obtain ⟨b, o, ef, hc⟩ := h.par hl.2
  have c0 : ∀ D : LW w, D.val.cell? ⟨p, 0, none⟩ = some av := fun D => (h.later D.h).c0
  have c1 : ∀ D : LW w, D.val.cell? ⟨p, 1, none⟩ = some (.slice (some ⟨b, o, none⟩) n f.c1) := fun D => by have := (h.later D.h).c1; rwa [ef] at this
  have d2 : ∀ D : LW w, D.val.cell? ⟨b, o + Cs.to es i, none⟩ = some (.int .i64 (Df.at_ s.par (Cs.to es i))) := fun D => hc D.val D.h _ hl.2
  have HFR : Hid (∀ D : LW w, Calls Tryz.prog 46 #[av, .int .i64 (i : Int)] D.val fun e w' => e = .returned (.int .i64 (Cs.to es i : Int)) ∧ Below D.val.heap.size D.val w') := fun D => (to_any av n es (i : Int) D.val (h.later D.h).adj).mono fun e w' ⟨he, hw⟩ => ⟨by rw [he, Cs.toI_in hi], by rw [hw]; exact Below.refl _ _⟩
  obtain ⟨t, ht⟩ : ∃ t, Cs.to es i = t := ⟨_, rfl⟩
  obtain ⟨z, hz⟩ : ∃ z, Df.at_ s.par t = z := ⟨_, rfl⟩
  rw [ht, hz] at d2
  rw [ht] at HFR
  rw [ht, hz]
  have t0 : (0 : Int) ≤ (t : Int) := by omega
  have t1 : (t : Int) < (n : Int) := by have := hl.2; rw [ht] at this; omega
  have hne := LW.any w
  clear hl hc h ef ht hz hi
  go_enter Tryz.func44, Tryz.ntmps44
  go_wp2_with fail
  refine wp_region_lw (by kernel_rfl) (by kernel_rfl) ?_
  repeat (go_big_quiet_step ((first | (go_at_call 46; exact Calls.lw (HFR.out _)))))
  refine wpQuiet_nil ?_
  rintro _ ⟨D, rfl⟩
  go_wp2
  go_ret
  exact ⟨rfl, D.h⟩

/-- Where from's answer finds its graph and its vertex. -/
def FromPost (p : Nat) (v : Int) (w : World) (e : Ending) (w' : World) : Prop :=
  ∃ Bw Bv, e = .returned (.func (.func 58) #[] #[.pointer (some ⟨Bw, 0, none⟩), .pointer (some ⟨Bv, 0, none⟩)]) ∧ w.heap.size ≤ Bw ∧ w.heap.size ≤ Bv ∧
    Boxed w' Bw 54 (.pointer (some ⟨p, 0, none⟩)) ∧ Boxed w' Bv 3 (.int .i64 v) ∧ Below w.heap.size w w'

theorem wfrom_any (p : Nat) (v : Int) (w : World) : Calls Tryz.prog 35 #[.pointer (some ⟨p, 0, none⟩), .int .i64 v] w (FromPost p v w) := by
  go_enter Tryz.func35, Tryz.ntmps35
  go_wp2
  go_ret
  refine ⟨w.heap.size, w.heap.size + 1, rfl, Nat.le_refl _, by omega, (Boxed.new w _ _).alloc _, ?_, ((Below.refl _ _).alloc (Nat.le_refl _) _).alloc (by simp) _⟩
  have := Boxed.new (w.alloc (.cells #[.pointer (some ⟨p, 0, none⟩)] 54)) 3 (.int .i64 v)
  rwa [World.size_alloc] at this

end
end Go.Proofs.YtmgoahbloppdmaaGreat
