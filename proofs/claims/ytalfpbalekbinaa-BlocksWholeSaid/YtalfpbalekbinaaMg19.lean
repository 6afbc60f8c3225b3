import Derived.Test.YtalfpbalekbinaaMg00
import Derived.RangeFuncNested
import Derived.RangeFuncBound
import Derived.RangeFuncCalls
import Derived.RangeFuncLeaves
import Derived.RangeFuncBox
import Derived.Shelf.Abstract
import Derived.Shelf.RegionOpen
import Derived.OwnWalkIn
import Derived.TacticsInMore
import Derived.LoopNIn
import Derived.LoopIn
import Derived.Maps.AppendAt
import Derived.Test.YtalfpbalekbinaaMg18
/-
  A range over an iterator that itself ranges over another: what an iterator over a given list owes, and the law for the loop that goes over it.
-/
namespace Go.Proofs.Ytalfpbalekbinaa
open Go.RowKit Go.Shelf

/-- What lay below n₀ lies as it lay, and so do all cells but those of the blocks in S. -/
def Kep (n₀ : Nat) (S : Nat → Prop) (W W' : World) : Prop := Below n₀ W W' ∧ ∀ (b : Nat) (o : Obj), W.heap[b]? = some o → o.isCells = true → ¬ S b → W'.heap[b]? = some o

section
variable {n₀ : Nat} {S : Nat → Prop} {A B C W W' : World}

theorem Kep.refl (n₀ : Nat) (S : Nat → Prop) (W : World) : Kep n₀ S W W := ⟨Below.refl _ _, fun _ _ h _ _ => h⟩
theorem Kep.trans (h : Kep n₀ S A B) (k : Kep n₀ S B C) : Kep n₀ S A C := ⟨h.1.trans k.1, fun b o hb ho hs => k.2 b o (h.2 b o hb ho hs) ho hs⟩
theorem Kep.cell (h : Kep n₀ S W W') {a : Addr} {v : Value} (hc : W.cell? a = some v) (hs : ¬ S a.block) : W'.cell? a = some v := by
  obtain ⟨o, ho, hcl⟩ := cells_of_cell hc
  exact (World.cell?_of_block ((h.2 _ _ ho hcl hs).trans ho.symm)).trans hc
theorem Kep.boxed (h : Kep n₀ S W W') {b : Nat} {t : TypeId} {v : Value} (hb : Boxed W b t v) (hs : ¬ S b) : Boxed W' b t v := h.2 b _ hb rfl hs
theorem Kep.grow (h : Kep n₀ S A B) (hb : Below B.heap.size B C) (hn : n₀ ≤ B.heap.size) : Kep n₀ S A C := ⟨h.1.trans (hb.mono hn), fun b o hA ho hs => by
  have := h.2 b o hA ho hs
  exact (hb.block b (Array.getElem?_eq_some_iff.1 this).1).trans this⟩
theorem Kep.set (h : Kep n₀ S A B) {p : Addr} (hn : n₀ ≤ p.block) (hs : S p.block) (v : Value) : Kep n₀ S A (B.setCell p v) := ⟨h.1.setCell hn v, fun b o hA ho hb => by
  have := h.2 b o hA ho hb
  exact (Below.heap_setCell B p v b (fun e => hb (by rw [e]; exact hs))).trans this⟩
theorem Kep.put (hn : n₀ ≤ A.heap.size) {l : Nat} {o o' : Obj} (hl : A.heap.size ≤ l) (h : W.heap[l]? = some o) (h1 : o.isCells = false) (h2 : o.isWalk = false) : Kep n₀ S W (W.putObj l o') :=
  ⟨belowK_b (w := A) hn W l o o' hl h h1 h2, fun b o2 hb ho _ => by
    have : b ≠ l := fun e => by subst e; rw [h] at hb; cases hb; rw [h1] at ho; cases ho
    exact (World.putObj_heap_other this).trans hb⟩
/-- It abides the turn of a block that is no cells. -/
theorem Kep.own {β : Type} {B' : Nat} (hn : n₀ ≤ A.heap.size) (hB : n₀ ≤ B') : OwnFrom B' (fun (_ : β) W => Kep n₀ S A W) := fun _ X Y row hs hg hr =>
  ⟨hs.1.grown hg (Nat.le_trans hn hs.1.size) (fun k e => by have := (hr k e).1; omega), fun b o hb ho hS => by
    have hX := hs.2 b o hb ho hS
    refine (hg.block b (Array.getElem?_eq_some_iff.1 hX).1 (fun e => ?_)).trans hX
    obtain ⟨_, o', ho', hc⟩ := hr b e.symm
    rw [hX] at ho'
    cases ho'
    rw [ho] at hc
    cases hc⟩

theorem kf_mono {B₁ B₂ : Nat} (h : KeepsFrom B₁ W W') (hB : B₁ ≤ B₂) : KeepsFrom B₂ W W' := ⟨h.size, fun k o hk h0 ho => h.same k o (Nat.le_trans hB hk) h0 ho⟩
theorem kf_put {B₁ l : Nat} (hl : l < B₁) (o : Obj) (W : World) : KeepsFrom B₁ W (W.putObj l o) := ⟨by simp, fun k o' hk h0 _ => (World.putObj_heap_other (by omega)).trans h0⟩
end

theorem RoundIn.deep {m m' : Nat} {P : Program} {l : Nat} {f : FuncId} {tmps : Array Value} {assign body : Code} {w : World} {R : Ending → World → Prop} (h : RoundIn Fence.wide m P l f tmps assign body w R) : RoundIn Fence.wide m' P l f tmps assign body w R :=
  ⟨h.1, fun c cs _ => h.2 c cs (room_wide _)⟩

/-- An iterator that gives zs, one by one: whatever the loop over it holds between its rounds; a round may say 'no more'. Ahead of its first round it has laid m blocks. -/
def SeqIt {α : Type} (P : Program) (g : Nat) (lb : Array Value) (encs : α → Array Value) (n₀ : Nat) (S : Nat → Prop) (zs : List α) (w : World) (m : Nat) : Prop :=
  ∀ (l : Nat) (J Jx : List α → World → Prop) (W : World), Below w.heap.size w W → W.heap.size ≤ w.heap.size + 2 → OwnFrom W.heap.size J → OwnFrom W.heap.size Jx →
    (∀ pre x W1, pre ++ [x] <+: zs → J pre W1 → W.heap.size + m ≤ W1.heap.size → ∀ d, YieldAt Fence.wide d P l (encs x) W1 fun e W' => KeepsFrom W.heap.size W1 W' ∧
      ((e = .returned (.bool true) ∧ J (pre ++ [x]) W' ∧ Kep n₀ S W1 W') ∨ (e = .returned (.bool false) ∧ Jx (pre ++ [x]) W'))) →
    J [] W → Calls P g (#[.func (.yield l) #[] #[]] ++ lb) W fun e W' => (∃ v, e = .returned v) ∧ (J zs W' ∨ ∃ pre, pre <+: zs ∧ Jx pre W')

/-- The fence of a walk in a round, or in none. -/
abbrev wideR (ro : Option Nat) : Fence := { Fence.wide with round := ro }

/-- A loop's record. -/
abbrev recd (fn : FuncId) (a : Act) (ps : Array Tmp) (assign body : Code) (d : Nat) (st : LoopState) (pe : Option Code) : Loop := { state := st, pending := pe, fn, tmps := a.tmps, params := ps, assign, body, defers := d }

/-- The law, whatever lies around the loop. -/
theorem it_core {α : Type} (ro : Option Nat) {n : Nat} {P : Program} {g : Operand} {ps : Array Tmp} {assign body : Code} {Q : Exit → Act → World → Prop} {a : Act} {w : World} {l d B : Nat} {mark : List Deferred} {Wf : Nat → World}
    {gf : Nat} {lb : Array Value} (hg : a.eval g = .func (.func gf) #[] lb) (eg : ∀ args w, (callFunc gf args).run P w = .ok (.enter gf args) w)
    {encs : α → Array Value} {n₀ : Nat} {S : Nat → Prop} {zs : List α} {w0 : World} {m : Nat} (hseq : SeqIt P gf lb encs n₀ S zs w0 m)
    (hen : ∀ fn, (Instr.enterLoop fn a.tmps ps assign body ro).run P w = .ok (l, mark) (Wf fn)) (hrec : ∀ fn, (Wf fn).heap[l]? = some (.loop (recd fn a ps assign body d .ready none)))
    (hlast : ∀ fn, (Wf fn).heap.size = l + 1) (hbl : ∀ fn, Below w0.heap.size w0 (Wf fn)) (hls : l + 1 ≤ w0.heap.size + 2) (hlw : w.heap.size ≤ l) (hBl : B ≤ l) (hn : n₀ ≤ w.heap.size) (hps : ∀ x, (encs x).size = ps.size)
    (I : List α → World → Prop) (Ix : Code → List α → World → Prop) (hI : OwnFrom l I) (hIx : ∀ c, OwnFrom l (Ix c)) (h0 : ∀ fn, I [] (Wf fn)) (Ax : α → Act → World → Prop) (hAx : ∀ x a', OwnFrom l (fun (_ : Unit) W => Ax x a' W))
    (hassign : ∀ (pre : List α) (x : α) (W : World) (K : Act → World → Prop), pre ++ [x] <+: zs → l + 1 + m ≤ W.heap.size → I pre W → (∀ a' W', KeepsFrom B W W' → Kep n₀ S W W' → I pre W' → Ax x a' W' → K a' W') →
      assign.wpIn (Fence.wide.inRound l) (n - 1 - 1) P (Exit.then K (fun _ _ _ => False)) { tmps := (ps.zip (encs x)).foldl (fun t (p, v) => t.setIfInBounds p v) a.tmps, defers := [] } W)
    (hbody : ∀ (pre : List α) (x : α) (a' : Act) (W : World), (∃ r, W.heap[l]? = some (.loop r)) → pre ++ [x] <+: zs → l + 1 + m ≤ W.heap.size → I pre W → Ax x a' W → body.wpIn (Fence.wide.inRound l) (n - 1 - 1) P (ownPostG B (Kep n₀ S) I Ix (pre ++ [x]) W) a' W)
    (hdone : ∀ (W : World), I zs W → Q .normal { a with defers := mark ++ a.defers } W)
    (hstop : ∀ (c : Code) (pre : List α) (W : World), pre <+: zs → Ix c pre W → c.wpIn (wideR ro) n P Q { a with defers := mark ++ a.defers } W) :
    (Code.rangeFunc g ps assign body).wpIn (wideR ro) n P Q a w := by
  refine wpIn_rangeFunc ?_
  intro fn _
  have hsz := hlast fn
  refine ⟨l, mark, Wf fn, { target := .fn (.func gf) lb, args := #[.func (.yield l) #[] #[]] }, Wf fn, gf, #[.func (.yield l) #[] #[]] ++ lb, Wf fn, hen fn, ?_, fun _ _ => trivial, ?_, (fun h => by cases h), ?_⟩
  · simp only [resolve, hg]
    simp [go_sem]
  · simp [invoke, go_sem, eg]
  refine CallsIn.mono (R := fun e W' => (∃ v, e = .returned v) ∧ ((I zs W' ∧ W'.heap[l]? = some (.loop (recd fn a ps assign body d .ready none))) ∨ ∃ pre, pre <+: zs ∧ ∃ c, Ix c pre W' ∧ W'.heap[l]? = some (.loop (recd fn a ps assign body d .done (some c))))) ?_ ?_
  · have hcall := hseq l (fun pre W => I pre W ∧ W.heap[l]? = some (.loop (recd fn a ps assign body d .ready none)))
      (fun pre W => ∃ c, Ix c pre W ∧ W.heap[l]? = some (.loop (recd fn a ps assign body d .done (some c)))) (Wf fn) (hbl fn) (by omega)
      (fun s X Y row hs hg' hr => ⟨hI s X Y row hs.1 hg' (fun r e => ⟨by have := (hr r e).1; omega, (hr r e).2⟩), (hg'.block l (Array.getElem?_eq_some_iff.1 hs.2).1 (fun e => by have := (hr l e.symm).1; omega)).trans hs.2⟩)
      (fun s X Y row ⟨c, hc, hl⟩ hg' hr => ⟨c, hIx c s X Y row hc hg' (fun r e => ⟨by have := (hr r e).1; omega, (hr r e).2⟩), (hg'.block l (Array.getElem?_eq_some_iff.1 hl).1 (fun e => by have := (hr l e.symm).1; omega)).trans hl⟩)
      ?_ ⟨h0 fn, hrec fn⟩
    · exact (callsIn_wide (n := n - 1)).2 hcall
    · rintro pre x W hpx ⟨hi, hl⟩ hW dd
      have hy := run_yield (P := P) (args := encs x) hl (hps x)
      refine ⟨fn, _, assign, body, hy, RoundIn.deep (m := n - 1 - 1) ?_⟩
      refine roundIn_of_wpIn (F := Fence.wide) trivial (hassign pre x W _ hpx (by omega) hi ?_)
      clear hy
      intro a' Wa hkfa hkpa hia hax
      have hla := hkfa.same _ _ hBl hl rfl
      have hlta : l < Wa.heap.size := (Array.getElem?_eq_some_iff.1 hla).1
      refine ⟨_, run_beginRound hla rfl, ?_⟩
      obtain ⟨W2, hW2⟩ : ∃ W2, W2 = Wa.putObj l (.loop { recd fn a ps assign body d .ready none with state := .busy }) := ⟨_, rfl⟩
      have hl2 : W2.heap[l]? = some (.loop { recd fn a ps assign body d .ready none with state := .busy }) := by rw [hW2]; exact World.putObj_heap_same hlta
      have hk2 : Kep n₀ S Wa W2 := by rw [hW2]; exact Kep.put hn hlw hla rfl rfl
      have hf2 : KeepsFrom (l + 1) Wa W2 := by rw [hW2]; exact kf_put (Nat.lt_succ_self _) _ _
      have hi2 : I pre W2 := by rw [hW2]; exact hI.putObj _ hia (Nat.le_refl _) hla rfl
      have hx2 : Ax x a' W2 := by rw [hW2]; exact (hAx x a').putObj (s := ()) _ hax (Nat.le_refl _) hla rfl
      rw [← hW2]
      have hsz2 : W.heap.size ≤ W2.heap.size := Nat.le_trans hkfa.size hf2.size
      refine wpIn_mono (hbody pre x a' W2 ⟨_, hl2⟩ hpx (by omega) hi2 hx2) ?_
      have fin : ∀ (jump : Option Code) (W3 : World), KeepsFrom B W2 W3 → ∃ W4, (Instr.endRound l jump).run P W3 = .ok (.bool jump.isNone) W4 ∧ W4 = W3.putObj l (.loop (recd fn a ps assign body d (if jump.isNone then .ready else .done) jump)) ∧
          W3.heap[l]? = some (.loop { recd fn a ps assign body d .ready none with state := .busy }) ∧ W4.heap[l]? = some (.loop (recd fn a ps assign body d (if jump.isNone then .ready else .done) jump)) ∧ KeepsFrom (Wf fn).heap.size W W4 := fun jump W3 hk3 => by
        have hl3 := hk3.same _ _ hBl hl2 rfl
        refine ⟨_, run_endRound (P := P) jump hl3, rfl, hl3, World.putObj_heap_same (Array.getElem?_eq_some_iff.1 hl3).1, ?_⟩
        rw [hsz]
        exact (((kf_mono hkfa (by omega)).trans hf2).trans (kf_mono hk3 (by omega))).trans (kf_put (Nat.lt_succ_self _) _ _)
      rintro e a3 W3 hp
      cases e with
      | normal =>
        obtain ⟨hk3, hkp3, hi3⟩ := hp
        obtain ⟨W4, hr, e4, hl3, hl4, hf4⟩ := fin none W3 hk3
        refine ⟨_, _, hr, hf4, .inl ⟨rfl, ⟨?_, hl4⟩, ?_⟩⟩
        · rw [e4]; exact hI.putObj _ hi3 (Nat.le_refl _) hl3 rfl
        · rw [e4]; exact ((hkpa.trans hk2).trans hkp3).trans (Kep.put hn hlw hl3 rfl rfl)
      | ret =>
        obtain ⟨hk3, hi3⟩ := hp
        obtain ⟨W4, hr, e4, hl3, hl4, hf4⟩ := fin (some .ret) W3 hk3
        exact ⟨_, _, hr, hf4, .inr ⟨rfl, .ret, by rw [e4]; exact (hIx _).putObj _ hi3 (Nat.le_refl _) hl3 rfl, hl4⟩⟩
      | exit id =>
        obtain ⟨hk3, hi3⟩ := hp
        obtain ⟨W4, hr, e4, hl3, hl4, hf4⟩ := fin (some (.exit id)) W3 hk3
        exact ⟨_, _, hr, hf4, .inr ⟨rfl, .exit id, by rw [e4]; exact (hIx _).putObj _ hi3 (Nat.le_refl _) hl3 rfl, hl4⟩⟩
      | goto t =>
        obtain ⟨hk3, hi3⟩ := hp
        obtain ⟨W4, hr, e4, hl3, hl4, hf4⟩ := fin (some (.goto t)) W3 hk3
        exact ⟨_, _, hr, hf4, .inr ⟨rfl, .goto t, by rw [e4]; exact (hIx _).putObj _ hi3 (Nat.le_refl _) hl3 rfl, hl4⟩⟩
      | panic ch => exact hp.elim
      | outgrown => exact hp.elim
  · rintro e W2 ⟨⟨v, rfl⟩, (⟨hi, hl⟩ | ⟨pre, hpre, c, hi, hl⟩)⟩
    · exact ⟨none, _, run_endLoop (P := P) hl (by simp), hdone _ (hI.putObj _ hi (Nat.le_refl _) hl rfl)⟩
    · exact ⟨some c, _, run_endLoop (P := P) hl (by simp), hstop c pre _ hpre ((hIx c).putObj _ hi (Nat.le_refl _) hl rfl)⟩

/-- The law, of a loop in no round. -/
theorem it_out {α : Type} {n : Nat} {P : Program} {g : Operand} {ps : Array Tmp} {assign body : Code} {Q : Exit → Act → World → Prop} {a : Act} {w : World}
    {gf : Nat} {lb : Array Value} (hg : a.eval g = .func (.func gf) #[] lb) (eg : ∀ args w, (callFunc gf args).run P w = .ok (.enter gf args) w)
    {encs : α → Array Value} {n₀ : Nat} {S : Nat → Prop} {zs : List α} {m : Nat} (hseq : SeqIt P gf lb encs n₀ S zs w m) (hn : n₀ ≤ w.heap.size) (hps : ∀ x, (encs x).size = ps.size)
    (I : List α → World → Prop) (Ix : Code → List α → World → Prop) (hI : OwnFrom w.heap.size I) (hIx : ∀ c, OwnFrom w.heap.size (Ix c)) (h0 : I [] w) (Ax : α → Act → World → Prop) (hAx : ∀ x a', OwnFrom w.heap.size (fun (_ : Unit) W => Ax x a' W))
    (hassign : ∀ (l : Nat) (pre : List α) (x : α) (W : World) (K : Act → World → Prop), pre ++ [x] <+: zs → I pre W → (∀ a' W', KeepsFrom w.heap.size W W' → Kep n₀ S W W' → I pre W' → Ax x a' W' → K a' W') →
      assign.wpIn (Fence.wide.inRound l) (n - 1 - 1) P (Exit.then K (fun _ _ _ => False)) { tmps := (ps.zip (encs x)).foldl (fun t (p, v) => t.setIfInBounds p v) a.tmps, defers := [] } W)
    (hbody : ∀ (l : Nat) (pre : List α) (x : α) (a' : Act) (W : World), w.heap.size ≤ l ∧ w.heap.size + 2 + m ≤ W.heap.size → (∃ r, W.heap[l]? = some (.loop r)) → pre ++ [x] <+: zs → I pre W → Ax x a' W → body.wpIn (Fence.wide.inRound l) (n - 1 - 1) P (ownPostG w.heap.size (Kep n₀ S) I Ix (pre ++ [x]) W) a' W)
    (hdone : ∀ (D : Nat) (W : World), w.heap.size ≤ D → I zs W → W.heap[D]? = some (.deferred (some [])) → Q .normal { a with defers := { target := .collected D, args := #[] } :: a.defers } W)
    (hstop : ∀ (D : Nat) (c : Code) (pre : List α) (W : World), w.heap.size ≤ D → pre <+: zs → Ix c pre W → W.heap[D]? = some (.deferred (some [])) → c.wpIn Fence.wide n P Q { a with defers := { target := .collected D, args := #[] } :: a.defers } W) :
    (Code.rangeFunc g ps assign body).wpIn Fence.wide n P Q a w := by
  have up : ∀ {β : Type} {J : β → World → Prop}, OwnFrom w.heap.size J → OwnFrom (w.heap.size + 1) J := fun hJ s X Y row hs hg' hr => hJ s X Y row hs hg' (fun r e => ⟨by have := (hr r e).1; omega, (hr r e).2⟩)
  have dO : ∀ {X Y : World} {row : Option Nat}, X.heap[w.heap.size]? = some (.deferred (some [])) → X.grownBy Y row → (∀ r, row = some r → w.heap.size + 1 ≤ r ∧ ∃ o : Obj, X.heap[r]? = some o ∧ o.isCells = false) → Y.heap[w.heap.size]? = some (.deferred (some [])) := fun hk hg' hr =>
    (hg'.block _ (Array.getElem?_eq_some_iff.1 hk).1 (fun e => by have := (hr _ e.symm).1; omega)).trans hk
  have hkk : ∀ {X Y : World}, KeepsFrom w.heap.size X Y → X.heap[w.heap.size]? = some (.deferred (some [])) → Y.heap[w.heap.size]? = some (.deferred (some [])) := fun h hk => h.same _ _ (Nat.le_refl _) hk rfl
  refine it_core none (l := w.heap.size + 1) (d := w.heap.size) (B := w.heap.size) (mark := [{ target := .collected w.heap.size, args := #[] }]) (w0 := w)
    (Wf := fun fn => (w.alloc (.deferred (some []))).alloc (.loop (recd fn a ps assign body w.heap.size .ready none))) hg eg hseq (fun fn => run_enterLoop_outer _ _ _ _ _)
    (fun fn => by have := World.alloc_heap_new (w.alloc (.deferred (some []))) (.loop (recd fn a ps assign body w.heap.size .ready none)); rwa [World.size_alloc] at this)
    (fun fn => by simp) (fun fn => (((Below.refl _ w).alloc (Nat.le_refl _) _).alloc (by simp) _)) (by omega) (by omega) (by omega) hn hps
    (fun pre W => I pre W ∧ W.heap[w.heap.size]? = some (.deferred (some []))) (fun c pre W => Ix c pre W ∧ W.heap[w.heap.size]? = some (.deferred (some [])))
    (fun s X Y row hs hg' hr => ⟨up hI s X Y row hs.1 hg' hr, dO hs.2 hg' hr⟩) (fun c s X Y row hs hg' hr => ⟨up (hIx c) s X Y row hs.1 hg' hr, dO hs.2 hg' hr⟩)
    (fun fn => ⟨hI.alloc _ (hI.alloc _ h0), (Below.heap_alloc _ _ _ (by simp)).trans (World.alloc_heap_new w _)⟩) Ax (fun x a' => up (hAx x a'))
    (fun pre x W K hpx _ hi hK => hassign _ pre x W K hpx hi.1 (fun a' W' h1 h2 h3 h4 => hK a' W' h1 h2 ⟨h3, hkk h1 hi.2⟩ h4))
    (fun pre x a' W hl hpx hsz hi hax => wpIn_mono (hbody _ pre x a' W ⟨by omega, by omega⟩ hl hpx hi.1 hax) ?_)
    (fun W hi => hdone _ W (Nat.le_refl _) hi.1 hi.2) (fun c pre W hp hi => hstop _ c pre W (Nat.le_refl _) hp hi.1 hi.2)
  rintro e a3 W3 hp
  cases e with
  | normal => exact ⟨hp.1, hp.2.1, hp.2.2, hkk hp.1 hi.2⟩
  | ret => exact ⟨hp.1, hp.2, hkk hp.1 hi.2⟩
  | exit id => exact ⟨hp.1, hp.2, hkk hp.1 hi.2⟩
  | goto t => exact ⟨hp.1, hp.2, hkk hp.1 hi.2⟩
  | panic ch => exact hp
  | outgrown => exact hp

/-- The law, of a loop in a round of loop l₀. -/
theorem it_in {α : Type} {n : Nat} {P : Program} {g : Operand} {ps : Array Tmp} {assign body : Code} {Q : Exit → Act → World → Prop} {a : Act} {w : World} {l₀ : Nat} {r₀ : Loop} (hl₀ : w.heap[l₀]? = some (.loop r₀))
    {gf : Nat} {lb : Array Value} (hg : a.eval g = .func (.func gf) #[] lb) (eg : ∀ args w, (callFunc gf args).run P w = .ok (.enter gf args) w)
    {encs : α → Array Value} {n₀ : Nat} {S : Nat → Prop} {zs : List α} {m : Nat} (hseq : SeqIt P gf lb encs n₀ S zs w m) (hn : n₀ ≤ w.heap.size) (hps : ∀ x, (encs x).size = ps.size)
    (I : List α → World → Prop) (Ix : Code → List α → World → Prop) (hI : OwnFrom w.heap.size I) (hIx : ∀ c, OwnFrom w.heap.size (Ix c)) (h0 : I [] w) (Ax : α → Act → World → Prop) (hAx : ∀ x a', OwnFrom w.heap.size (fun (_ : Unit) W => Ax x a' W))
    (hassign : ∀ (l : Nat) (pre : List α) (x : α) (W : World) (K : Act → World → Prop), pre ++ [x] <+: zs → I pre W → (∀ a' W', KeepsFrom w.heap.size W W' → Kep n₀ S W W' → I pre W' → Ax x a' W' → K a' W') →
      assign.wpIn (Fence.wide.inRound l) (n - 1 - 1) P (Exit.then K (fun _ _ _ => False)) { tmps := (ps.zip (encs x)).foldl (fun t (p, v) => t.setIfInBounds p v) a.tmps, defers := [] } W)
    (hbody : ∀ (l : Nat) (pre : List α) (x : α) (a' : Act) (W : World), w.heap.size ≤ l ∧ l + 1 + m ≤ W.heap.size → (∃ r, W.heap[l]? = some (.loop r)) → pre ++ [x] <+: zs → I pre W → Ax x a' W → body.wpIn (Fence.wide.inRound l) (n - 1 - 1) P (ownPostG w.heap.size (Kep n₀ S) I Ix (pre ++ [x]) W) a' W)
    (hdone : ∀ (W : World), I zs W → Q .normal a W)
    (hstop : ∀ (c : Code) (pre : List α) (W : World), pre <+: zs → Ix c pre W → c.wpIn (Fence.wide.inRound l₀) n P Q a W) :
    (Code.rangeFunc g ps assign body).wpIn (Fence.wide.inRound l₀) n P Q a w :=
  it_core (some l₀) (l := w.heap.size) (d := r₀.defers) (B := w.heap.size) (mark := []) (w0 := w) (Wf := fun fn => w.alloc (.loop (recd fn a ps assign body r₀.defers .ready none))) hg eg hseq (fun fn => run_enterLoop_inner hl₀ _ _ _ _ _)
    (fun fn => World.alloc_heap_new w _) (fun fn => by simp) (fun fn => (Below.refl _ w).alloc (Nat.le_refl _) _) (by omega) (Nat.le_refl _) (Nat.le_refl _) hn hps I Ix hI hIx (fun fn => hI.alloc _ h0) Ax hAx
    (fun pre x W K hpx _ hi hK => hassign _ pre x W K hpx hi hK) (fun pre x a' W hl hpx hsz hi hax => hbody _ pre x a' W ⟨Nat.le_refl _, hsz⟩ hl hpx hi hax) hdone hstop

end Go.Proofs.Ytalfpbalekbinaa

/-
  The finder's lists; back.
-/
namespace Go.Proofs.Ytalfpbalekbinaa
open Go.RowKit Go.Sort

section
variable {x : Fx} {w0 : World}
theorem Fx.Ok.hei (h : x.Ok w0) {v : Nat} (hv : v < x.n) : ∃ b o, x.f.a2 = some ⟨b, o, none⟩ ∧ ∀ W, Below w0.heap.size w0 W → ∀ i, i < x.n → W.cell? ⟨b, o + i, none⟩ = some (.int .i64 (Df.at_ x.s.hei i)) := by
  have l := h.vf.lens
  obtain ⟨b, o, e, -⟩ := lst_at h.lst.l2 (i := v) (by rw [l.2.1]; exact hv)
  refine ⟨b, o, e, fun W hW i hi => ?_⟩
  obtain ⟨b', o', e', d'⟩ := lst_at (h.lst.later hW).l2 (i := i) (by rw [l.2.1]; exact hi)
  rw [e] at e'
  cases e'
  exact d'
theorem Fx.Ok.par (h : x.Ok w0) {v : Nat} (hv : v < x.n) : ∃ b o, x.f.a1 = some ⟨b, o, none⟩ ∧ ∀ W, Below w0.heap.size w0 W → ∀ i, i < x.n → W.cell? ⟨b, o + i, none⟩ = some (.int .i64 (Df.at_ x.s.par i)) := by
  have l := h.vf.lens
  obtain ⟨b, o, e, -⟩ := lst_at h.lst.l1 (i := v) (by rw [l.1]; exact hv)
  refine ⟨b, o, e, fun W hW i hi => ?_⟩
  obtain ⟨b', o', e', d'⟩ := lst_at (h.lst.later hW).l1 (i := i) (by rw [l.1]; exact hi)
  rw [e] at e'
  cases e'
  exact d'
theorem Fx.Ok.ord (h : x.Ok w0) {v : Nat} (hv : v < x.n) : ∃ b o, x.f.a3 = some ⟨b, o, none⟩ ∧ ∀ W, Below w0.heap.size w0 W → ∀ i, i < x.n → W.cell? ⟨b, o + i, none⟩ = some (.int .i64 (Df.at_ x.s.ord i)) := by
  have l := h.vf.lens
  obtain ⟨b, o, e, -⟩ := lst_at h.lst.l3 (i := v) (by rw [l.2.2.1]; exact hv)
  refine ⟨b, o, e, fun W hW i hi => ?_⟩
  obtain ⟨b', o', e', d'⟩ := lst_at (h.lst.later hW).l3 (i := i) (by rw [l.2.2.1]; exact hi)
  rw [e] at e'
  cases e'
  exact d'
theorem Fx.Ok.ori (h : x.Ok w0) {v : Nat} (hv : v < x.es.length) : ∃ b o, x.f.a4 = some ⟨b, o, none⟩ ∧ ∀ W, Below w0.heap.size w0 W → ∀ i, i < x.es.length → W.cell? ⟨b, o + i, none⟩ = some (.int .i64 (Df.at_ x.s.ori i)) := by
  have l := h.vf.lens
  obtain ⟨b, o, e, -⟩ := lst_at h.lst.l4 (i := v) (by rw [l.2.2.2]; exact hv)
  refine ⟨b, o, e, fun W hW i hi => ?_⟩
  obtain ⟨b', o', e', d'⟩ := lst_at (h.lst.later hW).l4 (i := i) (by rw [l.2.2.2]; exact hi)
  rw [e] at e'
  cases e'
  exact d'
end

section
variable {x : Fx} {w0 w w' : World} {sv yv : Value} {D : DataW Value} {G : Nat → Prop} {S : List (Nat × Int)} {Y : List Nat} {F : List (List Nat)}
/-- The finder stays if nothing of its own is written. -/
theorem FinIn.keep (h : FinIn x w0 w sv yv D G S Y F) (h1 : w'.os = w.os) (h2 : w'.tape = w.tape) (h3 : w'.output = w.output) (h4 : w.heap.size ≤ w'.heap.size) (hk : ∀ k, k < w.heap.size → (k < w0.heap.size ∨ k = x.p ∨ k = x.mb ∨ sv.ownBlock = some k ∨ yv.ownBlock = some k ∨ (G k ∧ ∃ L ∈ F, IntsBlk w k (L.map Nat.cast))) → w'.heap[k]? = w.heap[k]?) : FinIn x w0 w' sv yv D G S Y F := by
  refine ⟨h.ok, h.below.trans ⟨h1, h2, h3, h4, fun k hk' => hk k (by have := h.below.size; omega) (.inl hk')⟩, Nat.le_trans h.size h4, (hk _ h.plt (.inr (.inl rfl))).trans h.blk, h.stk.same fun g hg hl => hk g hl (.inr (.inr (.inr (.inl hg)))), h.way.same fun g hg hl => hk g hl (.inr (.inr (.inr (.inr (.inl hg))))), h.ne, ?_, h.keys, fun L hL => ?_, fun g hg => ?_⟩
  · have hl := h.map.lt
    obtain ⟨es, ck, e, r⟩ := h.map
    exact ⟨es, ck, (hk _ hl (.inr (.inr (.inl rfl)))).trans e, r⟩
  · obtain ⟨g, e, hB, hG, hi⟩ := h.rows L hL
    exact ⟨g, e, hB, hG, (hk g hi.lt (.inr (.inr (.inr (.inr (.inr ⟨hG, L, hL, hi⟩)))))).trans hi⟩
  · obtain ⟨a, b⟩ := h.far g hg
    exact ⟨Nat.lt_of_lt_of_le a h4, b⟩

/-- It abides the turn of a block that is no cells. -/
theorem FinIn.grown {B : Nat} {row : Option Nat} (h : FinIn x w0 w sv yv D G S Y F) (hg : w.grownBy w' row) (hr : ∀ r, row = some r → B ≤ r ∧ ∃ o : Obj, w.heap[r]? = some o ∧ o.isCells = false) (h1 : w0.heap.size ≤ B) (h2 : x.mb < B) : FinIn x w0 w' sv yv D G S Y F := by
  have hcell : ∀ k o, w.heap[k]? = some o → o.isCells = true → some k ≠ row := fun k o hk ho e => by
    obtain ⟨_, o', ho', hc⟩ := hr k e.symm
    rw [hk] at ho'
    cases ho'
    rw [ho] at hc
    cases hc
  refine h.keep hg.os hg.tape hg.output hg.size fun k hk hc => hg.block k hk ?_
  rcases hc with e | rfl | rfl | e | e | ⟨_, L, hL, hi⟩
  · intro e1
    have := (hr k e1.symm).1
    omega
  · exact hcell _ _ h.blk rfl
  · intro e1
    have := (hr _ e1.symm).1
    omega
  · rcases h.stk.2 with ⟨e1, _⟩ | ⟨g, cap, cur, e1, _, hh, _⟩
    · rw [e1] at e; cases e
    · rw [e1] at e
      obtain rfl : g = k := Option.some.inj e
      exact hcell _ _ hh rfl
  · rcases h.way.2 with ⟨e1, _⟩ | ⟨g, cap, cur, e1, _, hh, _⟩
    · rw [e1] at e; cases e
    · rw [e1] at e
      obtain rfl : g = k := Option.some.inj e
      exact hcell _ _ hh rfl
  · exact hcell _ _ hi rfl

set_option maxRecDepth 100000 in
set_option maxHeartbeats 16000000 in
theorem back9_any (i : Nat) (hi : i < 2 * x.es.length) (h : FinIn x w0 w sv yv D G S Y F) :
    Calls Try.prog 93 #[.pointer (some ⟨x.p, 0, none⟩), .int .i64 (i : Int)] w fun e w' => e = .returned (.bool (decide (Df.at_ x.s.ori (i / 2) = (i : Int)) && (Df.at_ x.s.par (Cs.to x.es i) != (i : Int)))) ∧ Below w.heap.size w w' := by
  have hl := Cs.half_lt h.ok.val hi
  obtain ⟨b, o, ef, hc⟩ := h.ok.par hl.2
  obtain ⟨b4, o4, ef4, hc4⟩ := h.ok.ori (v := i / 2) (by omega)
  have hbel : ∀ D : LW w, Below w0.heap.size w0 D.val := fun D => h.below.trans (D.h.mono h.below.size)
  have c0 : ∀ D : LW w, D.val.cell? ⟨x.p, 0, none⟩ = some x.av := fun D => ((h.later D.h).cells (i := 0) rfl).1
  have c1 : ∀ D : LW w, D.val.cell? ⟨x.p, 1, none⟩ = some (.slice (some ⟨b, o, none⟩) x.n x.f.c1) := fun D => by have := ((h.later D.h).cells (i := 1) (u := .slice x.f.a1 x.n x.f.c1) rfl).1; rwa [ef] at this
  have c4 : ∀ D : LW w, D.val.cell? ⟨x.p, 4, none⟩ = some (.slice (some ⟨b4, o4, none⟩) x.es.length x.f.c4) := fun D => by have := ((h.later D.h).cells (i := 4) (u := .slice x.f.a4 x.es.length x.f.c4) rfl).1; rwa [ef4] at this
  have d2 : ∀ D : LW w, D.val.cell? ⟨b, o + Cs.to x.es i, none⟩ = some (.int .i64 (Df.at_ x.s.par (Cs.to x.es i))) := fun D => hc D.val (hbel D) _ hl.2
  have d4 : ∀ D : LW w, D.val.cell? ⟨b4, o4 + i / 2, none⟩ = some (.int .i64 (Df.at_ x.s.ori (i / 2))) := fun D => hc4 D.val (hbel D) _ (by omega)
  have HFR : Hid (∀ D : LW w, Calls Try.prog 58 #[x.av, .int .i64 (i : Int)] D.val fun e w' => e = .returned (.int .i64 (Cs.to x.es i : Int)) ∧ Below D.val.heap.size D.val w') := fun D => (to_any x.av x.n x.es (i : Int) D.val (h.ok.adj.later (hbel D))).mono fun e w' ⟨he, hw⟩ => ⟨by rw [he, Cs.toI_in hi], by rw [hw]; exact Below.refl _ _⟩
  have hfew := h.ok.val.few
  obtain ⟨t, ht⟩ : ∃ t, Cs.to x.es i = t := ⟨_, rfl⟩
  obtain ⟨z, hz⟩ : ∃ z, Df.at_ x.s.par t = z := ⟨_, rfl⟩
  obtain ⟨y, hy⟩ : ∃ y, Df.at_ x.s.ori (i / 2) = y := ⟨_, rfl⟩
  obtain ⟨jh, hjh⟩ : ∃ jh, i / 2 = jh := ⟨_, rfl⟩
  have i0 : (0 : Int) ≤ (i : Int) := by omega
  have htd : (i : Int).tdiv 2 = (jh : Int) := by rw [Int.tdiv_eq_ediv_of_nonneg i0]; omega
  have htd2 : (i : Int) / 2 = (jh : Int) := by omega
  have j0 : (0 : Int) ≤ (jh : Int) := by omega
  have j1 : (jh : Int) < (x.es.length : Int) := by omega
  have jw : IntKind.i64.wrap (jh : Int) = (jh : Int) := by
    simp [IntKind.wrap, IntKind.bits, IntKind.signed]
    omega
  rw [ht, hz] at d2
  rw [hy, hjh] at d4
  rw [ht] at HFR
  rw [ht, hz, hy]
  have t0 : (0 : Int) ≤ (t : Int) := by omega
  have t1 : (t : Int) < (x.n : Int) := by have := hl.2; rw [ht] at this; omega
  have hne := LW.any w
  clear hl hc h ef ht hz hi hc4 ef4 hy hbel
  by_cases c : y = (i : Int)
  · have eb : (y == (i : Int)) = true := by simp [c]
    rw [decide_eq_true c, Bool.true_and]
    clear c hjh
    go_enter Try.func93, Try.ntmps93
    go_wp2_with fail
    refine wp_region_lw (by kernel_rfl) (by kernel_rfl) ?_
    repeat (go_big_quiet_step ((first | (go_at_call 58; exact Calls.lw (HFR.out _)))))
    refine wpQuiet_nil ?_
    rintro _ ⟨D, rfl⟩
    go_wp2
    go_ret
    exact ⟨rfl, D.h⟩
  · have eb : (y == (i : Int)) = false := by simp [c]
    rw [decide_eq_false c, Bool.false_and]
    clear c hjh
    go_enter Try.func93, Try.ntmps93
    go_wp2_with fail
    refine wp_region_lw (by kernel_rfl) (by kernel_rfl) ?_
    repeat (go_big_quiet_step ((first | (go_at_call 58; exact Calls.lw (HFR.out _)))))
    refine wpQuiet_nil ?_
    rintro _ ⟨D, rfl⟩
    go_wp2
    go_ret
    exact ⟨rfl, D.h⟩
end
end Go.Proofs.Ytalfpbalekbinaa
