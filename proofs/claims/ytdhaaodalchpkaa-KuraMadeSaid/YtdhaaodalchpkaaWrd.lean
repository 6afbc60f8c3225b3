/-
  Memory: the words by which the walks say what lies where, and their small laws.
-/
import Derived.Test.YtdhaaodalchpkaaProg
import Derived.Test.YtdhaaodalchpkaaMgA
import Derived.WalkKit
import Derived.WalkSpells
import Derived.WalkLawsBesides
namespace Go.Proofs.Ytdhaaodalchpkaa
open Go.RowKit

theorem Nu.hid {p : Prop} (h : p) : Hid p := h

/-- The bytes g 0 .. g (n - 1) lie at ao. -/
def HasText (w : World) (ao : Option Addr) (n : Nat) (g : Nat → Int) : Prop :=
  ∀ i, i < n → (0 ≤ g i ∧ g i ≤ 255) ∧ ∃ tb to, ao = some ⟨tb, to, none⟩ ∧ w.cell? ⟨tb, to + i, none⟩ = some (.int .u8 (g i))

def Apart (ao : Option Addr) (b : Nat) : Prop := ∀ x, ao = some x → x.block ≠ b

section
variable {w w' : World} {b : Nat} {ao : Option Addr} {n cap p : Nat} {g : Nat → Int}

theorem grownBy_setCell {w0 : World} (h : w0.grownBy w (some b)) (i : Nat) (v : Value) : w0.grownBy (w.setCell ⟨b, i, none⟩ v) (some b) := by
  refine ⟨h.os, h.tape, h.output, by simpa using h.size, fun k hk hne => ?_⟩
  rw [heap_setCell_other w ⟨b, i, none⟩ k v (fun e => hne (by rw [e])), h.block k hk hne]
theorem grownBy_trans {w0 w1 w2 : World} {r : Option Nat} (h : w0.grownBy w1 r) (k : w1.grownBy w2 r) : w0.grownBy w2 r :=
  ⟨k.os.trans h.os, k.tape.trans h.tape, k.output.trans h.output, Nat.le_trans h.size k.size, fun i hi hne => (k.block i (Nat.lt_of_lt_of_le hi h.size) hne).trans (h.block i hi hne)⟩
theorem grownBy_drewN {w0 : World} {r : Option Nat} (h : w0.grownBy w r) (k : Nat) : w0.grownBy (w.drewN k) r := ⟨h.os, h.tape, h.output, h.size, h.block⟩
theorem grownBy_drew {w0 : World} {r : Option Nat} (h : w0.grownBy w r) : w0.grownBy w.drew r := ⟨h.os, h.tape, h.output, h.size, h.block⟩
theorem grownBy_alloc' {w0 : World} {r : Option Nat} (h : w0.grownBy w r) (o : Obj) : w0.grownBy (w.alloc o) r := grownBy_trans h (World.grownBy_alloc w o r)

/-- Four stores into block B. -/
def put4 (w : World) (B : Nat) (a b c d : Value) : World := (((w.setCell ⟨B, 0, none⟩ a).setCell ⟨B, 1, none⟩ b).setCell ⟨B, 2, none⟩ c).setCell ⟨B, 3, none⟩ d
theorem put4_heap {B : Nat} {t : TypeId} {x0 x1 x2 x3 : Value} (h : w.heap[B]? = some (.cells #[x0, x1, x2, x3] t (0, 0))) (a b c d : Value) : (put4 w B a b c d).heap[B]? = some (.cells #[a, b, c, d] t (0, 0)) := by
  have h1 := heap_setCell_same w B 0 _ t a h
  have h2 := heap_setCell_same _ B 1 _ t b h1
  have h3 := heap_setCell_same _ B 2 _ t c h2
  have h4 := heap_setCell_same _ B 3 _ t d h3
  unfold put4
  simpa using h4
theorem put4_other {B k : Nat} (hk : k ≠ B) (a b c d : Value) : (put4 w B a b c d).heap[k]? = w.heap[k]? := by
  unfold put4
  rw [heap_setCell_other _ ⟨B, 3, none⟩ k d hk, heap_setCell_other _ ⟨B, 2, none⟩ k c hk, heap_setCell_other _ ⟨B, 1, none⟩ k b hk, heap_setCell_other _ ⟨B, 0, none⟩ k a hk]
theorem put4_size (B : Nat) (a b c d : Value) : (put4 w B a b c d).heap.size = w.heap.size := by simp [put4]
theorem grownBy_put4 {w0 : World} {r : Option Nat} (h : w0.grownBy w r) {B : Nat} (hB : w0.heap.size ≤ B) (x0 x1 x2 x3 : Value) : w0.grownBy (put4 w B x0 x1 x2 x3) r :=
  ⟨h.os, h.tape, h.output, by rw [put4_size]; exact h.size, fun k hk hne => (put4_other (by omega) x0 x1 x2 x3).trans (h.block k hk hne)⟩

theorem HasText.grown (h : HasText w ao n g) (hg : w.grownBy w' (some b)) (ha : Apart ao b) : HasText w' ao n g := by
  intro i hi
  obtain ⟨hb, tb, to, e, hc⟩ := h i hi
  exact ⟨hb, tb, to, e, hg.cell hc (by simpa using ha _ e)⟩
theorem HasText.alloc (h : HasText w ao n g) (o : Obj) : HasText (w.alloc o) ao n g := by
  intro i hi
  obtain ⟨hb, tb, to, e, hc⟩ := h i hi
  exact ⟨hb, tb, to, e, (World.grownBy_alloc w o none).cell hc (by simp)⟩
theorem HasText.drewN (h : HasText w ao n g) (k : Nat) : HasText (w.drewN k) ao n g := h
theorem HasText.grown0 (h : HasText w ao n g) (hg : w.grownBy w' none) : HasText w' ao n g := by
  intro i hi
  obtain ⟨hb, tb, to, e, hc⟩ := h i hi
  exact ⟨hb, tb, to, e, hg.cell hc (by simp)⟩
theorem HasText.later (h : HasText w ao n g) (hg : Below w.heap.size w w') : HasText w' ao n g := by
  intro i hi
  obtain ⟨hb, tb, to, e, hc⟩ := h i hi
  exact ⟨hb, tb, to, e, (hg.cell (p := ⟨tb, to + i, none⟩) (block_lt_of_cell hc)).trans hc⟩
theorem HasText.below {B : Nat} (h : HasText w ao n g) (hg : Below B w w') (ha : ∀ x, ao = some x → x.block < B) : HasText w' ao n g := by
  intro i hi
  obtain ⟨hb, tb, to, e, hc⟩ := h i hi
  exact ⟨hb, tb, to, e, (hg.cell (p := ⟨tb, to + i, none⟩) (show tb < B from ha _ e)).trans hc⟩
end

end Go.Proofs.Ytdhaaodalchpkaa
