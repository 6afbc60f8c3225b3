/-
  A list of Booleans in a block.
-/
import Derived.Test.YtmgoahbloppdmaaMg08
namespace Go.Proofs.Ytmgoahbloppdmaa
open Go.RowKit Go.Sort

/-- Block g holds just these Booleans. -/
def BoolsBlk (w : World) (g : Nat) (l : List Bool) : Prop := w.heap[g]? = some (.cells (l.map Value.bool).toArray 4 (0, 0))

section
variable {w w' : World} {g : Nat} {l : List Bool}
theorem BoolsBlk.lt (h : BoolsBlk w g l) : g < w.heap.size := lt_of_block h
theorem BoolsBlk.cell (h : BoolsBlk w g l) {i : Nat} {x : Bool} (hx : l[i]? = some x) : w.cell? ⟨g, i, none⟩ = some (.bool x) := by
  unfold BoolsBlk at h
  simp [World.cell?, h, hx]
theorem BoolsBlk.free (h : BoolsBlk w g l) (i : Nat) : w.frozen? ⟨g, i, none⟩ = false := by
  unfold BoolsBlk at h
  simp [World.frozen?, h]
theorem BoolsBlk.set (h : BoolsBlk w g l) (i : Nat) (x : Bool) : BoolsBlk (w.setCell ⟨g, i, none⟩ (.bool x)) g (l.set i x) := by
  unfold BoolsBlk at h ⊢
  rw [heap_setCell_same w g i _ _ _ h]
  simp [List.map_set]
theorem BoolsBlk.later (h : BoolsBlk w g l) (hb : Below w.heap.size w w') : BoolsBlk w' g l := (hb.block g h.lt).trans h
theorem BoolsBlk.set_far {b i : Nat} (h : BoolsBlk w g l) (hf : g ≠ b) (x : Value) : BoolsBlk (w.setCell ⟨b, i, none⟩ x) g l := (blk_same hf x).trans h
end

end Go.Proofs.Ytmgoahbloppdmaa
