/-
  A block of numbers that a call makes.
-/
import Derived.Test.YtponmjipbcmlhaaWrd
import Derived.Laws.OwnMore
namespace Go.Proofs.Ytponmjipbcmlhaa
open Go.RowKit

theorem Try.infoNum : (Try.prog.info? 3).map (fun i => (i.zero, i.size, i.bytes)) = some (some (.int .i64 0), 1, 8) := by kernel_rfl

/-- Block g holds just the numbers l. -/
def IntsBlk (w : World) (g : Nat) (l : List Int) : Prop := w.heap[g]? = some (.cells (l.map (Value.int .i64)).toArray 3 (0, 0))

section
variable {w w' : World} {g : Nat} {l : List Int}
theorem IntsBlk.lt (h : IntsBlk w g l) : g < w.heap.size := lt_of_block h
theorem IntsBlk.cell (h : IntsBlk w g l) {i : Nat} {x : Int} (hx : l[i]? = some x) : w.cell? ⟨g, i, none⟩ = some (.int .i64 x) := by
  unfold IntsBlk at h
  simp [World.cell?, h, hx]
theorem IntsBlk.free (h : IntsBlk w g l) (i : Nat) : w.frozen? ⟨g, i, none⟩ = false := by
  unfold IntsBlk at h
  simp [World.frozen?, h]
theorem IntsBlk.set (h : IntsBlk w g l) (i : Nat) (x : Int) : IntsBlk (w.setCell ⟨g, i, none⟩ (.int .i64 x)) g (l.set i x) := by
  unfold IntsBlk at h ⊢
  rw [heap_setCell_same w g i _ _ _ h]
  simp [List.map_set]
theorem IntsBlk.below {B : Nat} (h : IntsBlk w g l) (hb : Below B w w') (hB : g < B) : IntsBlk w' g l := (hb.block g hB).trans h
theorem IntsBlk.later (h : IntsBlk w g l) (hb : Below w.heap.size w w') : IntsBlk w' g l := (hb.block g h.lt).trans h
theorem IntsBlk.alloc (h : IntsBlk w g l) (o : Obj) : IntsBlk (w.alloc o) g l := (Below.heap_alloc w o g h.lt).trans h
end

theorem made_zeros (n : Nat) : (madeCells #[.int .i64 0] n).toList = (List.replicate n (0 : Int)).map (Value.int .i64) := by
  rw [toList_madeCells_one, List.map_replicate]

/-- A list that was made at its full length. -/
theorem ints_of_row {w : World} {B g n : Nat} {xs : List Int} (h : w.ownsRow B 3 1 (.slice (some ⟨g, 0, none⟩) n n) n (xs.map (Value.int .i64))) : IntsBlk w g xs := by
  rcases h.2 with ⟨h, _⟩ | ⟨g', cap, cur, e, _, hh, _, _, hs, ht⟩
  · cases h
  cases e
  have e1 : cur.toList = xs.map (Value.int .i64) := by
    rw [← ht]
    exact (List.take_of_length_le (by simp; omega)).symm
  unfold IntsBlk
  rw [hh, ← e1]

end Go.Proofs.Ytponmjipbcmlhaa
