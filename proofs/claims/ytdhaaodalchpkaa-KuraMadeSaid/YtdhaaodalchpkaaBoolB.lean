/-
  Lists of truths in blocks of their own.
-/
import Derived.Test.YtdhaaodalchpkaaWrd
import Derived.Laws.OwnMore
namespace Go.Proofs.Ytdhaaodalchpkaa
open Go.RowKit

theorem Try.infoBool : (Try.prog.info? 4).map (fun i => (i.zero, i.size, i.bytes)) = some (some (.bool false), 1, 1) := by kernel_rfl

def Co.updB (f : Nat → Bool) (x : Nat) (y : Bool) : Nat → Bool := fun i => if i = x then y else f i
theorem Co.updB_same (f : Nat → Bool) (x : Nat) (y : Bool) : Co.updB f x y x = y := by simp [Co.updB]
theorem Co.updB_other (f : Nat → Bool) {x i : Nat} {y : Bool} (h : i ≠ x) : Co.updB f x y i = f i := by simp [Co.updB, h]

/-- The first n values of f. -/
def Co.bools (n : Nat) (f : Nat → Bool) : List Value := (List.range n).map fun i => Value.bool (f i)

/-- Block g holds the first n values of f. -/
def BoolsIn (w : World) (g n : Nat) (f : Nat → Bool) : Prop := w.heap[g]? = some (.cells (Co.bools n f).toArray 4 (0, 0))

section
variable {w w' : World} {g n : Nat} {f : Nat → Bool}
theorem Co.bools_at {i : Nat} (hi : i < n) : (Co.bools n f)[i]? = some (.bool (f i)) := by
  unfold Co.bools
  rw [List.getElem?_map, List.getElem?_range hi]
  rfl
theorem BoolsIn.lt (h : BoolsIn w g n f) : g < w.heap.size := lt_of_block h
theorem BoolsIn.cell (h : BoolsIn w g n f) {i : Nat} (hi : i < n) : w.cell? ⟨g, i, none⟩ = some (.bool (f i)) := by
  unfold BoolsIn at h
  have := Co.bools_at (f := f) hi
  simp [World.cell?, h, this]
theorem BoolsIn.free (h : BoolsIn w g n f) (i : Nat) : w.frozen? ⟨g, i, none⟩ = false := by
  unfold BoolsIn at h
  simp [World.frozen?, h]
theorem BoolsIn.set (h : BoolsIn w g n f) (i : Nat) (y : Bool) : BoolsIn (w.setCell ⟨g, i, none⟩ (.bool y)) g n (Co.updB f i y) := by
  unfold BoolsIn at h ⊢
  rw [heap_setCell_same w g i _ _ _ h, List.setIfInBounds_toArray]
  congr 2
  congr 1
  refine List.ext_getElem? fun j => ?_
  rw [List.getElem?_set]
  by_cases hj : j < n
  · rw [Co.bools_at hj, Co.bools_at hj]
    by_cases e : i = j
    · subst e
      rw [if_pos rfl, if_pos (by simp [Co.bools]; exact hj), Co.updB_same]
    · rw [if_neg e, Co.updB_other _ (Ne.symm e)]
  · rw [List.getElem?_eq_none (by simp [Co.bools]; omega), List.getElem?_eq_none (by simp [Co.bools]; omega)]
    by_cases e : i = j
    · rw [if_pos e, if_neg (by simp [Co.bools]; omega)]
    · rw [if_neg e]
theorem BoolsIn.same (h : BoolsIn w g n f) (hb : w'.heap[g]? = w.heap[g]?) : BoolsIn w' g n f := hb.trans h
theorem BoolsIn.later (h : BoolsIn w g n f) (hb : Below w.heap.size w w') : BoolsIn w' g n f := (hb.block g h.lt).trans h
theorem made_bools {W : World} {k : Nat} (h : W.heap.size = k) (n : Nat) : BoolsIn (W.alloc (.cells (madeCells #[.bool false] n) 4)) k n (fun _ => false) := by
  subst h
  unfold BoolsIn
  rw [heap_alloc_new]
  congr 2
  apply Array.ext'
  rw [toList_madeCells_one]
  refine List.ext_getElem? fun j => ?_
  by_cases hj : j < n
  · rw [Co.bools_at hj]; simp [hj]
  · rw [List.getElem?_eq_none (by simp; omega), List.getElem?_eq_none (by simp [Co.bools]; omega)]
end

end Go.Proofs.Ytdhaaodalchpkaa
