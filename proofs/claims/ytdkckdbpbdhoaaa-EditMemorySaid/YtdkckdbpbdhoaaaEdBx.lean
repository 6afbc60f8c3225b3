/-
  Two boxes and an answer's.
-/
import Derived.Test.YtdkckdbpbdhoaaaEdW1
namespace Go.Proofs.Ytdkckdbpbdhoaaa
open Go.RowKit Go.Sort

/-- Two things that are handed in lie in their boxes, and an empty answer in the next. -/
structure Bx2 (w : World) (n : Int) (ao : Option Addr) (cap : Nat) (es : List (Int × Int)) (x y : Value) (t : TypeId) (W : World) : Prop where
  low : Below w.heap.size w W
  box : W.heap[w.heap.size]? = some (.cells #[.int .i64 n, .slice ao es.length cap] 24 (0, 0))
  two : W.heap[w.heap.size + 1]? = some (.cells #[x, y] t (0, 0))
  res : W.heap[w.heap.size + 2]? = some (.cells #[.int .i64 0, .slice none 0 0] 24 (0, 0))
section
variable {w W W' : World} {n : Int} {ao : Option Addr} {cap : Nat} {es : List (Int × Int)} {x y : Value} {t : TypeId}
theorem Bx2.start : Bx2 w n ao cap es x y t (((w.alloc (.cells #[.int .i64 n, .slice ao es.length cap] 24)).alloc (.cells #[x, y] t)).alloc (.cells #[.int .i64 0, .slice none 0 0] 24)) := by
  refine ⟨(((Below.refl _ _).alloc (Nat.le_refl _) _).alloc (by simp) _).alloc (by simp; omega) _, ?_, ?_, ?_⟩
  · rw [Below.heap_alloc _ _ _ (by simp; omega), Below.heap_alloc _ _ _ (by simp)]
    exact heap_alloc_new w _
  · rw [Below.heap_alloc _ _ _ (by simp)]
    have := heap_alloc_new (w.alloc (.cells #[.int .i64 n, .slice ao es.length cap] 24)) (.cells #[x, y] t)
    simpa using this
  · have := heap_alloc_new ((w.alloc (.cells #[.int .i64 n, .slice ao es.length cap] 24)).alloc (.cells #[x, y] t)) (.cells #[.int .i64 0, .slice none 0 0] 24)
    simpa using this
theorem Bx2.later (h : Bx2 w n ao cap es x y t W) (hb : Below W.heap.size W W') : Bx2 w n ao cap es x y t W' :=
  ⟨h.low.trans (hb.mono h.low.size), (hb.block _ (lt_of_block h.box)).trans h.box, (hb.block _ (lt_of_block h.two)).trans h.two, (hb.block _ (lt_of_block h.res)).trans h.res⟩
theorem Bx2.cells (h : Bx2 w n ao cap es x y t W) : W.cell? ⟨w.heap.size, 0, none⟩ = some (.int .i64 n) ∧ W.cell? ⟨w.heap.size, 1, none⟩ = some (.slice ao es.length cap) := ⟨(pair_cells h.box).1, (pair_cells h.box).2.1⟩
theorem Bx2.cells2 (h : Bx2 w n ao cap es x y t W) : W.cell? ⟨w.heap.size + 1, 0, none⟩ = some x ∧ W.cell? ⟨w.heap.size + 1, 1, none⟩ = some y := ⟨(pair_cells h.two).1, (pair_cells h.two).2.1⟩
theorem Bx2.rcells (h : Bx2 w n ao cap es x y t W) : W.cell? ⟨w.heap.size + 2, 0, none⟩ = some (.int .i64 0) ∧ W.cell? ⟨w.heap.size + 2, 1, none⟩ = some (.slice none 0 0) := ⟨(pair_cells h.res).1, (pair_cells h.res).2.1⟩
theorem Bx2.free (h : Bx2 w n ao cap es x y t W) (i : Nat) : W.frozen? ⟨w.heap.size + 2, i, none⟩ = false := by simp [World.frozen?, h.res]
theorem Bx2.size (h : Bx2 w n ao cap es x y t W) : w.heap.size + 2 < W.heap.size := lt_of_block h.res
/-- The answer is stored. -/
theorem Bx2.store (h : Bx2 w n ao cap es x y t W) (a b : Value) : Below w.heap.size w ((W.setCell ⟨w.heap.size + 2, 0, none⟩ a).setCell ⟨w.heap.size + 2, 1, none⟩ b) ∧ ((W.setCell ⟨w.heap.size + 2, 0, none⟩ a).setCell ⟨w.heap.size + 2, 1, none⟩ b).cell? ⟨w.heap.size + 2, 0, none⟩ = some a ∧ ((W.setCell ⟨w.heap.size + 2, 0, none⟩ a).setCell ⟨w.heap.size + 2, 1, none⟩ b).cell? ⟨w.heap.size + 2, 1, none⟩ = some b := by
  obtain ⟨r0, r1, -⟩ := pair_cells (pair_set h.res a b)
  exact ⟨(h.low.setCell (by simp) _).setCell (by simp) _, r0, r1⟩
end

end Go.Proofs.Ytdkckdbpbdhoaaa
