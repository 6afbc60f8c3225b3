/-
  A block of numbers that a call makes; how often each vertex is an end.
-/
import Derived.Test.YtoaaihbeehpgfabSiValid
import Derived.Laws.OwnMore
namespace Go.Proofs.Ytoaaihbeehpgfab
open Go.RowKit

theorem Try.infoNum : (Try.prog.info? 3).map (fun i => (i.zero, i.size, i.bytes)) = some (some (.int .i64 0), 1, 8) := by kernel_rfl

/-- Block g holds just the numbers l. -/
def IntsBlk (w : World) (g : Nat) (l : List Int) : Prop := w.heap[g]? = some (.cells (l.map (Value.int .i64)).toArray 3 (0, 0))

section
variable {w w' : World} {g : Nat} {l : List Int}
theorem IntsBlk.lt (h : IntsBlk w g l) : g < w.heap.size := lt_of_block h
theorem IntsBlk.cell (h : IntsBlk w g l) {i : Nat} {x : Int} (hx : l[i]? = some x) : w.cell? ⟨g, i, none⟩ = some (.int .i64 x) := by
  unfold IntsBlk at h
  simp [World.cell?, h, hx]
theorem IntsBlk.free (h : IntsBlk w g l) (i : Nat) : w.frozen? ⟨g, i, none⟩ = false := by
  unfold IntsBlk at h
  simp [World.frozen?, h]
theorem IntsBlk.set (h : IntsBlk w g l) (i : Nat) (x : Int) : IntsBlk (w.setCell ⟨g, i, none⟩ (.int .i64 x)) g (l.set i x) := by
  unfold IntsBlk at h ⊢
  rw [heap_setCell_same w g i _ _ _ h]
  simp [List.map_set]
theorem IntsBlk.below {B : Nat} (h : IntsBlk w g l) (hb : Below B w w') (hB : g < B) : IntsBlk w' g l := (hb.block g hB).trans h
theorem IntsBlk.later (h : IntsBlk w g l) (hb : Below w.heap.size w w') : IntsBlk w' g l := (hb.block g h.lt).trans h
theorem IntsBlk.alloc (h : IntsBlk w g l) (o : Obj) : IntsBlk (w.alloc o) g l := (Below.heap_alloc w o g h.lt).trans h
end

theorem made_zeros (n : Nat) : (madeCells #[.int .i64 0] n).toList = (List.replicate n (0 : Int)).map (Value.int .i64) := by
  rw [toList_madeCells_one, List.map_replicate]

/-- A list that was made at its full length. -/
theorem ints_of_row {w : World} {B g n : Nat} {xs : List Int} (h : w.ownsRow B 3 1 (.slice (some ⟨g, 0, none⟩) n n) n (xs.map (Value.int .i64))) : IntsBlk w g xs := by
  rcases h.2 with ⟨h, _⟩ | ⟨g', cap, cur, e, _, hh, _, _, hs, ht⟩
  · cases h
  cases e
  have e1 : cur.toList = xs.map (Value.int .i64) := by
    rw [← ht]
    exact (List.take_of_length_le (by simp; omega)).symm
  unfold IntsBlk
  rw [hh, ← e1]

namespace Si
theorem bump_length (l : List Int) (v : Int) : (bump l v).length = l.length := by simp [bump]

theorem degs_snoc (n : Int) (es : List (Int × Int)) (p : Int × Int) : degs n (es ++ [p]) = bump (bump (degs n es) p.1) p.2 := by simp [degs, List.foldl_append]

theorem degs_length (n : Int) (es : List (Int × Int)) : (degs n es).length = n.toNat := by
  unfold degs
  suffices h : ∀ (es : List (Int × Int)) (l : List Int), (es.foldl (fun l e => bump (bump l e.1) e.2) l).length = l.length by rw [h]; simp
  intro es
  induction es with
  | nil => intro l; rfl
  | cons e es ih => intro l; rw [List.foldl_cons, ih, bump_length, bump_length]

/-- All numbers lie between 0 and m. -/
def Upto (m : Int) (l : List Int) : Prop := ∀ (j : Nat) (x : Int), l[j]? = some x → 0 ≤ x ∧ x ≤ m

theorem Upto.bump {m : Int} {l : List Int} (h : Upto m l) (v : Int) : Upto (m + 1) (bump l v) := by
  intro j x hx
  unfold Si.bump at hx
  rw [List.getElem?_set] at hx
  by_cases hv : v.toNat = j
  · rw [if_pos hv] at hx
    split at hx
    · cases hx
      rename_i hl
      have e : l[v.toNat]? = some l[v.toNat] := List.getElem?_eq_getElem hl
      have := h _ _ e
      rw [List.getD_eq_getElem?_getD, e]
      dsimp only [Option.getD_some]
      omega
    · cases hx
  · rw [if_neg hv] at hx
    have := h j x hx
    omega

theorem degs_upto (n : Int) (es : List (Int × Int)) : Upto (2 * es.length) (degs n es) := by
  unfold degs
  suffices h : ∀ (es : List (Int × Int)) (l : List Int) (m : Int), Upto m l → Upto (m + 2 * es.length) (es.foldl (fun l e => Si.bump (Si.bump l e.1) e.2) l) by
    have := h es (List.replicate n.toNat 0) 0 (fun j x hx => by
      rw [List.getElem?_replicate] at hx
      split at hx
      · cases hx; omega
      · cases hx)
    simpa using this
  intro es
  induction es with
  | nil => intro l m h; simpa using h
  | cons e es ih =>
    intro l m h
    have := ih _ _ ((h.bump e.1).bump e.2)
    rw [List.foldl_cons]
    have e1 : m + 2 * ((e :: es).length : Int) = m + 1 + 1 + 2 * (es.length : Int) := by simp; omega
    rw [e1]
    exact this
end Si

end Go.Proofs.Ytoaaihbeehpgfab
