/-
  The walk of the statement's own spaced.
-/
import Derived.Test.YtkjmnfhpikoaaaaPaSpc
namespace Go.Proofs.Ytkjmnfhpikoaaaa
open Go.RowKit

theorem HasI.below {w w' : World} {ao : Option Addr} {n : Nat} {z : Nat → Int} (h : HasI w ao n z) (hb : Below w.heap.size w w') : HasI w' ao n z := fun i hi => by
  obtain ⟨h0, tb, to, e, hc⟩ := h i hi
  exact ⟨h0, tb, to, e, (hb.cell (p := ⟨tb, to + i, none⟩) (block_lt_of_cell hc)).trans hc⟩

def natCells (A : List Nat) : List Value := A.map fun (a : Nat) => Value.int .i64 (a : Int)

/-- The strings that are put in, as they lie in memory. -/
def strV (L : List UInt8) : Value := .string ⟨L.toArray⟩

theorem blk_cells {w : World} {T : Nat} (h : w.heap[T]? = some (.cells #[strV [32], strV [9], strV [13], strV [32, 9, 32], strV []] 9 (0, 0))) (j : Nat) (hj : j < 5) : w.cell? ⟨T, j, none⟩ = some (strV (Pa.blk j)) := by
  rcases (show j = 0 ∨ j = 1 ∨ j = 2 ∨ j = 3 ∨ j = 4 by omega) with rfl | rfl | rfl | rfl | rfl <;> simp [World.cell?, h, Pa.blk]
theorem eol_cells {w : World} {T : Nat} (h : w.heap[T]? = some (.cells #[strV [10], strV [32, 10], strV [10, 10], strV [13], strV [10, 32, 9, 10], strV []] 9 (0, 0))) (j : Nat) (hj : j < 6) : w.cell? ⟨T, j, none⟩ = some (strV (Pa.eol j)) := by
  rcases (show j = 0 ∨ j = 1 ∨ j = 2 ∨ j = 3 ∨ j = 4 ∨ j = 5 by omega) with rfl | rfl | rfl | rfl | rfl | rfl <;> simp [World.cell?, h, Pa.eol]

/-- What stands in memory between two bytes: N the first block of the call's own, kb the count's. -/
structure SInv (N kb : Nat) (W0 wr : World) (cnt : Nat) (vo va : Value) (O : List UInt8) (A : List Nat) : Prop where
  bel : Below (N + 3) W0 wr
  cnt : wr.heap[kb]? = some (.cells #[.int .i64 cnt] 3 (0, 0))
  out : wr.ownsRow (kb + 1) 5 1 vo O.length (Lib.byteCells O)
  at' : wr.ownsRow (N + 3) 3 1 va A.length (natCells A)
  far : va.ownBlock ≠ some kb
  low : N + 3 ≤ kb

theorem rows_apart {w : World} {B B' n n' : Nat} {vo va : Value} {xs ys : List Value} (h : w.ownsRow B 5 1 vo n xs) (h' : w.ownsRow B' 3 1 va n' ys) : vo.ownBlock = none ∨ vo.ownBlock ≠ va.ownBlock := by
  rcases h.2 with ⟨rfl, _⟩ | ⟨g, cap, cur, rfl, _, hh, _⟩
  · exact .inl rfl
  · right
    rcases h'.2 with ⟨rfl, _⟩ | ⟨g', cap', cur', rfl, _, hh', _⟩
    · simp [Value.ownBlock]
    · intro e
      simp [Value.ownBlock] at e
      subst e
      rw [hh] at hh'
      cases hh'

theorem SInv.drewN {N kb : Nat} {W0 wr : World} {c : Nat} {vo va : Value} {O : List UInt8} {A : List Nat} (h : SInv N kb W0 wr c vo va O A) (k : Nat) : SInv N kb W0 (wr.drewN k) c vo va O A := ⟨below_drewN h.bel k, h.cnt, h.out, h.at', h.far, h.low⟩

/-- The count goes up. -/
theorem SInv.tick {N kb : Nat} {W0 wr : World} {c : Nat} {vo va : Value} {O : List UInt8} {A : List Nat} (h : SInv N kb W0 wr c vo va O A) (c' : Nat) : SInv N kb W0 (wr.setCell ⟨kb, 0, none⟩ (.int .i64 c')) c' vo va O A := by
  have hl := h.low
  have keep : ∀ {B : Nat} {e : TypeId} {size n : Nat} {v : Value} {xs : List Value}, wr.ownsRow B e size v n xs → v.ownBlock ≠ some kb → (wr.setCell ⟨kb, 0, none⟩ (.int .i64 c')).ownsRow B e size v n xs := by
    intro B e size n v xs hr hne
    refine ⟨hr.1, ?_⟩
    rcases hr.2 with h | ⟨g, cap, cur, rfl, hgB, hh, hrr⟩
    · exact .inl h
    · exact .inr ⟨g, cap, cur, rfl, hgB, (heap_setCell_other wr ⟨kb, 0, none⟩ g _ (fun e => hne (by simp [Value.ownBlock, e]))).trans hh, hrr⟩
  refine ⟨h.bel.setCell (by simp; omega) _, ?_, keep h.out (fun e => by have := (h.out.lt kb e).1; omega), keep h.at' h.far, h.far, hl⟩
  have := heap_setCell_same wr kb 0 _ _ (.int .i64 c') h.cnt
  simpa using this

/-- More bytes behind. -/
theorem SInv.grow {N kb : Nat} {W0 wr w1 : World} {c : Nat} {vo vo' va : Value} {O O' : List UInt8} {A : List Nat} (h : SInv N kb W0 wr c vo va O A) (hown : w1.ownsRow (kb + 1) 5 1 vo' O'.length (Lib.byteCells O')) (hg : wr.grownBy w1 vo.ownBlock) : SInv N kb W0 w1 c vo' va O' A := by
  have hl := h.low
  have hkl := lt_of_block h.cnt
  have hne : some kb ≠ vo.ownBlock := fun e => by have := (h.out.lt kb e.symm).1; omega
  refine ⟨h.bel.grown hg (by omega) (fun k hk => by have := (h.out.lt k hk).1; omega), (hg.block kb hkl hne).trans h.cnt, hown, h.at'.kept hg ?_, h.far, hl⟩
  rcases rows_apart h.out h.at' with e | e
  · cases hva : va.ownBlock with
    | none => exact .inl rfl
    | some g => exact .inr (by rw [e]; simp)
  · exact .inr e.symm

/-- One place more. -/
theorem SInv.place {N kb : Nat} {W0 wr w1 : World} {x : Obj} {c : Nat} {vo va va' : Value} {O : List UInt8} {A A' : List Nat} (h : SInv N kb W0 wr c vo va O A) (hown : w1.ownsRow (N + 3) 3 1 va' A'.length (natCells A')) (hg : (wr.alloc x).grownBy w1 va.ownBlock) (hat : va'.ownBlock = va.ownBlock ∨ va'.ownBlock = some (wr.heap.size + 1)) : SInv N kb W0 w1 c vo va' O A' := by
  have hl := h.low
  have hkl := lt_of_block h.cnt
  have hne : some kb ≠ va.ownBlock := h.far.symm
  refine ⟨(h.bel.alloc (by omega) x).grown hg (by simp; omega) (fun k hk => (h.at'.lt k hk).1), (hg.block kb (by simp; omega) hne).trans ((Below.heap_alloc wr x kb hkl).trans h.cnt), (h.out.alloc x).kept hg (rows_apart h.out h.at'), hown, ?_, hl⟩
  rcases hat with e | e
  · rw [e]; exact h.far
  · rw [e]; simp; omega

end Go.Proofs.Ytkjmnfhpikoaaaa
