/-
  Edges and Booleans in blocks of their own.
-/
import Derived.Test.YtdkckdbpbdhoaaaSiOwn
import Derived.Test.YtdkckdbpbdhoaaaMgB
namespace Go.Proofs.Ytdkckdbpbdhoaaa
open Go.RowKit

/-- Block g holds just these edges. -/
def EdsBlk (w : World) (g : Nat) (l : List (Int × Int)) : Prop := w.heap[g]? = some (.cells (flatE l).toArray 26 (0, 0))
section
variable {w w' : World} {g : Nat} {l : List (Int × Int)}
theorem EdsBlk.lt (h : EdsBlk w g l) : g < w.heap.size := lt_of_block h
theorem EdsBlk.later (h : EdsBlk w g l) (hb : Below w.heap.size w w') : EdsBlk w' g l := (hb.block g h.lt).trans h
theorem EdsBlk.own (h : EdsBlk w g l) {B : Nat} (hB : B ≤ g) (hm : l.length ≤ maxLen) : OwnE w B (.slice (some ⟨g, 0, none⟩) l.length l.length) l :=
  ⟨flatE_length l, .inr ⟨g, l.length, (flatE l).toArray, rfl, hB, h, Nat.le_refl _, hm, by simp [flatE_length], by
    rw [List.toList_toArray]
    exact List.take_of_length_le (by rw [flatE_length]; exact Nat.le_refl _)⟩⟩
theorem EdsBlk.cells (h : EdsBlk w g l) {i : Nat} {p : Int × Int} (hp : l[i]? = some p) : w.cell? ⟨g, i * 2, none⟩ = some (.int .i64 p.1) ∧ w.cell? ⟨g, i * 2 + 1, none⟩ = some (.int .i64 p.2) := by
  obtain ⟨h0, h1⟩ := flatE_at l i p hp
  unfold EdsBlk at h
  simp [World.cell?, h, h0, h1]
theorem EdsBlk.free (h : EdsBlk w g l) (i : Nat) : w.frozen? ⟨g, i, none⟩ = false := by
  unfold EdsBlk at h
  simp [World.frozen?, h]
theorem flatE_setB : ∀ (ps : List (Int × Int)) (a : Nat) (q : Int × Int), flatE (ps.set a q) = ((flatE ps).set (a * 2) (.int .i64 q.1)).set (a * 2 + 1) (.int .i64 q.2)
  | [], a, q => by simp [flatE]
  | p :: ps, 0, q => by simp [flatE]
  | p :: ps, a + 1, q => by
    have ih := flatE_setB ps a q
    have e : (a + 1) * 2 = a * 2 + 1 + 1 := by omega
    rw [e]
    simpa [flatE] using ih
theorem EdsBlk.set (h : EdsBlk w g l) (i : Nat) (x y : Int) : EdsBlk ((w.setCell ⟨g, i * 2, none⟩ (.int .i64 x)).setCell ⟨g, i * 2 + 1, none⟩ (.int .i64 y)) g (l.set i (x, y)) := by
  unfold EdsBlk
  have h1 := heap_setCell_same w g (i * 2) _ _ (.int .i64 x) h
  have h2 := heap_setCell_same _ g (i * 2 + 1) _ _ (.int .i64 y) h1
  rw [h2, flatE_setB]
  simp
theorem EdsBlk.one (h : EdsBlk w g l) (i : Nat) (x : Int) {q : Int × Int} (hq : l[i]? = some q) : (w.setCell ⟨g, i * 2, none⟩ (.int .i64 x)).cell? ⟨g, i * 2 + 1, none⟩ = some (.int .i64 q.2) ∧ (w.setCell ⟨g, i * 2, none⟩ (.int .i64 x)).frozen? ⟨g, i * 2 + 1, none⟩ = false := by
  have h1 := heap_setCell_same w g (i * 2) _ _ (.int .i64 x) h
  obtain ⟨_, h0⟩ := flatE_at l i q hq
  constructor
  · simp [World.cell?, h1, h0]
  · simp [World.frozen?, h1]
theorem EdsBlk.at (h : EdsBlk w g l) : EdgesAt w (some ⟨g, 0, none⟩) l := fun j p hj => ⟨g, 0, rfl, by rw [Nat.zero_add]; exact (h.cells hj).1, by rw [Nat.zero_add]; exact (h.cells hj).2⟩
theorem EdsBlk.alloc (h : EdsBlk w g l) (o : Obj) : EdsBlk (w.alloc o) g l := (Below.heap_alloc w o g h.lt).trans h
theorem eds_of_row {B n : Nat} (h : w.ownsRow B 26 2 (.slice (some ⟨g, 0, none⟩) n n) n (flatE l)) : EdsBlk w g l := by
  rcases h.2 with ⟨h, _⟩ | ⟨g', cap, cur, e, _, hh, _, _, hs, ht⟩
  · cases h
  · cases e
    rw [List.take_of_length_le (by simp; omega)] at ht
    unfold EdsBlk
    rw [hh, ← ht]
end
theorem flatE_zerosB : ∀ n : Nat, flatE (List.replicate n ((0 : Int), (0 : Int))) = List.replicate (n * 2) (.int .i64 0)
  | 0 => rfl
  | n + 1 => by
    have := flatE_zerosB n
    rw [show (n + 1) * 2 = n * 2 + 1 + 1 by omega, List.replicate_succ, List.replicate_succ, List.replicate_succ, ← this]
    rfl
theorem made_eds (n : Nat) : (madeCells #[.int .i64 0, .int .i64 0] (n * 2)).toList = flatE (List.replicate n ((0 : Int), (0 : Int))) := by
  rw [flatE_zerosB]
  apply List.ext_getElem?
  intro j
  by_cases hj : j < n * 2
  · have : j % 2 = 0 ∨ j % 2 = 1 := by omega
    rcases this with e | e <;> simp [madeCells, hj, e]
  · simp [madeCells, hj]


theorem Try.infoBoolE : (Try.prog.info? 4).map (fun i => (i.zero, i.size, i.bytes)) = some (some (.bool false), 1, 1) := by kernel_rfl

/-- Block g holds just these Booleans. -/
def BlsBlk (w : World) (g : Nat) (l : List Bool) : Prop := w.heap[g]? = some (.cells (l.map Value.bool).toArray 4 (0, 0))

section
variable {w w' : World} {g : Nat} {l : List Bool}
theorem BlsBlk.lt (h : BlsBlk w g l) : g < w.heap.size := lt_of_block h
theorem BlsBlk.cell (h : BlsBlk w g l) {i : Nat} {x : Bool} (hx : l[i]? = some x) : w.cell? ⟨g, i, none⟩ = some (.bool x) := by
  unfold BlsBlk at h
  simp [World.cell?, h, hx]
theorem BlsBlk.free (h : BlsBlk w g l) (i : Nat) : w.frozen? ⟨g, i, none⟩ = false := by
  unfold BlsBlk at h
  simp [World.frozen?, h]
theorem BlsBlk.set (h : BlsBlk w g l) (i : Nat) (x : Bool) : BlsBlk (w.setCell ⟨g, i, none⟩ (.bool x)) g (l.set i x) := by
  unfold BlsBlk at h ⊢
  rw [heap_setCell_same w g i _ _ _ h]
  simp [List.map_set]
theorem BlsBlk.later (h : BlsBlk w g l) (hb : Below w.heap.size w w') : BlsBlk w' g l := (hb.block g h.lt).trans h
theorem bls_of_row {B n : Nat} (h : w.ownsRow B 4 1 (.slice (some ⟨g, 0, none⟩) n n) n (l.map Value.bool)) : BlsBlk w g l := by
  rcases h.2 with ⟨h, _⟩ | ⟨g', cap, cur, e, _, hh, _, _, hs, ht⟩
  · cases h
  · cases e
    rw [List.take_of_length_le (by simp; omega)] at ht
    unfold BlsBlk
    rw [hh, ← ht]
end
theorem made_bls (n : Nat) : (madeCells #[.bool false] n).toList = (List.replicate n false).map Value.bool := by
  rw [toList_madeCells_one, List.map_replicate]

end Go.Proofs.Ytdkckdbpbdhoaaa
