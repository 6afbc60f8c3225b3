/-
  What the laws on edits ask, over and over.
-/
import Derived.Test.YtdkckdbpbdhoaaaEdSm
import Derived.Test.YtdkckdbpbdhoaaaEdR1
import Derived.Test.YtdkckdbpbdhoaaaEdFx
namespace Go.Proofs.Ytdkckdbpbdhoaaa
open Go.RowKit

/-- An answer lies in a box. -/
structure Got (W : World) (p : Nat) (n : Int) (l : List (Int × Int)) (a : Option Addr) (c : Nat) : Prop where
  box : W.heap[p]? = some (.cells #[.int .i64 n, .slice a l.length c] 24 (0, 0))
  ed : EdgesAt W a l
  few : l.length ≤ 9223372036854775807
section
variable {W W' : World} {p : Nat} {n : Int} {l : List (Int × Int)} {a : Option Addr} {c : Nat}
theorem Got.later (h : Got W p n l a c) (hb : Below W.heap.size W W') : Got W' p n l a c := ⟨blk_later h.box hb, h.ed.later hb, h.few⟩
theorem Got.cells (h : Got W p n l a c) : W.cell? ⟨p, 0, none⟩ = some (.int .i64 n) ∧ W.cell? ⟨p, 1, none⟩ = some (.slice a l.length c) := ⟨(pair_cells h.box).1, (pair_cells h.box).2.1⟩
theorem Got.lt (h : Got W p n l a c) : p < W.heap.size := lt_of_block h.box
theorem Got.new {B : Nat} (h : OwnE W B (.slice a l.length c) l) : Got (W.alloc (.cells #[.int .i64 n, .slice a l.length c] 24)) W.heap.size n l a c := by
  refine ⟨heap_alloc_new W _, ?_, ?_⟩
  · obtain ⟨a', c', e, _, _, h1, _⟩ := h.form
    cases e
    exact h1.later ((Below.refl _ _).alloc (Nat.le_refl _) _)
  · obtain ⟨a', c', e, h1, h2, _⟩ := h.form
    unfold maxLen at h2
    omega
theorem Got.set {B H : Nat} {x y : Value} (hb : W.heap[H]? = some (.cells #[x, y] 24 (0, 0))) (h : OwnE W B (.slice a l.length c) l) (hH : H < B) : Got ((W.setCell ⟨H, 0, none⟩ (.int .i64 n)).setCell ⟨H, 1, none⟩ (.slice a l.length c)) H n l a c := by
  have h2 := own_put2 (r := H) h (h.far hH) (.int .i64 n) (.slice a l.length c)
  obtain ⟨a', c', e, h3, h4, h5, _⟩ := h2.form
  cases e
  exact ⟨pair_set hb _ _, h5, by unfold maxLen at h4; omega⟩
/-- Two answers are told alike. -/
theorem Got.told {p' : Nat} {a' : Option Addr} {c' : Nat} (h : Got W p n l a c) (h' : Got W p' n l a' c') (k : Int) : Calls Try.prog 19 #[.agg #[.int .i64 n, .slice a l.length c], .int .i64 k, .agg #[.int .i64 n, .slice a' l.length c'], .int .i64 k] W fun e w' => e = .returned (.bool true) ∧ Below W.heap.size W w' :=
  told_true n k a a' c c' l W h.ed h'.ed h.few
end

theorem cell_alloc14 {W : World} {b i : Nat} (h : b < W.heap.size) (o : Obj) : (W.alloc o).cell? ⟨b, i, none⟩ = W.cell? ⟨b, i, none⟩ := by
  simp [World.cell?, Below.heap_alloc W o b h]

theorem heap_new_drew (W : World) (o : Obj) : (W.alloc o).drew.heap[W.heap.size]? = some o := heap_alloc_new W o

theorem ownz_at {W : World} {B k c : Nat} {A : Option Addr} {l : List Int} (h : OwnZ W B (.slice A k c) l) : IntsAt W A l := by
  obtain ⟨a, c', e, h1, _⟩ := h.form
  cases e
  exact h1

/-- The graph that came in. -/
structure GI (w : World) (n : Int) (ao : Option Addr) (ca : Nat) (es : List (Int × Int)) : Prop where
  at_ : EdgesAt w ao es
  nil : NilOk ao es ca
  fit : es.length ≤ ca
  len : es.length * 16 ≤ 140737488351232

end Go.Proofs.Ytdkckdbpbdhoaaa
