/-
  What the law RotNext keeps in memory: Next's answer, the degrees, what was met.
-/
import Derived.Test.YtloabkgojopeaaaMg10
import Derived.Test.YtloabkgojopeaaaRoP
import Derived.Test.YtloabkgojopeaaaMg11
namespace Go.Proofs.Ytloabkgojopeaaa
open Go.RowKit Go.Sort

namespace Ro
/-- How many of the first k half-edges leave each vertex. -/
def degT (es : List (Int × Int)) (m k : Nat) : List Int := (List.range m).map fun v => ((Cs.out es v k).length : Int)
theorem degT_len (es : List (Int × Int)) (m k : Nat) : (degT es m k).length = m := by simp [degT]
theorem degT_at {es : List (Int × Int)} {m k v : Nat} (h : v < m) : (degT es m k)[v]? = some ((Cs.out es v k).length : Int) := by simp [degT, h]
theorem degT_zero (es : List (Int × Int)) (m : Nat) : degT es m 0 = List.replicate m 0 := by
  refine List.ext_getElem? fun j => ?_
  by_cases hj : j < m
  · rw [degT_at hj]; simp [hj, Cs.out]
  · rw [List.getElem?_eq_none (by rw [degT_len]; omega), List.getElem?_eq_none (by simp; omega)]
theorem degT_succ {es : List (Int × Int)} {m k : Nat} : degT es m (k + 1) = (degT es m k).set (Cs.fr es k) ((Cs.out es (Cs.fr es k) k).length + 1 : Int) := by
  refine List.ext_getElem? fun j => ?_
  by_cases hj : j < m
  · rw [degT_at hj, List.getElem?_set, Cs.out_len_succ]
    by_cases e : Cs.fr es k = j
    · rw [if_pos e, if_pos e, if_pos (by rw [degT_len, e]; exact hj), e]
      simp
    · rw [if_neg e, if_neg e, degT_at hj]
      simp
  · rw [List.getElem?_eq_none (by rw [degT_len]; omega), List.getElem?_eq_none (by rw [List.length_set, degT_len]; omega)]
end Ro

structure NS (W w : World) (n : Int) (ao : Option Addr) (ca : Nat) (es : List (Int × Int)) (gn gd gm M : Nat) (L D : List Int) (f : Nat → Bool) : Prop where
  box : W.heap[w.heap.size]? = some (.cells #[.int .i64 n, .slice ao es.length ca] 30 (0, 0))
  low : Below w.heap.size w W
  ix : IntsBlk W gn L
  dg : IntsBlk W gd D
  mt : BoolsIn W gm M f
  o0 : w.heap.size < gn
  o1 : gn < gd
  o2 : gd < gm

section
variable {W W' w : World} {n : Int} {ao : Option Addr} {ca : Nat} {es : List (Int × Int)} {gn gd gm M : Nat} {L D : List Int} {f : Nat → Bool}
theorem NS.later (h : NS W w n ao ca es gn gd gm M L D f) (hb : Below W.heap.size W W') : NS W' w n ao ca es gn gd gm M L D f :=
  ⟨(hb.block _ (lt_of_block h.box)).trans h.box, h.low.trans (hb.mono h.low.size), h.ix.later hb, h.dg.later hb, h.mt.later hb, h.o0, h.o1, h.o2⟩
theorem NS.setD (h : NS W w n ao ca es gn gd gm M L D f) (i : Nat) (x : Int) : NS (W.setCell ⟨gd, i, none⟩ (.int .i64 x)) w n ao ca es gn gd gm M L (D.set i x) f := by
  have o0 := h.o0
  have o1 := h.o1
  have o2 := h.o2
  exact ⟨(blk_same (by omega) _).trans h.box, h.low.trans (below_setCell _ (by omega)), (blk_same (by omega) _).trans h.ix, h.dg.set i x, h.mt.same (blk_same (by omega) _), o0, o1, o2⟩
theorem NS.setM (h : NS W w n ao ca es gn gd gm M L D f) (i : Nat) : NS (W.setCell ⟨gm, i, none⟩ (.bool true)) w n ao ca es gn gd gm M L D (Co.updB f i true) := by
  have o0 := h.o0
  have o1 := h.o1
  have o2 := h.o2
  exact ⟨(blk_same (by omega) _).trans h.box, h.low.trans (below_setCell _ (by omega)), (blk_same (by omega) _).trans h.ix, (blk_same (by omega) _).trans h.dg, h.mt.set i true, o0, o1, o2⟩
theorem NS.cells (h : NS W w n ao ca es gn gd gm M L D f) : W.cell? ⟨w.heap.size, 0, none⟩ = some (.int .i64 n) ∧ W.cell? ⟨w.heap.size, 1, none⟩ = some (.slice ao es.length ca) := by
  obtain ⟨g0, g1, -⟩ := pair_cells h.box
  exact ⟨g0, g1⟩
end

theorem made_falses (n : Nat) : (madeCells #[.bool false] n).toList = Co.bools n (fun _ => false) := by
  rw [toList_madeCells_one]
  refine List.ext_getElem? fun j => ?_
  by_cases hj : j < n
  · rw [Co.bools_at hj]; simp [hj]
  · rw [List.getElem?_eq_none (by simp; omega), List.getElem?_eq_none (by simp [Co.bools]; omega)]
theorem bools_of_row {w : World} {B g n : Nat} {f : Nat → Bool} (h : w.ownsRow B 4 1 (.slice (some ⟨g, 0, none⟩) n n) n (Co.bools n f)) : BoolsIn w g n f := by
  rcases h.2 with ⟨h, _⟩ | ⟨g', cap, cur, e, _, hh, _, _, hs, ht⟩
  · cases h
  cases e
  have e1 : cur.toList = Co.bools n f := by
    rw [← ht]
    exact (List.take_of_length_le (by simp; omega)).symm
  unfold BoolsIn
  rw [hh, ← e1]

end Go.Proofs.Ytloabkgojopeaaa
