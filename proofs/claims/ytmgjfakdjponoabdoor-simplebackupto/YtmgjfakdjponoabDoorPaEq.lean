/-
  What '==' says of pairs and of faults; lists of pairs, read.
-/
import Derived.Test.YtmgjfakdjponoabDoorPaRaw
import Derived.Test.YtmgjfakdjponoabDoorAddr0
namespace Go.Proofs.YtmgjfakdjponoabDoor
open Go.RowKit

/-- What '==' says of two pairs. -/
theorem eqPair (a b c d : Int) (w : World) : (Op.equalIn 10000 34 (.agg #[.int .i64 a, .int .i64 b]) (.agg #[.int .i64 c, .int .i64 d])).run Tryd.prog w = .ok (a == c && b == d) w := by
  have u3 := Tryd.underlying3
  have a3 := Tryd.isAgg3
  have z3 := Tryd.sizeOf3
  rw [show (10000 : Nat) = 9999 + 1 from rfl, Op.equalIn]
  simp only [Sem.run_bind, run_underlying Tryd.underlying34, Result.andThen_ok]
  simp only [Std.Legacy.Range.forIn_eq_forIn_range', Std.Legacy.Range.size, Nat.sub_zero, Nat.add_sub_cancel, Nat.div_one, List.range'_succ, List.range'_zero, List.forIn_cons, List.forIn_nil]
  go_simp
  by_cases h1 : a = c <;> by_cases h2 : b = d <;> simp [h1, h2]

/-- What '==' says of two faults. -/
theorem eqReject (a b c d : Int) (w : World) : (Op.equalIn 10000 41 (.agg #[.int .i64 a, .int .i64 b]) (.agg #[.int .i64 c, .int .i64 d])).run Tryd.prog w = .ok (a == c && b == d) w := by
  have u3 := Tryd.underlying3
  have a3 := Tryd.isAgg3
  have z3 := Tryd.sizeOf3
  have u4 := Tryd.underlying29
  have a4 := Tryd.isAgg29
  have z4 := Tryd.sizeOf29
  have hS : Tryd.prog.underlying 41 = some (.struct (Tryd.prog.fieldsOf 41)) := by kernel_rfl
  rw [show (10000 : Nat) = 9999 + 1 from rfl, run_equalIn_agg w 9999 41 _ _ hS (by kernel_rfl)]
  simp only [Program.fieldsOf, Tryd.underlying41]
  go_simp
  by_cases h1 : a = c <;> by_cases h2 : b = d <;> simp [h1, h2]

/-- v is a list of the pairs ps. -/
def PairsAt (w : World) (v : Value) (ps : List (Int × Int)) : Prop := ∃ ao cap, v = .slice ao ps.length cap ∧ ∀ (j : Nat) (p : Int × Int), ps[j]? = some p → ∃ P : Nat, ao = some ⟨P, 0, none⟩ ∧ w.cell? ⟨P, j * 2, none⟩ = some (.int .i64 p.1) ∧ w.cell? ⟨P, j * 2 + 1, none⟩ = some (.int .i64 p.2)

theorem flatP_at : ∀ (ps : List (Int × Int)) (j : Nat) (p : Int × Int), ps[j]? = some p → (flatP ps)[j * 2]? = some (.int .i64 p.1) ∧ (flatP ps)[j * 2 + 1]? = some (.int .i64 p.2)
  | [], j, p, h => by simp at h
  | q :: ps, 0, p, h => by
    simp at h
    subst h
    simp [flatP]
  | q :: ps, j + 1, p, h => by
    have ih := flatP_at ps j p (by simpa using h)
    have e : flatP (q :: ps) = .int .i64 q.1 :: .int .i64 q.2 :: flatP ps := by simp [flatP]
    rw [e, show (j + 1) * 2 = j * 2 + 1 + 1 by omega, show j * 2 + 1 + 1 + 1 = (j * 2 + 1) + 1 + 1 by omega]
    simpa using ih

theorem OwnPairs.at {w : World} {B : Nat} {v : Value} {ps : List (Int × Int)} (h : OwnPairs w B v ps) : PairsAt w v ps := by
  have h' := h
  unfold OwnPairs at h'
  rcases h.2 with ⟨rfl, h0⟩ | ⟨g, cap, cur, rfl, _⟩
  · refine ⟨none, 0, by rw [h0], fun j p hj => ?_⟩
    rw [List.length_eq_zero_iff.1 h0] at hj
    simp at hj
  · refine ⟨_, cap, rfl, fun j p hj => ⟨g, rfl, ?_⟩⟩
    have hc := World.ownsRow.cells h' (g := g) rfl
    simp only [addr0] at hc
    obtain ⟨h0, h1⟩ := flatP_at ps j p hj
    exact ⟨hc _ _ h0, hc _ _ h1⟩

theorem PairsAt.below {w w' : World} {B : Nat} {v : Value} {ps : List (Int × Int)} (h : PairsAt w v ps) (hb : Below B w w') (hB : w.heap.size ≤ B) : PairsAt w' v ps := by
  obtain ⟨ao, cap, rfl, hx⟩ := h
  refine ⟨ao, cap, rfl, fun j p hj => ?_⟩
  obtain ⟨P, ha, h0, h1⟩ := hx j p hj
  have hl := block_lt_of_cell h0
  simp at hl
  exact ⟨P, ha, (hb.cell (p := ⟨P, j * 2, none⟩) (show P < B by omega)).trans h0, (hb.cell (p := ⟨P, j * 2 + 1, none⟩) (show P < B by omega)).trans h1⟩

end Go.Proofs.YtmgjfakdjponoabDoor
