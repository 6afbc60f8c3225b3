/-
  Numbers of 64 bits; how many cells an edge and an int take.
-/
import Derived.Test.YtfjgmbimapkabaaDoorMg12
namespace Go.Proofs.YtfjgmbimapkabaaDoor
open Go.RowKit

theorem cellsEdge : Tryd.prog.cellsOf 55 = 2 := by kernel_rfl
theorem cellsIntK : Tryd.prog.cellsOf 3 = 1 := by kernel_rfl
/-- Both numbers are of 64 bits. -/
def In64 (e : Int × Int) : Prop := (-9223372036854775808 ≤ e.1 ∧ e.1 ≤ 9223372036854775807) ∧ -9223372036854775808 ≤ e.2 ∧ e.2 ≤ 9223372036854775807
theorem wf64 {x : Int} (h : -9223372036854775808 ≤ x ∧ x ≤ 9223372036854775807) : (Lit.int .i64 x).wf = true := WalkArith.wf_i64 (by omega)

end Go.Proofs.YtfjgmbimapkabaaDoor
