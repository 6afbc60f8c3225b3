/-
  Addresses of a block's cells.
-/
import Derived.Test.YtmgjfakdjponoabDoorWorld
namespace Go.Proofs.YtmgjfakdjponoabDoor
open Go.RowKit

theorem addr0 (g j : Nat) : ((⟨g, 0, none⟩ : Addr).add j) = ⟨g, j, none⟩ := by
  by_cases h0 : j = 0 <;> simp [Addr.add, h0]

end Go.Proofs.YtmgjfakdjponoabDoor
