/-
  What the scanner's small callees answer: blank and digit of a byte.
-/
import Derived.Test.YtmgjfakdjponoabDoorProg
import Derived.Test.YtmgjfakdjponoabDoorPlain
import Derived.WalkKit
import Derived.WalkSpells
import Derived.WalkLawsBesides
namespace Go.Proofs.YtmgjfakdjponoabDoor
open Go.RowKit

set_option maxHeartbeats 400000 in
theorem blank_any (c : Int) (w : World) :
    Calls Tryd.prog 84 #[.int .u8 c] w fun e w' => e = .returned (.bool (Nu.isBlank c)) ∧ w' = w := by
  unfold Nu.isBlank
  by_cases h1 : c = 32
  · subst h1
    go_enter Tryd.func84, Tryd.ntmps84
    go_wp2
    go_ret
    exact ⟨rfl, rfl⟩
  · have e1 : (c == 32) = false := by simp [h1]
    by_cases h2 : c = 9
    · subst h2
      go_enter Tryd.func84, Tryd.ntmps84
      go_wp2
      go_ret
      exact ⟨rfl, rfl⟩
    · have e2 : (c == 9) = false := by simp [h2]
      rw [e1, e2]
      go_enter Tryd.func84, Tryd.ntmps84
      go_wp2
      go_ret
      exact ⟨by simp, rfl⟩

set_option maxHeartbeats 400000 in
theorem digit_any (c : Int) (w : World) :
    Calls Tryd.prog 85 #[.int .u8 c] w fun e w' => e = .returned (.bool (Nu.isDigit c)) ∧ w' = w := by
  unfold Nu.isDigit
  by_cases h1 : 48 ≤ c
  · have e1 : decide (48 ≤ c) = true := by simp [h1]
    rw [e1]
    go_enter Tryd.func85, Tryd.ntmps85
    go_wp2
    go_ret
    exact ⟨by simp, rfl⟩
  · have e1 : decide (48 ≤ c) = false := by simp [h1]
    rw [e1]
    go_enter Tryd.func85, Tryd.ntmps85
    go_wp2
    go_ret
    exact ⟨by simp, rfl⟩

end Go.Proofs.YtmgjfakdjponoabDoor
