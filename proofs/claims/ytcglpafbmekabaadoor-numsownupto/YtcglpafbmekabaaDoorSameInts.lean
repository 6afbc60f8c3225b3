/-
  That two lists of the same numbers are found the same.
-/
import Derived.Test.YtcglpafbmekabaaDoorLine
import Derived.Deep.QuietTactic
import Derived.BigQuiet
namespace Go.Proofs.YtcglpafbmekabaaDoor
open Go.RowKit

set_option maxRecDepth 100000 in
set_option maxHeartbeats 2000000 in
theorem sameints_any (ao bo : Option Addr) (n ca cb : Nat) (z : Nat → Int) (w : World) (ha : HasInts w ao n z) (hb : HasInts w bo n z) (hl : n ≤ 4611686018427387904) :
    Calls Tryd.prog 17 #[.slice ao n ca, .slice bo n cb] w fun e w' => e = .returned (.bool true) ∧ ∃ k, w' = w.drewN k := by
  have j0 : ((n : Int) != (n : Int)) = false := by simp
  have HA := Nu.hid ha
  have HB := Nu.hid hb
  clear ha hb
  go_enter Tryd.func17, Tryd.ntmps17
  go_wp2
  go_loopw [5] (fun c wr => ∃ (k m : Nat), k ≤ n ∧ c = .int .i64 k ∧ wr = w.drewN m) (fun c _ => n - (intOf c).toNat)
  case atStart => exact ⟨0, 0, Nat.zero_le _, rfl, rfl⟩
  case round =>
    obtain ⟨k, m, hk, rfl, rfl⟩ := hrel
    by_cases hlt : k < n
    · have hlti : (k : Int) < (n : Int) := by omega
      have hk0 : (0 : Int) ≤ (k : Int) := by omega
      obtain ⟨_, T, o, rfl, a0⟩ := HA.out k hlt
      obtain ⟨_, U, u, rfl, b0⟩ := HB.out k hlt
      go_wp2_with fail
      go_quiet (fail)
      go_wp2
      go_roundw
      case rel => exact ⟨k + 1, m + nq, by omega, by go_num, rfl⟩
      case measure => simp [intOf]; omega
    · have hd : ¬ ((k : Int) < (n : Int)) := by omega
      go_wp2
      go_ret
      exact ⟨rfl, m, rfl⟩

end Go.Proofs.YtcglpafbmekabaaDoor
