/-
  What value answers: the number that at most nine digits write.
-/
import Derived.Test.YtmgjfakdjponoabDoorSmall
import Derived.Test.YtmgjfakdjponoabDoorWorld
import Derived.Outline
namespace Go.Proofs.YtmgjfakdjponoabDoor
open Go.RowKit

set_option maxHeartbeats 1000000 in
theorem value_any (ao : Option Addr) (n cap : Nat) (g : Nat → Int) (w : World) (ht : HasText w ao n g) (hn : n ≤ 9) (hd : ∀ i, i < n → 48 ≤ g i ∧ g i ≤ 57) :
    Calls Tryd.prog 89 #[.slice ao n cap] w fun e w' => e = .returned (.int .i64 (Nu.val g 0 n)) ∧ w' = w := by
  go_enter Tryd.func89, Tryd.ntmps89
  go_wp2
  go_loop [3, 8] (fun v i => ∃ k : Nat, k ≤ n ∧ i = .int .i64 k ∧ v = .int .i64 (Nu.val g 0 k)) (fun _ i => n - (intOf i).toNat)
  case atStart => exact ⟨0, Nat.zero_le _, rfl, rfl⟩
  case round =>
    obtain ⟨k, hk, rfl, rfl⟩ := hrel
    have hb := Nu.val_lt_9 g 0 k (by omega) (fun i hi => by simpa using hd i (by omega))
    by_cases hlt : k < n
    · obtain ⟨_, tb, to, rfl, hc⟩ := ht k hlt
      have hdk := hd k hlt
      have HS := Nu.hid (show Nu.val g 0 (k + 1) = 10 * Nu.val g 0 k + (g k - 48) by simp [Nu.val])
      have HT := Nu.hid ht
      have HD := Nu.hid hd
      clear ht hd
      obtain ⟨V, hV⟩ : ∃ V, V = Nu.val g 0 k := ⟨_, rfl⟩
      rw [← hV] at hb HS ⊢
      have HV := Nu.hid hV
      clear hV
      obtain ⟨C, hC⟩ : ∃ C, C = g k := ⟨_, rfl⟩
      rw [← hC] at hdk hc HS
      have HC := Nu.hid hC
      clear hC
      go_wp2
      go_round
      case rel =>
        refine ⟨k + 1, by omega, by go_num, ?_⟩
        rw [HS.out]
      case measure => simp [intOf]; omega
    · go_wp2
      go_ret
      have : k = n := by omega
      subst this
      exact ⟨rfl, rfl⟩

end Go.Proofs.YtmgjfakdjponoabDoor
