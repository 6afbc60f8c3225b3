/-
  The order of edges as the document asks it.
-/
import Derived.Test.YtdkckdbpbdhoaaaSiSmall
namespace Go.Proofs.Ytdkckdbpbdhoaaa
open Go.RowKit Go.Sort

set_option maxHeartbeats 1000000 in
theorem less_any (a b : Int × Int) (w : World) : Calls Try.prog 50 #[edgeVal a, edgeVal b] w fun e w' => e = .returned (.bool (decide (Si.lt a b))) ∧ ∃ q os', w' = grow (w.drewN q) os' := by
  unfold edgeVal
  by_cases h1 : a.1 < b.1
  · have hd : decide (Si.lt a b) = true := by simp [Si.lt, h1]
    rw [hd]
    go_enter Try.func50, Try.ntmps50
    go_wp2
    go_ret
    exact ⟨rfl, 0, _, by rw [alloc_eq_grow, alloc_eq_grow, grow_grow]; rfl⟩
  · by_cases h2 : a.1 = b.1
    · by_cases h3 : a.2 < b.2
      · have hd : decide (Si.lt a b) = true := by simp [Si.lt, h2, h3]
        rw [hd]
        go_enter Try.func50, Try.ntmps50
        go_wp2
        go_ret
        exact ⟨rfl, 0, _, by rw [alloc_eq_grow, alloc_eq_grow, grow_grow]; rfl⟩
      · have hd : decide (Si.lt a b) = false := by simp [Si.lt, h1, h3]
        rw [hd]
        go_enter Try.func50, Try.ntmps50
        go_wp2
        go_ret
        exact ⟨rfl, 0, _, by rw [alloc_eq_grow, alloc_eq_grow, grow_grow]; rfl⟩
    · have hd : decide (Si.lt a b) = false := by simp [Si.lt, h1, h2]
      rw [hd]
      go_enter Try.func50, Try.ntmps50
      go_wp2
      go_ret
      exact ⟨rfl, 0, _, by rw [alloc_eq_grow, alloc_eq_grow, grow_grow]; rfl⟩

theorem grown_of_grow {w w' : World} (h : ∃ (q : Nat) (os' : Array Obj), w' = grow (w.drewN q) os') : Below w.heap.size w w' := by
  obtain ⟨q, os', rfl⟩ := h
  exact grow_below w q os'

end Go.Proofs.Ytdkckdbpbdhoaaa
