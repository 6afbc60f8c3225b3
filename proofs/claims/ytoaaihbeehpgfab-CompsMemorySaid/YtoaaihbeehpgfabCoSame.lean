/-
  Are two numbers in one set?
-/
import Derived.Test.YtoaaihbeehpgfabCoSets
namespace Go.Proofs.Ytoaaihbeehpgfab
open Go.RowKit

set_option maxRecDepth 100000 in
set_option maxHeartbeats 4000000 in
theorem same_any (v : Option Addr) (n : Nat) (m : Nat → Nat) (x y : Int) (w : World) (h : IsSets w v n m) : Calls Try.prog 16 #[.pointer v, .int .i64 x, .int .i64 y] w fun e w' => e = .returned (.bool (Co.sameI n m x y)) ∧ ∃ k, w' = w.drewN k := by
  have hvt : ∀ k z, Co.isIn n z → Calls Try.prog 17 #[.pointer v, .int .i64 z] (w.drewN k) fun e w' => e = .returned (.bool true) ∧ w' = w.drewN k := fun k z hz => by
    have := has_any v n m z _ (h.drewN k)
    rw [decide_eq_true hz] at this
    exact this
  have hvf : ∀ k z, ¬ Co.isIn n z → Calls Try.prog 17 #[.pointer v, .int .i64 z] (w.drewN k) fun e w' => e = .returned (.bool false) ∧ w' = w.drewN k := fun k z hz => by
    have := has_any v n m z _ (h.drewN k)
    rw [decide_eq_false hz] at this
    exact this
  have HVT := Nu.hid hvt
  have HVF := Nu.hid hvf
  clear hvt hvf
  by_cases hx : Co.isIn n x
  · by_cases hy : Co.isIn n y
    · have hxl := Co.isIn_lt hx
      have hyl := Co.isIn_lt hy
      rcases h with ⟨rfl, rfl⟩ | ⟨p, gp, gt, rfl, hn, P, S, L, r, d, h, hf⟩
      · omega
      · obtain ⟨a, rfl⟩ : ∃ u : Nat, x = (u : Int) := ⟨x.toNat, by unfold Co.isIn at hx; omega⟩
        obtain ⟨b, rfl⟩ : ∃ u : Nat, y = (u : Int) := ⟨y.toNat, by unfold Co.isIn at hy; omega⟩
        rw [Int.toNat_natCast] at hxl hyl
        have hs : Co.sameI n m a b = decide (r a = r b) := by
          unfold Co.sameI
          rw [Int.toNat_natCast, Int.toNat_natCast, Bool.eq_iff_iff]
          simp [hx, hy, hf.same a b hxl hyl]
        rw [hs]
        have HR := Nu.hid (fun k (z : Nat) (hz : z < n) => root_of h hf hz k)
        have c0 := h.c0
        have heq : ((r a : Int) == (r b : Int)) = decide (r a = r b) := by
          rw [Bool.eq_iff_iff]
          simp
          omega
        obtain ⟨t, ht⟩ : ∃ t, decide (r a = r b) = t := ⟨_, rfl⟩
        rw [ht] at heq ⊢
        clear h hf hs ht
        go_enter Try.func16, Try.ntmps16
        go_wp2_with fail
        go_quiet ((first | (go_at_call 17; first | (refine Calls.quiet_of_same (HVT.out _ _ ?_); assumption) | (refine Calls.quiet_of_same (HVF.out _ _ ?_); assumption)) | (go_at_call 18; refine Calls.quiet_of_same (HR.out _ _ ?_); assumption)))
        go_wp2
        go_ret
        exact ⟨rfl, nq, rfl⟩
    · have hs : Co.sameI n m x y = false := by
        unfold Co.sameI
        exact decide_eq_false (fun h => hy h.2.1)
      rw [hs]
      clear h hs
      go_enter Try.func16, Try.ntmps16
      go_wp2_with fail
      go_quiet ((go_at_call 17; first | (refine Calls.quiet_of_same (HVT.out _ _ ?_); assumption) | (refine Calls.quiet_of_same (HVF.out _ _ ?_); assumption)))
      go_wp2
      go_ret
      exact ⟨rfl, nq, rfl⟩
  · have hs : Co.sameI n m x y = false := by
      unfold Co.sameI
      exact decide_eq_false (fun h => hx h.1)
    rw [hs]
    clear h hs
    go_enter Try.func16, Try.ntmps16
    go_wp2_with fail
    go_quiet ((go_at_call 17; first | (refine Calls.quiet_of_same (HVT.out _ _ ?_); assumption) | (refine Calls.quiet_of_same (HVF.out _ _ ?_); assumption)))
    go_wp2
    go_ret
    exact ⟨rfl, nq, rfl⟩

end Go.Proofs.Ytoaaihbeehpgfab
