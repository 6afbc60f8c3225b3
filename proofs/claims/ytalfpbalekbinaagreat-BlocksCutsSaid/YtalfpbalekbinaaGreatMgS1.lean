import Derived.Test.YtalfpbalekbinaaGreatMgS0
import Derived.Test.YtalfpbalekbinaaGreatMg09
import Derived.Sort.OwnSortedInts
/-
  slices.Sort of a list of ints of one's own.
-/
namespace Go.Proofs.YtalfpbalekbinaaGreat
open Go.RowKit Go.Sort

theorem isort_any (B : Nat) (v : Value) (R : List Int) (w : World) (h : OwnZ w B v R) (hl : R.length ≤ 8388608) :
    Calls Tryz.prog 55 #[v] w fun e w' => e = .returned (.tuple #[]) ∧ OwnZ w' B v (R.mergeSort fun x y => decide (x ≤ y)) ∧ w.grownBy w' v.ownBlock := by
  have hml : (R.mergeSort fun x y => decide (x ≤ y)).length = R.length := List.length_mergeSort R
  rcases h.2 with ⟨rfl, h0⟩ | ⟨g, cap, cur, rfl, hg, hh, hc, hm, hs, ht⟩
  · have hR : R = [] := List.length_eq_zero_iff.1 h0
    subst hR
    refine (Tryz.slices_Sort_int_none none 0 w).mono ?_
    rintro e w' ⟨rfl, rfl⟩
    exact ⟨rfl, by simpa using h, rfl, rfl, rfl, Nat.le_refl _, fun _ _ _ => rfl⟩
  · rw [Nat.mul_one] at ht
    refine (Tryz.slices_Sort_int g 0 cap R w (holds_of_blockI hh ht) (lt_of_block hh) (by omega)).mono ?_
    rintro e w' ⟨rfl, n, os, rfl⟩
    refine ⟨rfl, ?_, grownBy_sortedI _⟩
    unfold OwnZ
    rw [hml]
    exact ownsRow_sortedI hml hg hh hc hm hs

end Go.Proofs.YtalfpbalekbinaaGreat
