/-
  Faces, pure: how many half-edges the first faces have; what stands at each place.
-/
import Derived.Test.YtfkmldopfhdbkaaFaXs
namespace Go.Proofs.Ytfkmldopfhdbkaa
namespace Fa
open Pl Co

section
variable {n : Nat} {f m : Nat → Nat}

theorem way_nodup (hp : Per n f) {h p : Nat} (hh : h < n) (hl : IsLen f n h p) : (way f h p).Nodup := by
  unfold List.Nodup way
  rw [List.pairwise_map]
  refine List.Pairwise.imp_of_mem ?_ List.pairwise_lt_range
  intro i j hi hj hij e
  rw [List.mem_range] at hi hj
  refine hl.first (j - i) (by omega) (by omega) ?_
  have e2 : it f j h = it f i (it f (j - i) h) := by rw [← it_add]; congr 1; omega
  rw [e2] at e
  exact (it_inj hp.lt hp.inj i hh (it_lt hp.lt _ hh) e).symm
theorem face_cnt (hp : Per n f) (ho : Orb n f m) {r p : Nat} (hr : r < n) (hl : IsLen f n r p) : cntTo (fun x => decide (m x = m r)) n = p := by
  have hn := way_nodup hp hr hl
  have hmem : ∀ x, x ∈ way f r p ↔ x < n ∧ m x = m r := fun x => by rw [← face_way hl]; exact mem_face hp ho hr
  have hf : ((List.range n).filter (fun x => decide (m x = m r))).Nodup := List.Pairwise.filter _ List.nodup_range
  rw [cntTo_filter]
  apply Nat.le_antisymm
  · have := nodup_in hf (l2 := way f r p) (fun x hx => by
      rw [List.mem_filter, List.mem_range, decide_eq_true_iff] at hx
      exact (hmem x).2 hx)
    rwa [way_len] at this
  · have := nodup_in hn (l2 := (List.range n).filter (fun x => decide (m x = m r))) (fun x hx => by
      rw [List.mem_filter, List.mem_range, decide_eq_true_iff]
      exact (hmem x).1 hx)
    rwa [way_len] at this
/-- How many half-edges are in the first k faces. -/
def tot (m : Nat → Nat) (n k : Nat) : Nat := cntTo (fun x => decide (num m x < k)) n
theorem tot_zero : tot m n 0 = 0 := by
  unfold tot
  rw [cntTo_congr (q := fun e => decide (e = n)) n (fun i hi => by have : ¬ i = n := by omega
                                                                   simp [this]), cntTo_one, if_neg (by omega)]
theorem tot_succ (hp : Per n f) (ho : Orb n f m) {k r p : Nat} (hr : r < n) (hmr : m r = r) (hk : cntTo (fix m) r = k) (hl : IsLen f n r p) : tot m n (k + 1) = tot m n k + p := by
  have hfix : fix m r = true := by unfold fix; simpa using hmr
  have := cntTo_or (p := fun x => decide (num m x < k)) (q := fun x => decide (m x = m r)) (s := fun x => decide (num m x < k + 1)) n (fun x hx => by
    have h1 := num_eq ho.norm hx hfix
    rw [hk] at h1
    rw [hmr, Bool.eq_iff_iff]
    simp only [decide_eq_true_iff, Bool.or_eq_true, Bool.and_eq_false_iff, decide_eq_false_iff_not, ← h1]
    omega)
  rw [face_cnt hp ho hr hl] at this
  exact this
theorem tot_all (ho : Orb n f m) : tot m n (cntTo (fix m) n) = n := by
  unfold tot
  have : cntTo (fun x => decide (num m x < cntTo (fix m) n)) n = cntTo (fun _ => true) n := cntTo_congr n fun i hi => by
    have := num_lt ho.norm hi
    simp [this]
  rw [this, cntTo_all]
theorem tot_le (k : Nat) : tot m n k ≤ n := cntTo_le _ _
/-- Leaders rise. -/
theorem lead_lt {r r' : Nat} (hf' : fix m r' = true) (h : cntTo (fix m) r < cntTo (fix m) r') : r < r' := by
  rcases Nat.lt_or_ge r r' with c | c
  · exact c
  · rcases Nat.lt_or_ge r' r with d | d
    · have := fix_mono d hf'
      omega
    · have : r = r' := by omega
      subst this
      omega
end
end Fa
end Go.Proofs.Ytfkmldopfhdbkaa
