/-
  The graph that pairs make; whether all numbers of pairs are vertices.
-/
import Derived.Test.YtfkmldopfhdbkaaMg04
namespace Go.Proofs.Ytfkmldopfhdbkaa
open Go.RowKit Go.Sort

def Si.inn (n : Int) (p : Int × Int) : Prop := (0 ≤ p.1 ∧ p.1 < n) ∧ 0 ≤ p.2 ∧ p.2 < n
instance (n : Int) (p : Int × Int) : Decidable (Si.inn n p) := by unfold Si.inn; infer_instance
def Si.inside (n : Int) (ps : List (Int × Int)) : Bool := ps.all fun p => decide (Si.inn n p)

theorem Si.inside_no {n : Int} {ps : List (Int × Int)} {k : Nat} {p : Int × Int} (h : ps[k]? = some p) (hp : ¬ Si.inn n p) : Si.inside n ps = false := by
  unfold Si.inside
  rw [List.all_eq_false]
  exact ⟨p, List.mem_of_getElem? h, by simpa using hp⟩

theorem Si.inside_yes {n : Int} {ps : List (Int × Int)} (h : ∀ (j : Nat) (p : Int × Int), ps[j]? = some p → Si.inn n p) : Si.inside n ps = true := by
  unfold Si.inside
  rw [List.all_eq_true]
  intro p hp
  obtain ⟨j, hj, e⟩ := List.mem_iff_getElem.1 hp
  simpa using h j p (by rw [← e]; exact List.getElem?_eq_getElem hj)

theorem Si.inside_at {n : Int} {ps : List (Int × Int)} (h : Si.inside n ps = true) {j : Nat} {p : Int × Int} (hj : ps[j]? = some p) : Si.inn n p := by
  unfold Si.inside at h
  rw [List.all_eq_true] at h
  simpa using h p (List.mem_of_getElem? hj)

/-- The graph of pairs, and the error's number. -/
def Si.mk (n : Int) (ps : List (Int × Int)) : Int × List (Int × Int) × Int :=
  if n < 0 ∨ 1048576 < n ∨ Si.inside n ps = false then (0, [], 2) else if 4194304 < (Si.made [] ps).length then (0, [], 141) else (n, Si.made [] ps, 0)

end Go.Proofs.Ytfkmldopfhdbkaa
