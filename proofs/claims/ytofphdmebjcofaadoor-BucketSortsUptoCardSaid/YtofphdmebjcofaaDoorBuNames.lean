/-
  The items that BucketSorts lays: each key with a name of its own.
-/
import Derived.Test.YtofphdmebjcofaaDoorBuSortT
import Derived.Test.YtofphdmebjcofaaDoorBuDoor
import Derived.Laws.IdiomStrings
namespace Go.Proofs.YtofphdmebjcofaaDoor
open Go.RowKit

def nameOf (i : Nat) : ByteArray := (⟨#[35]⟩ : ByteArray) ++ ⟨(Lib.itoa (i : Int)).toArray⟩
def its (ks : List Int) (n : Nat) : List Item := (List.range n).map fun i => (ks.getD i 0, nameOf i)
theorem its_length (ks : List Int) (n : Nat) : (its ks n).length = n := by simp [its]
theorem its_succ (ks : List Int) (n : Nat) : its ks (n + 1) = its ks n ++ [(ks.getD n 0, nameOf n)] := by simp [its, List.range_succ]
theorem its_at (ks : List Int) {n i : Nat} (h : i < n) : (its ks n)[i]? = some (ks.getD i 0, nameOf i) := by simp [its, h]
theorem its_keys (ks : List Int) : ks = (its ks ks.length).map fun p => p.1 := by
  refine List.ext_getElem? fun j => ?_
  rw [List.getElem?_map]
  by_cases hj : j < ks.length
  · rw [its_at ks hj, Bu.getD_at hj]
    rfl
  · rw [List.getElem?_eq_none (by omega), List.getElem?_eq_none (by rw [its_length]; omega)]
    rfl

theorem grownBy_grow' (w : World) (k : Nat) (os : Array Obj) : w.grownBy (Sort.grow (w.drewN k) os) none :=
  ⟨rfl, rfl, rfl, by simp [Sort.grow, World.drewN], fun i hi _ => by simp [Sort.grow, World.drewN, Array.getElem?_append, hi]⟩

theorem itoa_any (i : Nat) (hi : i ≤ 2000000) (w : World) (ht : Tab w) : Calls Tryd.prog 5 #[.int .i64 (i : Int)] w fun e w' => e = .returned (.string ⟨(Lib.itoa (i : Int)).toArray⟩) ∧ Below w.heap.size w w' :=
  (Tryd.strconv_Itoa (i : Int) (by omega) (by omega) w ht).mono (by
    rintro e w' ⟨rfl, k, os, rfl⟩
    exact ⟨rfl, (Below.refl _ _).grown (grownBy_grow' w k os) (Nat.le_refl _) (fun j hj => by cases hj)⟩)

end Go.Proofs.YtofphdmebjcofaaDoor
