/-
  Where half-edges begin and lead, as ints; the twin by its bits (pure).
-/
import Derived.Test.YtdhaaodalchpkaaMgA
import Derived.Test.YtdhaaodalchpkaaWrd
namespace Go.Proofs.Ytdhaaodalchpkaa
open Go.RowKit

/-- What leaves a number, as ints. -/
def Cs.outZ (n : Nat) (es : List (Int × Int)) (x : Int) : List Int := (Cs.outI n es x).map fun i : Nat => (i : Int)

theorem Cs.outZ_len {n : Nat} {es : List (Int × Int)} {x : Int} : (Cs.outZ n es x).length = (Cs.outI n es x).length := by simp [Cs.outZ]

/-- What From answers. -/
def Cs.frI (es : List (Int × Int)) (x : Int) : Int := if 0 ≤ x ∧ x < 2 * (es.length : Int) then (Cs.fr es x.toNat : Int) else -1
/-- What To answers. -/
def Cs.toI (es : List (Int × Int)) (x : Int) : Int := if 0 ≤ x ∧ x < 2 * (es.length : Int) then (Cs.to es x.toNat : Int) else -1

theorem Cs.frI_in {es : List (Int × Int)} {i : Nat} (h : i < 2 * es.length) : Cs.frI es i = (Cs.fr es i : Int) := by
  unfold Cs.frI
  rw [if_pos (by omega)]
  simp
theorem Cs.toI_in {es : List (Int × Int)} {i : Nat} (h : i < 2 * es.length) : Cs.toI es i = (Cs.to es i : Int) := by
  unfold Cs.toI
  rw [if_pos (by omega)]
  simp
theorem Cs.frI_no {es : List (Int × Int)} {x : Int} (h : ¬ (0 ≤ x ∧ x < 2 * (es.length : Int))) : Cs.frI es x = -1 := by unfold Cs.frI; rw [if_neg h]
theorem Cs.toI_no {es : List (Int × Int)} {x : Int} (h : ¬ (0 ≤ x ∧ x < 2 * (es.length : Int))) : Cs.toI es x = -1 := by unfold Cs.toI; rw [if_neg h]

theorem Cs.nat_xor_one (u : Nat) : u ^^^ 1 = Cs.twin u := by
  have h1 : (u ^^^ 1) / 2 = u / 2 := by rw [Nat.xor_div_two]; simp
  have h2 : (u ^^^ 1) % 2 = (u + 1) % 2 := by
    have := Nat.xor_mod_two_pow (a := u) (b := 1) (n := 1)
    simp at this
    rw [this]
    rcases Nat.mod_two_eq_zero_or_one u with h | h <;> rw [h] <;> simp <;> omega
  unfold Cs.twin
  split <;> omega

theorem Cs.xor_twin (u : Nat) (hu : u < 4611686018427387904) : bits .xor .i64 (u : Int) 1 = (Cs.twin u : Int) := by
  have h1 : (BitVec.ofInt 64 (u : Int)).toNat = u := by
    rw [BitVec.ofInt_natCast, BitVec.toNat_ofNat]; exact Nat.mod_eq_of_lt (by omega)
  have h2 : (BitVec.ofInt 64 (1 : Int)).toNat = 1 := by decide
  show IntKind.i64.wrap ((BitVec.ofInt 64 (u : Int) ^^^ BitVec.ofInt 64 (1 : Int)).toNat : Int) = _
  have h3 := Cs.nat_xor_one u
  have h4 : Cs.twin u ≤ u + 1 := by unfold Cs.twin; split <;> omega
  rw [BitVec.toNat_xor, h1, h2, IntKind.wrap_i64, h3]
  omega

end Go.Proofs.Ytdhaaodalchpkaa
