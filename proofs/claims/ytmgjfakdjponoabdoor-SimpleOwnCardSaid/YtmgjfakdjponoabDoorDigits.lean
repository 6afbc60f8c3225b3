/-
  Decimal numerals: their bytes are digits, and two numbers of one numeral are one.
-/
import Derived.Lib.ItoaNum
namespace Go.Proofs.YtmgjfakdjponoabDoor

/-- What digits write. -/
def numOf (l : List UInt8) : Nat := l.foldl (fun a b => 10 * a + (b.toNat - 48)) 0

theorem numOf_snoc (l : List UInt8) (c : UInt8) : numOf (l ++ [c]) = 10 * numOf l + (c.toNat - 48) := by simp [numOf, List.foldl_append]

theorem byte_digit (d : Nat) (h : d < 10) : (UInt8.ofNat (48 + d)).toNat = 48 + d := by
  simp
  omega

theorem numOf_digits (u : Nat) : numOf (Lib.decDigits u) = u := by
  induction u using Nat.strongRecOn with
  | _ u ih =>
    by_cases h : u < 10
    · rw [Lib.decDigits_one h]
      show 10 * 0 + ((UInt8.ofNat (48 + u)).toNat - 48) = u
      rw [byte_digit u h]
      omega
    · rw [Lib.decDigits, dif_neg h, numOf_snoc, ih (u / 10) (by omega), byte_digit (u % 10) (by omega)]
      omega

theorem digits_all (u : Nat) : ∀ c ∈ Lib.decDigits u, 48 ≤ c.toNat ∧ c.toNat ≤ 57 := by
  induction u using Nat.strongRecOn with
  | _ u ih =>
    by_cases h : u < 10
    · rw [Lib.decDigits_one h]
      intro c hc
      simp only [List.mem_singleton] at hc
      rw [hc, byte_digit u h]
      omega
    · rw [Lib.decDigits, dif_neg h]
      intro c hc
      rcases List.mem_append.1 hc with hc | hc
      · exact ih (u / 10) (by omega) c hc
      · simp only [List.mem_singleton] at hc
        rw [hc, byte_digit (u % 10) (by omega)]
        omega

theorem digits_inj {u v : Nat} (h : Lib.decDigits u = Lib.decDigits v) : u = v := by
  rw [← numOf_digits u, ← numOf_digits v, h]

theorem itoa_inj {a b : Int} (h : Lib.itoa a = Lib.itoa b) : a = b := by
  unfold Lib.itoa at h
  by_cases ha : a < 0
  · rw [if_pos ha] at h
    by_cases hb : b < 0
    · rw [if_pos hb] at h
      have := digits_inj (List.cons.inj h).2
      omega
    · rw [if_neg hb] at h
      have := digits_all b.toNat 45 (by rw [← h]; simp)
      simp at this
  · rw [if_neg ha] at h
    by_cases hb : b < 0
    · rw [if_pos hb] at h
      have := digits_all a.toNat 45 (by rw [h]; simp)
      simp at this
    · rw [if_neg hb] at h
      have := digits_inj h
      omega

end Go.Proofs.YtmgjfakdjponoabDoor
