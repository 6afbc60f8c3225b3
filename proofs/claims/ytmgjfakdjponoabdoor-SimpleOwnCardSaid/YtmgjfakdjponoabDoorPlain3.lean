/-
  The scan byte by byte, as the document's own answer goes: what a blank, a line's end, a digit, another byte do to it.
-/
import Derived.Test.YtmgjfakdjponoabDoorPlain2
namespace Go.Proofs.YtmgjfakdjponoabDoor
namespace Nu

theorem IsSkip.here {f : Int → Bool} {g : Nat → Int} {n p : Nat} (hp : p ≤ n) (h : p < n → f (g p) = false) : IsSkip f g n p p :=
  ⟨Nat.le_refl _, hp, fun i h1 h2 => by omega, h⟩

theorem IsSkip.back {f : Int → Bool} {g : Nat → Int} {n p q : Nat} (h : IsSkip f g n (p + 1) q) (hf : f (g p) = true) : IsSkip f g n p q :=
  ⟨by have := h.lo; omega, h.hi, fun i h1 h2 => by
    by_cases e : i = p
    · subst e; exact hf
    · exact h.all i (by omega) h2, h.stop⟩

theorem next_blank {g : Nat → Int} {n p : Nat} (hp : p < n) (h : isBlank (g p) = true) : next g n p = next g n (p + 1) := by
  have e : skip isBlank g n p = skip isBlank g n (p + 1) := ((skip_is isBlank g n (p + 1) hp).back h).eq.symm
  unfold next
  rw [e]

theorem scanF_blank {g : Nat → Int} {n p : Nat} (k : Nat) (hp : p < n) (h : isBlank (g p) = true) : scanF g n k p = scanF g n k (p + 1) := by
  cases k with
  | zero => rfl
  | succ k => simp only [scanF, next_blank hp h]

theorem not_blank_of_digit {c : Int} (h : isDigit c = true) : isBlank c = false := by
  simp [isDigit] at h
  simp [isBlank]
  omega

theorem val_min_succ {g : Nat → Int} {i j : Nat} (hij : i ≤ j) (h : j - i < 9) : val g i (min (j + 1 - i) 9) = 10 * val g i (min (j - i) 9) + (g j - 48) := by
  have e1 : min (j + 1 - i) 9 = (j - i) + 1 := by omega
  have e2 : min (j - i) 9 = j - i := by omega
  rw [e1, e2]
  simp only [val]
  rw [show i + (j - i) = j by omega]

theorem val_min_same {g : Nat → Int} {i j : Nat} (h : 9 ≤ j - i) : val g i (min (j + 1 - i) 9) = val g i (min (j - i) 9) := by
  rw [show min (j + 1 - i) 9 = 9 by omega, show min (j - i) 9 = 9 by omega]

end Nu

end Go.Proofs.YtmgjfakdjponoabDoor
