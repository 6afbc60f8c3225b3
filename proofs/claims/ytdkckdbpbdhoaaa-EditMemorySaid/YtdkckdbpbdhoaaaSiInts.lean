/-
  How often each vertex is an end.
-/
import Derived.Test.YtdkckdbpbdhoaaaSiValid
import Derived.Test.YtdkckdbpbdhoaaaMgB
namespace Go.Proofs.Ytdkckdbpbdhoaaa
open Go.RowKit

namespace Si
theorem bump_length (l : List Int) (v : Int) : (bump l v).length = l.length := by simp [bump]

theorem degs_snoc (n : Int) (es : List (Int × Int)) (p : Int × Int) : degs n (es ++ [p]) = bump (bump (degs n es) p.1) p.2 := by simp [degs, List.foldl_append]

theorem degs_length (n : Int) (es : List (Int × Int)) : (degs n es).length = n.toNat := by
  unfold degs
  suffices h : ∀ (es : List (Int × Int)) (l : List Int), (es.foldl (fun l e => bump (bump l e.1) e.2) l).length = l.length by rw [h]; simp
  intro es
  induction es with
  | nil => intro l; rfl
  | cons e es ih => intro l; rw [List.foldl_cons, ih, bump_length, bump_length]

/-- All numbers lie between 0 and m. -/
def Upto (m : Int) (l : List Int) : Prop := ∀ (j : Nat) (x : Int), l[j]? = some x → 0 ≤ x ∧ x ≤ m

theorem Upto.bump {m : Int} {l : List Int} (h : Upto m l) (v : Int) : Upto (m + 1) (bump l v) := by
  intro j x hx
  unfold Si.bump at hx
  rw [List.getElem?_set] at hx
  by_cases hv : v.toNat = j
  · rw [if_pos hv] at hx
    split at hx
    · cases hx
      rename_i hl
      have e : l[v.toNat]? = some l[v.toNat] := List.getElem?_eq_getElem hl
      have := h _ _ e
      rw [List.getD_eq_getElem?_getD, e]
      dsimp only [Option.getD_some]
      omega
    · cases hx
  · rw [if_neg hv] at hx
    have := h j x hx
    omega

theorem degs_upto (n : Int) (es : List (Int × Int)) : Upto (2 * es.length) (degs n es) := by
  unfold degs
  suffices h : ∀ (es : List (Int × Int)) (l : List Int) (m : Int), Upto m l → Upto (m + 2 * es.length) (es.foldl (fun l e => Si.bump (Si.bump l e.1) e.2) l) by
    have := h es (List.replicate n.toNat 0) 0 (fun j x hx => by
      rw [List.getElem?_replicate] at hx
      split at hx
      · cases hx; omega
      · cases hx)
    simpa using this
  intro es
  induction es with
  | nil => intro l m h; simpa using h
  | cons e es ih =>
    intro l m h
    have := ih _ _ ((h.bump e.1).bump e.2)
    rw [List.foldl_cons]
    have e1 : m + 2 * ((e :: es).length : Int) = m + 1 + 1 + 2 * (es.length : Int) := by simp; omega
    rw [e1]
    exact this
end Si

end Go.Proofs.Ytdkckdbpbdhoaaa
