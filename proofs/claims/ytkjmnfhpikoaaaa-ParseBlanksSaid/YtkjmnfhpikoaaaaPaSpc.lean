/-
  What the statement's own spaced answers: the bytes with more blanks and line's ends, and by place the place that each has come to.
-/
import Derived.Test.YtkjmnfhpikoaaaaPaTick
namespace Go.Proofs.Ytkjmnfhpikoaaaa
open Go.RowKit

namespace Pa
/-- What is put in behind a blank, and behind a line's end. -/
def blk (r : Nat) : List UInt8 := [[32], [9], [13], [32, 9, 32], []].getD r []
def eol (r : Nat) : List UInt8 := [[10], [32, 10], [10, 10], [13], [10, 32, 9, 10], []].getD r []

def ofL (L : List UInt8) : Nat → Int := fun i => ((L.getD i 0).toNat : Int)

theorem blk_all (r : Nat) (h : r < 5) : ∀ c ∈ blk r, Nu.isBlank (c.toNat : Int) = true := by
  rcases (show r = 0 ∨ r = 1 ∨ r = 2 ∨ r = 3 ∨ r = 4 by omega) with rfl | rfl | rfl | rfl | rfl <;> decide
theorem eol_all (r : Nat) (h : r < 6) : ∀ c ∈ eol r, isGap (c.toNat : Int) := by
  unfold isGap
  rcases (show r = 0 ∨ r = 1 ∨ r = 2 ∨ r = 3 ∨ r = 4 ∨ r = 5 by omega) with rfl | rfl | rfl | rfl | rfl | rfl <;> decide
theorem blk_short (r : Nat) : (blk r).length ≤ 3 := by
  unfold blk
  match r with
  | 0 | 1 | 2 | 3 | 4 => decide
  | r + 5 => simp
theorem eol_short (r : Nat) : (eol r).length ≤ 4 := by
  unfold eol
  match r with
  | 0 | 1 | 2 | 3 | 4 | 5 => decide
  | r + 6 => simp

theorem ofL_left (a b : List UInt8) (i : Nat) (h : i < a.length) : ofL (a ++ b) i = ofL a i := by
  simp [ofL, List.getElem?_append_left h]
theorem ofL_right (a b : List UInt8) (i : Nat) (h : a.length ≤ i) : ofL (a ++ b) i = ofL b (i - a.length) := by
  simp [ofL, List.getElem?_append_right h]
theorem ofL_mem (a : List UInt8) (i : Nat) (h : i < a.length) : ∃ c ∈ a, ofL a i = (c.toNat : Int) := ⟨a[i], List.getElem_mem h, by simp [ofL, h]⟩

/-- The first k bytes are through: out is what stands so far, at the places of these. -/
structure Spc (g : Nat → Int) (k : Nat) (out : List UInt8) (at' : List Nat) : Prop where
  len : at'.length = k
  small : out.length ≤ 4 + 5 * k
  part : Spaced g (ofL out) k out.length (fun i => (at' ++ [out.length]).getD i 0)

theorem Spc.start (g : Nat → Int) (r : Nat) (h : r < 6) : Spc g 0 (eol r) [] := by
  refine ⟨rfl, by have := eol_short r; omega, ⟨fun i hi => by omega, by simp, fun j hj => ?_, fun i hi => by omega, fun i j hi => by omega, fun i j hi => by omega⟩⟩
  obtain ⟨c, hc, e⟩ := ofL_mem (eol r) j (by simpa using hj)
  rw [e]
  exact eol_all r h c hc

/-- One byte more, and x behind it. -/
theorem Spc.step {g : Nat → Int} {k : Nat} {out x : List UInt8} {at' : List Nat} {c : UInt8} (s : Spc g k out at') (hc : (c.toNat : Int) = g k) (hs : x.length ≤ 4)
    (hx : ∀ d ∈ x, isGap (d.toNat : Int) ∧ (g k = 32 ∨ g k = 10)) (hb : g k = 32 → ∀ d ∈ x, Nu.isBlank (d.toNat : Int) = true) : Spc g (k + 1) (out ++ [c] ++ x) (at' ++ [out.length]) := by
  have hl := s.len
  have hp := s.part
  have hsm := s.small
  have e1 : ∀ i, i < k → ((at' ++ [out.length]) ++ [(out ++ [c] ++ x).length]).getD i 0 = (at' ++ [out.length]).getD i 0 := fun i hi => by
    rw [List.getD_eq_getElem?_getD, List.getD_eq_getElem?_getD, List.getElem?_append_left (by simp; omega)]
  have e2 : ((at' ++ [out.length]) ++ [(out ++ [c] ++ x).length]).getD k 0 = out.length := by
    rw [List.getD_eq_getElem?_getD, List.getElem?_append_left (by simp; omega), List.getElem?_append_right (by omega), hl]
    simp
  have e2' : (at' ++ [out.length]).getD k 0 = out.length := by
    rw [List.getD_eq_getElem?_getD, List.getElem?_append_right (by omega), hl]
    simp
  have e3 : ((at' ++ [out.length]) ++ [(out ++ [c] ++ x).length]).getD (k + 1) 0 = (out ++ [c] ++ x).length := by
    rw [List.getD_eq_getElem?_getD, List.getElem?_append_right (by simp; omega)]
    simp [hl]
  have e4 : ∀ i, i ≤ k → ((at' ++ [out.length]) ++ [(out ++ [c] ++ x).length]).getD i 0 = (at' ++ [out.length]).getD i 0 := fun i hi => by
    by_cases h : i < k
    · exact e1 i h
    · have : i = k := by omega
      subst this
      rw [e2, e2']
  have hold : ∀ j, j < out.length → ofL (out ++ [c] ++ x) j = ofL out j := fun j hj => by rw [List.append_assoc, ofL_left _ _ _ hj]
  have hle : ∀ i, i ≤ k → (at' ++ [out.length]).getD i 0 ≤ out.length := fun i hi => hp.le hi
  have hmono : ∀ i, i < k → (at' ++ [out.length]).getD i 0 < out.length := fun i hi => by
    have := hp.step i hi
    have := hle (i + 1) (by omega)
    omega
  refine ⟨by simp [hl], by simp; omega, ⟨fun i hi => ?_, e3, fun j hj => ?_, fun i hi => ?_, fun i j hi h1 h2 => ?_, fun i j hi h1 h2 h3 => ?_⟩⟩
  · by_cases h : i < k
    · rw [e1 i h, hold _ (hmono i h)]
      exact hp.byte i h
    · have : i = k := by omega
      subst this
      rw [e2, List.append_assoc, ofL_right _ _ _ (Nat.le_refl _)]
      simpa [ofL] using hc
  · rw [e4 0 (Nat.zero_le _)] at hj
    have := hle 0 (Nat.zero_le _)
    rw [hold j (by omega)]
    exact hp.front j hj
  · by_cases h : i < k
    · rw [e1 i h, e4 (i + 1) (by omega)]
      exact hp.step i h
    · have : i = k := by omega
      subst this
      rw [e2, e3]
      simp
  · by_cases h : i < k
    · rw [e1 i h] at h1
      rw [e4 (i + 1) (by omega)] at h2
      have := hle (i + 1) (by omega)
      rw [hold j (by omega)]
      exact hp.blank i j h h1 h2
    · have : i = k := by omega
      subst this
      rw [e2] at h1
      rw [e3] at h2
      simp at h2
      rw [ofL_right _ _ _ (by simp; omega)]
      obtain ⟨d, hd, e⟩ := ofL_mem x (j - (out ++ [c]).length) (by simp; omega)
      rw [e]
      exact hx d hd
  · by_cases h : i < k
    · rw [e1 i h] at h1
      rw [e4 (i + 1) (by omega)] at h2
      have := hle (i + 1) (by omega)
      rw [hold j (by omega)]
      exact hp.still i j h h1 h2 h3
    · have : i = k := by omega
      subst this
      rw [e2] at h1
      rw [e3] at h2
      simp at h2
      rw [ofL_right _ _ _ (by simp; omega)]
      obtain ⟨d, hd, e⟩ := ofL_mem x (j - (out ++ [c]).length) (by simp; omega)
      rw [e]
      exact hb h3 d hd

end Pa
end Go.Proofs.Ytkjmnfhpikoaaaa
