/-
  The sets as lists.
-/
import Derived.Test.YtoaaihbeehpgfabCoNum
namespace Go.Proofs.Ytoaaihbeehpgfab
namespace Co

/-- The least numbers below a, rising. -/
def fp (m : Nat → Nat) (a : Nat) : List Nat := (List.range a).filter (fix m)
/-- The numbers below b of i's set. -/
def mem (m : Nat → Nat) (b i : Nat) : List Int := ((List.range b).filter (fun k => decide (m k = i))).map fun k : Nat => (k : Int)
/-- The sets of the least numbers below a, each as far as below b. -/
def gl (m : Nat → Nat) (a b : Nat) : List (List Int) := (fp m a).map (mem m b)

theorem fp_succ_yes {m : Nat → Nat} {a : Nat} (h : m a = a) : fp m (a + 1) = fp m a ++ [a] := by
  unfold fp
  rw [List.range_succ, List.filter_append]
  simp [fix, h]
theorem fp_succ_no {m : Nat → Nat} {a : Nat} (h : m a ≠ a) : fp m (a + 1) = fp m a := by
  unfold fp
  rw [List.range_succ, List.filter_append]
  simp [fix, h]
theorem fp_length (m : Nat → Nat) : ∀ a, (fp m a).length = cntTo (fix m) a
  | 0 => rfl
  | a + 1 => by
    have ih := fp_length m a
    by_cases h : m a = a
    · rw [fp_succ_yes h, fix_succ_yes h, List.length_append, ih]; rfl
    · rw [fp_succ_no h, fix_succ_no h, ih]
theorem gl_length (m : Nat → Nat) (a b : Nat) : (gl m a b).length = cntTo (fix m) a := by unfold gl; rw [List.length_map, fp_length]
theorem cntTo_lt {p : Nat → Bool} {i : Nat} (h : p i = true) : ∀ {a : Nat}, i < a → cntTo p i < cntTo p a
  | 0, hi => by omega
  | a + 1, hi => by
    unfold cntTo
    by_cases e : i = a
    · subst e; rw [if_pos h]; cases i <;> simp [cntTo]
    · have := cntTo_lt h (show i < a by omega)
      have e2 : cntTo p i ≤ cntTo p i := Nat.le_refl _
      cases i with
      | zero => simp only [cntTo] at this ⊢; omega
      | succ i => simp only [cntTo] at this ⊢; omega
theorem fp_at (m : Nat → Nat) : ∀ (a j i : Nat), (fp m a)[j]? = some i ↔ (i < a ∧ m i = i ∧ j = cntTo (fix m) i)
  | 0, j, i => by simp [fp]
  | a + 1, j, i => by
    have ih := fp_at m a j i
    have hl := fp_length m a
    by_cases h : m a = a
    · rw [fp_succ_yes h]
      by_cases hj : j < (fp m a).length
      · rw [List.getElem?_append_left hj, ih]
        constructor
        · rintro ⟨h1, h2, h3⟩; exact ⟨by omega, h2, h3⟩
        · rintro ⟨h1, h2, h3⟩
          refine ⟨?_, h2, h3⟩
          by_cases e : i = a
          · subst e; omega
          · omega
      · rw [List.getElem?_append_right (by omega)]
        constructor
        · intro h1
          have h2 := (List.getElem?_eq_some_iff.1 h1).1
          have h3 : j - (fp m a).length = 0 := by simp at h2; omega
          rw [h3] at h1
          simp at h1
          subst h1
          exact ⟨by omega, h, by omega⟩
        · rintro ⟨h1, h2, h3⟩
          by_cases e : i = a
          · subst e
            have : j - (fp m i).length = 0 := by omega
            rw [this]; rfl
          · have := cntTo_lt (p := fix m) (i := i) (by simpa [fix] using h2) (show i < a by omega)
            omega
    · rw [fp_succ_no h, ih]
      constructor
      · rintro ⟨h1, h2, h3⟩; exact ⟨by omega, h2, h3⟩
      · rintro ⟨h1, h2, h3⟩
        refine ⟨?_, h2, h3⟩
        by_cases e : i = a
        · subst e; exact absurd h2 h
        · omega

theorem mem_succ_yes {m : Nat → Nat} {b i : Nat} (h : m b = i) : mem m (b + 1) i = mem m b i ++ [(b : Int)] := by
  unfold mem
  rw [List.range_succ, List.filter_append]
  simp [h]
theorem mem_succ_no {m : Nat → Nat} {b i : Nat} (h : m b ≠ i) : mem m (b + 1) i = mem m b i := by
  unfold mem
  rw [List.range_succ, List.filter_append]
  simp [h]
theorem mem_early {m : Nat → Nat} {n b i : Nat} (hn : Norm n m) (hb : b ≤ i) (hi : i ≤ n) : mem m b i = [] := by
  unfold mem
  rw [List.map_eq_nil_iff, List.filter_eq_nil_iff]
  intro k hk
  have hk' := List.mem_range.1 hk
  have := hn.le k (by omega)
  simp
  omega
theorem mem_length (m : Nat → Nat) (b i : Nat) : (mem m b i).length ≤ b := by
  unfold mem
  rw [List.length_map]
  have := List.length_filter_le (fun k => decide (m k = i)) (List.range b)
  simpa using this

/-- One number more, the least of its set. -/
theorem gl_least {n : Nat} {m : Nat → Nat} (hn : Norm n m) {a : Nat} (ha : a < n) (h : m a = a) : gl m (a + 1) (a + 1) = gl m a a ++ [[(a : Int)]] := by
  unfold gl
  have e1 : (fp m a).map (mem m (a + 1)) = (fp m a).map (mem m a) := List.map_congr_left fun i hi => mem_succ_no (by
    have := List.mem_range.1 (List.mem_filter.1 hi).1
    omega)
  rw [fp_succ_yes h, List.map_append, e1, List.map_singleton, mem_succ_yes h, mem_early hn (Nat.le_refl a) (by omega)]
  rfl

/-- One number more, of a set that is there. -/
theorem gl_more {n : Nat} {m : Nat → Nat} (hn : Norm n m) {a : Nat} (ha : a < n) (h : m a ≠ a) : (gl m a a)[num m a]? = some (mem m a (m a)) ∧ gl m (a + 1) (a + 1) = (gl m a a).set (num m a) (mem m a (m a) ++ [(a : Int)]) := by
  have hle := hn.le a ha
  have hat : (fp m a)[num m a]? = some (m a) := (fp_at m a _ _).2 ⟨by omega, hn.idem a ha, rfl⟩
  have hlt := (List.getElem?_eq_some_iff.1 hat).1
  refine ⟨by unfold gl; rw [List.getElem?_map, hat]; rfl, ?_⟩
  unfold gl
  rw [fp_succ_no h]
  refine List.ext_getElem? fun j => ?_
  rw [List.getElem?_set, List.getElem?_map, List.length_map]
  by_cases e : num m a = j
  · subst e
    rw [if_pos rfl, if_pos hlt, hat, Option.map_some, mem_succ_yes rfl]
  · rw [if_neg e, List.getElem?_map]
    cases hj : (fp m a)[j]? with
    | none => rfl
    | some i =>
      rw [Option.map_some, Option.map_some, mem_succ_no]
      intro e2
      obtain ⟨_, _, h3⟩ := (fp_at m a j i).1 hj
      apply e
      rw [h3, ← e2]
      rfl

end Co
end Go.Proofs.Ytoaaihbeehpgfab
