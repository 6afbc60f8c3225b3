/-
  Rotations, pure: a list is sought in another one by its borders; turns.
-/
import Derived.Test.YtfkmldopfhdbkaaMg17
namespace Go.Proofs.Ytfkmldopfhdbkaa
namespace Ro

/-- m is the most elements of a that stand last in s and first in a. -/
structure IsM (a s : List Int) (m : Nat) : Prop where
  le : m ≤ a.length
  suf : a.take m <:+ s
  most : ∀ k, k ≤ a.length → a.take k <:+ s → k ≤ m

theorem IsM.nil (a : List Int) : IsM a [] 0 := by
  refine ⟨Nat.zero_le _, by simp, fun k hk h => ?_⟩
  have := h.length_le
  rw [List.length_take, List.length_nil] at this
  omega

theorem IsM.unique {a s : List Int} {m m' : Nat} (h : IsM a s m) (h' : IsM a s m') : m = m' := by
  have := h.most m' h'.le h'.suf
  have := h'.most m h.le h.suf
  omega

theorem IsM.short {a s : List Int} {m : Nat} (h : IsM a s m) : m ≤ s.length := by
  have := h.suf.length_le
  rw [List.length_take] at this
  have := h.le
  omega

/-- Two that stand last in one list. -/
theorem suf_two {s t u : List Int} (h : s <:+ u) (h' : t <:+ u) (hl : s.length ≤ t.length) : s <:+ t := List.suffix_of_suffix_length_le h h' hl

/-- The next lesser one. -/
theorem border_next {a s : List Int} {m k : Nat} (hm : m ≤ a.length) (hs : a.take m <:+ s) (hk : k < m) (hks : a.take k <:+ s) : a.take k <:+ (a.take m).drop 1 := by
  have h1 := suf_two hks hs (by rw [List.length_take, List.length_take]; omega)
  refine suf_two h1 (List.drop_suffix _ _) ?_
  rw [List.length_drop, List.length_take, List.length_take]
  omega

theorem border_back {a s : List Int} {m k : Nat} (hs : a.take m <:+ s) (hks : a.take k <:+ (a.take m).drop 1) : a.take k <:+ s :=
  (hks.trans (List.drop_suffix _ _)).trans hs

/-- What is so while the borders are gone down: all that could be made longer by x are at most m. -/
structure Down (a s : List Int) (x : Int) (m : Nat) : Prop where
  lt : m < a.length
  suf : a.take m <:+ s
  most : ∀ k, k < a.length → a.take k <:+ s → a[k]? = some x → k ≤ m

theorem IsM.down {a s : List Int} {x : Int} {m : Nat} (h : IsM a s m) (hm : m < a.length) : Down a s x m := ⟨hm, h.suf, fun k hk hs _ => h.most k (by omega) hs⟩

theorem Down.next {a s : List Int} {x : Int} {m b : Nat} (h : Down a s x m) (hm : 0 < m) (hx : a[m]? ≠ some x) (hb : IsM a ((a.take m).drop 1) b) : b < m ∧ Down a s x b := by
  have h1 := hb.short
  rw [List.length_drop, List.length_take] at h1
  have h2 := h.lt
  refine ⟨by omega, by omega, border_back h.suf hb.suf, fun k hk hs hkx => ?_⟩
  have hkm := h.most k hk hs hkx
  have hne : k ≠ m := fun e => hx (by rw [← e]; exact hkx)
  exact hb.most k (by omega) (border_next (by omega) h.suf (by omega) hs)

theorem take_succ' {a : List Int} {m : Nat} {x : Int} (h : a[m]? = some x) : a.take (m + 1) = a.take m ++ [x] := take_snoc' h

/-- A beginning that stands last once x has come. -/
theorem suf_snoc {a s : List Int} {x : Int} {k : Nat} (hk : k + 1 ≤ a.length) : a.take (k + 1) <:+ s ++ [x] ↔ a[k]? = some x ∧ a.take k <:+ s := by
  obtain ⟨y, hy⟩ : ∃ y, a[k]? = some y := ⟨_, List.getElem?_eq_getElem (by omega)⟩
  rw [take_succ' hy, hy]
  constructor
  · rintro ⟨t, ht⟩
    rw [← List.append_assoc] at ht
    obtain ⟨h1, h2⟩ := List.append_inj' ht rfl
    exact ⟨by simp at h2; rw [h2], ⟨t, h1⟩⟩
  · rintro ⟨h1, t, ht⟩
    refine ⟨t, ?_⟩
    rw [← List.append_assoc, ht]
    simp at h1
    rw [h1]

theorem Down.hit {a s : List Int} {x : Int} {m : Nat} (h : Down a s x m) (hx : a[m]? = some x) : IsM a (s ++ [x]) (m + 1) := by
  have := h.lt
  refine ⟨by omega, (suf_snoc (by omega)).2 ⟨hx, h.suf⟩, fun k hk hs => ?_⟩
  cases k with
  | zero => omega
  | succ k =>
    obtain ⟨h1, h2⟩ := (suf_snoc hk).1 hs
    have := h.most k (by omega) h2 h1
    omega

theorem Down.miss {a s : List Int} {x : Int} (h : Down a s x 0) (hx : a[0]? ≠ some x) : IsM a (s ++ [x]) 0 := by
  refine ⟨Nat.zero_le _, by simp, fun k hk hs => ?_⟩
  cases k with
  | zero => omega
  | succ k =>
    obtain ⟨h1, h2⟩ := (suf_snoc hk).1 hs
    have := h.most k (by omega) h2 h1
    obtain rfl : k = 0 := by omega
    exact absurd h1 hx

/-- Some turn of a is b. -/
def Tn (a b : List Int) : Prop := (a = [] ∧ b = []) ∨ ∃ k, k < a.length ∧ turn a k = b

theorem turn_zero (a : List Int) : turn a 0 = a := by simp [turn]
theorem turn_back {a : List Int} {k : Nat} (hk : k ≤ a.length) : turn (turn a k) (a.length - k) = a := by
  unfold turn
  have e1 : (a.drop k ++ a.take k).drop (a.length - k) = a.take k := by
    rw [List.drop_append]
    simp
    omega
  have e2 : (a.drop k ++ a.take k).take (a.length - k) = a.drop k := by
    rw [List.take_append, List.take_of_length_le (by rw [List.length_drop]; exact Nat.le_refl _), List.length_drop, Nat.sub_self]
    simp
  rw [e1, e2, List.take_append_drop]
theorem Tn.len {a b : List Int} (h : Tn a b) : a.length = b.length := by
  rcases h with ⟨rfl, rfl⟩ | ⟨k, -, rfl⟩
  · rfl
  · rw [turn_len]
theorem Tn.symm {a b : List Int} (h : Tn a b) : Tn b a := by
  rcases h with ⟨rfl, rfl⟩ | ⟨k, hk, rfl⟩
  · exact .inl ⟨rfl, rfl⟩
  · right
    by_cases h0 : k = 0
    · subst h0
      exact ⟨0, by rw [turn_len]; exact hk, by rw [turn_zero, turn_zero]⟩
    · exact ⟨a.length - k, by rw [turn_len]; omega, turn_back (by omega)⟩
theorem Tn.refl (a : List Int) : Tn a a := by
  by_cases h : a = []
  · exact .inl ⟨h, h⟩
  · exact .inr ⟨0, List.length_pos_iff.2 h, turn_zero a⟩

/-- b said twice. -/
def dbl (b : List Int) (j : Nat) : List Int := (b ++ b).take j
theorem dbl_len {b : List Int} {j : Nat} (h : j ≤ 2 * b.length) : (dbl b j).length = j := by
  unfold dbl
  rw [List.length_take, List.length_append]
  omega
theorem dbl_succ {b : List Int} {j : Nat} (h : j < 2 * b.length) : dbl b (j + 1) = dbl b j ++ [b.getD (j % b.length) 0] := by
  have h1 : (b ++ b)[j]? = some (b.getD (j % b.length) 0) := by
    rw [List.getElem?_append]
    by_cases hj : j < b.length
    · rw [if_pos hj, Nat.mod_eq_of_lt hj, List.getD_eq_getElem?_getD, List.getElem?_eq_getElem hj]
      rfl
    · rw [if_neg hj]
      have e : j % b.length = j - b.length := by
        rw [Nat.mod_eq_sub_mod (by omega), Nat.mod_eq_of_lt (by omega)]
      rw [e, List.getD_eq_getElem?_getD, List.getElem?_eq_getElem (by omega)]
      rfl
  exact take_snoc' h1

/-- Where all of a stands last in b said twice, a is a turn of b. -/
theorem tn_of_dbl {a b : List Int} {j : Nat} (hl : a.length = b.length) (h0 : 0 < a.length) (hj : j ≤ 2 * b.length) (h : a <:+ dbl b j) : Tn a b := by
  have hlj := h.length_le
  rw [dbl_len hj] at hlj
  refine Tn.symm (.inr ?_)
  obtain ⟨n, hn⟩ : ∃ n, n = a.length := ⟨_, rfl⟩
  have ha : a = (dbl b j).drop (j - n) := by
    have := List.suffix_iff_eq_drop.1 h
    rw [dbl_len hj, ← hn] at this
    exact this
  by_cases h2 : j = 2 * b.length
  · refine ⟨0, by omega, ?_⟩
    rw [turn_zero, ha, h2]
    unfold dbl
    rw [List.take_of_length_le (by rw [List.length_append]; omega), show 2 * b.length - n = b.length by omega]
    simp
  · refine ⟨j - n, by omega, ?_⟩
    rw [ha]
    unfold dbl turn
    have e3 : j - n - b.length = 0 := by omega
    have e4 : (b.drop (j - n)).take (j - (j - n)) = b.drop (j - n) := List.take_of_length_le (by rw [List.length_drop]; omega)
    rw [List.drop_take, List.drop_append, List.take_append, e3, List.drop_zero, e4, List.length_drop]
    congr 2
    omega

theorem dbl_of_tn {a b : List Int} (h : Tn a b) : ∃ j, a.length ≤ j ∧ j ≤ 2 * b.length ∧ a <:+ dbl b j := by
  have hl := h.len
  rcases h.symm with ⟨rfl, rfl⟩ | ⟨k, hk, rfl⟩
  · exact ⟨0, by simp, by simp, by simp [dbl]⟩
  · refine ⟨k + b.length, by rw [turn_len]; omega, by omega, ?_⟩
    refine ⟨b.take k, ?_⟩
    have e1 : b.take (k + b.length) = b := List.take_of_length_le (by omega)
    unfold dbl turn
    rw [← List.append_assoc, List.take_append_drop, List.take_append, e1, Nat.add_sub_cancel]

end Ro
end Go.Proofs.Ytfkmldopfhdbkaa
