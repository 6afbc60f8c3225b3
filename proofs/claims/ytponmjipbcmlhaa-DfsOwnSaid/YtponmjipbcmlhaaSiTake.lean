/-
  Pure: a set of edges moved into a list, one by one, and sorted.
-/
import Derived.Test.YtponmjipbcmlhaaMgA
namespace Go.Proofs.Ytponmjipbcmlhaa
namespace Si

theorem put_len : ∀ (l : List (Int × Int)) (e : Int × Int), l.Pairwise lt → (put l e).length = if e ∈ l then l.length else l.length + 1
  | [], e, _ => by simp [put]
  | y :: l, e, h => by
    rw [List.pairwise_cons] at h
    unfold put
    split
    · rename_i hye
      have hne : e ≠ y := (lt_ne hye).symm
      rw [List.length_cons, put_len l e h.2]
      by_cases hm : e ∈ l
      · simp [hm]
      · simp [hm, hne]
    · split
      · rename_i h2
        subst h2
        simp
      · rename_i h1 h2
        have hey : lt e y := by
          rcases lt_total y e with a | a | a
          · exact absurd a h1
          · exact absurd a h2
          · exact a
        have hn : e ∉ y :: l := fun hm => by
          rcases List.mem_cons.1 hm with a | a
          · exact h2 a.symm
          · exact lt_asymm hey (h.1 e a)
        rw [if_neg hn]
        simp

theorem made_sorted (ps : List (Int × Int)) : (made [] ps).Pairwise lt := (made_made ps).1

theorem take_snoc {ps : List (Int × Int)} {k : Nat} {p : Int × Int} (h : ps[k]? = some p) : ps.take (k + 1) = ps.take k ++ [p] := by
  have hl : k < ps.length := (List.getElem?_eq_some_iff.1 h).1
  rw [List.take_succ_eq_append_getElem hl]
  rw [List.getElem?_eq_getElem hl] at h
  cases h
  rfl

/-- The edges moved so far, by the first k pairs. -/
structure Taken (l0 ps : List (Int × Int)) (k : Nat) (acc : List (Int × Int)) : Prop where
  nodup : acc.Nodup
  mem : ∀ e, e ∈ acc ↔ e ∈ l0 ∧ ∃ p ∈ ps.take k, norm p = e

theorem Taken.start (l0 ps : List (Int × Int)) : Taken l0 ps 0 [] := ⟨List.nodup_nil, fun e => by simp⟩

theorem Taken.new {l0 ps acc : List (Int × Int)} {k : Nat} {p : Int × Int} (h : Taken l0 ps k acc) (hp : ps[k]? = some p) (h0 : norm p ∈ l0) (h1 : norm p ∉ acc) : Taken l0 ps (k + 1) (acc ++ [norm p]) := by
  refine ⟨?_, fun e => ?_⟩
  · rw [List.nodup_append]
    exact ⟨h.nodup, by simp, fun a ha b hb hab => by rw [List.mem_singleton] at hb; subst hb; subst hab; exact h1 ha⟩
  · rw [List.mem_append, List.mem_singleton, h.mem, take_snoc hp]
    constructor
    · rintro (⟨a, q, hq, e1⟩ | rfl)
      · exact ⟨a, q, List.mem_append_left _ hq, e1⟩
      · exact ⟨h0, p, by simp, rfl⟩
    · rintro ⟨a, q, hq, e1⟩
      rcases List.mem_append.1 hq with hq | hq
      · exact .inl ⟨a, q, hq, e1⟩
      · rw [List.mem_singleton] at hq
        subst hq
        exact .inr e1.symm

theorem Taken.old {l0 ps acc : List (Int × Int)} {k : Nat} {p : Int × Int} (h : Taken l0 ps k acc) (hp : ps[k]? = some p) (h1 : ¬ (norm p ∈ l0 ∧ norm p ∉ acc)) : Taken l0 ps (k + 1) acc := by
  refine ⟨h.nodup, fun e => ?_⟩
  rw [h.mem, take_snoc hp]
  constructor
  · rintro ⟨a, q, hq, e1⟩
    exact ⟨a, q, List.mem_append_left _ hq, e1⟩
  · rintro ⟨a, q, hq, e1⟩
    rcases List.mem_append.1 hq with hq | hq
    · exact ⟨a, q, hq, e1⟩
    · rw [List.mem_singleton] at hq
      subst hq
      subst e1
      by_cases ha : norm q ∈ acc
      · exact ⟨a, ((h.mem _).1 ha).2⟩
      · exact absurd ⟨a, ha⟩ h1

theorem Taken.all {ps acc : List (Int × Int)} (h : Taken (made [] ps) ps ps.length acc) (e : Int × Int) : e ∈ acc ↔ e ∈ made [] ps := by
  rw [h.mem]
  constructor
  · exact fun a => a.1
  · intro a
    obtain ⟨p, hp, _, e1⟩ := ((made_made ps).2 e).1 a
    exact ⟨a, p, by rw [List.take_length]; exact hp, e1.symm⟩

/-- Sorted, a list of just these edges, each once, is the graph's. -/
theorem sorted_made {l0 acc l : List (Int × Int)} (h0 : l0.Pairwise lt) (hn : acc.Nodup) (hm : ∀ e, e ∈ acc ↔ e ∈ l0) (hp : l.Perm acc) (hs : ∀ (i j : Nat) (a b : Int × Int), i < j → l[i]? = some a → l[j]? = some b → ¬ lt b a) : l = l0 := by
  have hnl : l.Nodup := hp.nodup_iff.2 hn
  refine sorted_ext ?_ h0 (fun e => (hp.mem_iff).trans (hm e))
  rw [List.pairwise_iff_getElem]
  intro i j hi hj hij
  have hne : l[i] ≠ l[j] := by
    intro he
    have := (List.getElem_inj hnl).1 he
    omega
  rcases lt_total l[i] l[j] with a | a | a
  · exact a
  · exact absurd a hne
  · exact absurd a (hs i j _ _ hij (List.getElem?_eq_getElem hi) (List.getElem?_eq_getElem hj))

theorem norm_in {n : Int} {p : Int × Int} (h : (0 ≤ p.1 ∧ p.1 < n) ∧ 0 ≤ p.2 ∧ p.2 < n) (hn : n ≤ 1048576) : (0 ≤ (norm p).1 ∧ (norm p).1 ≤ 1048576) ∧ 0 ≤ (norm p).2 ∧ (norm p).2 ≤ 1048576 := by
  unfold norm
  dsimp only
  omega

/-- What is made of pairs of vertices is a valid graph. -/
theorem made_val {n : Int} {ps : List (Int × Int)} (h0 : 0 ≤ n) (h1 : n ≤ 1048576) (hin : ∀ (j : Nat) (p : Int × Int), ps[j]? = some p → (0 ≤ p.1 ∧ p.1 < n) ∧ 0 ≤ p.2 ∧ p.2 < n) (hl : (made [] ps).length ≤ 4194304) : Val n (made [] ps) := by
  refine ⟨h0, h1, hl, fun j p hj => ?_, fun j p q hp hq => ?_⟩
  · obtain ⟨r, hr, hne, rfl⟩ := ((made_made ps).2 p).1 (List.mem_of_getElem? hj)
    obtain ⟨i, hi, e⟩ := List.mem_iff_getElem.1 hr
    have := hin i r (by rw [← e]; exact List.getElem?_eq_getElem hi)
    unfold ok norm
    dsimp only
    omega
  · have hs := made_sorted ps
    rw [List.pairwise_iff_getElem] at hs
    obtain ⟨hi, ei⟩ := List.getElem?_eq_some_iff.1 hp
    obtain ⟨hj, ej⟩ := List.getElem?_eq_some_iff.1 hq
    have := hs j (j + 1) hi hj (by omega)
    rw [ei, ej] at this
    exact this

end Si
end Go.Proofs.Ytponmjipbcmlhaa
