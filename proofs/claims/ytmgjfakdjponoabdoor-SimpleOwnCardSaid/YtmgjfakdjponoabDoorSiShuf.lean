/-
  Pure: a graph's edges in another order, with ends changed about, doubles and loops between: they make the same graph.
-/
import Derived.Test.YtmgjfakdjponoabDoorSiTake
namespace Go.Proofs.YtmgjfakdjponoabDoor
namespace Si

structure Shuf (n : Int) (es ps : List (Int × Int)) : Prop where
  inn : ∀ p ∈ ps, (0 ≤ p.1 ∧ p.1 < n) ∧ 0 ≤ p.2 ∧ p.2 < n
  to : ∀ p ∈ ps, p.1 ≠ p.2 → norm p ∈ es
  of : ∀ e ∈ es, ∃ p ∈ ps, p.1 ≠ p.2 ∧ norm p = e

theorem Val.mem {n : Int} {es : List (Int × Int)} (h : Val n es) {p : Int × Int} (hp : p ∈ es) : ok n p := by
  obtain ⟨j, hj, e⟩ := List.mem_iff_getElem.1 hp
  exact h.each j p (by rw [← e]; exact List.getElem?_eq_getElem hj)

theorem norm_ok {n : Int} {p : Int × Int} (h : ok n p) : norm p = p := by
  unfold ok at h
  unfold norm
  ext
  · dsimp only; omega
  · dsimp only; omega

theorem Shuf.start {n : Int} {es : List (Int × Int)} (h : Val n es) : Shuf n es es := by
  refine ⟨fun p hp => ?_, fun p hp _ => ?_, fun e he => ?_⟩
  · have := h.mem hp
    unfold ok at this
    omega
  · rw [norm_ok (h.mem hp)]
    exact hp
  · have := h.mem he
    refine ⟨e, he, ?_, norm_ok this⟩
    unfold ok at this
    omega

theorem Shuf.like {n : Int} {es ps qs : List (Int × Int)} (h : Shuf n es ps) (hq : ∀ p, p ∈ qs ↔ p ∈ ps) : Shuf n es qs :=
  ⟨fun p hp => h.inn p ((hq p).1 hp), fun p hp => h.to p ((hq p).1 hp), fun e he => by
    obtain ⟨p, hp, r⟩ := h.of e he
    exact ⟨p, (hq p).2 hp, r⟩⟩

theorem mem_swap {ps : List (Int × Int)} {j k : Nat} {a b : Int × Int} (ha : ps[j]? = some a) (hb : ps[k]? = some b) (p : Int × Int) : p ∈ (ps.set j b).set k a ↔ p ∈ ps := by
  have hj : j < ps.length := (List.getElem?_eq_some_iff.1 ha).1
  have hk : k < ps.length := (List.getElem?_eq_some_iff.1 hb).1
  have at' : ∀ i, ((ps.set j b).set k a)[i]? = if k = i then some a else if j = i then some b else ps[i]? := fun i => by
    rw [List.getElem?_set]
    by_cases h1 : k = i
    · subst h1
      simp [hk]
    · rw [if_neg h1, if_neg h1, List.getElem?_set]
      by_cases h2 : j = i
      · subst h2
        simp [hj]
      · rw [if_neg h2, if_neg h2]
  constructor
  · intro hp
    obtain ⟨i, hi⟩ := List.mem_iff_getElem?.1 hp
    rw [at'] at hi
    split at hi
    · cases hi; exact List.mem_of_getElem? ha
    · split at hi
      · cases hi; exact List.mem_of_getElem? hb
      · exact List.mem_of_getElem? hi
  · intro hp
    obtain ⟨i, hi⟩ := List.mem_iff_getElem?.1 hp
    by_cases h1 : i = j
    · subst h1
      rw [ha] at hi
      cases hi
      exact List.mem_of_getElem? (i := k) (by rw [at', if_pos rfl])
    · by_cases h2 : i = k
      · subst h2
        rw [hb] at hi
        cases hi
        exact List.mem_of_getElem? (i := j) (by rw [at', if_neg h1, if_pos rfl])
      · exact List.mem_of_getElem? (i := i) (by rw [at', if_neg (fun e => h2 e.symm), if_neg (fun e => h1 e.symm)]; exact hi)

theorem norm_flip (p : Int × Int) : norm (p.2, p.1) = norm p := by
  unfold norm
  ext
  · dsimp only; omega
  · dsimp only; omega

theorem Shuf.flip {n : Int} {es ps : List (Int × Int)} {j : Nat} {p : Int × Int} (h : Shuf n es ps) (hp : ps[j]? = some p) : Shuf n es (ps.set j (p.2, p.1)) := by
  have hj : j < ps.length := (List.getElem?_eq_some_iff.1 hp).1
  have hm : p ∈ ps := List.mem_of_getElem? hp
  have who : ∀ q, q ∈ ps.set j (p.2, p.1) → q = (p.2, p.1) ∨ q ∈ ps := fun q hq => by
    obtain ⟨i, hi⟩ := List.mem_iff_getElem?.1 hq
    rw [List.getElem?_set] at hi
    split at hi
    · first
        | (cases hi; exact .inl rfl)
        | (split at hi; (cases hi; exact .inl rfl); cases hi)
    · exact .inr (List.mem_of_getElem? hi)
  have hnew : (p.2, p.1) ∈ ps.set j (p.2, p.1) := List.mem_of_getElem? (i := j) (by rw [List.getElem?_set]; simp [hj])
  refine ⟨fun q hq => ?_, fun q hq hne => ?_, fun e he => ?_⟩
  · rcases who q hq with rfl | hq
    · have := h.inn p hm
      dsimp only
      omega
    · exact h.inn q hq
  · rcases who q hq with rfl | hq
    · rw [norm_flip]
      exact h.to p hm (fun e => hne e.symm)
    · exact h.to q hq hne
  · obtain ⟨q, hq, hne, rfl⟩ := h.of e he
    by_cases hqp : q = p
    · subst hqp
      exact ⟨_, hnew, fun e => hne e.symm, norm_flip q⟩
    · obtain ⟨i, hi⟩ := List.mem_iff_getElem?.1 hq
      have hij : j ≠ i := fun e => by
        subst e
        rw [hp] at hi
        cases hi
        exact hqp rfl
      exact ⟨q, List.mem_of_getElem? (i := i) (by rw [List.getElem?_set, if_neg hij]; exact hi), hne, rfl⟩

theorem Shuf.more {n : Int} {es ps : List (Int × Int)} {p : Int × Int} (h : Shuf n es ps) (hp : p ∈ ps) : Shuf n es (ps ++ [p]) := by
  refine h.like fun q => ?_
  rw [List.mem_append, List.mem_singleton]
  constructor
  · rintro (h | rfl)
    · exact h
    · exact hp
  · exact .inl

theorem Shuf.loop {n : Int} {es ps : List (Int × Int)} {x : Int} (h : Shuf n es ps) (hx : 0 ≤ x ∧ x < n) : Shuf n es (ps ++ [(x, x)]) := by
  refine ⟨fun p hp => ?_, fun p hp hne => ?_, fun e he => ?_⟩
  · rcases List.mem_append.1 hp with hp | hp
    · exact h.inn p hp
    · rw [List.mem_singleton] at hp
      subst hp
      exact ⟨hx, hx⟩
  · rcases List.mem_append.1 hp with hp | hp
    · exact h.to p hp hne
    · rw [List.mem_singleton] at hp
      subst hp
      exact absurd rfl hne
  · obtain ⟨p, hp, r⟩ := h.of e he
    exact ⟨p, List.mem_append_left _ hp, r⟩

theorem Val.sorted {n : Int} {es : List (Int × Int)} (h : Val n es) : es.Pairwise lt := by
  rw [List.pairwise_iff_getElem]
  intro i j hi hj hij
  exact h.mono j i _ _ hij (List.getElem?_eq_getElem hi) (List.getElem?_eq_getElem hj)

theorem Shuf.made {n : Int} {es ps : List (Int × Int)} (h : Shuf n es ps) (hv : Val n es) : made [] ps = es := by
  refine (made_made ps).same ⟨hv.sorted, fun e => ⟨fun he => ?_, ?_⟩⟩
  · obtain ⟨p, hp, hne, rfl⟩ := h.of e he
    exact ⟨p, hp, hne, rfl⟩
  · rintro ⟨p, hp, hne, rfl⟩
    exact h.to p hp hne

end Si
end Go.Proofs.YtmgjfakdjponoabDoor
