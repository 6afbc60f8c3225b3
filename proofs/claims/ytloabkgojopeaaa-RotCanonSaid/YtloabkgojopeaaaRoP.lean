/-
  Pure: Next of a rotation, element by element: a permutation of the half-edges, round by round.
-/
import Derived.Test.YtloabkgojopeaaaMg01
namespace Go.Proofs.Ytloabkgojopeaaa
namespace Ro

theorem mem_out {es : List (Int × Int)} {v j k : Nat} : j ∈ Cs.out es v k ↔ j < k ∧ Cs.fr es j = v := by
  constructor
  · intro h
    obtain ⟨i, hi⟩ := List.mem_iff_getElem?.1 h
    have := Cs.out_of hi
    exact ⟨this.1, this.2.1⟩
  · rintro ⟨h, hv⟩
    exact List.mem_of_getElem? (Cs.out_at h hv)

section
variable {es : List (Int × Int)} {v : Nat} {l : List Int}

theorem IsRot.sub (h : IsRot es v l) : l ⊆ (Cs.out es v (2 * es.length)).map (fun j : Nat => (j : Int)) := by
  intro x hx
  obtain ⟨j, rfl, hj, hf⟩ := lv_nat (h.lv x hx)
  exact List.mem_map.2 ⟨j, mem_out.2 ⟨hj, hf⟩, rfl⟩
theorem IsRot.len (h : IsRot es v l) : l.length = deg es v := by
  have h1 := h.once.length_le_of_subset h.sub
  rw [List.length_map] at h1
  have h2 := h.all
  unfold deg at h2 ⊢
  omega
theorem IsRot.mem (h : IsRot es v l) {j : Nat} (hj : j < 2 * es.length) (hf : Cs.fr es j = v) : (j : Int) ∈ l := by
  refine Decidable.byContradiction fun hn => ?_
  have hN : ((j : Int) :: l).Nodup := List.nodup_cons.2 ⟨hn, h.once⟩
  have h1 := hN.length_le_of_subset (l₂ := (Cs.out es v (2 * es.length)).map (fun j : Nat => (j : Int))) (by
    intro x hx
    rcases List.mem_cons.1 hx with rfl | hx
    · exact List.mem_map.2 ⟨j, mem_out.2 ⟨hj, hf⟩, rfl⟩
    · exact h.sub hx)
  rw [List.length_map, List.length_cons, h.len] at h1
  unfold deg at h1
  omega
end

theorem nodup_at {l : List Int} (h : l.Nodup) {i j : Nat} {x : Int} (hi : l[i]? = some x) (hj : l[j]? = some x) : i = j := by
  obtain ⟨h1, rfl⟩ := List.getElem?_eq_some_iff.1 hi
  obtain ⟨h2, e⟩ := List.getElem?_eq_some_iff.1 hj
  rcases Nat.lt_trichotomy i j with c | c | c
  · exact absurd e.symm (List.pairwise_iff_getElem.1 h i j h1 h2 c)
  · exact c
  · exact absurd e (List.pairwise_iff_getElem.1 h j i h2 h1 c)

theorem lt_at {α : Type} {l : List α} {i : Nat} {x : α} (h : l[i]? = some x) : i < l.length := (List.getElem?_eq_some_iff.1 h).1
theorem getD_of {l : List Int} {i : Nat} {x : Int} (h : l[i]? = some x) : l.getD i 0 = x := by simp [List.getD, h]
theorem at_getD {l : List Int} {i : Nat} (h : i < l.length) : l[i]? = some (l.getD i 0) := by simp [List.getD, h]

/-- A list's elements' places, all else as before. -/
theorem row_other {l : List Int} {j : Nat} : ∀ {k : Nat} {acc : List Int}, k ≤ l.length → (∀ i, i < k → (l.getD i 0).toNat ≠ j) → (row l k acc)[j]? = acc[j]?
  | 0, _, _, _ => rfl
  | k + 1, acc, hk, h => by
    rw [row, List.getElem?_set_ne (h k (by omega))]
    exact row_other (by omega) fun i hi => h i (by omega)
theorem row_at {l : List Int} (hN : l.Nodup) (h0 : ∀ x ∈ l, 0 ≤ x) {i : Nat} : ∀ {k : Nat} {acc : List Int}, k ≤ l.length → i < k → (l.getD i 0).toNat < acc.length → (row l k acc)[(l.getD i 0).toNat]? = some (l.getD ((i + 1) % l.length) 0)
  | 0, _, _, h, _ => by omega
  | k + 1, acc, hk, hi, hb => by
    rw [row]
    by_cases e : i = k
    · subst e
      rw [List.getElem?_set_self (by rw [row_len]; exact hb)]
    · have hne : (l.getD k 0).toNat ≠ (l.getD i 0).toNat := by
        intro hc
        have a1 := at_getD (l := l) (i := i) (by omega)
        have a2 := at_getD (l := l) (i := k) (by omega)
        have b1 := h0 _ (List.mem_of_getElem? a1)
        have b2 := h0 _ (List.mem_of_getElem? a2)
        have hc2 : l.getD k 0 = l.getD i 0 := by omega
        rw [hc2] at a2
        exact e (nodup_at hN a1 a2)
      rw [List.getElem?_set_ne hne]
      exact row_at hN h0 (by omega) (by omega) hb

section
variable {n : Int} {es : List (Int × Int)} {ls : List (List Int)}

theorem Rot.nonneg (h : Rot n es ls) {v : Nat} {l : List Int} (hl : ls[v]? = some l) : ∀ x ∈ l, 0 ≤ x := fun x hx => by
  obtain ⟨j, rfl, -, -⟩ := lv_nat ((h.each v l hl).lv x hx)
  omega

theorem nx_at (h : Rot n es ls) {v i : Nat} {l : List Int} (hl : ls[v]? = some l) (hi : i < l.length) : ∀ {k : Nat} {acc : List Int}, acc.length = 2 * es.length → k ≤ ls.length → v < k → (nx ls k acc)[(l.getD i 0).toNat]? = some (l.getD ((i + 1) % l.length) 0)
  | 0, _, _, _, h => by omega
  | k + 1, acc, ha, hk, hv => by
    obtain ⟨j, hj, hjm, hjf⟩ := h.half hl (at_getD hi)
    rw [nx]
    by_cases e : v = k
    · subst e
      have e2 : ls.getD v [] = l := by simp [List.getD, hl]
      rw [e2]
      exact row_at (h.each v l hl).once (h.nonneg hl) (Nat.le_refl _) hi (by rw [nx_len, ha, hj]; simpa using hjm)
    · have hk1 : k < ls.length := by omega
      have hlk : ls[k]? = some (ls.getD k []) := by simp [List.getD, hk1]
      rw [row_other (Nat.le_refl _) ?_]
      · exact nx_at h hl hi ha (by omega) (by omega)
      · intro i' hi' hc
        obtain ⟨j', hj', -, hjf'⟩ := h.half hlk (at_getD hi')
        rw [hj, hj'] at hc
        have : j' = j := by simpa using hc
        subst this
        omega

/-- The element after the i-th. -/
theorem Rot.next (h : Rot n es ls) {v i : Nat} {l : List Int} {x : Int} (hl : ls[v]? = some l) (hx : l[i]? = some x) : (nextL es ls)[x.toNat]? = some (l.getD ((i + 1) % l.length) 0) := by
  have hi := lt_at hx
  have hv := lt_at hl
  have := nx_at h hl hi (k := ls.length) (acc := List.replicate (2 * es.length) 0) (by simp) (Nat.le_refl _) hv
  rw [getD_of hx] at this
  exact this

/-- Each half-edge has its place. -/
theorem Rot.place (h : Rot n es ls) {j : Nat} (hj : j < 2 * es.length) (hf : (Cs.fr es j : Int) < n) : ∃ (l : List Int) (i : Nat), ls[Cs.fr es j]? = some l ∧ l[i]? = some (j : Int) ∧ l.length = deg es (Cs.fr es j) := by
  have hlt : Cs.fr es j < ls.length := by have := h.len; omega
  have hl : ls[Cs.fr es j]? = some ls[Cs.fr es j] := by simp [hlt]
  obtain ⟨i, hi⟩ := List.mem_iff_getElem?.1 ((h.each _ _ hl).mem hj rfl)
  exact ⟨_, i, hl, hi, (h.each _ _ hl).len⟩

/-- What is next is a half-edge of the same vertex. -/
theorem Rot.nextAt (h : Rot n es ls) {j : Nat} (hj : j < 2 * es.length) (hf : (Cs.fr es j : Int) < n) : ∃ t : Nat, (nextL es ls)[j]? = some (t : Int) ∧ t < 2 * es.length ∧ Cs.fr es t = Cs.fr es j := by
  obtain ⟨l, i, hl, hi, -⟩ := h.place hj hf
  have h1 := h.next hl hi
  have hil := lt_at hi
  obtain ⟨t, ht, htm, htf⟩ := h.half hl (at_getD (i := (i + 1) % l.length) (Nat.mod_lt _ (by omega)))
  rw [ht] at h1
  exact ⟨t, by simpa using h1, htm, htf⟩

theorem mod_inj {a b d : Nat} (ha : a < d) (hb : b < d) (h : (a + 1) % d = (b + 1) % d) : a = b := by
  rcases Nat.lt_or_ge (a + 1) d with h1 | h1 <;> rcases Nat.lt_or_ge (b + 1) d with h2 | h2
  · rw [Nat.mod_eq_of_lt h1, Nat.mod_eq_of_lt h2] at h
    omega
  · have : b + 1 = d := by omega
    rw [Nat.mod_eq_of_lt h1, this, Nat.mod_self] at h
    omega
  · have : a + 1 = d := by omega
    rw [Nat.mod_eq_of_lt h2, this, Nat.mod_self] at h
    omega
  · omega

/-- No two have the same next. -/
theorem Rot.inj (h : Rot n es ls) (hfr : ∀ j, j < 2 * es.length → (Cs.fr es j : Int) < n) {a b : Nat} {t : Int} (ha : (nextL es ls)[a]? = some t) (hb : (nextL es ls)[b]? = some t) : a = b := by
  have hal : a < 2 * es.length := by have := lt_at ha; rwa [nextL_len] at this
  have hbl : b < 2 * es.length := by have := lt_at hb; rwa [nextL_len] at this
  obtain ⟨l, i, hl, hi, -⟩ := h.place hal (hfr a hal)
  obtain ⟨l', i', hl', hi', -⟩ := h.place hbl (hfr b hbl)
  have h1 := h.next hl hi
  have h2 := h.next hl' hi'
  simp only [Int.toNat_natCast] at h1 h2
  have e1 : t = l.getD ((i + 1) % l.length) 0 := by rw [ha] at h1; exact Option.some.inj h1
  have e2 : t = l'.getD ((i' + 1) % l'.length) 0 := by rw [hb] at h2; exact Option.some.inj h2
  have hil := lt_at hi
  have hil' := lt_at hi'
  have a1 := at_getD (l := l) (i := (i + 1) % l.length) (Nat.mod_lt _ (by omega))
  have a2 := at_getD (l := l') (i := (i' + 1) % l'.length) (Nat.mod_lt _ (by omega))
  rw [← e1] at a1
  rw [← e2] at a2
  obtain ⟨u, hu, -, hf1⟩ := h.half hl a1
  obtain ⟨u', hu', -, hf2⟩ := h.half hl' a2
  have huu : u = u' := by omega
  subst huu
  have hff : Cs.fr es a = Cs.fr es b := by omega
  rw [← hff, hl] at hl'
  cases hl'
  have := mod_inj hil hil' (nodup_at (h.each _ _ hl).once a1 a2)
  subst this
  rw [hi] at hi'
  have := Option.some.inj hi'
  omega

theorem mod_back {i s d : Nat} (hi : i < d) (hs : 0 < s) (hd : s ≤ d) : (i + s) % d = i ↔ s = d := by
  constructor
  · intro h
    rcases Nat.lt_or_ge (i + s) d with c | c
    · rw [Nat.mod_eq_of_lt c] at h
      omega
    · rw [Nat.mod_eq_sub_mod c] at h
      rw [Nat.mod_eq_of_lt (by omega)] at h
      omega
  · rintro rfl
    rw [Nat.add_mod_right, Nat.mod_eq_of_lt hi]

/-- s steps from the i-th. -/
theorem Rot.step (h : Rot n es ls) {v i s : Nat} {l : List Int} (hl : ls[v]? = some l) (hi : i < l.length) : ∃ t t' : Nat, l[(i + s) % l.length]? = some (t : Int) ∧ l[(i + (s + 1)) % l.length]? = some (t' : Int) ∧ t < 2 * es.length ∧ Cs.fr es t = v ∧ (nextL es ls)[t]? = some (t' : Int) := by
  have a1 := at_getD (l := l) (i := (i + s) % l.length) (Nat.mod_lt _ (by omega))
  have a2 := at_getD (l := l) (i := (i + (s + 1)) % l.length) (Nat.mod_lt _ (by omega))
  obtain ⟨t, ht, htm, htf⟩ := h.half hl a1
  obtain ⟨t', ht', -, -⟩ := h.half hl a2
  have h1 := h.next hl a1
  rw [ht] at a1 h1
  rw [ht'] at a2
  refine ⟨t, t', a1, a2, htm, htf, ?_⟩
  have e : ((i + s) % l.length + 1) % l.length = (i + (s + 1)) % l.length := by
    rw [Nat.mod_add_mod, Nat.add_assoc]
  rw [e, getD_of a2] at h1
  simpa using h1
end
end Ro
end Go.Proofs.Ytloabkgojopeaaa
