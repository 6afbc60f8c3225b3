/-
  Half-edges by vertices, pure: where they begin and lead, who leaves a vertex, in which order, and at which place.
-/
import Derived.Test.YtponmjipbcmlhaaSi
namespace Go.Proofs.Ytponmjipbcmlhaa
namespace Cs

/-- Where half-edge i begins. -/
def fr (es : List (Int × Int)) (i : Nat) : Nat := (if i % 2 = 0 then (es.getD (i / 2) (0, 0)).1 else (es.getD (i / 2) (0, 0)).2).toNat
/-- Where it leads. -/
def to (es : List (Int × Int)) (i : Nat) : Nat := (if i % 2 = 0 then (es.getD (i / 2) (0, 0)).2 else (es.getD (i / 2) (0, 0)).1).toNat

/-- The half-edges below k that leave v. -/
def out (es : List (Int × Int)) (v : Nat) : Nat → List Nat
  | 0 => []
  | k + 1 => if fr es k = v then out es v k ++ [k] else out es v k

section
variable {es : List (Int × Int)} {u v i j k : Nat}

theorem out_len_le : ∀ k, (out es v k).length ≤ k
  | 0 => by simp [out]
  | k + 1 => by
    have := out_len_le k
    unfold out
    split <;> simp <;> omega

theorem out_len_succ (k : Nat) : (out es v (k + 1)).length = (out es v k).length + if fr es k = v then 1 else 0 := by
  conv => lhs; unfold out
  split <;> simp

theorem out_mono (h : i ≤ k) : (out es v i).length ≤ (out es v k).length := by
  induction k with
  | zero =>
    obtain rfl : i = 0 := by omega
    exact Nat.le_refl _
  | succ k ih =>
    by_cases hk : i = k + 1
    · subst hk; exact Nat.le_refl _
    · have := ih (by omega)
      rw [out_len_succ]
      omega

theorem out_lt (h : i < k) (hv : fr es i = v) : (out es v i).length < (out es v k).length := by
  have h1 := out_len_succ (es := es) (v := v) i
  rw [if_pos hv] at h1
  have h2 := out_mono (es := es) (v := v) (i := i + 1) (k := k) h
  omega

theorem out_at (h : i < k) (hv : fr es i = v) : (out es v k)[(out es v i).length]? = some i := by
  induction k with
  | zero => omega
  | succ k ih =>
    by_cases hk : i = k
    · subst hk
      conv => lhs; arg 1; unfold out
      rw [if_pos hv]
      simp
    · have h1 := ih (by omega)
      have h2 : (out es v i).length < (out es v k).length := out_lt (by omega) hv
      conv => lhs; arg 1; unfold out
      split
      · rw [List.getElem?_append_left h2]; exact h1
      · exact h1

theorem out_of (h : (out es v k)[j]? = some i) : i < k ∧ fr es i = v ∧ (out es v i).length = j := by
  induction k with
  | zero => simp [out] at h
  | succ k ih =>
    unfold out at h
    split at h
    · rename_i hv
      by_cases hj : j < (out es v k).length
      · rw [List.getElem?_append_left hj] at h
        have := ih h
        exact ⟨by omega, this.2⟩
      · rw [List.getElem?_append_right (by omega)] at h
        by_cases hj2 : j - (out es v k).length = 0
        · rw [hj2] at h
          simp at h
          subst h
          exact ⟨by omega, hv, by omega⟩
        · rw [List.getElem?_eq_none (by simp; omega)] at h
          cases h
    · have := ih h
      exact ⟨by omega, this.2⟩

/-- Those that leave v rise. -/
theorem out_rises {a b : Nat} (hij : i < j) (hi : (out es v k)[i]? = some a) (hj : (out es v k)[j]? = some b) : a < b := by
  have ha := out_of hi
  have hb := out_of hj
  rcases Nat.lt_or_ge a b with h | h
  · exact h
  · have := out_mono (es := es) (v := v) h
    omega

/-- How many leave the vertices below v. -/
def st (es : List (Int × Int)) (M : Nat) : Nat → Nat
  | 0 => 0
  | v + 1 => st es M v + (out es v M).length

theorem st_lt {M : Nat} (h : u < v) : st es M u + (out es u M).length ≤ st es M v := by
  induction v with
  | zero => omega
  | succ v ih =>
    have e : st es M (v + 1) = st es M v + (out es v M).length := rfl
    by_cases hu : u = v
    · subst hu; omega
    · have := ih (by omega)
      omega

theorem st_succ (M v : Nat) : st es (M + 1) v = st es M v + if fr es M < v then 1 else 0 := by
  induction v with
  | zero => simp [st]
  | succ v ih =>
    have e1 : st es (M + 1) (v + 1) = st es (M + 1) v + (out es v (M + 1)).length := rfl
    have e2 : st es M (v + 1) = st es M v + (out es v M).length := rfl
    rw [e1, e2, ih, out_len_succ]
    split <;> split <;> split <;> omega

theorem st_sum {n : Nat} (M : Nat) (h : ∀ i, i < M → fr es i < n) : st es M n = M := by
  induction M with
  | zero =>
    have : ∀ v, st es 0 v = 0 := fun v => by
      induction v with
      | zero => rfl
      | succ v ih => rw [show st es 0 (v + 1) = st es 0 v + (out es v 0).length from rfl, ih]; rfl
    exact this n
  | succ M ih =>
    rw [st_succ, ih (fun i hi => h i (by omega)), if_pos (h M (by omega))]

theorem st_le {n M : Nat} (h : ∀ i, i < M → fr es i < n) (hv : v < n) : st es M v + (out es v M).length ≤ M := by
  have := st_lt (es := es) (M := M) hv
  rw [st_sum M h] at this
  exact this

/-- The place of half-edge i. -/
def pos (es : List (Int × Int)) (M i : Nat) : Nat := st es M (fr es i) + (out es (fr es i) i).length

theorem pos_lt {n M : Nat} (h : ∀ i, i < M → fr es i < n) (hi : i < M) : pos es M i < M := by
  have h1 := st_le h (h i hi)
  have h2 := out_lt (es := es) (k := M) hi rfl
  unfold pos
  omega

theorem pos_ne {M : Nat} (hij : i < j) (hj : j < M) : pos es M i ≠ pos es M j := by
  unfold pos
  rcases Nat.lt_trichotomy (fr es i) (fr es j) with h | h | h
  · have h1 := st_lt (es := es) (M := M) h
    have h2 := out_lt (es := es) (i := i) (k := M) (by omega) rfl
    omega
  · rw [h]
    have h2 := out_lt (es := es) (i := i) (k := j) hij h
    omega
  · have h1 := st_lt (es := es) (M := M) h
    have h2 := out_lt (es := es) (i := j) (k := M) hj rfl
    omega

end

/-- What has been laid when k half-edges have come: halves, places, ends, the next free places. -/
structure Filled (es : List (Int × Int)) (n M k : Nat) (H Pl T F : List Int) : Prop where
  lH : H.length = M
  lP : Pl.length = M
  lT : T.length = M
  lF : F.length = n
  hT : ∀ i, i < k → T[i]? = some (to es i : Int)
  hP : ∀ i, i < k → Pl[i]? = some (pos es M i : Int)
  hH : ∀ i, i < k → H[pos es M i]? = some (i : Int)
  hF : ∀ v, v < n → F[v]? = some ((st es M v + (out es v k).length : Nat) : Int)

theorem Filled.at {es : List (Int × Int)} {n M k : Nat} {H Pl T F : List Int} (h : Filled es n M k H Pl T F) (hk : fr es k < n) : F[fr es k]? = some (pos es M k : Int) := h.hF _ hk

theorem Filled.step {es : List (Int × Int)} {n M k : Nat} {H Pl T F : List Int} (h : Filled es n M k H Pl T F) (hn : ∀ i, i < M → fr es i < n) (hk : k < M) :
    Filled es n M (k + 1) (H.set (pos es M k) k) (Pl.set k (pos es M k)) (T.set k (to es k)) (F.set (fr es k) ((pos es M k : Int) + 1)) := by
  have hp := pos_lt hn hk
  refine ⟨by simp [h.lH], by simp [h.lP], by simp [h.lT], by simp [h.lF], fun i hi => ?_, fun i hi => ?_, fun i hi => ?_, fun v hv => ?_⟩
  · rw [List.getElem?_set]
    by_cases e : k = i
    · subst e; rw [if_pos rfl, if_pos (by rw [h.lT]; exact hk)]
    · rw [if_neg e]; exact h.hT i (by omega)
  · rw [List.getElem?_set]
    by_cases e : k = i
    · subst e; rw [if_pos rfl, if_pos (by rw [h.lP]; exact hk)]
    · rw [if_neg e]; exact h.hP i (by omega)
  · rw [List.getElem?_set]
    by_cases e : k = i
    · subst e; rw [if_pos rfl, if_pos (by rw [h.lH]; exact hp)]
    · rw [if_neg (fun e2 => pos_ne (es := es) (M := M) (i := i) (j := k) (by omega) hk e2.symm)]; exact h.hH i (by omega)
  · rw [List.getElem?_set, out_len_succ]
    by_cases e : fr es k = v
    · subst e
      rw [if_pos rfl, if_pos (by rw [h.lF]; exact hv), if_pos rfl]
      unfold pos
      congr 1
    · rw [if_neg e, if_neg e]; exact h.hF v hv

/-- What leaves a number, be it a vertex or not. -/
def outI (n : Nat) (es : List (Int × Int)) (v : Int) : List Nat := if 0 ≤ v ∧ v < n then out es v.toNat (2 * es.length) else []

theorem outI_in {n : Nat} {es : List (Int × Int)} {v : Nat} (h : v < n) : outI n es v = out es v (2 * es.length) := by
  unfold outI
  rw [if_pos ⟨by omega, by omega⟩]
  simp
theorem outI_no {n : Nat} {es : List (Int × Int)} {v : Int} (h : ¬ (0 ≤ v ∧ v < n)) : outI n es v = [] := by
  unfold outI
  rw [if_neg h]
theorem outI_len_le {n : Nat} {es : List (Int × Int)} {v : Int} : (outI n es v).length ≤ 2 * es.length := by
  unfold outI
  split
  · exact out_len_le _
  · simp

/-- Of a valid graph. -/
theorem half_lt {n : Nat} {es : List (Int × Int)} (hv : Si.Val n es) {i : Nat} (hi : i < 2 * es.length) : fr es i < n ∧ to es i < n := by
  obtain ⟨p, hp⟩ : ∃ p, es[i / 2]? = some p := ⟨_, List.getElem?_eq_getElem (by omega)⟩
  have ho := hv.each _ p hp
  unfold Si.ok at ho
  unfold fr to
  rw [List.getD_eq_getElem?_getD, hp]
  dsimp only [Option.getD_some]
  split <;> omega

theorem fr_even {es : List (Int × Int)} {k : Nat} {p : Int × Int} (hp : es[k]? = some p) : fr es (2 * k) = p.1.toNat ∧ to es (2 * k) = p.2.toNat := by
  unfold fr to
  have e : 2 * k / 2 = k := by omega
  have e2 : 2 * k % 2 = 0 := by omega
  rw [e, e2, List.getD_eq_getElem?_getD, hp]
  exact ⟨rfl, rfl⟩
theorem fr_odd {es : List (Int × Int)} {k : Nat} {p : Int × Int} (hp : es[k]? = some p) : fr es (2 * k + 1) = p.2.toNat ∧ to es (2 * k + 1) = p.1.toNat := by
  unfold fr to
  have e : (2 * k + 1) / 2 = k := by omega
  have e2 : (2 * k + 1) % 2 = 1 := by omega
  rw [e, e2, List.getD_eq_getElem?_getD, hp]
  exact ⟨rfl, rfl⟩

/-- The half-edge the other way. -/
def twin (i : Nat) : Nat := if i % 2 = 0 then i + 1 else i - 1

theorem twin_lt {i m : Nat} (h : i < 2 * m) : twin i < 2 * m := by
  unfold twin
  split <;> omega
theorem to_twin (es : List (Int × Int)) (i : Nat) : to es (twin i) = fr es i := by
  unfold to fr twin
  by_cases h : i % 2 = 0
  · have e : (i + 1) / 2 = i / 2 := by omega
    have e2 : ¬ ((i + 1) % 2 = 0) := by omega
    rw [if_pos h, if_pos h, e, if_neg e2]
  · have e : (i - 1) / 2 = i / 2 := by omega
    have e2 : (i - 1) % 2 = 0 := by omega
    rw [if_neg h, if_neg h, e, if_pos e2]
theorem fr_twin (es : List (Int × Int)) (i : Nat) : fr es (twin i) = to es i := by
  unfold to fr twin
  by_cases h : i % 2 = 0
  · have e : (i + 1) / 2 = i / 2 := by omega
    have e2 : ¬ ((i + 1) % 2 = 0) := by omega
    rw [if_pos h, if_pos h, e, if_neg e2]
  · have e : (i - 1) / 2 = i / 2 := by omega
    have e2 : (i - 1) % 2 = 0 := by omega
    rw [if_neg h, if_neg h, e, if_pos e2]

/-- By the vertices that they lead to they rise. -/
theorem to_rises {n : Int} {es : List (Int × Int)} (hv : Si.Val n es) {i j : Nat} (hij : i < j) (hj : j < 2 * es.length) (hf : fr es i = fr es j) : to es i < to es j := by
  obtain ⟨p, hp⟩ : ∃ p, es[i / 2]? = some p := ⟨_, List.getElem?_eq_getElem (by omega)⟩
  obtain ⟨q, hq⟩ : ∃ q, es[j / 2]? = some q := ⟨_, List.getElem?_eq_getElem (by omega)⟩
  have hop := hv.each _ p hp
  have hoq := hv.each _ q hq
  unfold Si.ok at hop hoq
  have hl : i / 2 = j / 2 ∨ Si.lt p q := by
    by_cases h : i / 2 = j / 2
    · exact .inl h
    · exact .inr (hv.mono (j / 2) (i / 2) p q (by omega) hp hq)
  have hpq : i / 2 = j / 2 → p = q := fun h => by
    rw [h, hq] at hp
    cases hp
    rfl
  have gp : es.getD (i / 2) (0, 0) = p := by rw [List.getD_eq_getElem?_getD, hp]; rfl
  have gq : es.getD (j / 2) (0, 0) = q := by rw [List.getD_eq_getElem?_getD, hq]; rfl
  unfold fr at hf
  unfold to
  rw [gp, gq] at hf
  rw [gp, gq]
  rcases hl with hl | hl
  · have := hpq hl
    subst this
    have h1 : i % 2 = 0 := by omega
    have h2 : ¬ (j % 2 = 0) := by omega
    rw [if_pos h1, if_neg h2] at hf
    omega
  · unfold Si.lt at hl
    by_cases h1 : i % 2 = 0 <;> by_cases h2 : j % 2 = 0
    · rw [if_pos h1, if_pos h2] at hf ⊢
      omega
    · rw [if_pos h1, if_neg h2] at hf ⊢
      omega
    · rw [if_neg h1, if_pos h2] at hf ⊢
      omega
    · rw [if_neg h1, if_neg h2] at hf ⊢
      omega

end Cs
end Go.Proofs.Ytponmjipbcmlhaa
