import Derived.Test.YtalfpbalekbinaaGreatMg00
import Derived.Sort.Grow
import Derived.Deep.RegionHeld3
/-
  Half-edges by vertices, pure: where they begin and lead, who leaves a vertex, in which order, and at which place.
-/
namespace Go.Proofs.YtalfpbalekbinaaGreat
namespace Cs

/-- Where half-edge i begins. -/
def fr (es : List (Int × Int)) (i : Nat) : Nat := (if i % 2 = 0 then (es.getD (i / 2) (0, 0)).1 else (es.getD (i / 2) (0, 0)).2).toNat
/-- Where it leads. -/
def to (es : List (Int × Int)) (i : Nat) : Nat := (if i % 2 = 0 then (es.getD (i / 2) (0, 0)).2 else (es.getD (i / 2) (0, 0)).1).toNat

/-- The half-edges below k that leave v. -/
def out (es : List (Int × Int)) (v : Nat) : Nat → List Nat
  | 0 => []
  | k + 1 => if fr es k = v then out es v k ++ [k] else out es v k

section
variable {es : List (Int × Int)} {u v i j k : Nat}

theorem out_len_le : ∀ k, (out es v k).length ≤ k
  | 0 => by simp [out]
  | k + 1 => by
    have := out_len_le k
    unfold out
    split <;> simp <;> omega

theorem out_len_succ (k : Nat) : (out es v (k + 1)).length = (out es v k).length + if fr es k = v then 1 else 0 := by
  conv => lhs; unfold out
  split <;> simp

theorem out_mono (h : i ≤ k) : (out es v i).length ≤ (out es v k).length := by
  induction k with
  | zero =>
    obtain rfl : i = 0 := by omega
    exact Nat.le_refl _
  | succ k ih =>
    by_cases hk : i = k + 1
    · subst hk; exact Nat.le_refl _
    · have := ih (by omega)
      rw [out_len_succ]
      omega

theorem out_lt (h : i < k) (hv : fr es i = v) : (out es v i).length < (out es v k).length := by
  have h1 := out_len_succ (es := es) (v := v) i
  rw [if_pos hv] at h1
  have h2 := out_mono (es := es) (v := v) (i := i + 1) (k := k) h
  omega

theorem out_at (h : i < k) (hv : fr es i = v) : (out es v k)[(out es v i).length]? = some i := by
  induction k with
  | zero => omega
  | succ k ih =>
    by_cases hk : i = k
    · subst hk
      conv => lhs; arg 1; unfold out
      rw [if_pos hv]
      simp
    · have h1 := ih (by omega)
      have h2 : (out es v i).length < (out es v k).length := out_lt (by omega) hv
      conv => lhs; arg 1; unfold out
      split
      · rw [List.getElem?_append_left h2]; exact h1
      · exact h1

theorem out_of (h : (out es v k)[j]? = some i) : i < k ∧ fr es i = v ∧ (out es v i).length = j := by
  induction k with
  | zero => simp [out] at h
  | succ k ih =>
    unfold out at h
    split at h
    · rename_i hv
      by_cases hj : j < (out es v k).length
      · rw [List.getElem?_append_left hj] at h
        have := ih h
        exact ⟨by omega, this.2⟩
      · rw [List.getElem?_append_right (by omega)] at h
        by_cases hj2 : j - (out es v k).length = 0
        · rw [hj2] at h
          simp at h
          subst h
          exact ⟨by omega, hv, by omega⟩
        · rw [List.getElem?_eq_none (by simp; omega)] at h
          cases h
    · have := ih h
      exact ⟨by omega, this.2⟩

/-- Those that leave v rise. -/
theorem out_rises {a b : Nat} (hij : i < j) (hi : (out es v k)[i]? = some a) (hj : (out es v k)[j]? = some b) : a < b := by
  have ha := out_of hi
  have hb := out_of hj
  rcases Nat.lt_or_ge a b with h | h
  · exact h
  · have := out_mono (es := es) (v := v) h
    omega

/-- How many leave the vertices below v. -/
def st (es : List (Int × Int)) (M : Nat) : Nat → Nat
  | 0 => 0
  | v + 1 => st es M v + (out es v M).length

theorem st_lt {M : Nat} (h : u < v) : st es M u + (out es u M).length ≤ st es M v := by
  induction v with
  | zero => omega
  | succ v ih =>
    have e : st es M (v + 1) = st es M v + (out es v M).length := rfl
    by_cases hu : u = v
    · subst hu; omega
    · have := ih (by omega)
      omega

theorem st_succ (M v : Nat) : st es (M + 1) v = st es M v + if fr es M < v then 1 else 0 := by
  induction v with
  | zero => simp [st]
  | succ v ih =>
    have e1 : st es (M + 1) (v + 1) = st es (M + 1) v + (out es v (M + 1)).length := rfl
    have e2 : st es M (v + 1) = st es M v + (out es v M).length := rfl
    rw [e1, e2, ih, out_len_succ]
    split <;> split <;> split <;> omega

theorem st_sum {n : Nat} (M : Nat) (h : ∀ i, i < M → fr es i < n) : st es M n = M := by
  induction M with
  | zero =>
    have : ∀ v, st es 0 v = 0 := fun v => by
      induction v with
      | zero => rfl
      | succ v ih => rw [show st es 0 (v + 1) = st es 0 v + (out es v 0).length from rfl, ih]; rfl
    exact this n
  | succ M ih =>
    rw [st_succ, ih (fun i hi => h i (by omega)), if_pos (h M (by omega))]

theorem st_le {n M : Nat} (h : ∀ i, i < M → fr es i < n) (hv : v < n) : st es M v + (out es v M).length ≤ M := by
  have := st_lt (es := es) (M := M) hv
  rw [st_sum M h] at this
  exact this

/-- The place of half-edge i. -/
def pos (es : List (Int × Int)) (M i : Nat) : Nat := st es M (fr es i) + (out es (fr es i) i).length

theorem pos_lt {n M : Nat} (h : ∀ i, i < M → fr es i < n) (hi : i < M) : pos es M i < M := by
  have h1 := st_le h (h i hi)
  have h2 := out_lt (es := es) (k := M) hi rfl
  unfold pos
  omega

theorem pos_ne {M : Nat} (hij : i < j) (hj : j < M) : pos es M i ≠ pos es M j := by
  unfold pos
  rcases Nat.lt_trichotomy (fr es i) (fr es j) with h | h | h
  · have h1 := st_lt (es := es) (M := M) h
    have h2 := out_lt (es := es) (i := i) (k := M) (by omega) rfl
    omega
  · rw [h]
    have h2 := out_lt (es := es) (i := i) (k := j) hij h
    omega
  · have h1 := st_lt (es := es) (M := M) h
    have h2 := out_lt (es := es) (i := j) (k := M) hj rfl
    omega

end

/-- What has been laid when k half-edges have come: halves, places, ends, the next free places. -/
structure Filled (es : List (Int × Int)) (n M k : Nat) (H Pl T F : List Int) : Prop where
  lH : H.length = M
  lP : Pl.length = M
  lT : T.length = M
  lF : F.length = n
  hT : ∀ i, i < k → T[i]? = some (to es i : Int)
  hP : ∀ i, i < k → Pl[i]? = some (pos es M i : Int)
  hH : ∀ i, i < k → H[pos es M i]? = some (i : Int)
  hF : ∀ v, v < n → F[v]? = some ((st es M v + (out es v k).length : Nat) : Int)

theorem Filled.at {es : List (Int × Int)} {n M k : Nat} {H Pl T F : List Int} (h : Filled es n M k H Pl T F) (hk : fr es k < n) : F[fr es k]? = some (pos es M k : Int) := h.hF _ hk

theorem Filled.step {es : List (Int × Int)} {n M k : Nat} {H Pl T F : List Int} (h : Filled es n M k H Pl T F) (hn : ∀ i, i < M → fr es i < n) (hk : k < M) :
    Filled es n M (k + 1) (H.set (pos es M k) k) (Pl.set k (pos es M k)) (T.set k (to es k)) (F.set (fr es k) ((pos es M k : Int) + 1)) := by
  have hp := pos_lt hn hk
  refine ⟨by simp [h.lH], by simp [h.lP], by simp [h.lT], by simp [h.lF], fun i hi => ?_, fun i hi => ?_, fun i hi => ?_, fun v hv => ?_⟩
  · rw [List.getElem?_set]
    by_cases e : k = i
    · subst e; rw [if_pos rfl, if_pos (by rw [h.lT]; exact hk)]
    · rw [if_neg e]; exact h.hT i (by omega)
  · rw [List.getElem?_set]
    by_cases e : k = i
    · subst e; rw [if_pos rfl, if_pos (by rw [h.lP]; exact hk)]
    · rw [if_neg e]; exact h.hP i (by omega)
  · rw [List.getElem?_set]
    by_cases e : k = i
    · subst e; rw [if_pos rfl, if_pos (by rw [h.lH]; exact hp)]
    · rw [if_neg (fun e2 => pos_ne (es := es) (M := M) (i := i) (j := k) (by omega) hk e2.symm)]; exact h.hH i (by omega)
  · rw [List.getElem?_set, out_len_succ]
    by_cases e : fr es k = v
    · subst e
      rw [if_pos rfl, if_pos (by rw [h.lF]; exact hv), if_pos rfl]
      unfold pos
      congr 1
    · rw [if_neg e, if_neg e]; exact h.hF v hv

/-- What leaves a number, be it a vertex or not. -/
def outI (n : Nat) (es : List (Int × Int)) (v : Int) : List Nat := if 0 ≤ v ∧ v < n then out es v.toNat (2 * es.length) else []

theorem outI_in {n : Nat} {es : List (Int × Int)} {v : Nat} (h : v < n) : outI n es v = out es v (2 * es.length) := by
  unfold outI
  rw [if_pos ⟨by omega, by omega⟩]
  simp
theorem outI_no {n : Nat} {es : List (Int × Int)} {v : Int} (h : ¬ (0 ≤ v ∧ v < n)) : outI n es v = [] := by
  unfold outI
  rw [if_neg h]
theorem outI_len_le {n : Nat} {es : List (Int × Int)} {v : Int} : (outI n es v).length ≤ 2 * es.length := by
  unfold outI
  split
  · exact out_len_le _
  · simp

/-- Of a valid graph. -/
theorem half_lt {n : Nat} {es : List (Int × Int)} (hv : Si.Val n es) {i : Nat} (hi : i < 2 * es.length) : fr es i < n ∧ to es i < n := by
  obtain ⟨p, hp⟩ : ∃ p, es[i / 2]? = some p := ⟨_, List.getElem?_eq_getElem (by omega)⟩
  have ho := hv.each _ p hp
  unfold Si.ok at ho
  unfold fr to
  rw [List.getD_eq_getElem?_getD, hp]
  dsimp only [Option.getD_some]
  split <;> omega

theorem fr_even {es : List (Int × Int)} {k : Nat} {p : Int × Int} (hp : es[k]? = some p) : fr es (2 * k) = p.1.toNat ∧ to es (2 * k) = p.2.toNat := by
  unfold fr to
  have e : 2 * k / 2 = k := by omega
  have e2 : 2 * k % 2 = 0 := by omega
  rw [e, e2, List.getD_eq_getElem?_getD, hp]
  exact ⟨rfl, rfl⟩
theorem fr_odd {es : List (Int × Int)} {k : Nat} {p : Int × Int} (hp : es[k]? = some p) : fr es (2 * k + 1) = p.2.toNat ∧ to es (2 * k + 1) = p.1.toNat := by
  unfold fr to
  have e : (2 * k + 1) / 2 = k := by omega
  have e2 : (2 * k + 1) % 2 = 1 := by omega
  rw [e, e2, List.getD_eq_getElem?_getD, hp]
  exact ⟨rfl, rfl⟩

/-- The half-edge the other way. -/
def twin (i : Nat) : Nat := if i % 2 = 0 then i + 1 else i - 1

theorem twin_lt {i m : Nat} (h : i < 2 * m) : twin i < 2 * m := by
  unfold twin
  split <;> omega
theorem to_twin (es : List (Int × Int)) (i : Nat) : to es (twin i) = fr es i := by
  unfold to fr twin
  by_cases h : i % 2 = 0
  · have e : (i + 1) / 2 = i / 2 := by omega
    have e2 : ¬ ((i + 1) % 2 = 0) := by omega
    rw [if_pos h, if_pos h, e, if_neg e2]
  · have e : (i - 1) / 2 = i / 2 := by omega
    have e2 : (i - 1) % 2 = 0 := by omega
    rw [if_neg h, if_neg h, e, if_pos e2]
theorem fr_twin (es : List (Int × Int)) (i : Nat) : fr es (twin i) = to es i := by
  unfold to fr twin
  by_cases h : i % 2 = 0
  · have e : (i + 1) / 2 = i / 2 := by omega
    have e2 : ¬ ((i + 1) % 2 = 0) := by omega
    rw [if_pos h, if_pos h, e, if_neg e2]
  · have e : (i - 1) / 2 = i / 2 := by omega
    have e2 : (i - 1) % 2 = 0 := by omega
    rw [if_neg h, if_neg h, e, if_pos e2]

/-- By the vertices that they lead to they rise. -/
theorem to_rises {n : Int} {es : List (Int × Int)} (hv : Si.Val n es) {i j : Nat} (hij : i < j) (hj : j < 2 * es.length) (hf : fr es i = fr es j) : to es i < to es j := by
  obtain ⟨p, hp⟩ : ∃ p, es[i / 2]? = some p := ⟨_, List.getElem?_eq_getElem (by omega)⟩
  obtain ⟨q, hq⟩ : ∃ q, es[j / 2]? = some q := ⟨_, List.getElem?_eq_getElem (by omega)⟩
  have hop := hv.each _ p hp
  have hoq := hv.each _ q hq
  unfold Si.ok at hop hoq
  have hl : i / 2 = j / 2 ∨ Si.lt p q := by
    by_cases h : i / 2 = j / 2
    · exact .inl h
    · exact .inr (hv.mono (j / 2) (i / 2) p q (by omega) hp hq)
  have hpq : i / 2 = j / 2 → p = q := fun h => by
    rw [h, hq] at hp
    cases hp
    rfl
  have gp : es.getD (i / 2) (0, 0) = p := by rw [List.getD_eq_getElem?_getD, hp]; rfl
  have gq : es.getD (j / 2) (0, 0) = q := by rw [List.getD_eq_getElem?_getD, hq]; rfl
  unfold fr at hf
  unfold to
  rw [gp, gq] at hf
  rw [gp, gq]
  rcases hl with hl | hl
  · have := hpq hl
    subst this
    have h1 : i % 2 = 0 := by omega
    have h2 : ¬ (j % 2 = 0) := by omega
    rw [if_pos h1, if_neg h2] at hf
    omega
  · unfold Si.lt at hl
    by_cases h1 : i % 2 = 0 <;> by_cases h2 : j % 2 = 0
    · rw [if_pos h1, if_pos h2] at hf ⊢
      omega
    · rw [if_pos h1, if_neg h2] at hf ⊢
      omega
    · rw [if_neg h1, if_pos h2] at hf ⊢
      omega
    · rw [if_neg h1, if_neg h2] at hf ⊢
      omega

end Cs
end Go.Proofs.YtalfpbalekbinaaGreat

/-
  The depth-first walk, pure: as a relation, by half-edges that are still to be looked at; it has one answer.
-/
namespace Go.Proofs.YtalfpbalekbinaaGreat
namespace Df

/-- A walk under way: parents, heights (-1: not reached), order, orientation (-1: not walked). -/
structure St where
  par : List Int
  hei : List Int
  ord : List Int
  ori : List Int
deriving DecidableEq

abbrev St.height (s : St) (v : Nat) : Int := s.hei.getD v (-1)
abbrev St.dir (s : St) (e : Nat) : Int := s.ori.getD e (-1)
/-- How many edges have not been walked. -/
abbrev St.left (s : St) : Nat := s.ori.count (-1)

def St.reach (s : St) (v : Nat) (h height : Int) : St := ⟨s.par.set v h, s.hei.set v height, s.ord ++ [(v : Int)], s.ori⟩
def St.mark (s : St) (h : Nat) : St := ⟨s.par, s.hei, s.ord, s.ori.set (h / 2) (h : Int)⟩
/-- The half-edge h is walked to a vertex that is new. -/
def St.go (es : List (Int × Int)) (s : St) (h : Nat) : St := (s.mark h).reach (Cs.to es h) h (s.height (Cs.fr es h) + 1)

/-- From s, with the half-edges L of one vertex still to be looked at, the walk comes to s' (k: how much is done). -/
inductive R (es : List (Int × Int)) : Nat → St → List Nat → St → Prop
  | nil (s : St) : R es 0 s [] s
  | old {k : Nat} {s s' : St} {h : Nat} {L : List Nat} (hw : s.dir (h / 2) ≠ -1) (hr : R es k s L s') : R es (k + 1) s (h :: L) s'
  | back {k : Nat} {s s' : St} {h : Nat} {L : List Nat} (hw : s.dir (h / 2) = -1) (hv : s.height (Cs.to es h) ≠ -1) (hr : R es k (s.mark h) L s') : R es (k + 1) s (h :: L) s'
  | tree {j k : Nat} {s s1 s' : St} {h : Nat} {L : List Nat} (hw : s.dir (h / 2) = -1) (hv : s.height (Cs.to es h) = -1) (h1 : R es j (s.go es h) (Cs.out es (Cs.to es h) (2 * es.length)) s1) (h2 : R es k s1 L s') : R es (j + k + 2) s (h :: L) s'

theorem R.unique {es : List (Int × Int)} {k : Nat} {s s' : St} {L : List Nat} (h : R es k s L s') : ∀ {k' : Nat} {s'' : St}, R es k' s L s'' → k = k' ∧ s' = s'' := by
  induction h with
  | nil s => intro k' s'' h; cases h; exact ⟨rfl, rfl⟩
  | old hw hr ih =>
    intro k' s'' h
    cases h with
    | old hw' hr' => obtain ⟨rfl, rfl⟩ := ih hr'; exact ⟨rfl, rfl⟩
    | back hw' => exact absurd hw' hw
    | tree hw' => exact absurd hw' hw
  | back hw hv hr ih =>
    intro k' s'' h
    cases h with
    | old hw' => exact absurd hw hw'
    | back hw' hv' hr' => obtain ⟨rfl, rfl⟩ := ih hr'; exact ⟨rfl, rfl⟩
    | tree hw' hv' => exact absurd hv' hv
  | tree hw hv h1 h2 ih1 ih2 =>
    intro k' s'' h
    cases h with
    | old hw' => exact absurd hw hw'
    | back hw' hv' => exact absurd hv hv'
    | tree hw' hv' h1' h2' =>
      obtain ⟨rfl, rfl⟩ := ih1 h1'
      obtain ⟨rfl, rfl⟩ := ih2 h2'
      exact ⟨rfl, rfl⟩

/-- What is so of every walk under way; r: how many roots may have been reached. -/
structure Bd (n : Nat) (es : List (Int × Int)) (r : Nat) (s : St) : Prop where
  lp : s.par.length = n
  lh : s.hei.length = n
  lo : s.ori.length = es.length
  ho : ∀ e, e < es.length → s.dir e = -1 ∨ (s.dir e = 2 * (e : Int) ∨ s.dir e = 2 * (e : Int) + 1)
  hh : ∀ v, v < n → -1 ≤ s.height v ∧ s.height v + (s.left : Int) ≤ es.length
  hr : s.ord.length + s.left ≤ es.length + r
  hp : ∀ v, v < n → -1 ≤ s.par.getD v 0 ∧ s.par.getD v 0 < 2 * (es.length : Int)
  hu : ∀ v, v < n → s.height v = -1 → s.par.getD v 0 = -1
  hd : ∀ x ∈ s.ord, 0 ≤ x ∧ x < (n : Int)

section
variable {n r : Nat} {es : List (Int × Int)} {s s' : St} {h v : Nat}

theorem Bd.few (b : Bd n es r s) : s.left ≤ es.length := by
  have := List.count_le_length (a := (-1 : Int)) (l := s.ori)
  rw [b.lo] at this
  exact this

theorem left_mark (b : Bd n es r s) (hh : h < 2 * es.length) (hw : s.dir (h / 2) = -1) : (s.mark h).left + 1 = s.left := by
  have hl : h / 2 < s.ori.length := by rw [b.lo]; omega
  have e : s.ori[h / 2] = -1 := by
    have := hw
    unfold St.dir at this
    rw [List.getD_eq_getElem?_getD, List.getElem?_eq_getElem hl] at this
    exact this
  have hpos : 0 < s.ori.count (-1) := List.count_pos_iff.2 (by rw [← e]; exact List.getElem_mem hl)
  unfold St.left St.mark
  dsimp only
  rw [List.count_set hl, e, if_pos (by decide), if_neg (by simp)]
  omega

theorem dir_mark (b : Bd n es r s) (hh : h < 2 * es.length) (e : Nat) : (s.mark h).dir e = if e = h / 2 then (h : Int) else s.dir e := by
  have hl : h / 2 < s.ori.length := by rw [b.lo]; omega
  unfold St.dir St.mark
  dsimp only
  rw [List.getD_eq_getElem?_getD, List.getElem?_set]
  by_cases e1 : h / 2 = e
  · rw [if_pos e1, if_pos hl, if_pos e1.symm]; rfl
  · rw [if_neg e1, if_neg (fun e2 => e1 e2.symm), List.getD_eq_getElem?_getD]

theorem Bd.mark (b : Bd n es r s) (hl : h < 2 * es.length) (hw : s.dir (h / 2) = -1) : Bd n es r (s.mark h) := by
  have hm := left_mark b hl hw
  refine ⟨b.lp, b.lh, by simp [St.mark, b.lo], fun e he => ?_, fun v hv => ?_, ?_, b.hp, b.hu, b.hd⟩
  · rw [dir_mark b hl]
    by_cases e1 : e = h / 2
    · rw [if_pos e1]; omega
    · rw [if_neg e1]; exact b.ho e he
  · have := b.hh v hv
    exact ⟨this.1, by show s.height v + ((s.mark h).left : Int) ≤ _; omega⟩
  · have := b.hr
    show s.ord.length + (s.mark h).left ≤ _
    omega

theorem height_reach (b : Bd n es r s) (hv : v < n) (x y : Int) (u : Nat) : (s.reach v x y).height u = if u = v then y else s.height u := by
  have hl : v < s.hei.length := by rw [b.lh]; omega
  unfold St.height St.reach
  dsimp only
  rw [List.getD_eq_getElem?_getD, List.getElem?_set]
  by_cases e1 : v = u
  · rw [if_pos e1, if_pos hl, if_pos e1.symm]; rfl
  · rw [if_neg e1, if_neg (fun e2 => e1 e2.symm), List.getD_eq_getElem?_getD]

theorem par_reach (b : Bd n es r s) (hv : v < n) (x y : Int) (u : Nat) : (s.reach v x y).par.getD u 0 = if u = v then x else s.par.getD u 0 := by
  have hl : v < s.par.length := by rw [b.lp]; omega
  unfold St.reach
  dsimp only
  rw [List.getD_eq_getElem?_getD, List.getElem?_set]
  by_cases e1 : v = u
  · rw [if_pos e1, if_pos hl, if_pos e1.symm]; rfl
  · rw [if_neg e1, if_neg (fun e2 => e1 e2.symm), List.getD_eq_getElem?_getD]

theorem Bd.reach {r' : Nat} (b : Bd n es r s) (hv : v < n) {x y : Int} (hx : -1 ≤ x ∧ x < 2 * (es.length : Int)) (hy : 0 ≤ y) (hy2 : y + (s.left : Int) ≤ es.length) (hr : s.ord.length + 1 + s.left ≤ es.length + r') : Bd n es r' (s.reach v x y) := by
  refine ⟨by simp [St.reach, b.lp], by simp [St.reach, b.lh], b.lo, b.ho, fun u hu => ?_, ?_, fun u hu => ?_, fun u hu hn => ?_, fun z hz => ?_⟩
  · rw [height_reach b hv]
    show _ ∧ _ + (s.left : Int) ≤ _
    by_cases e : u = v
    · rw [if_pos e]; omega
    · rw [if_neg e]; exact b.hh u hu
  · show (s.ord ++ [(v : Int)]).length + s.left ≤ _
    rw [List.length_append, List.length_singleton]
    exact hr
  · rw [par_reach b hv]
    by_cases e : u = v
    · rw [if_pos e]; exact hx
    · rw [if_neg e]; exact b.hp u hu
  · rw [height_reach b hv] at hn
    by_cases e : u = v
    · rw [if_pos e] at hn; omega
    · rw [if_neg e] at hn
      rw [par_reach b hv, if_neg e]
      exact b.hu u hu hn
  · have hz' : z ∈ s.ord ++ [(v : Int)] := hz
    rcases List.mem_append.1 hz' with h | h
    · exact b.hd z h
    · rw [List.mem_singleton] at h
      subst h
      omega

theorem Bd.root (b : Bd n es r s) (hv : v < n) : Bd n es (r + 1) (s.reach v (-1) 0) := by
  have := b.few
  have := b.hr
  exact b.reach hv (by omega) (by omega) (by omega) (by omega)

theorem Bd.go (b : Bd n es r s) (hval : Si.Val n es) (hl : h < 2 * es.length) (hw : s.dir (h / 2) = -1) : Bd n es r (s.go es h) := by
  have hm := left_mark b hl hw
  have hb := b.mark hl hw
  obtain ⟨hf, ht⟩ := Cs.half_lt hval hl
  have h1 := b.hh _ hf
  have h2 := b.hr
  have e : (s.mark h).ord = s.ord := rfl
  unfold St.go
  exact hb.reach ht (by omega) (by omega) (by omega) (by rw [e]; omega)

/-- What leaves a vertex is a half-edge. -/
theorem out_half {v k : Nat} : ∀ x ∈ Cs.out es v k, x < k := fun x hx => by
  obtain ⟨j, hj⟩ := List.getElem?_of_mem hx
  exact (Cs.out_of hj).1

/-- The walk keeps it. -/
theorem R.bd {k : Nat} {L : List Nat} (hval : Si.Val n es) (h : R es k s L s') : (∀ x ∈ L, x < 2 * es.length) → Bd n es r s → Bd n es r s' := by
  induction h with
  | nil s => exact fun _ b => b
  | old hw hr ih => exact fun hl b => ih (fun x hx => hl x (List.mem_cons_of_mem _ hx)) b
  | back hw hv hr ih => exact fun hl b => ih (fun x hx => hl x (List.mem_cons_of_mem _ hx)) (b.mark (hl _ List.mem_cons_self) hw)
  | tree hw hv h1 h2 ih1 ih2 => exact fun hl b => ih2 (fun x hx => hl x (List.mem_cons_of_mem _ hx)) (ih1 out_half (b.go hval (hl _ List.mem_cons_self) hw))

/-- There is an end. -/
theorem total (hval : Si.Val n es) : ∀ (u : Nat) (L : List Nat) (s : St), s.left ≤ u → Bd n es r s → (∀ x ∈ L, x < 2 * es.length) → ∃ k s', R es k s L s' ∧ s'.left ≤ s.left := by
  intro u
  induction u with
  | zero =>
    intro L
    induction L with
    | nil => exact fun s _ _ _ => ⟨0, s, .nil s, Nat.le_refl _⟩
    | cons h L ih =>
      intro s hu b hl
      by_cases hw : s.dir (h / 2) = -1
      · have := left_mark b (hl h List.mem_cons_self) hw
        omega
      · obtain ⟨k, s', h1, h2⟩ := ih s hu b (fun x hx => hl x (List.mem_cons_of_mem _ hx))
        exact ⟨k + 1, s', .old hw h1, h2⟩
  | succ u ihu =>
    intro L
    induction L with
    | nil => exact fun s _ _ _ => ⟨0, s, .nil s, Nat.le_refl _⟩
    | cons h L ih =>
      intro s hu b hl
      have hh := hl h List.mem_cons_self
      have hL : ∀ x ∈ L, x < 2 * es.length := fun x hx => hl x (List.mem_cons_of_mem _ hx)
      by_cases hw : s.dir (h / 2) = -1
      · have hm := left_mark b hh hw
        by_cases hv : s.height (Cs.to es h) = -1
        · have hle : (s.go es h).left = (s.mark h).left := rfl
          obtain ⟨j, s1, h1, h2⟩ := ihu (Cs.out es (Cs.to es h) (2 * es.length)) (s.go es h) (by omega) (b.go hval hh hw) out_half
          obtain ⟨k, s', h3, h4⟩ := ihu L s1 (by omega) (h1.bd hval out_half (b.go hval hh hw)) hL
          exact ⟨_, s', .tree hw hv h1 h3, by omega⟩
        · obtain ⟨k, s', h1, h2⟩ := ihu L (s.mark h) (by omega) (b.mark hh hw) hL
          exact ⟨_, s', .back hw hv h1, by omega⟩
      · obtain ⟨k, s', h1, h2⟩ := ih s hu b hL
        exact ⟨k + 1, s', .old hw h1, h2⟩
end

/-- Ahead of all. -/
def St.start (n m : Nat) : St := ⟨List.replicate n (-1), List.replicate n (-1), [], List.replicate m (-1)⟩

theorem start_bd (n : Nat) (es : List (Int × Int)) : Bd n es 0 (St.start n es.length) := by
  have hc : (St.start n es.length).left = es.length := by unfold St.left St.start; simp
  have hg : ∀ (m v : Nat), (List.replicate m (-1 : Int)).getD v (-1) = -1 := fun m v => by
    rw [List.getD_eq_getElem?_getD, List.getElem?_replicate]
    split <;> rfl
  refine ⟨by simp [St.start], by simp [St.start], by simp [St.start], fun e _ => .inl (hg _ e), fun v _ => ?_, ?_, fun v hv => ?_, fun v hv _ => ?_, fun x hx => ?_⟩
  · have : (St.start n es.length).height v = -1 := hg n v
    rw [this, hc]
    omega
  · rw [hc]; simp [St.start]
  · have : (St.start n es.length).par.getD v 0 = -1 := by simp [St.start, List.getD_eq_getElem?_getD, hv]
    rw [this]
    omega
  · simp [St.start, List.getD_eq_getElem?_getD, hv]
  · simp [St.start] at hx

/-- The walk from all vertices below i that were not reached. -/
inductive Wk (n : Nat) (es : List (Int × Int)) : Nat → St → Prop
  | zero : Wk n es 0 (St.start n es.length)
  | pass {i : Nat} {s : St} (h : Wk n es i s) (hv : s.height i ≠ -1) : Wk n es (i + 1) s
  | walk {i k : Nat} {s s' : St} (h : Wk n es i s) (hv : s.height i = -1) (hr : R es k (s.reach i (-1) 0) (Cs.out es i (2 * es.length)) s') : Wk n es (i + 1) s'

theorem Wk.unique {n : Nat} {es : List (Int × Int)} {i : Nat} {s : St} (h : Wk n es i s) : ∀ {s' : St}, Wk n es i s' → s = s' := by
  induction h with
  | zero => intro s' h; cases h; rfl
  | pass h hv ih =>
    intro s' h'
    cases h' with
    | pass h'' hv' => exact ih h''
    | walk h'' hv' hr =>
      obtain rfl := ih h''
      exact absurd hv' hv
  | walk h hv hr ih =>
    intro s' h'
    cases h' with
    | pass h'' hv' =>
      obtain rfl := ih h''
      exact absurd hv hv'
    | walk h'' hv' hr' =>
      obtain rfl := ih h''
      exact (hr.unique hr').2

theorem Wk.bd {n : Nat} {es : List (Int × Int)} (hval : Si.Val n es) {i : Nat} {s : St} (h : Wk n es i s) : i ≤ n → Bd n es i s := by
  induction h with
  | zero => exact fun _ => start_bd n es
  | pass h hv ih =>
    intro hi
    have b := ih (by omega)
    exact ⟨b.lp, b.lh, b.lo, b.ho, b.hh, by have := b.hr; omega, b.hp, b.hu, b.hd⟩
  | walk h hv hr ih => exact fun hi => hr.bd hval out_half ((ih (by omega)).root (by omega))

/-- The walk of a valid graph. -/
theorem Wk.ex {n : Nat} {es : List (Int × Int)} (hval : Si.Val n es) : ∀ i, i ≤ n → ∃ s, Wk n es i s := by
  intro i
  induction i with
  | zero => exact fun _ => ⟨_, .zero⟩
  | succ i ih =>
    intro hi
    obtain ⟨s, h⟩ := ih (by omega)
    by_cases hv : s.height i = -1
    · obtain ⟨k, s', hr, _⟩ := total hval (s.reach i (-1) 0).left (Cs.out es i (2 * es.length)) (s.reach i (-1) 0) (Nat.le_refl _) ((h.bd hval (by omega)).root (by omega)) out_half
      exact ⟨s', .walk h hv hr⟩
    · exact ⟨s, .pass h hv⟩

end Df
end Go.Proofs.YtalfpbalekbinaaGreat

/-
  The order of edges as the program asks it: cmp.Compare, cmp.Or, compare; as the document does: Less.
-/
namespace Go.Proofs.YtalfpbalekbinaaGreat
open Go.RowKit Go.Sort

/-- An edge as a value. -/
def edgeVal (e : Int × Int) : Value := .agg #[.int .i64 e.1, .int .i64 e.2]

theorem new2 (W : World) (k : Nat) (hk : W.heap.size = k) (x y : Value) (t : TypeId) : (W.alloc (.cells #[x, y] t)).cell? ⟨k, 0, none⟩ = some x ∧ (W.alloc (.cells #[x, y] t)).cell? ⟨k, 1, none⟩ = some y := by
  subst hk
  constructor <;> simp

theorem new2d (W : World) (k : Nat) (hk : W.heap.size = k) (x y : Value) (t : TypeId) : (W.alloc (.cells #[x, y] t)).drew.cell? ⟨k, 0, none⟩ = some x ∧ (W.alloc (.cells #[x, y] t)).drew.cell? ⟨k, 1, none⟩ = some y := new2 W k hk x y t

theorem size2 (W : World) (x y : Obj) : ((W.alloc x).alloc y).heap.size = W.heap.size + 1 + 1 := by simp

def Si.cmpInt (x y : Int) : Int := if x < y then -1 else if y < x then 1 else 0

set_option maxHeartbeats 400000 in
theorem cmpInt_any (x y : Int) (w : World) : Calls Tryz.prog 60 #[.int .i64 x, .int .i64 y] w fun e w' => e = .returned (.int .i64 (Si.cmpInt x y)) ∧ w' = w := by
  unfold Si.cmpInt
  by_cases h1 : x < y
  · rw [if_pos h1]
    go_enter Tryz.func60, Tryz.ntmps60
    go_wp2
    go_ret
    exact ⟨rfl, rfl⟩
  · rw [if_neg h1]
    by_cases h2 : y < x
    · rw [if_pos h2]
      go_enter Tryz.func60, Tryz.ntmps60
      go_wp2
      go_ret
      exact ⟨rfl, rfl⟩
    · rw [if_neg h2]
      go_enter Tryz.func60, Tryz.ntmps60
      go_wp2
      go_ret
      exact ⟨rfl, rfl⟩

def Si.orInt (p q : Int) : Int := if p ≠ 0 then p else q

theorem cf_or (a b : Int × Int) : Si.cf a b = Si.orInt (Si.cmpInt a.1 b.1) (Si.cmpInt a.2 b.2) := by
  unfold Si.cf Si.cmpInt Si.orInt
  by_cases h1 : a.1 < b.1
  · simp [h1]
  · by_cases h2 : b.1 < a.1
    · simp [h1, h2]
    · simp [h1, h2]

set_option maxHeartbeats 1000000 in
theorem or_any (p q : Int) (W : World) (b : Nat) (h0 : W.cell? ⟨b, 0, none⟩ = some (.int .i64 p)) (h1 : W.cell? ⟨b, 1, none⟩ = some (.int .i64 q)) : Calls Tryz.prog 59 #[.slice (some ⟨b, 0, none⟩) 2 2] W fun e w' => e = .returned (.int .i64 (Si.orInt p q)) ∧ w' = W := by
  unfold Si.orInt
  by_cases hp : p = 0
  · subst hp
    rw [if_neg (by simp)]
    by_cases hq : q = 0
    · subst hq
      go_enter Tryz.func59, Tryz.ntmps59
      go_wp2
      refine wp_loop_rounds 3 ?_
      rw [rounds_succ]
      go_wp2
      rw [rounds_succ]
      go_wp2
      rw [rounds_succ]
      go_wp2
      go_ret
      exact ⟨rfl, rfl⟩
    · go_enter Tryz.func59, Tryz.ntmps59
      go_wp2
      refine wp_loop_rounds 3 ?_
      rw [rounds_succ]
      go_wp2
      rw [rounds_succ]
      go_wp2
      go_ret
      exact ⟨rfl, rfl⟩
  · rw [if_pos hp]
    go_enter Tryz.func59, Tryz.ntmps59
    go_wp2
    refine wp_loop_rounds 3 ?_
    rw [rounds_succ]
    go_wp2
    go_ret
    exact ⟨rfl, rfl⟩

set_option maxRecDepth 100000 in
set_option maxHeartbeats 4000000 in
theorem compare_any (a b : Int × Int) (w : World) : Calls Tryz.prog 36 #[edgeVal a, edgeVal b] w fun e w' => e = .returned (.int .i64 (Si.cf a b)) ∧ ∃ q os', w' = grow (w.drewN q) os' := by
  rw [cf_or]
  unfold edgeVal
  go_enter Tryz.func36, Tryz.ntmps36
  go_wp2
  go_region_held3 (fun w' => w'.cell? ⟨w.heap.size, 0, none⟩ = some (.int .i64 a.1) ∧ w'.cell? ⟨w.heap.size, 1, none⟩ = some (.int .i64 a.2) ∧ w'.cell? ⟨w.heap.size + 1, 0, none⟩ = some (.int .i64 b.1) ∧ w'.cell? ⟨w.heap.size + 1, 1, none⟩ = some (.int .i64 b.2))
    (go_keep)
    (first
      | (go_at_call 60; refine (cmpInt_any _ _ _).mono ?_; rintro e w' ⟨rfl, rfl⟩)
      | (go_at_call 59; refine (or_any (Si.cmpInt a.1 b.1) (Si.cmpInt a.2 b.2) _ _ (new2d _ _ (size2 _ _ _) _ _ _).1 (new2d _ _ (size2 _ _ _) _ _ _).2).mono ?_; rintro e w' ⟨rfl, rfl⟩))
  go_wp2
  go_ret
  exact ⟨rfl, 1, _, by rw [alloc_eq_grow, alloc_eq_grow, grow_grow, alloc_eq_grow, grow_grow]; rfl⟩

theorem grow_below (w : World) (q : Nat) (os : Array Obj) : Below w.heap.size w (grow (w.drewN q) os) := by
  refine ⟨rfl, rfl, rfl, by simp [grow], fun k hk => ?_⟩
  simp [grow, Array.getElem?_append_left hk]

end Go.Proofs.YtalfpbalekbinaaGreat

/-
  Edges and graphs in memory.
-/
namespace Go.Proofs.YtalfpbalekbinaaGreat
open Go.RowKit

/-- The edges es lie at ao. -/
def EdgesAt (w : World) (ao : Option Addr) (es : List (Int × Int)) : Prop :=
  ∀ (j : Nat) (p : Int × Int), es[j]? = some p → ∃ b o : Nat, ao = some ⟨b, o, none⟩ ∧ w.cell? ⟨b, o + j * 2, none⟩ = some (.int .i64 p.1) ∧ w.cell? ⟨b, o + j * 2 + 1, none⟩ = some (.int .i64 p.2)

theorem EdgesAt.later {w w' : World} {ao : Option Addr} {es : List (Int × Int)} (h : EdgesAt w ao es) (hb : Below w.heap.size w w') : EdgesAt w' ao es := fun j p hj => by
  obtain ⟨b, o, e, h0, h1⟩ := h j p hj
  exact ⟨b, o, e, (hb.cell (p := ⟨b, o + j * 2, none⟩) (block_lt_of_cell h0)).trans h0, (hb.cell (p := ⟨b, o + j * 2 + 1, none⟩) (block_lt_of_cell h1)).trans h1⟩

theorem EdgesAt.nil (w : World) (ao : Option Addr) : EdgesAt w ao [] := fun j p hj => by simp at hj

/-- A graph as a value. -/
def graphVal (n : Int) (ao : Option Addr) (len cap : Nat) : Value := .agg #[.int .i64 n, .slice ao len cap]

end Go.Proofs.YtalfpbalekbinaaGreat

/-
  Lists of ints in blocks of their own; which blocks a call writes.
-/
namespace Go.Proofs.YtalfpbalekbinaaGreat
open Go.RowKit

/-- Block g begins with the numbers l. -/
def IntsIn (w : World) (g : Nat) (l : List Int) : Prop := ∃ rest : List Value, w.heap[g]? = some (.cells (l.map (Value.int .i64) ++ rest).toArray 3 (0, 0))

section
variable {w w' : World} {g : Nat} {l : List Int}
theorem IntsIn.lt (h : IntsIn w g l) : g < w.heap.size := by
  obtain ⟨rest, h⟩ := h
  exact lt_of_block h
theorem IntsIn.cell (h : IntsIn w g l) {i : Nat} {x : Int} (hx : l[i]? = some x) : w.cell? ⟨g, i, none⟩ = some (.int .i64 x) := by
  obtain ⟨rest, h⟩ := h
  have hl := (List.getElem?_eq_some_iff.1 hx).1
  have : (l.map (Value.int .i64) ++ rest)[i]? = some (.int .i64 x) := by
    rw [List.getElem?_append_left (by simpa using hl), List.getElem?_map, hx]
    rfl
  simp [World.cell?, h]
  simpa using this
theorem IntsIn.free (h : IntsIn w g l) (i : Nat) : w.frozen? ⟨g, i, none⟩ = false := by
  obtain ⟨rest, h⟩ := h
  simp [World.frozen?, h]
theorem IntsIn.set (h : IntsIn w g l) {i : Nat} (hi : i < l.length) (x : Int) : IntsIn (w.setCell ⟨g, i, none⟩ (.int .i64 x)) g (l.set i x) := by
  obtain ⟨rest, h⟩ := h
  refine ⟨rest, ?_⟩
  rw [heap_setCell_same w g i _ _ _ h]
  have e : ((l.map (Value.int .i64) ++ rest).toArray.setIfInBounds i (.int .i64 x)) = ((l.set i x).map (Value.int .i64) ++ rest).toArray := by
    rw [List.setIfInBounds_toArray, List.set_append_left _ _ (by simpa using hi), List.map_set]
  rw [e]
theorem IntsIn.other (h : IntsIn w g l) {b i : Nat} (hb : g ≠ b) (x : Value) : IntsIn (w.setCell ⟨b, i, none⟩ x) g l := by
  obtain ⟨rest, h⟩ := h
  exact ⟨rest, (heap_setCell_other w ⟨b, i, none⟩ g x hb).trans h⟩
theorem IntsIn.later (h : IntsIn w g l) (hb : Below w.heap.size w w') : IntsIn w' g l := by
  have hl := h.lt
  obtain ⟨rest, h⟩ := h
  exact ⟨rest, (hb.block g hl).trans h⟩
theorem IntsIn.alloc (h : IntsIn w g l) (o : Obj) : IntsIn (w.alloc o) g l := by
  have hl := h.lt
  obtain ⟨rest, h⟩ := h
  exact ⟨rest, (Below.heap_alloc w o g hl).trans h⟩
theorem IntsIn.drew (h : IntsIn w g l) : IntsIn w.drew g l := h
theorem IntsIn.drewN (h : IntsIn w g l) (k : Nat) : IntsIn (w.drewN k) g l := h
theorem IntsBlk.ins (h : IntsBlk w g l) : IntsIn w g l := ⟨[], by rw [List.append_nil]; exact h⟩
end

/-- A row of one's own as a block of ints. -/
theorem ints_in_row {w : World} {B g n c : Nat} {xs : List Int} (h : w.ownsRow B 3 1 (.slice (some ⟨g, 0, none⟩) n c) n (xs.map (Value.int .i64))) : IntsIn w g xs := by
  rcases h.2 with ⟨h, _⟩ | ⟨g', cap, cur, e, _, hh, _, _, hs, ht⟩
  · cases h
  cases e
  refine ⟨cur.toList.drop (n * 1), ?_⟩
  rw [← ht, List.take_append_drop]
  exact hh

/-- Only blocks of S are written, and new ones. -/
structure Wrote (S : Nat → Prop) (w w' : World) : Prop where
  os : w'.os = w.os
  tape : w'.tape = w.tape
  output : w'.output = w.output
  size : w.heap.size ≤ w'.heap.size
  block : ∀ k, k < w.heap.size → ¬ S k → w'.heap[k]? = w.heap[k]?

section
variable {S : Nat → Prop} {w w' w0 : World}
theorem Wrote.refl (S : Nat → Prop) (w : World) : Wrote S w w := ⟨rfl, rfl, rfl, Nat.le_refl _, fun _ _ _ => rfl⟩
theorem Wrote.trans (h : Wrote S w0 w) (k : Wrote S w w') : Wrote S w0 w' :=
  ⟨k.os.trans h.os, k.tape.trans h.tape, k.output.trans h.output, Nat.le_trans h.size k.size, fun i hi hn => (k.block i (Nat.lt_of_lt_of_le hi h.size) hn).trans (h.block i hi hn)⟩
theorem Wrote.setCell (h : Wrote S w0 w) {b i : Nat} (hb : S b) (x : Value) : Wrote S w0 (w.setCell ⟨b, i, none⟩ x) :=
  ⟨h.os, h.tape, h.output, by simpa using h.size, fun k hk hn => (heap_setCell_other w ⟨b, i, none⟩ k x (fun e => hn (by rw [e]; exact hb))).trans (h.block k hk hn)⟩
theorem Wrote.drew (h : Wrote S w0 w) : Wrote S w0 w.drew := ⟨h.os, h.tape, h.output, h.size, h.block⟩
theorem Wrote.drewN (h : Wrote S w0 w) (k : Nat) : Wrote S w0 (w.drewN k) := ⟨h.os, h.tape, h.output, h.size, h.block⟩
theorem Wrote.later (h : Wrote S w0 w) (hb : Below w.heap.size w w') : Wrote S w0 w' :=
  ⟨hb.os.trans h.os, hb.tape.trans h.tape, hb.output.trans h.output, Nat.le_trans h.size hb.size, fun k hk hn => (hb.block k (Nat.lt_of_lt_of_le hk h.size)).trans (h.block k hk hn)⟩
theorem Wrote.alloc (h : Wrote S w0 w) (o : Obj) : Wrote S w0 (w.alloc o) := h.later ((Below.refl _ _).alloc (Nat.le_refl _) o)
theorem Wrote.below {B : Nat} (h : Wrote S w w') (hB : B ≤ w.heap.size) (hS : ∀ k, S k → B ≤ k) : Below B w w' :=
  ⟨h.os, h.tape, h.output, h.size, fun k hk => h.block k (Nat.lt_of_lt_of_le hk hB) (fun hs => by have := hS k hs; omega)⟩
theorem Wrote.ints {g : Nat} {l : List Int} (h : Wrote S w w') (hi : IntsIn w g l) (hg : ¬ S g) : IntsIn w' g l := by
  have hl := hi.lt
  obtain ⟨rest, hi⟩ := hi
  exact ⟨rest, (h.block g hl hg).trans hi⟩
theorem Wrote.mono {S' : Nat → Prop} (h : Wrote S w w') (hS : ∀ k, k < w.heap.size → S k → S' k) : Wrote S' w w' :=
  ⟨h.os, h.tape, h.output, h.size, fun k hk hn => h.block k hk (fun hs => hn (hS k hk hs))⟩
end

end Go.Proofs.YtalfpbalekbinaaGreat
