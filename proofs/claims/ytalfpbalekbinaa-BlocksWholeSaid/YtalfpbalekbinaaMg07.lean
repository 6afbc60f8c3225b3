import Init
import Derived.Test.YtalfpbalekbinaaMg06
/-
  Sorting by small keys as plain functions of lists, with no program in it: ranks, groups, what is sorted, and their laws.
-/
namespace Go.Proofs.Ytalfpbalekbinaa
namespace Bu

/-- How many keys are smaller than x. -/
def less (ks : List Int) (x : Int) : Nat := ks.countP (fun z => decide (z < x))

/-- The rank of place i. -/
def rk (ks : List Int) (i : Nat) : Nat := less ks (ks.getD i 0) + (ks.take i).count (ks.getD i 0)

def ranks (ks : List Int) : List Int := (List.range ks.length).map fun i => (rk ks i : Int)

def out (most : Int) : Prop := most < 0 ∨ 4194304 < most
def bad (most z : Int) : Bool := decide (z < 0) || decide (most < z)
/-- The number of the error of these keys. -/
def fault (most : Int) (ks : List Int) : Int := if most < 0 ∨ 4194304 < most then 2 else if ks.any (bad most) then 60 else 0

theorem ranks_length (ks : List Int) : (ranks ks).length = ks.length := by simp [ranks]
theorem ranks_at {ks : List Int} {i : Nat} (h : i < ks.length) : (ranks ks)[i]? = some (rk ks i : Int) := by simp [ranks, h]

theorem at_getD {ks : List Int} {i : Nat} {x : Int} (h : ks[i]? = some x) : ks.getD i 0 = x := by simp [List.getD_eq_getElem?_getD, h]
theorem getD_at {ks : List Int} {i : Nat} (h : i < ks.length) : ks[i]? = some (ks.getD i 0) := by simp [List.getD_eq_getElem?_getD, List.getElem?_eq_getElem h]

theorem take_succ_of {ks : List Int} {i : Nat} {x : Int} (h : ks[i]? = some x) : ks.take (i + 1) = ks.take i ++ [x] := by rw [List.take_add_one, h]; rfl

theorem count_take_succ {ks : List Int} {i : Nat} {x : Int} (h : ks[i]? = some x) (y : Int) : (ks.take (i + 1)).count y = (ks.take i).count y + (if x = y then 1 else 0) := by
  rw [take_succ_of h, List.count_append]
  by_cases e : x = y
  · subst e; simp
  · simp [e]

theorem less_take_succ {ks : List Int} {i : Nat} {x : Int} (h : ks[i]? = some x) (y : Int) : less (ks.take (i + 1)) y = less (ks.take i) y + (if x < y then 1 else 0) := by
  unfold less
  rw [take_succ_of h, List.countP_append]
  by_cases e : x < y <;> simp [e]

theorem less_succ (ks : List Int) (x : Int) : less ks (x + 1) = less ks x + ks.count x := by
  induction ks with
  | nil => rfl
  | cons a r ih =>
    unfold less at ih ⊢
    simp only [List.countP_cons, List.count_cons, ih]
    by_cases h1 : a < x
    · have h2 : a < x + 1 := by omega
      have h3 : ¬ a = x := by omega
      simp [h1, h2, h3]; omega
    · by_cases h3 : a = x
      · subst h3
        have h2 : a < a + 1 := by omega
        simp [h2]; omega
      · have h2 : ¬ a < x + 1 := by omega
        simp [h1, h2, h3]

theorem less_mono (ks : List Int) {x y : Int} (h : x ≤ y) : less ks x ≤ less ks y := by
  unfold less
  exact List.countP_mono_left fun z _ hz => by simp at hz ⊢; omega

theorem less_le (ks : List Int) (x : Int) : less ks x ≤ ks.length := List.countP_le_length

theorem count_take_le (ks : List Int) {i j : Nat} (h : i ≤ j) (x : Int) : (ks.take i).count x ≤ (ks.take j).count x := by
  have e : ks.take i = (ks.take j).take i := by rw [List.take_take]; congr 1; omega
  rw [e]
  exact List.Sublist.count_le _ (List.take_sublist _ _)

theorem count_take_all (ks : List Int) (i : Nat) (x : Int) : (ks.take i).count x ≤ ks.count x := List.Sublist.count_le _ (List.take_sublist _ _)

theorem count_take_lt {ks : List Int} {i j : Nat} {x : Int} (h : ks[i]? = some x) (hj : i < j) : (ks.take i).count x < (ks.take j).count x := by
  have h1 := count_take_succ h x
  have h2 := count_take_le ks (i := i + 1) (j := j) (by omega) x
  rw [if_pos rfl] at h1
  omega

theorem count_take_lt_all {ks : List Int} {i : Nat} {x : Int} (h : ks[i]? = some x) : (ks.take i).count x < ks.count x := by
  have h1 := count_take_succ h x
  have h2 := count_take_all ks (i + 1) x
  rw [if_pos rfl] at h1
  omega

theorem rk_eq {ks : List Int} {i : Nat} {x : Int} (h : ks[i]? = some x) : rk ks i = less ks x + (ks.take i).count x := by unfold rk; rw [at_getD h]

/-- Place i stands ahead of place j. -/
def Ahead (ks : List Int) (i j : Nat) : Prop := ks.getD i 0 < ks.getD j 0 ∨ (ks.getD i 0 = ks.getD j 0 ∧ i < j)

theorem rk_below {ks : List Int} {i : Nat} {x : Int} (h : ks[i]? = some x) : rk ks i < less ks (x + 1) := by
  rw [rk_eq h, less_succ]
  have := count_take_lt_all h
  omega

theorem rk_ahead {ks : List Int} {i j : Nat} (hi : i < ks.length) (hj : j < ks.length) (h : Ahead ks i j) : rk ks i < rk ks j := by
  have ei := getD_at hi
  have ej := getD_at hj
  rcases h with h | ⟨h, hlt⟩
  · have h1 := rk_below ei
    have h2 := less_mono ks (x := ks.getD i 0 + 1) (y := ks.getD j 0) (by omega)
    rw [rk_eq ej]
    omega
  · rw [rk_eq ei, rk_eq ej, ← h]
    have := count_take_lt ei hlt
    omega

theorem rk_lt {ks : List Int} {i : Nat} (hi : i < ks.length) : rk ks i < ks.length := by
  have h1 := rk_below (getD_at hi)
  have h2 := less_le ks (ks.getD i 0 + 1)
  omega

theorem ahead_or (ks : List Int) {i j : Nat} (h : i ≠ j) : Ahead ks i j ∨ Ahead ks j i := by
  unfold Ahead
  omega

theorem rk_inj {ks : List Int} {i j : Nat} (hi : i < ks.length) (hj : j < ks.length) (h : rk ks i = rk ks j) : i = j := by
  rcases Nat.decEq i j with e | e
  · rcases ahead_or ks e with a | a
    · have := rk_ahead hi hj a; omega
    · have := rk_ahead hj hi a; omega
  · exact e

theorem pig : ∀ (n : Nat) (f : Nat → Nat), (∀ i, i < n → f i < n) → (∀ i j, i < n → j < n → f i = f j → i = j) → ∀ k, k < n → ∃ i, i < n ∧ f i = k := by
  intro n
  induction n with
  | zero => intro f _ _ k hk; omega
  | succ n ih =>
    intro f hf hinj k hk
    have hg := ih (fun i : Nat => if f i = n then f n else f i) (fun i hi => by
      by_cases e : f i = n
      · rw [if_pos e]
        have h1 := hf n (by omega)
        have h2 : f n ≠ n := fun e2 => by
          have := hinj i n (by omega) (by omega) (e.trans e2.symm)
          omega
        omega
      · rw [if_neg e]
        have := hf i (by omega)
        omega) (fun i j hi hj he => by
      by_cases e1 : f i = n
      · by_cases e2 : f j = n
        · exact hinj i j (by omega) (by omega) (e1.trans e2.symm)
        · rw [if_pos e1, if_neg e2] at he
          have := hinj n j (by omega) (by omega) he
          omega
      · by_cases e2 : f j = n
        · rw [if_neg e1, if_pos e2] at he
          have := hinj i n (by omega) (by omega) he
          omega
        · rw [if_neg e1, if_neg e2] at he
          exact hinj i j (by omega) (by omega) he)
    have hn := hf n (by omega)
    by_cases e : f n = k
    · exact ⟨n, by omega, e⟩
    · by_cases e2 : k = n
      · obtain ⟨i, hi, h⟩ := hg (f n) (by omega)
        by_cases e3 : f i = n
        · exact ⟨i, by omega, by omega⟩
        · rw [if_neg e3] at h
          have := hinj i n (by omega) (by omega) h
          omega
      · obtain ⟨i, hi, h⟩ := hg k (by omega)
        by_cases e3 : f i = n
        · rw [if_pos e3] at h
          exact absurd h e
        · rw [if_neg e3] at h
          exact ⟨i, by omega, h⟩

theorem rk_onto (ks : List Int) {k : Nat} (hk : k < ks.length) : ∃ i, i < ks.length ∧ rk ks i = k :=
  pig ks.length (rk ks) (fun _ hi => rk_lt hi) (fun _ _ hi hj h => rk_inj hi hj h) k hk

/-- S is what is sorted: each item at its rank. -/
structure Sorted {α : Type} (ks : List Int) (xs S : List α) : Prop where
  len : S.length = ks.length
  put : ∀ i, i < ks.length → S[rk ks i]? = xs[i]?

theorem Sorted.unique {α : Type} {ks : List Int} {xs S T : List α} (h : Sorted ks xs S) (k : Sorted ks xs T) : S = T := by
  refine List.ext_getElem? fun j => ?_
  by_cases hj : j < ks.length
  · obtain ⟨i, hi, rfl⟩ := rk_onto ks hj
    rw [h.put i hi, k.put i hi]
  · rw [List.getElem?_eq_none (by rw [h.len]; omega), List.getElem?_eq_none (by rw [k.len]; omega)]

/-- The first n items have been put at their ranks. -/
structure Laid {α : Type} (ks : List Int) (xs S : List α) (n : Nat) : Prop where
  len : S.length = ks.length
  put : ∀ i, i < n → S[rk ks i]? = xs[i]?

theorem Laid.step {α : Type} {ks : List Int} {xs S : List α} {n : Nat} (h : Laid ks xs S n) (hn : n < ks.length) {x : α} (hx : xs[n]? = some x) : Laid ks xs (S.set (rk ks n) x) (n + 1) := by
  refine ⟨by rw [List.length_set]; exact h.len, fun i hi => ?_⟩
  have hr := rk_lt hn
  rw [List.getElem?_set]
  by_cases e : i = n
  · subst e
    rw [if_pos rfl, if_pos (by rw [h.len]; exact hr), hx]
  · rw [if_neg (fun e2 => e (rk_inj (by omega) hn e2.symm)), h.put i (by omega)]

/-- The places among the first n that have key k, rising. -/
def grpTo (ks : List Int) (n : Nat) (k : Int) : List Int := ((List.range n).filter fun i => ks.getD i 0 == k).map fun i : Nat => (i : Int)
def grp (ks : List Int) (k : Int) : List Int := grpTo ks ks.length k

theorem grpTo_succ (ks : List Int) (n : Nat) (k : Int) : grpTo ks (n + 1) k = if ks.getD n 0 = k then grpTo ks n k ++ [(n : Int)] else grpTo ks n k := by
  unfold grpTo
  rw [List.range_succ, List.filter_append]
  by_cases e : ks.getD n 0 = k
  · rw [if_pos e]
    have : (ks.getD n 0 == k) = true := beq_iff_eq.2 e
    simp only [List.filter_cons, List.filter_nil]
    rw [this]
    simp
  · rw [if_neg e]
    have : (ks.getD n 0 == k) = false := beq_eq_false_iff_ne.2 e
    simp only [List.filter_cons, List.filter_nil]
    rw [this]
    simp

theorem grpTo_length {ks : List Int} {n : Nat} (hn : n ≤ ks.length) (k : Int) : (grpTo ks n k).length = (ks.take n).count k := by
  induction n with
  | zero => simp [grpTo]
  | succ n ih =>
    have h := getD_at (ks := ks) (i := n) (by omega)
    rw [grpTo_succ, count_take_succ h]
    have := ih (by omega)
    by_cases e : ks.getD n 0 = k
    · rw [if_pos e, if_pos e, List.length_append, this]; rfl
    · rw [if_neg e, if_neg e, this]; rfl

theorem grp_length (ks : List Int) (k : Int) : (grp ks k).length = ks.count k := by
  unfold grp
  rw [grpTo_length (Nat.le_refl _), List.take_length]

theorem grpTo_pre {ks : List Int} {n m : Nat} (h : n ≤ m) (k : Int) : ∃ t, grpTo ks m k = grpTo ks n k ++ t := by
  induction m with
  | zero => exact ⟨[], by rw [show n = 0 by omega]; simp⟩
  | succ m ih =>
    by_cases e : n = m + 1
    · subst e; exact ⟨[], by simp⟩
    · obtain ⟨t, ht⟩ := ih (by omega)
      rw [grpTo_succ]
      by_cases e2 : ks.getD m 0 = k
      · rw [if_pos e2, ht]; exact ⟨t ++ [(m : Int)], by simp⟩
      · rw [if_neg e2]; exact ⟨t, ht⟩

theorem grp_at {ks : List Int} {i : Nat} (hi : i < ks.length) : (grp ks (ks.getD i 0))[(ks.take i).count (ks.getD i 0)]? = some (i : Int) := by
  obtain ⟨t, ht⟩ := grpTo_pre (ks := ks) (n := i + 1) (m := ks.length) hi (ks.getD i 0)
  unfold grp
  rw [ht, grpTo_succ, if_pos rfl, ← grpTo_length (Nat.le_of_lt hi) (ks.getD i 0)]
  simp

/-- All keys lie between 0 and m. -/
def In (m : Int) (ks : List Int) : Prop := ∀ z ∈ ks, 0 ≤ z ∧ z ≤ m

/-- The groups of the keys below K, as lists. -/
def groups (ks : List Int) (K : Nat) : List (List Int) := (List.range K).map fun k : Nat => grp ks (k : Int)
/-- The same, of the first n places. -/
def groupsTo (ks : List Int) (n K : Nat) : List (List Int) := (List.range K).map fun k : Nat => grpTo ks n (k : Int)
theorem groups_to (ks : List Int) (K : Nat) : groupsTo ks ks.length K = groups ks K := rfl
theorem groupsTo_length (ks : List Int) (n K : Nat) : (groupsTo ks n K).length = K := by simp [groupsTo]
theorem groups_length (ks : List Int) (K : Nat) : (groups ks K).length = K := by simp [groups]
theorem groupsTo_at (ks : List Int) (n : Nat) {K k : Nat} (h : k < K) : (groupsTo ks n K)[k]? = some (grpTo ks n (k : Int)) := by simp [groupsTo, h]
theorem groups_at (ks : List Int) {K k : Nat} (h : k < K) : (groups ks K)[k]? = some (grp ks (k : Int)) := by simp [groups, h]
theorem groupsTo_zero (ks : List Int) (K : Nat) : groupsTo ks 0 K = List.replicate K [] := by
  unfold groupsTo
  refine List.ext_getElem? fun j => ?_
  by_cases hj : j < K
  · simp [hj, grpTo]
  · simp [hj]
theorem groupsTo_succ {ks : List Int} {n K k : Nat} (h : ks[n]? = some (k : Int)) (hk : k < K) : groupsTo ks (n + 1) K = (groupsTo ks n K).set k (grpTo ks n (k : Int) ++ [(n : Int)]) := by
  have hd := at_getD h
  refine List.ext_getElem? fun j => ?_
  rw [List.getElem?_set, groupsTo_length]
  by_cases hj : j < K
  · rw [groupsTo_at ks (n + 1) hj, grpTo_succ, hd]
    by_cases e : k = j
    · subst e
      rw [if_pos rfl, if_pos rfl, if_pos hj]
    · rw [if_neg (by omega), if_neg e, groupsTo_at ks n hj]
  · by_cases e : k = j
    · omega
    · rw [if_neg e, List.getElem?_eq_none (by rw [groupsTo_length]; omega), List.getElem?_eq_none (by rw [groupsTo_length]; omega)]

def flat (ks : List Int) (K : Nat) : List Int := (groups ks K).flatten

theorem flat_succ (ks : List Int) (K : Nat) : flat ks (K + 1) = flat ks K ++ grp ks (K : Int) := by
  unfold flat groups
  rw [List.range_succ, List.map_append, List.flatten_append]
  simp

theorem less_zero {m : Int} {ks : List Int} (h : In m ks) : less ks 0 = 0 := by
  unfold less
  rw [List.countP_eq_zero]
  intro z hz
  have := h z hz
  simp
  omega

theorem flat_length {m : Int} {ks : List Int} (h : In m ks) (K : Nat) : (flat ks K).length = less ks (K : Int) := by
  induction K with
  | zero => rw [show ((0 : Nat) : Int) = 0 by rfl, less_zero h]; rfl
  | succ K ih =>
    rw [flat_succ, List.length_append, ih, grp_length, show ((K + 1 : Nat) : Int) = (K : Int) + 1 by omega, less_succ]

theorem flat_pre (ks : List Int) {K L : Nat} (h : K ≤ L) : ∃ t, flat ks L = flat ks K ++ t := by
  induction L with
  | zero => exact ⟨[], by rw [show K = 0 by omega]; simp⟩
  | succ L ih =>
    by_cases e : K = L + 1
    · subst e; exact ⟨[], by simp⟩
    · obtain ⟨t, ht⟩ := ih (by omega)
      rw [flat_succ, ht]
      exact ⟨t ++ grp ks (L : Int), by simp⟩

theorem less_all {m : Int} {ks : List Int} (h : In m ks) : less ks (m + 1) = ks.length := by
  unfold less
  rw [List.countP_eq_length]
  intro z hz
  have := h z hz
  simp
  omega

theorem flat_at {m : Int} {ks : List Int} (h : In m ks) {K i : Nat} (hi : i < ks.length) (hk : ks.getD i 0 < (K : Int)) : (flat ks K)[rk ks i]? = some (i : Int) := by
  have hx := getD_at hi
  have h0 := h _ (List.mem_of_getElem? hx)
  obtain ⟨k, hkk⟩ : ∃ k : Nat, ks.getD i 0 = (k : Int) := ⟨(ks.getD i 0).toNat, by omega⟩
  obtain ⟨t, ht⟩ := flat_pre ks (K := k + 1) (L := K) (by omega)
  have hr := rk_eq hx
  have hg := grp_at hi
  rw [hkk] at hr hg
  have hfl := flat_length h k
  have hgl := (List.getElem?_eq_some_iff.1 hg).1
  rw [ht, List.getElem?_append_left (by rw [flat_succ, List.length_append, hfl]; omega), flat_succ, List.getElem?_append_right (by omega), hfl, hr, Nat.add_sub_cancel_left]
  exact hg

/-- The places 0 .. n - 1. -/
def places (n : Nat) : List Int := (List.range n).map fun i : Nat => (i : Int)
theorem places_length (n : Nat) : (places n).length = n := by simp [places]
theorem places_at {n i : Nat} (h : i < n) : (places n)[i]? = some (i : Int) := by simp [places, h]
theorem places_succ (n : Nat) : places (n + 1) = places n ++ [(n : Int)] := by simp [places, List.range_succ]

theorem flat_sorted {m : Int} {ks : List Int} (h : In m ks) {K : Nat} (hK : (K : Int) = m + 1) : Sorted ks (places ks.length) (flat ks K) := by
  refine ⟨by rw [flat_length h, hK, less_all h], fun i hi => ?_⟩
  have h0 := h _ (List.mem_of_getElem? (getD_at hi))
  rw [flat_at h hi (by omega), places_at hi]

/-- Of a list that does not fall the ranks are the places. -/
theorem rk_rising {ks : List Int} (h : ∀ i j, i < j → j < ks.length → ks.getD i 0 ≤ ks.getD j 0) {j : Nat} (hj : j < ks.length) : rk ks j = j := by
  have hx := getD_at hj
  generalize ks.getD j 0 = y at hx
  have hle : ∀ i, i < j → ks.getD i 0 ≤ y := fun i hi => by rw [← at_getD hx]; exact h i j hi hj
  have hge : ∀ i, j ≤ i → i < ks.length → y ≤ ks.getD i 0 := fun i hi hl => by
    by_cases e : i = j
    · subst e; rw [at_getD hx]; exact Int.le_refl _
    · have := h j i (by omega) hl
      rw [at_getD hx] at this
      exact this
  rw [rk_eq hx]
  have a : ∀ n, n ≤ j → less (ks.take n) y + (ks.take n).count y = n := fun n => by
    induction n with
    | zero => intro _; simp [less]
    | succ n ih =>
      intro hn
      have hz := getD_at (ks := ks) (i := n) (by omega)
      have := ih (by omega)
      have hl := hle n (by omega)
      rw [less_take_succ hz, count_take_succ hz]
      by_cases e : ks.getD n 0 = y
      · rw [if_pos e, if_neg (by omega)]; omega
      · rw [if_neg e, if_pos (by omega)]; omega
  have b : ∀ n, j ≤ n → n ≤ ks.length → less (ks.take n) y = less (ks.take j) y := fun n => by
    induction n with
    | zero => intro h1 _; rw [show j = 0 by omega]
    | succ n ih =>
      intro h1 h2
      by_cases e : j = n + 1
      · rw [e]
      · have hz := getD_at (ks := ks) (i := n) (by omega)
        have hg := hge n (by omega) (by omega)
        rw [less_take_succ hz, if_neg (by omega), ih (by omega) (by omega)]
        rfl
  have h1 := a j (Nat.le_refl _)
  have h2 := b ks.length (by omega) (Nat.le_refl _)
  rw [List.take_length] at h2
  omega

/-- The keys of what is sorted. -/
def keysOf (ks S : List Int) : List Int := S.map fun z => ks.getD z.toNat 0

theorem sorted_place {ks S : List Int} (h : Sorted ks (places ks.length) S) {k : Nat} (hk : k < ks.length) : ∃ i, i < ks.length ∧ S[k]? = some (i : Int) ∧ rk ks i = k := by
  obtain ⟨i, hi, rfl⟩ := rk_onto ks hk
  exact ⟨i, hi, by rw [h.put i hi, places_at hi], rfl⟩

theorem sorted_ahead {ks S : List Int} (h : Sorted ks (places ks.length) S) {k k' i i' : Nat} (hlt : k < k') (hk : k' < ks.length) (h1 : S[k]? = some (i : Int)) (h2 : S[k']? = some (i' : Int)) : Ahead ks i i' := by
  obtain ⟨j, hj, e1, r1⟩ := sorted_place h (k := k) (by omega)
  obtain ⟨j', hj', e2, r2⟩ := sorted_place h hk
  rw [h1] at e1
  rw [h2] at e2
  have a1 := Option.some.inj e1
  have a2 := Option.some.inj e2
  obtain rfl : i = j := by omega
  obtain rfl : i' = j' := by omega
  rcases ahead_or ks (i := i) (j := i') (fun e => by subst e; omega) with a | a
  · exact a
  · have := rk_ahead hj' hj a
    omega

theorem sorted_again {ks S T : List Int} (h : Sorted ks (places ks.length) S) (k : Sorted (keysOf ks S) S T) : T = S := by
  have hl : (keysOf ks S).length = ks.length := by simp [keysOf, h.len]
  have hrise : ∀ i j, i < j → j < (keysOf ks S).length → (keysOf ks S).getD i 0 ≤ (keysOf ks S).getD j 0 := fun i j hij hj => by
    obtain ⟨a, ha, e1, -⟩ := sorted_place h (k := i) (by omega)
    obtain ⟨b, hb, e2, -⟩ := sorted_place h (k := j) (by omega)
    have hah := sorted_ahead h hij (by omega) e1 e2
    have q1 : (keysOf ks S).getD i 0 = ks.getD a 0 := at_getD (by unfold keysOf; rw [List.getElem?_map, e1]; simp)
    have q2 : (keysOf ks S).getD j 0 = ks.getD b 0 := at_getD (by unfold keysOf; rw [List.getElem?_map, e2]; simp)
    rw [q1, q2]
    unfold Ahead at hah
    omega
  refine List.ext_getElem? fun j => ?_
  by_cases hj : j < (keysOf ks S).length
  · have := k.put j hj
    rw [rk_rising hrise hj] at this
    exact this
  · rw [List.getElem?_eq_none (by rw [k.len]; omega), List.getElem?_eq_none (by rw [h.len, ← hl]; omega)]

theorem fault_two {most : Int} {ks : List Int} (h : most < 0 ∨ 4194304 < most) : fault most ks = 2 := if_pos h
theorem fault_key {most : Int} {ks : List Int} (h : ¬ (most < 0 ∨ 4194304 < most)) (h2 : ks.any (bad most) = true) : fault most ks = 60 := by unfold fault; rw [if_neg h, if_pos h2]
theorem fault_none {most : Int} {ks : List Int} (h : ¬ (most < 0 ∨ 4194304 < most)) (h2 : ks.any (bad most) = false) : fault most ks = 0 := by
  unfold fault
  rw [if_neg h, h2]
  rfl
theorem fault_cases (most : Int) (ks : List Int) : ((most < 0 ∨ 4194304 < most) ∧ fault most ks = 2) ∨ (¬ (most < 0 ∨ 4194304 < most) ∧ ks.any (bad most) = true ∧ fault most ks = 60) ∨ (¬ (most < 0 ∨ 4194304 < most) ∧ ks.any (bad most) = false ∧ fault most ks = 0) := by
  by_cases h : most < 0 ∨ 4194304 < most
  · exact .inl ⟨h, fault_two h⟩
  · cases h2 : ks.any (bad most)
    · exact .inr (.inr ⟨h, rfl, fault_none h h2⟩)
    · exact .inr (.inl ⟨h, rfl, fault_key h h2⟩)
theorem any_in {most : Int} {ks : List Int} (h : ks.any (bad most) = false) : In most ks := fun z hz => by
  have := List.any_eq_false.1 h z hz
  unfold bad at this
  simp at this
  omega
theorem any_take_succ {most : Int} {ks : List Int} {i : Nat} {x : Int} (h : ks[i]? = some x) (hp : (ks.take i).any (bad most) = false) (hx : bad most x = false) : (ks.take (i + 1)).any (bad most) = false := by
  rw [take_succ_of h, List.any_append, hp]
  simp [hx]
theorem any_of {most : Int} {ks : List Int} {i : Nat} {x : Int} (h : ks[i]? = some x) (hx : bad most x = true) : ks.any (bad most) = true := List.any_eq_true.2 ⟨x, List.mem_of_getElem? h, hx⟩
theorem bad_yes {most x : Int} (h : x < 0 ∨ most < x) : bad most x = true := by unfold bad; simp; omega
theorem bad_no {most x : Int} (h : ¬ (x < 0 ∨ most < x)) : bad most x = false := by unfold bad; simp; omega

end Bu
end Go.Proofs.Ytalfpbalekbinaa

/-
  Depth-first forests, pure: who is above whom, by places; heights; what a valid forest is.
-/
namespace Go.Proofs.Ytalfpbalekbinaa
namespace Df

section
variable {n : Nat} {es : List (Int × Int)} {s : St}

/-- Every vertex stands somewhere. -/
theorem Once.onto (h : Once n s n) {v : Nat} (hv : v < n) : ∃ a, a < n ∧ at_ s.ord a = (v : Int) := by
  obtain ⟨a, ha, e⟩ := Bu.pig n (fun a => (at_ s.ord a).toNat) (fun i hi => by have := (h i hi).1; omega) (fun i j hi hj e => by
    by_cases hij : i = j
    · exact hij
    · have h1 := (h i hi).1
      have h2 := (h j hj).1
      exact absurd (by omega : at_ s.ord i = at_ s.ord j) (h.ne hi hj hij)) v hv
  have := (h a ha).1
  exact ⟨a, ha, by omega⟩

/-- By vertex the place at which it stands. -/
def IsPlace (n : Nat) (s : St) (P : List Int) : Prop := P.length = n ∧ ∀ a, a < n → at_ P (at_ s.ord a).toNat = (a : Int)

theorem above_iff (ho : Once n s n) {W B P : List Int} (hs : side n es s n = some (W, B)) (hP : IsPlace n s P) {u v : Nat} (hu : u < n) (hv : v < n) :
    (at_ P u ≤ at_ P v ∧ at_ P v < at_ (ends n W B) u) ↔ Anc es s u v := by
  obtain ⟨a, ha, ea⟩ := ho.onto hu
  obtain ⟨b, hb, eb⟩ := ho.onto hv
  have pa := hP.2 a ha
  have pb := hP.2 b hb
  have hend := side_end (es := es) ho hs ha hb
  obtain ⟨_, ⟨Y, hY⟩, hw, _, _⟩ := (side_inv ho n (Nat.le_refl _) W B hs).hist b hb
  rw [ea] at pa hend
  rw [eb] at pb hY
  rw [hY] at hw hend
  rw [Int.toNat_natCast] at pa pb hend
  rw [pa, pb, Anc.iff hw, hend]
  omega

/-- Every vertex has its way. -/
theorem way_of (ho : Once n s n) {W B : List Int} (hs : side n es s n = some (W, B)) {v : Nat} (hv : v < n) : ∃ Y, IsWay es s ((v : Int) :: Y) ∧ Y.length < n ∧ ∀ x ∈ Y, ∃ u : Nat, u < n ∧ x = (u : Int) := by
  obtain ⟨b, hb, eb⟩ := ho.onto hv
  obtain ⟨hsub, ⟨Y, hY⟩, hw, hl, _⟩ := (side_inv ho n (Nat.le_refl _) W B hs).hist b hb
  rw [eb] at hY
  rw [hY] at hw hl hsub
  refine ⟨Y, hw, by simp at hl; omega, fun x hx => ?_⟩
  obtain ⟨a, ha, rfl⟩ := hsub x (List.mem_cons_of_mem _ hx)
  have := (ho a (by omega)).1
  exact ⟨(at_ s.ord a).toNat, by omega, by omega⟩

/-- A vertex is a root, or hangs at its parent. -/
theorem Hang1.cases (hval : Si.Val n es) {v : Nat} (h : Hang1 es s v) : (at_ s.par v = -1 ∧ up es s v = -1 ∧ at_ s.hei v = 0) ∨ ∃ u : Nat, u < n ∧ up es s v = (u : Int) ∧ at_ s.par v ≠ -1 ∧ at_ s.hei v = IntKind.i64.wrap (at_ s.hei u + 1) := by
  rcases h with ⟨h1, h2⟩ | ⟨x, hx, h1, h2, h3, h4⟩
  · refine .inl ⟨h1, ?_, h2⟩
    unfold up
    rw [Int.toNat_natCast, h1]
    exact Cs.frI_no (by omega)
  · refine .inr ⟨Cs.fr es x, (Cs.half_lt hval hx).1, ?_, by rw [h1]; omega, h4⟩
    unfold up
    rw [Int.toNat_natCast, h1]
    exact Cs.frI_in hx

/-- The height is how long the way is. -/
theorem height_way (hval : Si.Val n es) (hh : Hang n es s) : ∀ (Y : List Int) (v : Nat), v < n → IsWay es s ((v : Int) :: Y) → Y.length < 4611686018427387904 → at_ s.hei v = (Y.length : Int)
  | [], v, hv, hw, _ => by
    rcases (hh v hv).cases hval with ⟨_, _, h⟩ | ⟨u, _, h, _⟩
    · simpa using h
    · have := hw.2.1
      simp at this
      omega
  | y :: Y, v, hv, hw, hl => by
    have h1 := hw.2.1
    have hy0 := hw.2.2.1
    simp at h1
    rcases (hh v hv).cases hval with ⟨_, h, _⟩ | ⟨u, hu, h, _, h4⟩
    · omega
    · obtain rfl : y = (u : Int) := by omega
      have ih := height_way hval hh Y u hu hw.2.2 (by simp at hl; omega)
      rw [h4, ih, IntKind.wrap_i64]
      simp at hl ⊢
      omega

/-- Whoever is above stands higher. -/
theorem height_above (hval : Si.Val n es) (hh : Hang n es s) : ∀ (Y : List Int) (v : Nat), v < n → IsWay es s ((v : Int) :: Y) → Y.length < 4611686018427387904 → ∀ x : Nat, (x : Int) ∈ Y → at_ s.hei x < at_ s.hei v
  | [], v, hv, hw, _, x, hx => by simp at hx
  | y :: Y, v, hv, hw, hl, x, hx => by
    have h1 := hw.2.1
    have hy0 := hw.2.2.1
    simp at h1
    rcases (hh v hv).cases hval with ⟨_, h, _⟩ | ⟨u, hu, h, _, _⟩
    · omega
    · obtain rfl : y = (u : Int) := by omega
      have e1 := height_way hval hh ((u : Int) :: Y) v hv hw hl
      have hl2 : Y.length < 4611686018427387904 := by simp at hl; omega
      have e2 := height_way hval hh Y u hu hw.2.2 hl2
      have hlt : at_ s.hei u < at_ s.hei v := by rw [e1, e2]; simp; omega
      rcases List.mem_cons.1 hx with e | hx
      · obtain rfl : x = u := by omega
        exact hlt
      · have := height_above hval hh Y u hu hw.2.2 hl2 x hx
        omega

/-- An edge is walked one way; as a tree edge, or back to a vertex above. -/
def Edge1 (es : List (Int × Int)) (s : St) (e : Nat) : Prop :=
  ∃ h : Nat, (h = 2 * e ∨ h = 2 * e + 1) ∧ at_ s.ori e = (h : Int) ∧ (at_ s.par (Cs.to es h) = (h : Int) ∨ Anc es s (Cs.to es h) (Cs.fr es h))

/-- A depth-first forest of a valid graph. -/
structure VF (n : Nat) (es : List (Int × Int)) (s : St) : Prop where
  lens : Lens n es s
  once : Once n s n
  hang : Hang n es s
  side : ∃ q, side n es s n = some q
  edge : ∀ e, e < es.length → Edge1 es s e

/-- Heights are from 0 to below n, 0 just of roots. -/
def Rooted (n : Nat) (s : St) : Prop := ∀ v, v < n → 0 ≤ at_ s.hei v ∧ at_ s.hei v < (n : Int) ∧ (at_ s.hei v = 0 ↔ at_ s.par v = -1)

theorem rooted_of (hval : Si.Val n es) (ho : Once n s n) (hh : Hang n es s) (hs : ∃ q, Df.side n es s n = some q) : Rooted n s := by
  intro v hv
  obtain ⟨⟨W, B⟩, hs⟩ := hs
  obtain ⟨Y, hw, hl, _⟩ := way_of (es := es) ho hs hv
  have hn := hval.hi
  have e := height_way hval hh Y v hv hw (by omega)
  rw [e]
  refine ⟨by omega, by omega, ?_⟩
  rcases (hh v hv).cases hval with ⟨h1, h2, h3⟩ | ⟨u, _, h2, h3, _⟩
  · constructor
    · exact fun _ => h1
    · intro _
      omega
  · constructor
    · intro h0
      have hY : Y = [] := List.length_eq_zero_iff.1 (by omega)
      rw [hY] at hw
      have := hw.2.1
      simp at this
      omega
    · exact fun h => absurd h h3

/-- Who is above another stands higher. -/
theorem anc_height (hval : Si.Val n es) (ho : Once n s n) (hh : Hang n es s) (hs : ∃ q, Df.side n es s n = some q) {u v : Nat} (hv : v < n) (hne : u ≠ v) (ha : Anc es s u v) : at_ s.hei u < at_ s.hei v := by
  obtain ⟨⟨W, B⟩, hs⟩ := hs
  obtain ⟨Y, hw, hl, _⟩ := way_of (es := es) ho hs hv
  have hn := hval.hi
  rw [Anc.iff hw] at ha
  rcases List.mem_cons.1 ha with e | ha
  · omega
  · exact height_above hval hh Y v hv hw (by omega) u ha

/-- Of the ends of an edge just one is above the other. -/
theorem VF.one (hval : Si.Val n es) (h : VF n es s) {e : Nat} (he : e < es.length) : (Anc es s (Cs.fr es (2 * e)) (Cs.to es (2 * e)) ∧ ¬ Anc es s (Cs.to es (2 * e)) (Cs.fr es (2 * e))) ∨ (Anc es s (Cs.to es (2 * e)) (Cs.fr es (2 * e)) ∧ ¬ Anc es s (Cs.fr es (2 * e)) (Cs.to es (2 * e))) := by
  have hh0 : 2 * e < 2 * es.length := by omega
  obtain ⟨hf, ht⟩ := Cs.half_lt hval hh0
  have hne : Cs.fr es (2 * e) ≠ Cs.to es (2 * e) := by
    obtain ⟨p, hp⟩ : ∃ p, es[e]? = some p := ⟨_, List.getElem?_eq_getElem he⟩
    have ho := hval.each _ p hp
    unfold Si.ok at ho
    obtain ⟨e1, e2⟩ := Cs.fr_even hp
    omega
  have anti : ∀ u v : Nat, u < n → v < n → u ≠ v → Anc es s u v → ¬ Anc es s v u := fun u v hu hv hn h1 h2 => by
    have := anc_height hval h.once h.hang h.side hv hn h1
    have := anc_height hval h.once h.hang h.side hu (Ne.symm hn) h2
    omega
  have tree : ∀ x : Nat, x < 2 * es.length → at_ s.par (Cs.to es x) = (x : Int) → Anc es s (Cs.fr es x) (Cs.to es x) := fun x hx hp => by
    obtain ⟨⟨W, B⟩, hs⟩ := h.side
    obtain ⟨Y, hw, _, _⟩ := way_of (es := es) h.once hs (Cs.half_lt hval hx).2
    refine (Anc.iff hw).2 ?_
    have h1 := hw.2.1
    have hup : up es s (Cs.to es x : Int) = (Cs.fr es x : Int) := by
      unfold up
      rw [Int.toNat_natCast, hp]
      exact Cs.frI_in hx
    rw [hup] at h1
    cases Y with
    | nil => simp at h1
    | cons y Y =>
      simp at h1
      rw [h1]
      exact List.mem_cons_of_mem _ List.mem_cons_self
  have two : ∀ x : Nat, (x = 2 * e ∨ x = 2 * e + 1) → (Cs.fr es x = Cs.fr es (2 * e) ∧ Cs.to es x = Cs.to es (2 * e)) ∨ (Cs.fr es x = Cs.to es (2 * e) ∧ Cs.to es x = Cs.fr es (2 * e)) := fun x hx => by
    obtain ⟨p, hp⟩ : ∃ p, es[e]? = some p := ⟨_, List.getElem?_eq_getElem he⟩
    obtain ⟨e1, e2⟩ := Cs.fr_even hp
    obtain ⟨e3, e4⟩ := Cs.fr_odd hp
    rcases hx with rfl | rfl
    · exact .inl ⟨rfl, rfl⟩
    · exact .inr ⟨by rw [e3, e2], by rw [e4, e1]⟩
  obtain ⟨x, hx, _, hc⟩ := h.edge e he
  have hxl : x < 2 * es.length := by omega
  have main : Anc es s (Cs.fr es x) (Cs.to es x) ∨ Anc es s (Cs.to es x) (Cs.fr es x) := by
    rcases hc with hc | hc
    · exact .inl (tree x hxl hc)
    · exact .inr hc
  rcases two x hx with ⟨e1, e2⟩ | ⟨e1, e2⟩
  · rw [e1, e2] at main
    rcases main with h1 | h1
    · exact .inl ⟨h1, anti _ _ hf ht hne h1⟩
    · exact .inr ⟨h1, anti _ _ ht hf (Ne.symm hne) h1⟩
  · rw [e1, e2] at main
    rcases main with h1 | h1
    · exact .inr ⟨h1, anti _ _ ht hf (Ne.symm hne) h1⟩
    · exact .inl ⟨h1, anti _ _ hf ht hne h1⟩
end

end Df

namespace Df
theorem side_none {n : Nat} {es : List (Int × Int)} {s : St} {k : Nat} (h : side n es s k = none) : ∀ d, side n es s (k + d) = none
  | 0 => h
  | d + 1 => by
    show side n es s (k + d + 1) = none
    unfold side
    rw [side_none h d]
    rfl

theorem side_range {n : Nat} {es : List (Int × Int)} {s : St} (ho : Once n s n) {k : Nat} (hk : k ≤ n) {W B : List Int} (h : side n es s k = some (W, B)) : (∀ x ∈ W, 0 ≤ x ∧ x < (n : Int)) ∧ W.length ≤ k ∧ B.length = n := by
  have inv := side_inv ho k hk W B h
  refine ⟨fun x hx => ?_, inv.len, inv.lenB⟩
  obtain ⟨a, ha, rfl⟩ := inv.sub x hx
  exact (ho a (by omega)).1
end Df

/-- The graph is valid and the forest one of it. -/
def IsVF (n : Int) (es : List (Int × Int)) (s : Df.St) : Prop := ∃ m : Nat, n = (m : Int) ∧ Si.Val m es ∧ Df.VF m es s

end Go.Proofs.Ytalfpbalekbinaa
