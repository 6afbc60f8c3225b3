import Derived.Test.YtfkmldopfhdbkaaMg00
/-
  Sets that are joined, as functions: by number the least of its set; trees that keep it; what joins make, whatever their order.
-/
namespace Go.Proofs.Ytfkmldopfhdbkaa
namespace Co

/-- How many numbers below k have p. -/
def cntTo (p : Nat → Bool) : Nat → Nat
  | 0 => 0
  | k + 1 => cntTo p k + (if p k then 1 else 0)

theorem cntTo_le (p : Nat → Bool) : ∀ k, cntTo p k ≤ k
  | 0 => Nat.le_refl _
  | k + 1 => by
    have := cntTo_le p k
    unfold cntTo
    split <;> omega

theorem cntTo_congr {p q : Nat → Bool} : ∀ k, (∀ i, i < k → p i = q i) → cntTo p k = cntTo q k
  | 0, _ => rfl
  | k + 1, h => by
    have ih := cntTo_congr k (fun i hi => h i (by omega))
    unfold cntTo
    rw [ih, h k (by omega)]

theorem cntTo_or {p q s : Nat → Bool} : ∀ k, (∀ i, i < k → ((s i = (p i || q i)) ∧ (p i && q i) = false)) → cntTo s k = cntTo p k + cntTo q k
  | 0, _ => rfl
  | k + 1, h => by
    have ih := cntTo_or k (fun i hi => h i (by omega))
    obtain ⟨h1, h2⟩ := h k (by omega)
    unfold cntTo
    rw [ih, h1]
    cases hp : p k <;> cases hq : q k <;> rw [hp, hq] at h2 <;> simp at h2 ⊢ <;> omega

theorem cntTo_one (h : Nat) : ∀ k, cntTo (fun i => decide (i = h)) k = if h < k then 1 else 0
  | 0 => rfl
  | k + 1 => by
    have ih := cntTo_one h k
    unfold cntTo
    rw [ih]
    by_cases e : k = h
    · subst e
      simp
    · have e1 : (if decide (k = h) = true then 1 else 0) = 0 := if_neg (by simpa using e)
      rw [e1]
      by_cases hk : h < k
      · rw [if_pos hk, if_pos (by omega)]
      · rw [if_neg hk, if_neg (by omega)]

theorem cntTo_mono {p q : Nat → Bool} : ∀ k, (∀ i, i < k → p i = true → q i = true) → cntTo p k ≤ cntTo q k
  | 0, _ => Nat.le_refl _
  | k + 1, h => by
    have ih := cntTo_mono k (fun i hi => h i (by omega))
    have hk := h k (by omega)
    unfold cntTo
    cases hp : p k
    · simp; omega
    · rw [hk hp]; simp; omega

theorem cntTo_pos {p : Nat → Bool} {x : Nat} : ∀ k, x < k → p x = true → 0 < cntTo p k
  | 0, h, _ => by omega
  | k + 1, h, hp => by
    unfold cntTo
    by_cases e : x = k
    · subst e; rw [hp]; simp
    · have := cntTo_pos k (by omega) hp
      omega

/-- m tells by number the least number of its set. -/
structure Norm (n : Nat) (m : Nat → Nat) : Prop where
  le : ∀ x, x < n → m x ≤ x
  idem : ∀ x, x < n → m (m x) = m x

theorem Norm.lt {n : Nat} {m : Nat → Nat} (h : Norm n m) {x : Nat} (hx : x < n) : m x < n := by
  have := h.le x hx
  omega

def cnt (n : Nat) (m : Nat → Nat) : Nat := cntTo (fun i => decide (m i = i)) n
def size (n : Nat) (m : Nat → Nat) (a : Nat) : Nat := cntTo (fun i => decide (m i = m a)) n
def join (m : Nat → Nat) (a b : Nat) : Nat → Nat := fun x => if m x = max (m a) (m b) then min (m a) (m b) else m x

theorem join_comm (m : Nat → Nat) (a b : Nat) : join m a b = join m b a := by
  funext x
  unfold join
  rw [Nat.max_comm, Nat.min_comm]

theorem norm_id (n : Nat) : Norm n (fun x => x) := ⟨fun _ _ => Nat.le_refl _, fun _ _ => rfl⟩

theorem cnt_id (n : Nat) : cnt n (fun x => x) = n := by
  unfold cnt
  induction n with
  | zero => rfl
  | succ n ih => unfold cntTo; rw [ih]; simp

theorem size_id {n a : Nat} (h : a < n) : size n (fun x => x) a = 1 := by
  unfold size
  rw [cntTo_one, if_pos h]

theorem cnt_le (n : Nat) (m : Nat → Nat) : cnt n m ≤ n := cntTo_le _ _
theorem size_le (n : Nat) (m : Nat → Nat) (a : Nat) : size n m a ≤ n := cntTo_le _ _
theorem size_pos {n : Nat} {m : Nat → Nat} {a : Nat} (h : a < n) : 0 < size n m a := cntTo_pos n h (by simp)

section
variable {n : Nat} {m : Nat → Nat} {a b : Nat}
theorem join_cases (h : Norm n m) (ha : a < n) (hb : b < n) (hne : m a ≠ m b) : ∃ lo hi, lo < hi ∧ hi < n ∧ m lo = lo ∧ m hi = hi ∧ ((lo = m a ∧ hi = m b) ∨ (lo = m b ∧ hi = m a)) ∧ ∀ x, join m a b x = if m x = hi then lo else m x := by
  rcases Nat.lt_or_gt_of_ne hne with hlt | hlt
  · exact ⟨m a, m b, hlt, h.lt hb, h.idem a ha, h.idem b hb, .inl ⟨rfl, rfl⟩, fun x => by unfold join; rw [Nat.max_eq_right (by omega), Nat.min_eq_left (by omega)]⟩
  · exact ⟨m b, m a, hlt, h.lt ha, h.idem b hb, h.idem a ha, .inr ⟨rfl, rfl⟩, fun x => by unfold join; rw [Nat.max_eq_left (by omega), Nat.min_eq_right (by omega)]⟩

theorem Norm.join (h : Norm n m) (ha : a < n) (hb : b < n) (hne : m a ≠ m b) : Norm n (join m a b) := by
  obtain ⟨lo, hi, h1, h2, h3, h4, -, hj⟩ := join_cases h ha hb hne
  refine ⟨fun x hx => ?_, fun x hx => ?_⟩
  · rw [hj]
    have := h.le x hx
    split <;> omega
  · rw [hj x]
    split
    · rw [hj, h3, if_neg (by omega)]
    · rename_i hx'
      rw [hj, h.idem x hx, if_neg hx']

theorem cnt_join (h : Norm n m) (ha : a < n) (hb : b < n) (hne : m a ≠ m b) : cnt n (join m a b) + 1 = cnt n m := by
  obtain ⟨lo, hi, h1, h2, h3, h4, -, hj⟩ := join_cases h ha hb hne
  have e := cntTo_or (p := fun i => decide (join m a b i = i)) (q := fun i => decide (i = hi)) (s := fun i => decide (m i = i)) n (fun i hi' => by
    rw [hj]
    by_cases e : i = hi
    · subst e
      rw [h4, if_pos rfl]
      have : ¬ lo = i := by omega
      simp [this]
    · by_cases e2 : m i = hi
      · rw [if_pos e2, e2]
        have h5 : ¬ hi = i := fun h => e h.symm
        have h6 : ¬ lo = i := fun h => by rw [← h, h3] at e2; omega
        simp [h5, h6, e]
      · rw [if_neg e2]
        simp [e])
  rw [cntTo_one, if_pos h2] at e
  unfold cnt
  omega

theorem join_same (h : Norm n m) (ha : a < n) (hb : b < n) (hne : m a ≠ m b) {x y : Nat} (_ : x < n) (_ : y < n) :
    join m a b x = join m a b y ↔ (m x = m y ∨ ((m x = m a ∨ m x = m b) ∧ (m y = m a ∨ m y = m b))) := by
  obtain ⟨lo, hi, h1, h2, h3, h4, hc, hj⟩ := join_cases h ha hb hne
  rw [hj, hj]
  by_cases ex : m x = hi <;> by_cases ey : m y = hi
  · rw [if_pos ex, if_pos ey]; omega
  · rw [if_pos ex, if_neg ey]; omega
  · rw [if_neg ex, if_pos ey]; omega
  · rw [if_neg ex, if_neg ey]; omega

theorem size_join_in (h : Norm n m) (ha : a < n) (hb : b < n) (hne : m a ≠ m b) {x : Nat} (hx : x < n) (hm : m x = m a ∨ m x = m b) : size n (join m a b) x = size n m a + size n m b := by
  unfold size
  refine cntTo_or n (fun i hi => ?_)
  have := join_same h ha hb hne hi hx
  rw [Bool.eq_iff_iff]
  simp only [decide_eq_true_eq, Bool.or_eq_true, Bool.and_eq_false_iff, decide_eq_false_iff_not, this]
  omega

theorem size_join_out (h : Norm n m) (ha : a < n) (hb : b < n) (hne : m a ≠ m b) {x : Nat} (hx : x < n) (h1 : m x ≠ m a) (h2 : m x ≠ m b) : size n (join m a b) x = size n m x := by
  unfold size
  refine cntTo_congr n (fun i hi => ?_)
  have := join_same h ha hb hne hi hx
  rw [Bool.eq_iff_iff]
  simp only [decide_eq_true_eq, this]
  omega

theorem join_in (h : Norm n m) (ha : a < n) (hb : b < n) (hne : m a ≠ m b) {x : Nat} (hm : m x = m a ∨ m x = m b) : join m a b x = min (m a) (m b) := by
  obtain ⟨lo, hi, h1, h2, h3, h4, hc, hj⟩ := join_cases h ha hb hne
  rw [hj]
  split <;> omega

theorem join_out (h : Norm n m) (ha : a < n) (hb : b < n) (hne : m a ≠ m b) {x : Nat} (h1 : m x ≠ m a) (h2 : m x ≠ m b) : join m a b x = m x := by
  obtain ⟨lo, hi, _, _, _, _, hc, hj⟩ := join_cases h ha hb hne
  rw [hj, if_neg]
  omega
end

/-- Trees that keep the sets m: parents P, sizes S and leasts L of the roots; r: the root; d: how deep at most. -/
structure Forest (n : Nat) (P S L m r d : Nat → Nat) : Prop where
  norm : Norm n m
  lt : ∀ x, x < n → P x < n
  rt : ∀ x, x < n → r x < n
  top : ∀ x, x < n → P (r x) = r x
  up : ∀ x, x < n → r (P x) = r x
  self : ∀ x, x < n → P x = x → r x = x
  deep : ∀ x, x < n → P x ≠ x → d (P x) < d x
  same : ∀ x y, x < n → y < n → (r x = r y ↔ m x = m y)
  sz : ∀ x, x < n → S (r x) = size n m x
  ls : ∀ x, x < n → L (r x) = m x

theorem Forest.rr {n : Nat} {P S L m r d : Nat → Nat} (h : Forest n P S L m r d) {x : Nat} (hx : x < n) : r (r x) = r x := h.self _ (h.rt x hx) (h.top x hx)

theorem forest_id (n : Nat) : Forest n (fun x => x) (fun _ => 1) (fun x => x) (fun x => x) (fun x => x) (fun _ => 0) :=
  ⟨norm_id n, fun _ h => h, fun _ h => h, fun _ _ => rfl, fun _ _ => rfl, fun _ _ _ => rfl, fun _ _ h => absurd rfl h, fun _ _ _ _ => Iff.rfl, fun _ h => (size_id h).symm, fun _ _ => rfl⟩

/-- Function f with y at x. -/
def upd (f : Nat → Nat) (x y : Nat) : Nat → Nat := fun i => if i = x then y else f i
theorem upd_same (f : Nat → Nat) (x y : Nat) : upd f x y x = y := by simp [upd]
theorem upd_other (f : Nat → Nat) {x y i : Nat} (h : i ≠ x) : upd f x y i = f i := by simp [upd, h]

/-- The tree of b is hung below that of a. -/
theorem Forest.hang {n : Nat} {P S L m r d : Nat → Nat} (h : Forest n P S L m r d) {a b : Nat} (ha : a < n) (hb : b < n) (hne : r a ≠ r b) :
    ∃ r' d', Forest n (upd P (r b) (r a)) (upd S (r a) (S (r a) + S (r b))) (upd L (r a) (min (L (r a)) (L (r b)))) (join m a b) r' d' := by
  have hm : m a ≠ m b := fun e => hne ((h.same a b ha hb).2 e)
  have hA := h.rt a ha
  have hB := h.rt b hb
  have hrA := h.rr ha
  have hrB := h.rr hb
  have hkey : ∀ x, x < n → (r x = r a ↔ m x = m a) ∧ (r x = r b ↔ m x = m b) := fun x hx => ⟨h.same x a hx ha, h.same x b hx hb⟩
  refine ⟨fun x => if r x = r b then r a else r x, fun x => if r x = r b then d x + d (r a) + 1 else d x, h.norm.join ha hb hm, fun x hx => ?_, fun x hx => ?_, fun x hx => ?_, fun x hx => ?_, fun x hx hp => ?_, fun x hx hp => ?_, fun x y hx hy => ?_, fun x hx => ?_, fun x hx => ?_⟩
  · unfold upd
    split
    · exact hA
    · exact h.lt x hx
  · split
    · exact hA
    · exact h.rt x hx
  · split
    · rw [upd_other _ hne]; exact h.top a ha
    · rename_i e
      rw [upd_other _ e]
      exact h.top x hx
  · by_cases e : x = r b
    · subst e
      rw [upd_same, hrA, hrB, if_neg hne, if_pos rfl]
    · rw [upd_other _ e, h.up x hx]
  · by_cases e : x = r b
    · subst e
      rw [upd_same] at hp
      exact absurd hp hne
    · rw [upd_other _ e] at hp
      have := h.self x hx hp
      rw [if_neg (by rw [this]; exact e)]
      exact this
  · by_cases e : x = r b
    · subst e
      rw [upd_same, hrA, hrB, if_neg hne, if_pos rfl]
      omega
    · rw [upd_other _ e] at hp ⊢
      have := h.deep x hx hp
      rw [h.up x hx]
      split <;> omega
  · rw [join_same h.norm ha hb hm hx hy]
    obtain ⟨k1, k2⟩ := hkey x hx
    obtain ⟨k3, k4⟩ := hkey y hy
    have k5 := h.same x y hx hy
    rw [← k1, ← k2, ← k3, ← k4, ← k5]
    by_cases ex : r x = r b <;> by_cases ey : r y = r b
    · rw [if_pos ex, if_pos ey]; omega
    · rw [if_pos ex, if_neg ey]; omega
    · rw [if_neg ex, if_pos ey]; omega
    · rw [if_neg ex, if_neg ey]; omega
  · obtain ⟨k1, k2⟩ := hkey x hx
    by_cases ex : r x = r b
    · rw [if_pos ex, upd_same, size_join_in h.norm ha hb hm hx (.inr (k2.1 ex)), h.sz a ha, h.sz b hb]
    · rw [if_neg ex]
      by_cases ea : r x = r a
      · rw [ea, upd_same, size_join_in h.norm ha hb hm hx (.inl (k1.1 ea)), h.sz a ha, h.sz b hb]
      · rw [upd_other _ ea, h.sz x hx, size_join_out h.norm ha hb hm hx (fun e => ea (k1.2 e)) (fun e => ex (k2.2 e))]
  · obtain ⟨k1, k2⟩ := hkey x hx
    by_cases ex : r x = r b
    · rw [if_pos ex, upd_same, join_in h.norm ha hb hm (.inr (k2.1 ex)), h.ls a ha, h.ls b hb]
    · rw [if_neg ex]
      by_cases ea : r x = r a
      · rw [ea, upd_same, join_in h.norm ha hb hm (.inl (k1.1 ea)), h.ls a ha, h.ls b hb]
      · rw [upd_other _ ea, h.ls x hx, join_out h.norm ha hb hm (fun e => ea (k1.2 e)) (fun e => ex (k2.2 e))]

/-- A pair of numbers below n. -/
def isIn (n : Nat) (x : Int) : Prop := 0 ≤ x ∧ x < (n : Int)
instance (n : Nat) (x : Int) : Decidable (isIn n x) := inferInstanceAs (Decidable (_ ∧ _))

/-- Two numbers, in two sets? -/
def apart (n : Nat) (m : Nat → Nat) (a b : Int) : Bool := decide (isIn n a ∧ isIn n b ∧ m a.toNat ≠ m b.toNat)
/-- What Join makes, of any two ints. -/
def joinI (n : Nat) (m : Nat → Nat) (a b : Int) : Nat → Nat := if apart n m a b then join m a.toNat b.toNat else m
def leastI (n : Nat) (m : Nat → Nat) (a : Int) : Int := if isIn n a then (m a.toNat : Int) else -1
def sizeI (n : Nat) (m : Nat → Nat) (a : Int) : Int := if isIn n a then (size n m a.toNat : Int) else 0
def sameI (n : Nat) (m : Nat → Nat) (a b : Int) : Bool := decide (isIn n a ∧ isIn n b ∧ m a.toNat = m b.toNat)

theorem apart_iff {n : Nat} {m : Nat → Nat} {a b : Int} : apart n m a b = true ↔ (isIn n a ∧ isIn n b ∧ m a.toNat ≠ m b.toNat) := by unfold apart; exact decide_eq_true_iff

theorem isIn_lt {n : Nat} {x : Int} (h : isIn n x) : x.toNat < n := by unfold isIn at h; omega

theorem Norm.joinI {n : Nat} {m : Nat → Nat} (h : Norm n m) (a b : Int) : Norm n (joinI n m a b) := by
  unfold Co.joinI
  split
  · rename_i e
    obtain ⟨h1, h2, h3⟩ := apart_iff.1 e
    exact h.join (isIn_lt h1) (isIn_lt h2) h3
  · exact h

/-- All joins of a list, one behind the other. -/
def joins (n : Nat) (js : List (Int × Int)) (m : Nat → Nat) : Nat → Nat := js.foldl (fun m j => joinI n m j.1 j.2) m
theorem joins_snoc (n : Nat) (js : List (Int × Int)) (j : Int × Int) (m : Nat → Nat) : joins n (js ++ [j]) m = joinI n (joins n js m) j.1 j.2 := by simp [joins, List.foldl_append]
theorem Norm.joins {n : Nat} : ∀ (js : List (Int × Int)) {m : Nat → Nat}, Norm n m → Norm n (joins n js m)
  | [], _, h => h
  | j :: js, _, h => Norm.joins js (h.joinI j.1 j.2)

/-- f is one on each of these pairs (those of numbers below n). -/
def Meets (n : Nat) (js : List (Int × Int)) (f : Nat → Nat) : Prop := ∀ j ∈ js, isIn n j.1 → isIn n j.2 → f j.1.toNat = f j.2.toNat

/-- m is what these pairs make, and nothing more. -/
structure Gen (n : Nat) (js : List (Int × Int)) (m : Nat → Nat) : Prop where
  norm : Norm n m
  meets : Meets n js m
  least : ∀ f : Nat → Nat, Meets n js f → ∀ x, x < n → f (m x) = f x

theorem Gen.id (n : Nat) : Gen n [] (fun x => x) := ⟨norm_id n, (fun _ h => by cases h), fun _ _ _ _ => rfl⟩

theorem Gen.keep {n : Nat} {js : List (Int × Int)} {m : Nat → Nat} (h : Gen n js m) {j : Int × Int} (hj : ¬ (isIn n j.1 ∧ isIn n j.2 ∧ m j.1.toNat ≠ m j.2.toNat)) : Gen n (js ++ [j]) m := by
  refine ⟨h.norm, fun k hk h1 h2 => ?_, fun f hf => h.least f (fun k hk => hf k (List.mem_append_left _ hk))⟩
  rcases List.mem_append.1 hk with hk | hk
  · exact h.meets k hk h1 h2
  · obtain rfl := List.mem_singleton.1 hk
    exact Decidable.byContradiction fun e => hj ⟨h1, h2, e⟩

theorem Gen.join {n : Nat} {js : List (Int × Int)} {m : Nat → Nat} (h : Gen n js m) {j : Int × Int} (h1 : isIn n j.1) (h2 : isIn n j.2) (h3 : m j.1.toNat ≠ m j.2.toNat) : Gen n (js ++ [j]) (join m j.1.toNat j.2.toNat) := by
  have ha := isIn_lt h1
  have hb := isIn_lt h2
  refine ⟨h.norm.join ha hb h3, fun k hk k1 k2 => ?_, fun f hf x hx => ?_⟩
  · rcases List.mem_append.1 hk with hk | hk
    · exact (join_same h.norm ha hb h3 (isIn_lt k1) (isIn_lt k2)).2 (.inl (h.meets k hk k1 k2))
    · obtain rfl := List.mem_singleton.1 hk
      exact (join_same h.norm ha hb h3 (isIn_lt k1) (isIn_lt k2)).2 (.inr ⟨.inl rfl, .inr rfl⟩)
  · have hf' : Meets n js f := fun k hk => hf k (List.mem_append_left _ hk)
    have hj := hf j (List.mem_append_right _ (List.mem_singleton_self _)) h1 h2
    have ea := h.least f hf' _ ha
    have eb := h.least f hf' _ hb
    have ex := h.least f hf' x hx
    obtain ⟨lo, hi, _, _, _, _, hc, hjj⟩ := join_cases h.norm ha hb h3
    rw [hjj]
    split
    · rename_i e
      rcases hc with ⟨e1, e2⟩ | ⟨e1, e2⟩
      · rw [e1, ea, hj, ← eb, ← e2, ← e, ex]
      · rw [e1, eb, ← hj, ← ea, ← e2, ← e, ex]
    · exact ex

theorem Gen.joinI {n : Nat} {js : List (Int × Int)} {m : Nat → Nat} (h : Gen n js m) (j : Int × Int) : Gen n (js ++ [j]) (joinI n m j.1 j.2) := by
  unfold Co.joinI
  split
  · rename_i e
    obtain ⟨h1, h2, h3⟩ := apart_iff.1 e
    exact h.join h1 h2 h3
  · rename_i e
    exact h.keep (fun h => e (apart_iff.2 h))

theorem gen_joins (n : Nat) (js : List (Int × Int)) : Gen n js (joins n js (fun x => x)) := by
  suffices h : ∀ (ks js : List (Int × Int)) (m : Nat → Nat), Gen n js m → Gen n (js ++ ks) (joins n ks m) by simpa using h js [] _ (Gen.id n)
  intro ks
  induction ks with
  | nil => intro js m h; rw [List.append_nil]; exact h
  | cons k ks ih =>
    intro js m h
    have := ih _ _ (h.joinI k)
    rw [List.append_assoc] at this
    exact this

/-- Pairs that say the same make the same sets. -/
theorem Gen.unique {n : Nat} {js ks : List (Int × Int)} {m k : Nat → Nat} (h : Gen n js m) (g : Gen n ks k) (h1 : Meets n js k) (h2 : Meets n ks m) {x : Nat} (hx : x < n) : m x = k x := by
  have e1 := h.least k h1 x hx
  have e2 := g.least m h2 x hx
  have l1 := h.norm.le x hx
  have l2 := g.norm.le x hx
  have l3 := h.norm.le (k x) (by omega)
  have l4 := g.norm.le (m x) (by omega)
  omega

end Co
end Go.Proofs.Ytfkmldopfhdbkaa

/-
  Faces, pure: orbits of a permutation of the numbers below n; what swapping two values does to how many there are.
-/
namespace Go.Proofs.Ytfkmldopfhdbkaa
namespace Fa
open Pl Co

/-- f is a permutation of the numbers below n. -/
structure Per (n : Nat) (f : Nat → Nat) : Prop where
  lt : ∀ x, x < n → f x < n
  inj : ∀ x y, x < n → y < n → f x = f y → x = y

/-- m tells by number the least of its orbit. -/
structure Orb (n : Nat) (f m : Nat → Nat) : Prop where
  norm : Norm n m
  iff : ∀ x y, x < n → y < n → (m x = m y ↔ ∃ k, it f k x = y)

section
variable {n : Nat} {f m : Nat → Nat}

theorem Per.sym (h : Per n f) {x y : Nat} (hx : x < n) (e : ∃ k, it f k x = y) : ∃ k, it f k y = x := by
  obtain ⟨k, rfl⟩ := e
  exact it_home h.lt h.inj hx k

theorem orb_ex (h : Per n f) : ∃ m, Orb n f m := by
  have hex : ∀ x, ∃ z, x < n → z ∈ firsts n f ∧ ∃ k, it f k x = z := fun x => by
    by_cases hx : x < n
    · obtain ⟨k, hk⟩ := first_of h.lt hx
      exact ⟨_, fun _ => ⟨hk, k, rfl⟩⟩
    · exact ⟨0, fun h => absurd h hx⟩
  obtain ⟨m, hm⟩ := Classical.axiomOfChoice hex
  refine ⟨m, ?_⟩
  have hlt : ∀ x, x < n → m x < n := fun x hx => (mem_firsts.1 (hm x hx).1).1
  have hle : ∀ x, x < n → m x ≤ x := fun x hx => by
    obtain ⟨k, hk⟩ := h.sym hx (hm x hx).2
    have := (mem_firsts.1 (hm x hx).1).2 k
    omega
  have hiff : ∀ x y, x < n → y < n → (∃ k, it f k x = y) → m x = m y := fun x y hx hy hxy => by
    obtain ⟨k1, e1⟩ := h.sym hx (hm x hx).2
    obtain ⟨k2, e2⟩ := (hm y hy).2
    obtain ⟨k, e⟩ := hxy
    refine firsts_apart h.lt h.inj (hm x hx).1 (hm y hy).1 (a := k2 + (k + k1)) (b := 0) ?_
    rw [it_add, it_add, e1, e, e2]
    rfl
  refine ⟨⟨hle, fun x hx => ?_⟩, fun x y hx hy => ⟨fun e => ?_, hiff x y hx hy⟩⟩
  · exact (hiff x (m x) hx (hlt x hx) (hm x hx).2).symm
  · obtain ⟨k1, e1⟩ := (hm x hx).2
    obtain ⟨k2, e2⟩ := h.sym hy (hm y hy).2
    refine ⟨k2 + k1, ?_⟩
    rw [it_add, e1, e, e2]

theorem Orb.unique {m' : Nat → Nat} (h : Orb n f m) (h' : Orb n f m') {x : Nat} (hx : x < n) : m x = m' x := by
  have a1 := h.norm.lt hx
  have a2 := h'.norm.lt hx
  have e1 : m (m' x) = m x := (h.iff _ _ a2 hx).2 ((h'.iff _ _ a2 hx).1 (h'.norm.idem x hx))
  have e2 : m' (m x) = m' x := (h'.iff _ _ a1 hx).2 ((h.iff _ _ a1 hx).1 (h.norm.idem x hx))
  have b1 := h.norm.le _ a2
  have b2 := h'.norm.le _ a1
  omega
theorem Orb.step (h : Orb n f m) (hp : Per n f) {x : Nat} (hx : x < n) : m (f x) = m x := ((h.iff x (f x) hx (hp.lt x hx)).2 ⟨1, rfl⟩).symm
theorem Orb.reach (h : Orb n f m) {x : Nat} (hx : x < n) : ∃ k, it f k (m x) = x := (h.iff _ _ (h.norm.lt hx) hx).1 (h.norm.idem x hx)
theorem Orb.reach' (h : Orb n f m) {x : Nat} (hx : x < n) : ∃ k, it f k x = m x := (h.iff _ _ hx (h.norm.lt hx)).1 (h.norm.idem x hx).symm

/-- What stays by a step stays in the orbit. -/
theorem it_keep {α : Type} {p : Nat → α} (hl : ∀ x, x < n → f x < n) (hp : ∀ x, x < n → p (f x) = p x) : ∀ (k : Nat) {x : Nat}, x < n → p (it f k x) = p x
  | 0, _, _ => rfl
  | k + 1, x, hx => by
    show p (it f k (f x)) = p x
    rw [it_keep hl hp k (hl x hx), hp x hx]
theorem Orb.keep {α : Type} {p : Nat → α} (h : Orb n f m) (hl : Per n f) (hp : ∀ x, x < n → p (f x) = p x) {x : Nat} (hx : x < n) : p (m x) = p x := by
  obtain ⟨k, e⟩ := h.reach' hx
  rw [← e, it_keep hl.lt hp k hx]
end

/-- Two values change places. -/
def swp (f : Nat → Nat) (a b : Nat) : Nat → Nat := fun x => if x = a then f b else if x = b then f a else f x

theorem swp_swp (f : Nat → Nat) (a b : Nat) : swp (swp f a b) a b = f := by
  funext x
  unfold swp
  by_cases h1 : x = a
  · subst h1
    by_cases h2 : b = x
    · subst h2; simp
    · simp [h2]
  · by_cases h2 : x = b
    · subst h2; simp [h1]
    · simp [h1, h2]
theorem swp_a (f : Nat → Nat) (a b : Nat) : swp f a b a = f b := by simp [swp]
theorem swp_b (f : Nat → Nat) (a b : Nat) : swp f a b b = f a := by
  unfold swp
  by_cases h : b = a
  · subst h; simp
  · simp [h]
theorem swp_o (f : Nat → Nat) {a b x : Nat} (h1 : x ≠ a) (h2 : x ≠ b) : swp f a b x = f x := by simp [swp, h1, h2]

section
variable {n : Nat} {f m : Nat → Nat} {a b : Nat}

theorem Per.swp (h : Per n f) (ha : a < n) (hb : b < n) : Per n (swp f a b) := by
  refine ⟨fun x hx => ?_, fun x y hx hy e => ?_⟩
  · unfold Fa.swp
    split
    · exact h.lt b hb
    · split
      · exact h.lt a ha
      · exact h.lt x hx
  · unfold Fa.swp at e
    have k1 := h.inj x y hx hy
    have k2 := h.inj b y hb hy
    have k3 := h.inj a y ha hy
    have k4 := h.inj x a hx ha
    have k5 := h.inj x b hx hb
    have k6 := h.inj a b ha hb
    have k7 := h.inj b a hb ha
    split at e <;> split at e <;> (try split at e) <;> (try split at e) <;> (first | omega | (have := k1 e; omega) | (have := k2 e; omega) | (have := k3 e; omega) | (have := k4 e; omega) | (have := k5 e; omega) | (have := k6 e; omega) | (have := k7 e; omega))

/-- The least positive k for which x comes back. -/
theorem least_of {P : Nat → Prop} : ∀ {k : Nat}, P k → ∃ j, P j ∧ j ≤ k ∧ ∀ i, i < j → ¬ P i := by
  intro k
  induction k using Nat.strongRecOn with
  | _ k ih =>
    intro hk
    by_cases h : ∃ i, i < k ∧ P i
    · obtain ⟨i, hi, hp⟩ := h
      obtain ⟨j, h1, h2, h3⟩ := ih i hi hp
      exact ⟨j, h1, by omega, h3⟩
    · exact ⟨k, hk, Nat.le_refl _, fun i hi hp => h ⟨i, hi, hp⟩⟩

/-- In different orbits: the swap joins them. -/
theorem swp_join (h : Per n f) (ho : Orb n f m) (ha : a < n) (hb : b < n) (hne : m a ≠ m b) : Orb n (swp f a b) (join m a b) := by
  have hq := h.swp ha hb
  have hJ := fun {x y : Nat} (hx : x < n) (hy : y < n) => join_same ho.norm ha hb hne hx hy
  have key : ∀ x, x < n → join m a b (swp f a b x) = join m a b x := fun x hx => by
    have l1 := h.lt x hx
    rw [hJ (hq.lt x hx) hx]
    by_cases e1 : x = a
    · subst e1
      rw [swp_a, ho.step h hb]
      exact .inr ⟨.inr rfl, .inl rfl⟩
    · by_cases e2 : x = b
      · subst e2
        rw [swp_b, ho.step h ha]
        exact .inr ⟨.inl rfl, .inr rfl⟩
      · rw [swp_o f e1 e2, ho.step h hx]
        exact .inl rfl
  -- the way from a to b
  have hab : ∃ k, it (swp f a b) k a = b := by
    obtain ⟨p0, hp0, e0⟩ := it_back h.lt h.inj hb
    obtain ⟨p, ⟨hp, e⟩, -, hmin⟩ := least_of (P := fun k => 0 < k ∧ it f k b = b) ⟨hp0, e0⟩
    have way : ∀ j, 1 ≤ j → j ≤ p → it (swp f a b) j a = it f j b := by
      intro j
      induction j with
      | zero => intro h1; omega
      | succ j ih =>
        intro _ h2
        by_cases hj : j = 0
        · subst hj
          show swp f a b a = f b
          exact swp_a f a b
        · rw [it_succ, ih (by omega) (by omega), it_succ]
          refine swp_o f (fun e1 => ?_) (fun e1 => hmin j (by omega) ⟨by omega, e1⟩)
          exact hne ((ho.iff b a hb ha).2 ⟨j, e1⟩).symm
    exact ⟨p, by rw [way p hp (Nat.le_refl _), e]⟩
  have tr : ∀ {x y z : Nat}, (∃ k, it (swp f a b) k x = y) → (∃ k, it (swp f a b) k y = z) → ∃ k, it (swp f a b) k x = z := by
    rintro x y z ⟨k, rfl⟩ ⟨j, rfl⟩
    exact ⟨j + k, it_add _ _ _ _⟩
  have hba := hq.sym ha hab
  have one : ∀ x, x < n → ∃ k, it (swp f a b) k x = f x := fun x hx => by
    by_cases e1 : x = a
    · subst e1
      refine tr hab ⟨1, ?_⟩
      exact swp_b f x b
    · by_cases e2 : x = b
      · subst e2
        refine tr hba ⟨1, ?_⟩
        exact swp_a f a x
      · exact ⟨1, swp_o f e1 e2⟩
  have all : ∀ (k : Nat) {x : Nat}, x < n → ∃ j, it (swp f a b) j x = it f k x := by
    intro k
    induction k with
    | zero => intro x hx; exact ⟨0, rfl⟩
    | succ k ih => intro x hx; exact tr (one x hx) (ih (h.lt x hx))
  have all' : ∀ {x y : Nat}, x < n → y < n → m x = m y → ∃ j, it (swp f a b) j x = y := fun {x y} hx hy e => by
    obtain ⟨k, rfl⟩ := (ho.iff x y hx hy).1 e
    exact all k hx
  refine ⟨ho.norm.join ha hb hne, fun x y hx hy => ⟨fun e => ?_, ?_⟩⟩
  · rcases (hJ hx hy).1 e with e | ⟨e1, e2⟩
    · exact all' hx hy e
    · have w1 : ∃ j, it (swp f a b) j x = a := by
        rcases e1 with e1 | e1
        · exact all' hx ha e1
        · exact tr (all' hx hb e1) hba
      have w2 : ∃ j, it (swp f a b) j a = y := by
        rcases e2 with e2 | e2
        · exact all' ha hy e2.symm
        · exact tr hab (all' hb hy e2.symm)
      exact tr w1 w2
  · rintro ⟨k, rfl⟩
    exact (it_keep hq.lt key k hx).symm

/-- In one orbit: the swap parts them. -/
theorem swp_apart {m' : Nat → Nat} (ho : Orb n f m) (ha : a < n) (hb : b < n) (hab : a ≠ b) (e : m a = m b) (hg : Orb n (swp f a b) m') : m' a ≠ m' b := by
  intro hc
  obtain ⟨k, hk⟩ := (hg.iff b a hb ha).1 hc.symm
  obtain ⟨j0, hj0⟩ := (ho.iff a b ha hb).1 e
  obtain ⟨j, ⟨hj1, hj⟩, -, hmin⟩ := least_of (P := fun k => 0 < k ∧ it f k a = b) ⟨by
    rcases Nat.eq_zero_or_pos j0 with h | h
    · subst h; exact absurd hj0 hab
    · exact h, hj0⟩
  have hna : ∀ i, 1 ≤ i → i ≤ j → it f i a ≠ a := fun i h1 h2 hc => by
    by_cases e1 : i = j
    · rw [e1, hj] at hc
      exact hab hc.symm
    · refine hmin (j - i) (by omega) ⟨by omega, ?_⟩
      have : it f j a = it f (j - i) (it f i a) := by rw [← it_add]; congr 1; omega
      rw [hc] at this
      rw [← this, hj]
  have inv : ∀ (k : Nat), ∃ i, 1 ≤ i ∧ i ≤ j ∧ it (swp f a b) k b = it f i a := by
    intro k
    induction k with
    | zero => exact ⟨j, hj1, Nat.le_refl _, hj.symm⟩
    | succ k ih =>
      obtain ⟨i, h1, h2, h3⟩ := ih
      rw [it_succ, h3]
      by_cases e1 : i = j
      · refine ⟨1, Nat.le_refl _, hj1, ?_⟩
        rw [e1, hj, swp_b]
        rfl
      · refine ⟨i + 1, by omega, by omega, ?_⟩
        rw [it_succ]
        exact swp_o f (hna i h1 h2) (fun hc => hmin i (by omega) ⟨by omega, hc⟩)
  obtain ⟨i, h1, h2, h3⟩ := inv k
  rw [hk] at h3
  exact hna i h1 h2 h3.symm
end

/-- How many orbits have p. -/
def nf (n : Nat) (m : Nat → Nat) (p : Nat → Bool) : Nat := cntTo (fun i => decide (m i = i) && p i) n

theorem nf_true (n : Nat) (m : Nat → Nat) : nf n m (fun _ => true) = cnt n m := by
  unfold nf cnt
  exact cntTo_congr n fun i _ => by simp

section
variable {n : Nat} {f m m' : Nat → Nat} {a b : Nat} {p : Nat → Bool}

theorem nf_join (h : Norm n m) (ha : a < n) (hb : b < n) (hne : m a ≠ m b) (h1 : p (m a) = p a) (h2 : p (m b) = p b) (h3 : p a = p b) : nf n (join m a b) p + (if p a = true then 1 else 0) = nf n m p := by
  obtain ⟨lo, hi, k1, k2, k3, k4, hc, hj⟩ := join_cases h ha hb hne
  have hpi : p hi = p a := by
    rcases hc with ⟨_, e⟩ | ⟨_, e⟩
    · rw [e, h2, h3]
    · rw [e, h1]
  have e := cntTo_or (p := fun i => decide (join m a b i = i) && p i) (q := fun i => decide (i = hi) && p i) (s := fun i => decide (m i = i) && p i) n (fun i hi' => by
    rw [hj]
    by_cases e : i = hi
    · subst e
      rw [k4, if_pos rfl]
      have : ¬ lo = i := by omega
      simp [this]
    · by_cases e2 : m i = hi
      · rw [if_pos e2, e2]
        have h5 : ¬ hi = i := fun h => e h.symm
        have h6 : ¬ lo = i := fun h => by rw [← h, k3] at e2; omega
        simp [h5, h6, e]
      · rw [if_neg e2]
        simp [e])
  have e2 : cntTo (fun i => decide (i = hi) && p i) n = if p a = true then 1 else 0 := by
    by_cases hp : p a = true
    · rw [if_pos hp]
      have := cntTo_congr (p := fun i => decide (i = hi) && p i) (q := fun i => decide (i = hi)) n (fun i _ => by
        by_cases e : i = hi
        · subst e; simp [hpi, hp]
        · simp [e])
      rw [this, cntTo_one, if_pos k2]
    · rw [if_neg hp]
      have := cntTo_congr (p := fun i => decide (i = hi) && p i) (q := fun i => decide (i = n)) n (fun i hin => by
        have : ¬ i = n := by omega
        by_cases e : i = hi
        · subst e; simp [hpi, hp, this]
        · simp [e, this])
      rw [this, cntTo_one, if_neg (by omega)]
  unfold nf
  omega

/-- Two values change places: one orbit fewer, where they were in two; one more, where they were in one. -/
theorem nf_swp (hf : Per n f) (h : Orb n f m) (h' : Orb n (swp f a b) m') (ha : a < n) (hb : b < n) (hab : a ≠ b) (hp : ∀ x, x < n → p (f x) = p x) (hpe : p a = p b) :
    (m a ≠ m b ∧ nf n m' p + (if p a = true then 1 else 0) = nf n m p) ∨ (m a = m b ∧ nf n m p + (if p a = true then 1 else 0) = nf n m' p) := by
  have cg : ∀ {u v : Nat → Nat}, (∀ x, x < n → u x = v x) → nf n u p = nf n v p := fun e => by
    unfold nf
    exact cntTo_congr n fun i hi => by rw [e i hi]
  have hq := hf.swp ha hb
  have hp' : ∀ x, x < n → p (swp f a b x) = p x := fun x hx => by
    by_cases e1 : x = a
    · subst e1; rw [swp_a, hp b hb, hpe]
    · by_cases e2 : x = b
      · subst e2; rw [swp_b, hp a ha, hpe]
      · rw [swp_o f e1 e2, hp x hx]
  by_cases e : m a = m b
  · refine .inr ⟨e, ?_⟩
    have hne := swp_apart h ha hb hab e h'
    have hj := swp_join hq h' ha hb hne
    rw [swp_swp] at hj
    rw [cg (fun x hx => h.unique hj hx)]
    exact nf_join h'.norm ha hb hne (h'.keep hq hp' ha) (h'.keep hq hp' hb) hpe
  · refine .inl ⟨e, ?_⟩
    have hj := swp_join hf h ha hb e
    rw [cg (fun x hx => h'.unique hj hx)]
    exact nf_join h.norm ha hb e (h.keep hf hp ha) (h.keep hf hp hb) hpe
end

end Fa
end Go.Proofs.Ytfkmldopfhdbkaa
