import Derived.Test.YtalfpbalekbinaaGreatMg00
import Derived.Test.YtalfpbalekbinaaGreatMgS2
/-
  Sets that are joined, as functions: by number the least of its set; trees that keep it; what joins make, whatever their order.
-/
namespace Go.Proofs.YtalfpbalekbinaaGreat
namespace Co

/-- How many numbers below k have p. -/
def cntTo (p : Nat → Bool) : Nat → Nat
  | 0 => 0
  | k + 1 => cntTo p k + (if p k then 1 else 0)

theorem cntTo_le (p : Nat → Bool) : ∀ k, cntTo p k ≤ k
  | 0 => Nat.le_refl _
  | k + 1 => by
    have := cntTo_le p k
    unfold cntTo
    split <;> omega

theorem cntTo_congr {p q : Nat → Bool} : ∀ k, (∀ i, i < k → p i = q i) → cntTo p k = cntTo q k
  | 0, _ => rfl
  | k + 1, h => by
    have ih := cntTo_congr k (fun i hi => h i (by omega))
    unfold cntTo
    rw [ih, h k (by omega)]

theorem cntTo_or {p q s : Nat → Bool} : ∀ k, (∀ i, i < k → ((s i = (p i || q i)) ∧ (p i && q i) = false)) → cntTo s k = cntTo p k + cntTo q k
  | 0, _ => rfl
  | k + 1, h => by
    have ih := cntTo_or k (fun i hi => h i (by omega))
    obtain ⟨h1, h2⟩ := h k (by omega)
    unfold cntTo
    rw [ih, h1]
    cases hp : p k <;> cases hq : q k <;> rw [hp, hq] at h2 <;> simp at h2 ⊢ <;> omega

theorem cntTo_one (h : Nat) : ∀ k, cntTo (fun i => decide (i = h)) k = if h < k then 1 else 0
  | 0 => rfl
  | k + 1 => by
    have ih := cntTo_one h k
    unfold cntTo
    rw [ih]
    by_cases e : k = h
    · subst e
      simp
    · have e1 : (if decide (k = h) = true then 1 else 0) = 0 := if_neg (by simpa using e)
      rw [e1]
      by_cases hk : h < k
      · rw [if_pos hk, if_pos (by omega)]
      · rw [if_neg hk, if_neg (by omega)]

theorem cntTo_mono {p q : Nat → Bool} : ∀ k, (∀ i, i < k → p i = true → q i = true) → cntTo p k ≤ cntTo q k
  | 0, _ => Nat.le_refl _
  | k + 1, h => by
    have ih := cntTo_mono k (fun i hi => h i (by omega))
    have hk := h k (by omega)
    unfold cntTo
    cases hp : p k
    · simp; omega
    · rw [hk hp]; simp; omega

theorem cntTo_pos {p : Nat → Bool} {x : Nat} : ∀ k, x < k → p x = true → 0 < cntTo p k
  | 0, h, _ => by omega
  | k + 1, h, hp => by
    unfold cntTo
    by_cases e : x = k
    · subst e; rw [hp]; simp
    · have := cntTo_pos k (by omega) hp
      omega

/-- m tells by number the least number of its set. -/
structure Norm (n : Nat) (m : Nat → Nat) : Prop where
  le : ∀ x, x < n → m x ≤ x
  idem : ∀ x, x < n → m (m x) = m x

theorem Norm.lt {n : Nat} {m : Nat → Nat} (h : Norm n m) {x : Nat} (hx : x < n) : m x < n := by
  have := h.le x hx
  omega

def cnt (n : Nat) (m : Nat → Nat) : Nat := cntTo (fun i => decide (m i = i)) n
def size (n : Nat) (m : Nat → Nat) (a : Nat) : Nat := cntTo (fun i => decide (m i = m a)) n
def join (m : Nat → Nat) (a b : Nat) : Nat → Nat := fun x => if m x = max (m a) (m b) then min (m a) (m b) else m x

theorem join_comm (m : Nat → Nat) (a b : Nat) : join m a b = join m b a := by
  funext x
  unfold join
  rw [Nat.max_comm, Nat.min_comm]

theorem norm_id (n : Nat) : Norm n (fun x => x) := ⟨fun _ _ => Nat.le_refl _, fun _ _ => rfl⟩

theorem cnt_id (n : Nat) : cnt n (fun x => x) = n := by
  unfold cnt
  induction n with
  | zero => rfl
  | succ n ih => unfold cntTo; rw [ih]; simp

theorem size_id {n a : Nat} (h : a < n) : size n (fun x => x) a = 1 := by
  unfold size
  rw [cntTo_one, if_pos h]

theorem cnt_le (n : Nat) (m : Nat → Nat) : cnt n m ≤ n := cntTo_le _ _
theorem size_le (n : Nat) (m : Nat → Nat) (a : Nat) : size n m a ≤ n := cntTo_le _ _
theorem size_pos {n : Nat} {m : Nat → Nat} {a : Nat} (h : a < n) : 0 < size n m a := cntTo_pos n h (by simp)

section
variable {n : Nat} {m : Nat → Nat} {a b : Nat}
theorem join_cases (h : Norm n m) (ha : a < n) (hb : b < n) (hne : m a ≠ m b) : ∃ lo hi, lo < hi ∧ hi < n ∧ m lo = lo ∧ m hi = hi ∧ ((lo = m a ∧ hi = m b) ∨ (lo = m b ∧ hi = m a)) ∧ ∀ x, join m a b x = if m x = hi then lo else m x := by
  rcases Nat.lt_or_gt_of_ne hne with hlt | hlt
  · exact ⟨m a, m b, hlt, h.lt hb, h.idem a ha, h.idem b hb, .inl ⟨rfl, rfl⟩, fun x => by unfold join; rw [Nat.max_eq_right (by omega), Nat.min_eq_left (by omega)]⟩
  · exact ⟨m b, m a, hlt, h.lt ha, h.idem b hb, h.idem a ha, .inr ⟨rfl, rfl⟩, fun x => by unfold join; rw [Nat.max_eq_left (by omega), Nat.min_eq_right (by omega)]⟩

theorem Norm.join (h : Norm n m) (ha : a < n) (hb : b < n) (hne : m a ≠ m b) : Norm n (join m a b) := by
  obtain ⟨lo, hi, h1, h2, h3, h4, -, hj⟩ := join_cases h ha hb hne
  refine ⟨fun x hx => ?_, fun x hx => ?_⟩
  · rw [hj]
    have := h.le x hx
    split <;> omega
  · rw [hj x]
    split
    · rw [hj, h3, if_neg (by omega)]
    · rename_i hx'
      rw [hj, h.idem x hx, if_neg hx']

theorem cnt_join (h : Norm n m) (ha : a < n) (hb : b < n) (hne : m a ≠ m b) : cnt n (join m a b) + 1 = cnt n m := by
  obtain ⟨lo, hi, h1, h2, h3, h4, -, hj⟩ := join_cases h ha hb hne
  have e := cntTo_or (p := fun i => decide (join m a b i = i)) (q := fun i => decide (i = hi)) (s := fun i => decide (m i = i)) n (fun i hi' => by
    rw [hj]
    by_cases e : i = hi
    · subst e
      rw [h4, if_pos rfl]
      have : ¬ lo = i := by omega
      simp [this]
    · by_cases e2 : m i = hi
      · rw [if_pos e2, e2]
        have h5 : ¬ hi = i := fun h => e h.symm
        have h6 : ¬ lo = i := fun h => by rw [← h, h3] at e2; omega
        simp [h5, h6, e]
      · rw [if_neg e2]
        simp [e])
  rw [cntTo_one, if_pos h2] at e
  unfold cnt
  omega

theorem join_same (h : Norm n m) (ha : a < n) (hb : b < n) (hne : m a ≠ m b) {x y : Nat} (_ : x < n) (_ : y < n) :
    join m a b x = join m a b y ↔ (m x = m y ∨ ((m x = m a ∨ m x = m b) ∧ (m y = m a ∨ m y = m b))) := by
  obtain ⟨lo, hi, h1, h2, h3, h4, hc, hj⟩ := join_cases h ha hb hne
  rw [hj, hj]
  by_cases ex : m x = hi <;> by_cases ey : m y = hi
  · rw [if_pos ex, if_pos ey]; omega
  · rw [if_pos ex, if_neg ey]; omega
  · rw [if_neg ex, if_pos ey]; omega
  · rw [if_neg ex, if_neg ey]; omega

theorem size_join_in (h : Norm n m) (ha : a < n) (hb : b < n) (hne : m a ≠ m b) {x : Nat} (hx : x < n) (hm : m x = m a ∨ m x = m b) : size n (join m a b) x = size n m a + size n m b := by
  unfold size
  refine cntTo_or n (fun i hi => ?_)
  have := join_same h ha hb hne hi hx
  rw [Bool.eq_iff_iff]
  simp only [decide_eq_true_eq, Bool.or_eq_true, Bool.and_eq_false_iff, decide_eq_false_iff_not, this]
  omega

theorem size_join_out (h : Norm n m) (ha : a < n) (hb : b < n) (hne : m a ≠ m b) {x : Nat} (hx : x < n) (h1 : m x ≠ m a) (h2 : m x ≠ m b) : size n (join m a b) x = size n m x := by
  unfold size
  refine cntTo_congr n (fun i hi => ?_)
  have := join_same h ha hb hne hi hx
  rw [Bool.eq_iff_iff]
  simp only [decide_eq_true_eq, this]
  omega

theorem join_in (h : Norm n m) (ha : a < n) (hb : b < n) (hne : m a ≠ m b) {x : Nat} (hm : m x = m a ∨ m x = m b) : join m a b x = min (m a) (m b) := by
  obtain ⟨lo, hi, h1, h2, h3, h4, hc, hj⟩ := join_cases h ha hb hne
  rw [hj]
  split <;> omega

theorem join_out (h : Norm n m) (ha : a < n) (hb : b < n) (hne : m a ≠ m b) {x : Nat} (h1 : m x ≠ m a) (h2 : m x ≠ m b) : join m a b x = m x := by
  obtain ⟨lo, hi, _, _, _, _, hc, hj⟩ := join_cases h ha hb hne
  rw [hj, if_neg]
  omega
end

/-- Trees that keep the sets m: parents P, sizes S and leasts L of the roots; r: the root; d: how deep at most. -/
structure Forest (n : Nat) (P S L m r d : Nat → Nat) : Prop where
  norm : Norm n m
  lt : ∀ x, x < n → P x < n
  rt : ∀ x, x < n → r x < n
  top : ∀ x, x < n → P (r x) = r x
  up : ∀ x, x < n → r (P x) = r x
  self : ∀ x, x < n → P x = x → r x = x
  deep : ∀ x, x < n → P x ≠ x → d (P x) < d x
  same : ∀ x y, x < n → y < n → (r x = r y ↔ m x = m y)
  sz : ∀ x, x < n → S (r x) = size n m x
  ls : ∀ x, x < n → L (r x) = m x

theorem Forest.rr {n : Nat} {P S L m r d : Nat → Nat} (h : Forest n P S L m r d) {x : Nat} (hx : x < n) : r (r x) = r x := h.self _ (h.rt x hx) (h.top x hx)

theorem forest_id (n : Nat) : Forest n (fun x => x) (fun _ => 1) (fun x => x) (fun x => x) (fun x => x) (fun _ => 0) :=
  ⟨norm_id n, fun _ h => h, fun _ h => h, fun _ _ => rfl, fun _ _ => rfl, fun _ _ _ => rfl, fun _ _ h => absurd rfl h, fun _ _ _ _ => Iff.rfl, fun _ h => (size_id h).symm, fun _ _ => rfl⟩

/-- Function f with y at x. -/
def upd (f : Nat → Nat) (x y : Nat) : Nat → Nat := fun i => if i = x then y else f i
theorem upd_same (f : Nat → Nat) (x y : Nat) : upd f x y x = y := by simp [upd]
theorem upd_other (f : Nat → Nat) {x y i : Nat} (h : i ≠ x) : upd f x y i = f i := by simp [upd, h]

/-- The tree of b is hung below that of a. -/
theorem Forest.hang {n : Nat} {P S L m r d : Nat → Nat} (h : Forest n P S L m r d) {a b : Nat} (ha : a < n) (hb : b < n) (hne : r a ≠ r b) :
    ∃ r' d', Forest n (upd P (r b) (r a)) (upd S (r a) (S (r a) + S (r b))) (upd L (r a) (min (L (r a)) (L (r b)))) (join m a b) r' d' := by
  have hm : m a ≠ m b := fun e => hne ((h.same a b ha hb).2 e)
  have hA := h.rt a ha
  have hB := h.rt b hb
  have hrA := h.rr ha
  have hrB := h.rr hb
  have hkey : ∀ x, x < n → (r x = r a ↔ m x = m a) ∧ (r x = r b ↔ m x = m b) := fun x hx => ⟨h.same x a hx ha, h.same x b hx hb⟩
  refine ⟨fun x => if r x = r b then r a else r x, fun x => if r x = r b then d x + d (r a) + 1 else d x, h.norm.join ha hb hm, fun x hx => ?_, fun x hx => ?_, fun x hx => ?_, fun x hx => ?_, fun x hx hp => ?_, fun x hx hp => ?_, fun x y hx hy => ?_, fun x hx => ?_, fun x hx => ?_⟩
  · unfold upd
    split
    · exact hA
    · exact h.lt x hx
  · split
    · exact hA
    · exact h.rt x hx
  · split
    · rw [upd_other _ hne]; exact h.top a ha
    · rename_i e
      rw [upd_other _ e]
      exact h.top x hx
  · by_cases e : x = r b
    · subst e
      rw [upd_same, hrA, hrB, if_neg hne, if_pos rfl]
    · rw [upd_other _ e, h.up x hx]
  · by_cases e : x = r b
    · subst e
      rw [upd_same] at hp
      exact absurd hp hne
    · rw [upd_other _ e] at hp
      have := h.self x hx hp
      rw [if_neg (by rw [this]; exact e)]
      exact this
  · by_cases e : x = r b
    · subst e
      rw [upd_same, hrA, hrB, if_neg hne, if_pos rfl]
      omega
    · rw [upd_other _ e] at hp ⊢
      have := h.deep x hx hp
      rw [h.up x hx]
      split <;> omega
  · rw [join_same h.norm ha hb hm hx hy]
    obtain ⟨k1, k2⟩ := hkey x hx
    obtain ⟨k3, k4⟩ := hkey y hy
    have k5 := h.same x y hx hy
    rw [← k1, ← k2, ← k3, ← k4, ← k5]
    by_cases ex : r x = r b <;> by_cases ey : r y = r b
    · rw [if_pos ex, if_pos ey]; omega
    · rw [if_pos ex, if_neg ey]; omega
    · rw [if_neg ex, if_pos ey]; omega
    · rw [if_neg ex, if_neg ey]; omega
  · obtain ⟨k1, k2⟩ := hkey x hx
    by_cases ex : r x = r b
    · rw [if_pos ex, upd_same, size_join_in h.norm ha hb hm hx (.inr (k2.1 ex)), h.sz a ha, h.sz b hb]
    · rw [if_neg ex]
      by_cases ea : r x = r a
      · rw [ea, upd_same, size_join_in h.norm ha hb hm hx (.inl (k1.1 ea)), h.sz a ha, h.sz b hb]
      · rw [upd_other _ ea, h.sz x hx, size_join_out h.norm ha hb hm hx (fun e => ea (k1.2 e)) (fun e => ex (k2.2 e))]
  · obtain ⟨k1, k2⟩ := hkey x hx
    by_cases ex : r x = r b
    · rw [if_pos ex, upd_same, join_in h.norm ha hb hm (.inr (k2.1 ex)), h.ls a ha, h.ls b hb]
    · rw [if_neg ex]
      by_cases ea : r x = r a
      · rw [ea, upd_same, join_in h.norm ha hb hm (.inl (k1.1 ea)), h.ls a ha, h.ls b hb]
      · rw [upd_other _ ea, h.ls x hx, join_out h.norm ha hb hm (fun e => ea (k1.2 e)) (fun e => ex (k2.2 e))]

/-- A pair of numbers below n. -/
def isIn (n : Nat) (x : Int) : Prop := 0 ≤ x ∧ x < (n : Int)
instance (n : Nat) (x : Int) : Decidable (isIn n x) := inferInstanceAs (Decidable (_ ∧ _))

/-- Two numbers, in two sets? -/
def apart (n : Nat) (m : Nat → Nat) (a b : Int) : Bool := decide (isIn n a ∧ isIn n b ∧ m a.toNat ≠ m b.toNat)
/-- What Join makes, of any two ints. -/
def joinI (n : Nat) (m : Nat → Nat) (a b : Int) : Nat → Nat := if apart n m a b then join m a.toNat b.toNat else m
def leastI (n : Nat) (m : Nat → Nat) (a : Int) : Int := if isIn n a then (m a.toNat : Int) else -1
def sizeI (n : Nat) (m : Nat → Nat) (a : Int) : Int := if isIn n a then (size n m a.toNat : Int) else 0
def sameI (n : Nat) (m : Nat → Nat) (a b : Int) : Bool := decide (isIn n a ∧ isIn n b ∧ m a.toNat = m b.toNat)

theorem apart_iff {n : Nat} {m : Nat → Nat} {a b : Int} : apart n m a b = true ↔ (isIn n a ∧ isIn n b ∧ m a.toNat ≠ m b.toNat) := by unfold apart; exact decide_eq_true_iff

theorem isIn_lt {n : Nat} {x : Int} (h : isIn n x) : x.toNat < n := by unfold isIn at h; omega

theorem Norm.joinI {n : Nat} {m : Nat → Nat} (h : Norm n m) (a b : Int) : Norm n (joinI n m a b) := by
  unfold Co.joinI
  split
  · rename_i e
    obtain ⟨h1, h2, h3⟩ := apart_iff.1 e
    exact h.join (isIn_lt h1) (isIn_lt h2) h3
  · exact h

/-- All joins of a list, one behind the other. -/
def joins (n : Nat) (js : List (Int × Int)) (m : Nat → Nat) : Nat → Nat := js.foldl (fun m j => joinI n m j.1 j.2) m
theorem joins_snoc (n : Nat) (js : List (Int × Int)) (j : Int × Int) (m : Nat → Nat) : joins n (js ++ [j]) m = joinI n (joins n js m) j.1 j.2 := by simp [joins, List.foldl_append]
theorem Norm.joins {n : Nat} : ∀ (js : List (Int × Int)) {m : Nat → Nat}, Norm n m → Norm n (joins n js m)
  | [], _, h => h
  | j :: js, _, h => Norm.joins js (h.joinI j.1 j.2)

/-- f is one on each of these pairs (those of numbers below n). -/
def Meets (n : Nat) (js : List (Int × Int)) (f : Nat → Nat) : Prop := ∀ j ∈ js, isIn n j.1 → isIn n j.2 → f j.1.toNat = f j.2.toNat

/-- m is what these pairs make, and nothing more. -/
structure Gen (n : Nat) (js : List (Int × Int)) (m : Nat → Nat) : Prop where
  norm : Norm n m
  meets : Meets n js m
  least : ∀ f : Nat → Nat, Meets n js f → ∀ x, x < n → f (m x) = f x

theorem Gen.id (n : Nat) : Gen n [] (fun x => x) := ⟨norm_id n, (fun _ h => by cases h), fun _ _ _ _ => rfl⟩

theorem Gen.keep {n : Nat} {js : List (Int × Int)} {m : Nat → Nat} (h : Gen n js m) {j : Int × Int} (hj : ¬ (isIn n j.1 ∧ isIn n j.2 ∧ m j.1.toNat ≠ m j.2.toNat)) : Gen n (js ++ [j]) m := by
  refine ⟨h.norm, fun k hk h1 h2 => ?_, fun f hf => h.least f (fun k hk => hf k (List.mem_append_left _ hk))⟩
  rcases List.mem_append.1 hk with hk | hk
  · exact h.meets k hk h1 h2
  · obtain rfl := List.mem_singleton.1 hk
    exact Decidable.byContradiction fun e => hj ⟨h1, h2, e⟩

theorem Gen.join {n : Nat} {js : List (Int × Int)} {m : Nat → Nat} (h : Gen n js m) {j : Int × Int} (h1 : isIn n j.1) (h2 : isIn n j.2) (h3 : m j.1.toNat ≠ m j.2.toNat) : Gen n (js ++ [j]) (join m j.1.toNat j.2.toNat) := by
  have ha := isIn_lt h1
  have hb := isIn_lt h2
  refine ⟨h.norm.join ha hb h3, fun k hk k1 k2 => ?_, fun f hf x hx => ?_⟩
  · rcases List.mem_append.1 hk with hk | hk
    · exact (join_same h.norm ha hb h3 (isIn_lt k1) (isIn_lt k2)).2 (.inl (h.meets k hk k1 k2))
    · obtain rfl := List.mem_singleton.1 hk
      exact (join_same h.norm ha hb h3 (isIn_lt k1) (isIn_lt k2)).2 (.inr ⟨.inl rfl, .inr rfl⟩)
  · have hf' : Meets n js f := fun k hk => hf k (List.mem_append_left _ hk)
    have hj := hf j (List.mem_append_right _ (List.mem_singleton_self _)) h1 h2
    have ea := h.least f hf' _ ha
    have eb := h.least f hf' _ hb
    have ex := h.least f hf' x hx
    obtain ⟨lo, hi, _, _, _, _, hc, hjj⟩ := join_cases h.norm ha hb h3
    rw [hjj]
    split
    · rename_i e
      rcases hc with ⟨e1, e2⟩ | ⟨e1, e2⟩
      · rw [e1, ea, hj, ← eb, ← e2, ← e, ex]
      · rw [e1, eb, ← hj, ← ea, ← e2, ← e, ex]
    · exact ex

theorem Gen.joinI {n : Nat} {js : List (Int × Int)} {m : Nat → Nat} (h : Gen n js m) (j : Int × Int) : Gen n (js ++ [j]) (joinI n m j.1 j.2) := by
  unfold Co.joinI
  split
  · rename_i e
    obtain ⟨h1, h2, h3⟩ := apart_iff.1 e
    exact h.join h1 h2 h3
  · rename_i e
    exact h.keep (fun h => e (apart_iff.2 h))

theorem gen_joins (n : Nat) (js : List (Int × Int)) : Gen n js (joins n js (fun x => x)) := by
  suffices h : ∀ (ks js : List (Int × Int)) (m : Nat → Nat), Gen n js m → Gen n (js ++ ks) (joins n ks m) by simpa using h js [] _ (Gen.id n)
  intro ks
  induction ks with
  | nil => intro js m h; rw [List.append_nil]; exact h
  | cons k ks ih =>
    intro js m h
    have := ih _ _ (h.joinI k)
    rw [List.append_assoc] at this
    exact this

/-- Pairs that say the same make the same sets. -/
theorem Gen.unique {n : Nat} {js ks : List (Int × Int)} {m k : Nat → Nat} (h : Gen n js m) (g : Gen n ks k) (h1 : Meets n js k) (h2 : Meets n ks m) {x : Nat} (hx : x < n) : m x = k x := by
  have e1 := h.least k h1 x hx
  have e2 := g.least m h2 x hx
  have l1 := h.norm.le x hx
  have l2 := g.norm.le x hx
  have l3 := h.norm.le (k x) (by omega)
  have l4 := g.norm.le (m x) (by omega)
  omega

end Co
end Go.Proofs.YtalfpbalekbinaaGreat

/-
  Blocks, pure: classes of edges as they are joined pair by pair, by the edges as a list.
-/
namespace Go.Proofs.YtalfpbalekbinaaGreat
namespace Bl

def othE (p : Int × Int) (v : Int) : Int := if p.1 = v then p.2 else p.1
/-- Two edges that end at v, and whose other ends hang together without v. -/
def PairE (es : List (Int × Int)) (v i k : Nat) : Prop := ∃ p q : Int × Int, es[i]? = some p ∧ es[k]? = some q ∧ (p.1 = (v : Int) ∨ p.2 = (v : Int)) ∧ (q.1 = (v : Int) ∨ q.2 = (v : Int)) ∧ ConnE es v (othE p v).toNat (othE q v).toNat

/-- The classes m are those that pairs have made; all pairs of D are among them. -/
def ClE (n : Nat) (es : List (Int × Int)) (m : Nat → Nat) (D : Nat → Nat → Nat → Prop) : Prop :=
  ∃ js : List (Int × Int), Co.Gen es.length js m ∧ (∀ a b : Nat, ((a : Int), (b : Int)) ∈ js → ∃ u, u < n ∧ PairE es u a b) ∧ ∀ u a b : Nat, u < n → a < b → b < es.length → PairE es u a b → D u a b → ((a : Int), (b : Int)) ∈ js

theorem ClE.start (n : Nat) (es : List (Int × Int)) : ClE n es (fun x => x) (fun _ _ _ => False) := ⟨[], Co.Gen.id _, (fun _ _ h => by cases h), fun _ _ _ _ _ _ _ h => h.elim⟩
theorem ClE.more {n : Nat} {es : List (Int × Int)} {m : Nat → Nat} {D D' : Nat → Nat → Nat → Prop} (h : ClE n es m D) (hd : ∀ u a b : Nat, u < n → a < b → b < es.length → PairE es u a b → D' u a b → D u a b) : ClE n es m D' := by
  obtain ⟨js, h1, h2, h3⟩ := h
  exact ⟨js, h1, h2, fun u a b hu hab hb hp hd' => h3 u a b hu hab hb hp (hd u a b hu hab hb hp hd')⟩
theorem join_noop {m : Nat → Nat} {a b : Nat} (h : m a = m b) : Co.join m a b = m := by
  funext x
  unfold Co.join
  rw [h, Nat.max_self, Nat.min_self]
  split
  · next e => exact e.symm
  · rfl
theorem ClE.join {n : Nat} {es : List (Int × Int)} {m : Nat → Nat} {D : Nat → Nat → Nat → Prop} (h : ClE n es m D) {v i k : Nat} (hv : v < n) (hi : i < es.length) (hk : k < es.length) (hp : PairE es v i k) : ClE n es (Co.join m i k) (fun u a b => D u a b ∨ (u = v ∧ a = i ∧ b = k)) := by
  obtain ⟨js, h1, h2, h3⟩ := h
  have hj := h1.joinI ((i : Int), (k : Int))
  have e : Co.joinI es.length m (i : Int) (k : Int) = Co.join m i k := by
    unfold Co.joinI
    by_cases hm : m i = m k
    · rw [join_noop (by simpa using hm), join_noop hm]
      split <;> rfl
    · rw [if_pos (Co.apart_iff.2 ⟨⟨by omega, by omega⟩, ⟨by omega, by omega⟩, by simpa using hm⟩), Int.toNat_natCast, Int.toNat_natCast]
  dsimp only at hj
  rw [e] at hj
  refine ⟨_, hj, fun a b hab => ?_, fun u a b hu hab hb hq hd => ?_⟩
  · rcases List.mem_append.1 hab with hab | hab
    · exact h2 a b hab
    · have := List.mem_singleton.1 hab
      injection this with e1 e2
      have ea : a = i := by omega
      have eb : b = k := by omega
      subst ea eb
      exact ⟨v, hv, hp⟩
  · rcases hd with hd | ⟨rfl, rfl, rfl⟩
    · exact List.mem_append_left _ (h3 u a b hu hab hb hq hd)
    · exact List.mem_append_right _ (List.mem_singleton.2 rfl)

/-- What has been come by at vertex v, edge i, edge k. -/
def Came (v i k u a b : Nat) : Prop := u < v ∨ (u = v ∧ (a < i ∨ (a = i ∧ b < k)))
end Bl
end Go.Proofs.YtalfpbalekbinaaGreat

/-
  Blocks, pure: lists of numbers; classes numbered; which blocks a vertex is in; where a number stands.
-/
namespace Go.Proofs.YtalfpbalekbinaaGreat

/-- Where a number first stands in a list, or -1. -/
def Bl.place : List Int → Int → Int
  | [], _ => -1
  | y :: l, x => if y = x then 0 else if Bl.place l x = -1 then -1 else Bl.place l x + 1
/-- As the loop finds it. -/
theorem Bl.place_at : ∀ {l : List Int} {x : Int} {i : Nat}, l[i]? = some x → (∀ j : Nat, j < i → l[j]? ≠ some x) → Bl.place l x = (i : Int)
  | [], x, i, h, _ => by simp at h
  | y :: l, x, 0, h, _ => by
    have : y = x := by simpa using h
    unfold Bl.place
    rw [if_pos this]
    rfl
  | y :: l, x, i + 1, h, hn => by
    have hy : y ≠ x := fun e => hn 0 (by omega) (by simp [e])
    have := Bl.place_at (l := l) (x := x) (i := i) (by simpa using h) (fun j hj => by simpa using hn (j + 1) (by omega))
    unfold Bl.place
    rw [if_neg hy, this, if_neg (by omega)]
    omega
theorem Bl.place_not : ∀ {l : List Int} {x : Int}, (∀ j : Nat, l[j]? ≠ some x) → Bl.place l x = -1
  | [], x, _ => rfl
  | y :: l, x, hn => by
    have hy : y ≠ x := fun e => hn 0 (by simp [e])
    have := Bl.place_not (l := l) (x := x) (fun j => by simpa using hn (j + 1))
    unfold Bl.place
    rw [if_neg hy, this, if_pos rfl]

namespace Bl
/-- The first n values of f. -/
def nums (n : Nat) (f : Nat → Nat) : List Int := (List.range n).map fun i => (f i : Int)
theorem nums_length (n : Nat) (f : Nat → Nat) : (nums n f).length = n := by simp [nums]
theorem nums_at {n i : Nat} {f : Nat → Nat} (h : i < n) : (nums n f)[i]? = some (f i : Int) := by
  unfold nums
  rw [List.getElem?_map, List.getElem?_range h]
  rfl
theorem nums_congr {n : Nat} {f g : Nat → Nat} (h : ∀ i, i < n → f i = g i) : nums n f = nums n g := by
  unfold nums
  exact List.map_congr_left fun i hi => by rw [h i (List.mem_range.1 hi)]
theorem nums_set {n i : Nat} {f : Nat → Nat} (x : Nat) (hi : i < n) : (nums n f).set i (x : Int) = nums n (Co.upd f i x) := by
  refine List.ext_getElem? fun j => ?_
  by_cases hj : j < n
  · by_cases e : i = j
    · subst e
      rw [List.getElem?_set_self (by rw [nums_length]; exact hi), nums_at hj, Co.upd_same]
    · rw [List.getElem?_set_ne e, nums_at hj, nums_at hj, Co.upd_other _ (fun h => e h.symm)]
  · rw [List.getElem?_eq_none (by rw [List.length_set, nums_length]; omega), List.getElem?_eq_none (by rw [nums_length]; omega)]

/-- How many edges end at v. -/
def degE (es : List (Int × Int)) (v : Int) : Nat := (es.filter fun p => decide (p.1 = v ∨ p.2 = v)).length
theorem degE_le (es : List (Int × Int)) (v : Int) : degE es v ≤ es.length := List.length_filter_le _ _
theorem degE_snoc_yes {es : List (Int × Int)} {v : Int} {p : Int × Int} (h : p.1 = v ∨ p.2 = v) : degE (es ++ [p]) v = degE es v + 1 := by
  unfold degE
  rw [List.filter_append, List.length_append, List.filter_cons_of_pos (by simpa using h)]
  rfl
theorem degE_snoc_no {es : List (Int × Int)} {v : Int} {p : Int × Int} (h : ¬ (p.1 = v ∨ p.2 = v)) : degE (es ++ [p]) v = degE es v := by
  unfold degE
  rw [List.filter_append, List.length_append, List.filter_cons_of_neg (by simpa using h)]
  rfl
/-- Two edges that end at v. -/
theorem two_degE {es : List (Int × Int)} {v : Int} {i k : Nat} {p q : Int × Int} (hik : i < k) (hp : es[i]? = some p) (hq : es[k]? = some q) (h1 : p.1 = v ∨ p.2 = v) (h2 : q.1 = v ∨ q.2 = v) : 2 ≤ degE es v := by
  have e : es = es.take k ++ es.drop k := (List.take_append_drop k es).symm
  have a1 : 1 ≤ degE (es.take k) v := List.length_pos_of_mem (a := p) (List.mem_filter.2 ⟨List.mem_of_getElem? (i := i) (by rw [List.getElem?_take, if_pos hik]; exact hp), by simpa using h1⟩)
  have a2 : 1 ≤ degE (es.drop k) v := List.length_pos_of_mem (a := q) (List.mem_filter.2 ⟨List.mem_of_getElem? (i := 0) (by rw [List.getElem?_drop]; exact hq), by simpa using h2⟩)
  have e2 : degE es v = degE (es.take k) v + degE (es.drop k) v := by
    conv => lhs; rw [e]
    unfold degE
    rw [List.filter_append, List.length_append]
  omega
/-- How many of the first k are the least of their class. -/
def cntB (m : Nat → Nat) (k : Nat) : Nat := Co.cntTo (fun i => decide (m i = i)) k
def numB (m : Nat → Nat) (i : Nat) : Nat := cntB m (m i)
theorem cntB_le (m : Nat → Nat) (k : Nat) : cntB m k ≤ k := Co.cntTo_le _ k
theorem cntB_yes {m : Nat → Nat} {k : Nat} (h : m k = k) : cntB m (k + 1) = cntB m k + 1 := by
  unfold cntB
  rw [Co.cntTo]
  simp [h]
theorem cntB_no {m : Nat → Nat} {k : Nat} (h : m k ≠ k) : cntB m (k + 1) = cntB m k := by
  unfold cntB
  rw [Co.cntTo]
  simp [h]
/-- The first k have their number. -/
def begB (m : Nat → Nat) (k i : Nat) : Nat := if i < k then numB m i else 0
theorem begB_next (m : Nat → Nat) (k : Nat) : ∀ i, Co.upd (begB m k) k (numB m k) i = begB m (k + 1) i := fun i => by
  by_cases e : i = k
  · subst e
    rw [Co.upd_same]
    unfold begB
    rw [if_pos (by omega)]
  · rw [Co.upd_other _ e]
    unfold begB
    by_cases h : i < k
    · rw [if_pos h, if_pos (by omega)]
    · rw [if_neg h, if_neg (by omega)]
theorem ClE.norm {n : Nat} {es : List (Int × Int)} {m : Nat → Nat} {D : Nat → Nat → Nat → Prop} (h : ClE n es m D) : Co.Norm es.length m := by
  obtain ⟨_, h1, _⟩ := h
  exact h1.norm
theorem nums_zero (n : Nat) : nums n (fun _ => 0) = List.replicate n 0 := by
  refine List.ext_getElem? fun i => ?_
  by_cases h : i < n
  · rw [nums_at h, List.getElem?_replicate, if_pos h]
    rfl
  · rw [List.getElem?_eq_none (by rw [nums_length]; omega), List.getElem?_eq_none (by simp; omega)]
/-- One of the first j edges is of block k and ends at v. -/
def hitTo (es : List (Int × Int)) (f : Nat → Nat) (v : Int) (k j : Nat) : Prop := ∃ (i : Nat) (p : Int × Int), i < j ∧ es[i]? = some p ∧ f i = k ∧ (p.1 = v ∨ p.2 = v)
open Classical in
noncomputable def hitB (es : List (Int × Int)) (f : Nat → Nat) (v : Int) (k j : Nat) : Bool := decide (hitTo es f v k j)
noncomputable def inB (es : List (Int × Int)) (f : Nat → Nat) (v : Int) (n : Nat) : Nat := Co.cntTo (fun k => hitB es f v k es.length) n
theorem inB_le (es : List (Int × Int)) (f : Nat → Nat) (v : Int) (n : Nat) : inB es f v n ≤ n := Co.cntTo_le _ n
theorem inB_yes {es : List (Int × Int)} {f : Nat → Nat} {v : Int} {k : Nat} (h : hitB es f v k es.length = true) : inB es f v (k + 1) = inB es f v k + 1 := by
  unfold inB
  rw [Co.cntTo, if_pos h]
theorem inB_no {es : List (Int × Int)} {f : Nat → Nat} {v : Int} {k : Nat} (h : hitB es f v k es.length = false) : inB es f v (k + 1) = inB es f v k := by
  unfold inB
  rw [Co.cntTo, if_neg (by rw [h]; simp)]
  rfl
open Classical in
theorem hitB_zero (es : List (Int × Int)) (f : Nat → Nat) (v : Int) (k : Nat) : hitB es f v k 0 = false := decide_eq_false fun ⟨i, p, h, _⟩ => by omega
open Classical in
theorem hitB_yes {es : List (Int × Int)} {f : Nat → Nat} {v : Int} {k j : Nat} {p : Int × Int} (hp : es[j]? = some p) (h1 : f j = k) (h2 : p.1 = v ∨ p.2 = v) : hitB es f v k (j + 1) = true := decide_eq_true ⟨j, p, by omega, hp, h1, h2⟩
open Classical in
theorem hitB_no {es : List (Int × Int)} {f : Nat → Nat} {v : Int} {k j : Nat} {p : Int × Int} (hp : es[j]? = some p) (h : ¬ (f j = k ∧ (p.1 = v ∨ p.2 = v))) : hitB es f v k (j + 1) = hitB es f v k j := by
  unfold hitB
  rw [Bool.eq_iff_iff, decide_eq_true_iff, decide_eq_true_iff]
  constructor
  · rintro ⟨i, q, a, b, c, d⟩
    by_cases e : i = j
    · subst e
      rw [hp] at b
      cases b
      exact absurd ⟨c, d⟩ h
    · exact ⟨i, q, by omega, b, c, d⟩
  · rintro ⟨i, q, a, b, c, d⟩
    exact ⟨i, q, by omega, b, c, d⟩
/-- The vertices below k that are in more than one block. -/
noncomputable def cutsTo (es : List (Int × Int)) (f : Nat → Nat) (c k : Nat) : List Int := ((List.range k).filter fun v : Nat => decide (1 < inB es f (v : Int) c)).map fun v : Nat => (v : Int)
theorem cutsTo_yes {es : List (Int × Int)} {f : Nat → Nat} {c k : Nat} (h : 1 < inB es f (k : Int) c) : cutsTo es f c (k + 1) = cutsTo es f c k ++ [(k : Int)] := by
  unfold cutsTo
  rw [List.range_succ, List.filter_append, List.map_append, List.filter_cons_of_pos (by simpa using h)]
  rfl
theorem cutsTo_no {es : List (Int × Int)} {f : Nat → Nat} {c k : Nat} (h : ¬ 1 < inB es f (k : Int) c) : cutsTo es f c (k + 1) = cutsTo es f c k := by
  unfold cutsTo
  rw [List.range_succ, List.filter_append, List.map_append, List.filter_cons_of_neg (by simpa using h)]
  simp
theorem cutsTo_length (es : List (Int × Int)) (f : Nat → Nat) (c k : Nat) : (cutsTo es f c k).length ≤ k := by
  unfold cutsTo
  rw [List.length_map]
  exact Nat.le_trans (List.length_filter_le _ _) (by simp)
/-- No other of the first j edges is in i's block. -/
def Lone (f : Nat → Nat) (i j : Nat) : Prop := ∀ k, k < j → k ≠ i → f k ≠ f i
open Classical in
noncomputable def lone (f : Nat → Nat) (i j : Nat) : Bool := decide (Lone f i j)
open Classical in
theorem lone_zero (f : Nat → Nat) (i : Nat) : lone f i 0 = true := decide_eq_true fun k h => by omega
open Classical in
theorem lone_no {f : Nat → Nat} {i j : Nat} (h1 : j ≠ i) (h2 : f j = f i) : lone f i (j + 1) = false := decide_eq_false fun h => h j (by omega) h1 h2
open Classical in
theorem lone_same {f : Nat → Nat} {i j : Nat} (h : ¬ (j ≠ i ∧ f j = f i)) : lone f i (j + 1) = lone f i j := by
  unfold lone
  rw [Bool.eq_iff_iff, decide_eq_true_iff, decide_eq_true_iff]
  constructor
  · exact fun a k hk => a k (by omega)
  · intro a k hk hne he
    by_cases e : k = j
    · subst e
      exact h ⟨hne, he⟩
    · exact a k (by omega) hne he
/-- The edges below k that are alone in their block. -/
noncomputable def brTo (f : Nat → Nat) (E k : Nat) : List Int := ((List.range k).filter fun i : Nat => lone f i E).map fun i : Nat => (i : Int)
theorem brTo_yes {f : Nat → Nat} {E k : Nat} (h : lone f k E = true) : brTo f E (k + 1) = brTo f E k ++ [(k : Int)] := by
  unfold brTo
  rw [List.range_succ, List.filter_append, List.map_append, List.filter_cons_of_pos (p := fun i : Nat => lone f i E) h]
  rfl
theorem brTo_no {f : Nat → Nat} {E k : Nat} (h : lone f k E = false) : brTo f E (k + 1) = brTo f E k := by
  unfold brTo
  rw [List.range_succ, List.filter_append, List.map_append, List.filter_cons_of_neg (by rw [h]; simp)]
  simp
theorem brTo_length (f : Nat → Nat) (E k : Nat) : (brTo f E k).length ≤ k := by
  unfold brTo
  rw [List.length_map]
  exact Nat.le_trans (List.length_filter_le _ _) (by simp)
end Bl
end Go.Proofs.YtalfpbalekbinaaGreat
