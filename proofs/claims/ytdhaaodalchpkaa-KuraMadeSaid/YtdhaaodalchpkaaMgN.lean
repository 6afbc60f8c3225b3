import Derived.Test.YtdhaaodalchpkaaMgA
import Derived.Test.YtdhaaodalchpkaaMgE
import Derived.Test.YtdhaaodalchpkaaBoolB
/-
  Sets that are joined, as functions: by number the least of its set; trees that keep it; what joins make, whatever their order.
-/
namespace Go.Proofs.Ytdhaaodalchpkaa
namespace Co

/-- How many numbers below k have p. -/
def cntTo (p : Nat → Bool) : Nat → Nat
  | 0 => 0
  | k + 1 => cntTo p k + (if p k then 1 else 0)

theorem cntTo_le (p : Nat → Bool) : ∀ k, cntTo p k ≤ k
  | 0 => Nat.le_refl _
  | k + 1 => by
    have := cntTo_le p k
    unfold cntTo
    split <;> omega

theorem cntTo_congr {p q : Nat → Bool} : ∀ k, (∀ i, i < k → p i = q i) → cntTo p k = cntTo q k
  | 0, _ => rfl
  | k + 1, h => by
    have ih := cntTo_congr k (fun i hi => h i (by omega))
    unfold cntTo
    rw [ih, h k (by omega)]

theorem cntTo_or {p q s : Nat → Bool} : ∀ k, (∀ i, i < k → ((s i = (p i || q i)) ∧ (p i && q i) = false)) → cntTo s k = cntTo p k + cntTo q k
  | 0, _ => rfl
  | k + 1, h => by
    have ih := cntTo_or k (fun i hi => h i (by omega))
    obtain ⟨h1, h2⟩ := h k (by omega)
    unfold cntTo
    rw [ih, h1]
    cases hp : p k <;> cases hq : q k <;> rw [hp, hq] at h2 <;> simp at h2 ⊢ <;> omega

theorem cntTo_one (h : Nat) : ∀ k, cntTo (fun i => decide (i = h)) k = if h < k then 1 else 0
  | 0 => rfl
  | k + 1 => by
    have ih := cntTo_one h k
    unfold cntTo
    rw [ih]
    by_cases e : k = h
    · subst e
      simp
    · have e1 : (if decide (k = h) = true then 1 else 0) = 0 := if_neg (by simpa using e)
      rw [e1]
      by_cases hk : h < k
      · rw [if_pos hk, if_pos (by omega)]
      · rw [if_neg hk, if_neg (by omega)]

theorem cntTo_mono {p q : Nat → Bool} : ∀ k, (∀ i, i < k → p i = true → q i = true) → cntTo p k ≤ cntTo q k
  | 0, _ => Nat.le_refl _
  | k + 1, h => by
    have ih := cntTo_mono k (fun i hi => h i (by omega))
    have hk := h k (by omega)
    unfold cntTo
    cases hp : p k
    · simp; omega
    · rw [hk hp]; simp; omega

theorem cntTo_pos {p : Nat → Bool} {x : Nat} : ∀ k, x < k → p x = true → 0 < cntTo p k
  | 0, h, _ => by omega
  | k + 1, h, hp => by
    unfold cntTo
    by_cases e : x = k
    · subst e; rw [hp]; simp
    · have := cntTo_pos k (by omega) hp
      omega

/-- m tells by number the least number of its set. -/
structure Norm (n : Nat) (m : Nat → Nat) : Prop where
  le : ∀ x, x < n → m x ≤ x
  idem : ∀ x, x < n → m (m x) = m x

theorem Norm.lt {n : Nat} {m : Nat → Nat} (h : Norm n m) {x : Nat} (hx : x < n) : m x < n := by
  have := h.le x hx
  omega

def cnt (n : Nat) (m : Nat → Nat) : Nat := cntTo (fun i => decide (m i = i)) n
def size (n : Nat) (m : Nat → Nat) (a : Nat) : Nat := cntTo (fun i => decide (m i = m a)) n
def join (m : Nat → Nat) (a b : Nat) : Nat → Nat := fun x => if m x = max (m a) (m b) then min (m a) (m b) else m x

theorem join_comm (m : Nat → Nat) (a b : Nat) : join m a b = join m b a := by
  funext x
  unfold join
  rw [Nat.max_comm, Nat.min_comm]

theorem norm_id (n : Nat) : Norm n (fun x => x) := ⟨fun _ _ => Nat.le_refl _, fun _ _ => rfl⟩

theorem cnt_id (n : Nat) : cnt n (fun x => x) = n := by
  unfold cnt
  induction n with
  | zero => rfl
  | succ n ih => unfold cntTo; rw [ih]; simp

theorem size_id {n a : Nat} (h : a < n) : size n (fun x => x) a = 1 := by
  unfold size
  rw [cntTo_one, if_pos h]

theorem cnt_le (n : Nat) (m : Nat → Nat) : cnt n m ≤ n := cntTo_le _ _
theorem size_le (n : Nat) (m : Nat → Nat) (a : Nat) : size n m a ≤ n := cntTo_le _ _
theorem size_pos {n : Nat} {m : Nat → Nat} {a : Nat} (h : a < n) : 0 < size n m a := cntTo_pos n h (by simp)

section
variable {n : Nat} {m : Nat → Nat} {a b : Nat}
theorem join_cases (h : Norm n m) (ha : a < n) (hb : b < n) (hne : m a ≠ m b) : ∃ lo hi, lo < hi ∧ hi < n ∧ m lo = lo ∧ m hi = hi ∧ ((lo = m a ∧ hi = m b) ∨ (lo = m b ∧ hi = m a)) ∧ ∀ x, join m a b x = if m x = hi then lo else m x := by
  rcases Nat.lt_or_gt_of_ne hne with hlt | hlt
  · exact ⟨m a, m b, hlt, h.lt hb, h.idem a ha, h.idem b hb, .inl ⟨rfl, rfl⟩, fun x => by unfold join; rw [Nat.max_eq_right (by omega), Nat.min_eq_left (by omega)]⟩
  · exact ⟨m b, m a, hlt, h.lt ha, h.idem b hb, h.idem a ha, .inr ⟨rfl, rfl⟩, fun x => by unfold join; rw [Nat.max_eq_left (by omega), Nat.min_eq_right (by omega)]⟩

theorem Norm.join (h : Norm n m) (ha : a < n) (hb : b < n) (hne : m a ≠ m b) : Norm n (join m a b) := by
  obtain ⟨lo, hi, h1, h2, h3, h4, -, hj⟩ := join_cases h ha hb hne
  refine ⟨fun x hx => ?_, fun x hx => ?_⟩
  · rw [hj]
    have := h.le x hx
    split <;> omega
  · rw [hj x]
    split
    · rw [hj, h3, if_neg (by omega)]
    · rename_i hx'
      rw [hj, h.idem x hx, if_neg hx']

theorem cnt_join (h : Norm n m) (ha : a < n) (hb : b < n) (hne : m a ≠ m b) : cnt n (join m a b) + 1 = cnt n m := by
  obtain ⟨lo, hi, h1, h2, h3, h4, -, hj⟩ := join_cases h ha hb hne
  have e := cntTo_or (p := fun i => decide (join m a b i = i)) (q := fun i => decide (i = hi)) (s := fun i => decide (m i = i)) n (fun i hi' => by
    rw [hj]
    by_cases e : i = hi
    · subst e
      rw [h4, if_pos rfl]
      have : ¬ lo = i := by omega
      simp [this]
    · by_cases e2 : m i = hi
      · rw [if_pos e2, e2]
        have h5 : ¬ hi = i := fun h => e h.symm
        have h6 : ¬ lo = i := fun h => by rw [← h, h3] at e2; omega
        simp [h5, h6, e]
      · rw [if_neg e2]
        simp [e])
  rw [cntTo_one, if_pos h2] at e
  unfold cnt
  omega

theorem join_same (h : Norm n m) (ha : a < n) (hb : b < n) (hne : m a ≠ m b) {x y : Nat} (_ : x < n) (_ : y < n) :
    join m a b x = join m a b y ↔ (m x = m y ∨ ((m x = m a ∨ m x = m b) ∧ (m y = m a ∨ m y = m b))) := by
  obtain ⟨lo, hi, h1, h2, h3, h4, hc, hj⟩ := join_cases h ha hb hne
  rw [hj, hj]
  by_cases ex : m x = hi <;> by_cases ey : m y = hi
  · rw [if_pos ex, if_pos ey]; omega
  · rw [if_pos ex, if_neg ey]; omega
  · rw [if_neg ex, if_pos ey]; omega
  · rw [if_neg ex, if_neg ey]; omega

theorem size_join_in (h : Norm n m) (ha : a < n) (hb : b < n) (hne : m a ≠ m b) {x : Nat} (hx : x < n) (hm : m x = m a ∨ m x = m b) : size n (join m a b) x = size n m a + size n m b := by
  unfold size
  refine cntTo_or n (fun i hi => ?_)
  have := join_same h ha hb hne hi hx
  rw [Bool.eq_iff_iff]
  simp only [decide_eq_true_eq, Bool.or_eq_true, Bool.and_eq_false_iff, decide_eq_false_iff_not, this]
  omega

theorem size_join_out (h : Norm n m) (ha : a < n) (hb : b < n) (hne : m a ≠ m b) {x : Nat} (hx : x < n) (h1 : m x ≠ m a) (h2 : m x ≠ m b) : size n (join m a b) x = size n m x := by
  unfold size
  refine cntTo_congr n (fun i hi => ?_)
  have := join_same h ha hb hne hi hx
  rw [Bool.eq_iff_iff]
  simp only [decide_eq_true_eq, this]
  omega

theorem join_in (h : Norm n m) (ha : a < n) (hb : b < n) (hne : m a ≠ m b) {x : Nat} (hm : m x = m a ∨ m x = m b) : join m a b x = min (m a) (m b) := by
  obtain ⟨lo, hi, h1, h2, h3, h4, hc, hj⟩ := join_cases h ha hb hne
  rw [hj]
  split <;> omega

theorem join_out (h : Norm n m) (ha : a < n) (hb : b < n) (hne : m a ≠ m b) {x : Nat} (h1 : m x ≠ m a) (h2 : m x ≠ m b) : join m a b x = m x := by
  obtain ⟨lo, hi, _, _, _, _, hc, hj⟩ := join_cases h ha hb hne
  rw [hj, if_neg]
  omega
end

/-- Trees that keep the sets m: parents P, sizes S and leasts L of the roots; r: the root; d: how deep at most. -/
structure Forest (n : Nat) (P S L m r d : Nat → Nat) : Prop where
  norm : Norm n m
  lt : ∀ x, x < n → P x < n
  rt : ∀ x, x < n → r x < n
  top : ∀ x, x < n → P (r x) = r x
  up : ∀ x, x < n → r (P x) = r x
  self : ∀ x, x < n → P x = x → r x = x
  deep : ∀ x, x < n → P x ≠ x → d (P x) < d x
  same : ∀ x y, x < n → y < n → (r x = r y ↔ m x = m y)
  sz : ∀ x, x < n → S (r x) = size n m x
  ls : ∀ x, x < n → L (r x) = m x

theorem Forest.rr {n : Nat} {P S L m r d : Nat → Nat} (h : Forest n P S L m r d) {x : Nat} (hx : x < n) : r (r x) = r x := h.self _ (h.rt x hx) (h.top x hx)

theorem forest_id (n : Nat) : Forest n (fun x => x) (fun _ => 1) (fun x => x) (fun x => x) (fun x => x) (fun _ => 0) :=
  ⟨norm_id n, fun _ h => h, fun _ h => h, fun _ _ => rfl, fun _ _ => rfl, fun _ _ _ => rfl, fun _ _ h => absurd rfl h, fun _ _ _ _ => Iff.rfl, fun _ h => (size_id h).symm, fun _ _ => rfl⟩

/-- Function f with y at x. -/
def upd (f : Nat → Nat) (x y : Nat) : Nat → Nat := fun i => if i = x then y else f i
theorem upd_same (f : Nat → Nat) (x y : Nat) : upd f x y x = y := by simp [upd]
theorem upd_other (f : Nat → Nat) {x y i : Nat} (h : i ≠ x) : upd f x y i = f i := by simp [upd, h]

/-- The tree of b is hung below that of a. -/
theorem Forest.hang {n : Nat} {P S L m r d : Nat → Nat} (h : Forest n P S L m r d) {a b : Nat} (ha : a < n) (hb : b < n) (hne : r a ≠ r b) :
    ∃ r' d', Forest n (upd P (r b) (r a)) (upd S (r a) (S (r a) + S (r b))) (upd L (r a) (min (L (r a)) (L (r b)))) (join m a b) r' d' := by
  have hm : m a ≠ m b := fun e => hne ((h.same a b ha hb).2 e)
  have hA := h.rt a ha
  have hB := h.rt b hb
  have hrA := h.rr ha
  have hrB := h.rr hb
  have hkey : ∀ x, x < n → (r x = r a ↔ m x = m a) ∧ (r x = r b ↔ m x = m b) := fun x hx => ⟨h.same x a hx ha, h.same x b hx hb⟩
  refine ⟨fun x => if r x = r b then r a else r x, fun x => if r x = r b then d x + d (r a) + 1 else d x, h.norm.join ha hb hm, fun x hx => ?_, fun x hx => ?_, fun x hx => ?_, fun x hx => ?_, fun x hx hp => ?_, fun x hx hp => ?_, fun x y hx hy => ?_, fun x hx => ?_, fun x hx => ?_⟩
  · unfold upd
    split
    · exact hA
    · exact h.lt x hx
  · split
    · exact hA
    · exact h.rt x hx
  · split
    · rw [upd_other _ hne]; exact h.top a ha
    · rename_i e
      rw [upd_other _ e]
      exact h.top x hx
  · by_cases e : x = r b
    · subst e
      rw [upd_same, hrA, hrB, if_neg hne, if_pos rfl]
    · rw [upd_other _ e, h.up x hx]
  · by_cases e : x = r b
    · subst e
      rw [upd_same] at hp
      exact absurd hp hne
    · rw [upd_other _ e] at hp
      have := h.self x hx hp
      rw [if_neg (by rw [this]; exact e)]
      exact this
  · by_cases e : x = r b
    · subst e
      rw [upd_same, hrA, hrB, if_neg hne, if_pos rfl]
      omega
    · rw [upd_other _ e] at hp ⊢
      have := h.deep x hx hp
      rw [h.up x hx]
      split <;> omega
  · rw [join_same h.norm ha hb hm hx hy]
    obtain ⟨k1, k2⟩ := hkey x hx
    obtain ⟨k3, k4⟩ := hkey y hy
    have k5 := h.same x y hx hy
    rw [← k1, ← k2, ← k3, ← k4, ← k5]
    by_cases ex : r x = r b <;> by_cases ey : r y = r b
    · rw [if_pos ex, if_pos ey]; omega
    · rw [if_pos ex, if_neg ey]; omega
    · rw [if_neg ex, if_pos ey]; omega
    · rw [if_neg ex, if_neg ey]; omega
  · obtain ⟨k1, k2⟩ := hkey x hx
    by_cases ex : r x = r b
    · rw [if_pos ex, upd_same, size_join_in h.norm ha hb hm hx (.inr (k2.1 ex)), h.sz a ha, h.sz b hb]
    · rw [if_neg ex]
      by_cases ea : r x = r a
      · rw [ea, upd_same, size_join_in h.norm ha hb hm hx (.inl (k1.1 ea)), h.sz a ha, h.sz b hb]
      · rw [upd_other _ ea, h.sz x hx, size_join_out h.norm ha hb hm hx (fun e => ea (k1.2 e)) (fun e => ex (k2.2 e))]
  · obtain ⟨k1, k2⟩ := hkey x hx
    by_cases ex : r x = r b
    · rw [if_pos ex, upd_same, join_in h.norm ha hb hm (.inr (k2.1 ex)), h.ls a ha, h.ls b hb]
    · rw [if_neg ex]
      by_cases ea : r x = r a
      · rw [ea, upd_same, join_in h.norm ha hb hm (.inl (k1.1 ea)), h.ls a ha, h.ls b hb]
      · rw [upd_other _ ea, h.ls x hx, join_out h.norm ha hb hm (fun e => ea (k1.2 e)) (fun e => ex (k2.2 e))]

/-- A pair of numbers below n. -/
def isIn (n : Nat) (x : Int) : Prop := 0 ≤ x ∧ x < (n : Int)
instance (n : Nat) (x : Int) : Decidable (isIn n x) := inferInstanceAs (Decidable (_ ∧ _))

/-- Two numbers, in two sets? -/
def apart (n : Nat) (m : Nat → Nat) (a b : Int) : Bool := decide (isIn n a ∧ isIn n b ∧ m a.toNat ≠ m b.toNat)
/-- What Join makes, of any two ints. -/
def joinI (n : Nat) (m : Nat → Nat) (a b : Int) : Nat → Nat := if apart n m a b then join m a.toNat b.toNat else m
def leastI (n : Nat) (m : Nat → Nat) (a : Int) : Int := if isIn n a then (m a.toNat : Int) else -1
def sizeI (n : Nat) (m : Nat → Nat) (a : Int) : Int := if isIn n a then (size n m a.toNat : Int) else 0
def sameI (n : Nat) (m : Nat → Nat) (a b : Int) : Bool := decide (isIn n a ∧ isIn n b ∧ m a.toNat = m b.toNat)

theorem apart_iff {n : Nat} {m : Nat → Nat} {a b : Int} : apart n m a b = true ↔ (isIn n a ∧ isIn n b ∧ m a.toNat ≠ m b.toNat) := by unfold apart; exact decide_eq_true_iff

theorem isIn_lt {n : Nat} {x : Int} (h : isIn n x) : x.toNat < n := by unfold isIn at h; omega

theorem Norm.joinI {n : Nat} {m : Nat → Nat} (h : Norm n m) (a b : Int) : Norm n (joinI n m a b) := by
  unfold Co.joinI
  split
  · rename_i e
    obtain ⟨h1, h2, h3⟩ := apart_iff.1 e
    exact h.join (isIn_lt h1) (isIn_lt h2) h3
  · exact h

/-- All joins of a list, one behind the other. -/
def joins (n : Nat) (js : List (Int × Int)) (m : Nat → Nat) : Nat → Nat := js.foldl (fun m j => joinI n m j.1 j.2) m
theorem joins_snoc (n : Nat) (js : List (Int × Int)) (j : Int × Int) (m : Nat → Nat) : joins n (js ++ [j]) m = joinI n (joins n js m) j.1 j.2 := by simp [joins, List.foldl_append]
theorem Norm.joins {n : Nat} : ∀ (js : List (Int × Int)) {m : Nat → Nat}, Norm n m → Norm n (joins n js m)
  | [], _, h => h
  | j :: js, _, h => Norm.joins js (h.joinI j.1 j.2)

/-- f is one on each of these pairs (those of numbers below n). -/
def Meets (n : Nat) (js : List (Int × Int)) (f : Nat → Nat) : Prop := ∀ j ∈ js, isIn n j.1 → isIn n j.2 → f j.1.toNat = f j.2.toNat

/-- m is what these pairs make, and nothing more. -/
structure Gen (n : Nat) (js : List (Int × Int)) (m : Nat → Nat) : Prop where
  norm : Norm n m
  meets : Meets n js m
  least : ∀ f : Nat → Nat, Meets n js f → ∀ x, x < n → f (m x) = f x

theorem Gen.id (n : Nat) : Gen n [] (fun x => x) := ⟨norm_id n, (fun _ h => by cases h), fun _ _ _ _ => rfl⟩

theorem Gen.keep {n : Nat} {js : List (Int × Int)} {m : Nat → Nat} (h : Gen n js m) {j : Int × Int} (hj : ¬ (isIn n j.1 ∧ isIn n j.2 ∧ m j.1.toNat ≠ m j.2.toNat)) : Gen n (js ++ [j]) m := by
  refine ⟨h.norm, fun k hk h1 h2 => ?_, fun f hf => h.least f (fun k hk => hf k (List.mem_append_left _ hk))⟩
  rcases List.mem_append.1 hk with hk | hk
  · exact h.meets k hk h1 h2
  · obtain rfl := List.mem_singleton.1 hk
    exact Decidable.byContradiction fun e => hj ⟨h1, h2, e⟩

theorem Gen.join {n : Nat} {js : List (Int × Int)} {m : Nat → Nat} (h : Gen n js m) {j : Int × Int} (h1 : isIn n j.1) (h2 : isIn n j.2) (h3 : m j.1.toNat ≠ m j.2.toNat) : Gen n (js ++ [j]) (join m j.1.toNat j.2.toNat) := by
  have ha := isIn_lt h1
  have hb := isIn_lt h2
  refine ⟨h.norm.join ha hb h3, fun k hk k1 k2 => ?_, fun f hf x hx => ?_⟩
  · rcases List.mem_append.1 hk with hk | hk
    · exact (join_same h.norm ha hb h3 (isIn_lt k1) (isIn_lt k2)).2 (.inl (h.meets k hk k1 k2))
    · obtain rfl := List.mem_singleton.1 hk
      exact (join_same h.norm ha hb h3 (isIn_lt k1) (isIn_lt k2)).2 (.inr ⟨.inl rfl, .inr rfl⟩)
  · have hf' : Meets n js f := fun k hk => hf k (List.mem_append_left _ hk)
    have hj := hf j (List.mem_append_right _ (List.mem_singleton_self _)) h1 h2
    have ea := h.least f hf' _ ha
    have eb := h.least f hf' _ hb
    have ex := h.least f hf' x hx
    obtain ⟨lo, hi, _, _, _, _, hc, hjj⟩ := join_cases h.norm ha hb h3
    rw [hjj]
    split
    · rename_i e
      rcases hc with ⟨e1, e2⟩ | ⟨e1, e2⟩
      · rw [e1, ea, hj, ← eb, ← e2, ← e, ex]
      · rw [e1, eb, ← hj, ← ea, ← e2, ← e, ex]
    · exact ex

theorem Gen.joinI {n : Nat} {js : List (Int × Int)} {m : Nat → Nat} (h : Gen n js m) (j : Int × Int) : Gen n (js ++ [j]) (joinI n m j.1 j.2) := by
  unfold Co.joinI
  split
  · rename_i e
    obtain ⟨h1, h2, h3⟩ := apart_iff.1 e
    exact h.join h1 h2 h3
  · rename_i e
    exact h.keep (fun h => e (apart_iff.2 h))

theorem gen_joins (n : Nat) (js : List (Int × Int)) : Gen n js (joins n js (fun x => x)) := by
  suffices h : ∀ (ks js : List (Int × Int)) (m : Nat → Nat), Gen n js m → Gen n (js ++ ks) (joins n ks m) by simpa using h js [] _ (Gen.id n)
  intro ks
  induction ks with
  | nil => intro js m h; rw [List.append_nil]; exact h
  | cons k ks ih =>
    intro js m h
    have := ih _ _ (h.joinI k)
    rw [List.append_assoc] at this
    exact this

/-- Pairs that say the same make the same sets. -/
theorem Gen.unique {n : Nat} {js ks : List (Int × Int)} {m k : Nat → Nat} (h : Gen n js m) (g : Gen n ks k) (h1 : Meets n js k) (h2 : Meets n ks m) {x : Nat} (hx : x < n) : m x = k x := by
  have e1 := h.least k h1 x hx
  have e2 := g.least m h2 x hx
  have l1 := h.norm.le x hx
  have l2 := g.norm.le x hx
  have l3 := h.norm.le (k x) (by omega)
  have l4 := g.norm.le (m x) (by omega)
  omega

end Co
end Go.Proofs.Ytdhaaodalchpkaa

/-
  Layer 15, pure: what is so of each chain in its place (for the laws that look at chains without the document's answer).
-/
namespace Go.Proofs.Ytdhaaodalchpkaa

namespace Ku
theorem cnt_put {f : Nat → Bool} {x k : Nat} (h : f x = false) (hx : x < k) : Co.cntTo (Co.updB f x true) k = Co.cntTo f k + 1 := by
  have := Co.cntTo_or (p := f) (q := fun i => decide (i = x)) (s := Co.updB f x true) k fun i _ => by
    unfold Co.updB
    by_cases e : i = x
    · subst e
      simp [h]
    · simp [e]
  rw [this, Co.cntTo_one, if_pos hx]
theorem cnt_full {f : Nat → Bool} : ∀ {k : Nat}, (∀ x, x < k → f x = true) → Co.cntTo f k = k
  | 0, _ => rfl
  | k + 1, h => by
    unfold Co.cntTo
    rw [cnt_full fun x hx => h x (by omega), if_pos (h k (by omega))]
theorem cnt_none {f : Nat → Bool} : ∀ {k : Nat}, (∀ x, x < k → f x = false) → Co.cntTo f k = 0
  | 0, _ => rfl
  | k + 1, h => by
    unfold Co.cntTo
    rw [cnt_none fun x hx => h x (by omega), if_neg (by rw [h k (by omega)]; decide)]

section
variable {es : List (Int × Int)} {n : Int} {hv : Si.Val n es}
/-- The edge that a half-edge belongs to. -/
theorem half_es (hv : Si.Val n es) {h : Nat} (hh : h < 2 * es.length) : (Cs.fr es h < Cs.to es h ∧ es[h / 2]? = some ((Cs.fr es h : Int), (Cs.to es h : Int))) ∨ (Cs.to es h < Cs.fr es h ∧ es[h / 2]? = some ((Cs.to es h : Int), (Cs.fr es h : Int))) := by
  obtain ⟨p, hp⟩ : ∃ p, es[h / 2]? = some p := ⟨_, List.getElem?_eq_getElem (by omega)⟩
  have hok := hv.each _ p hp
  unfold Si.ok at hok
  obtain ⟨p1, p2⟩ := p
  dsimp only at hok
  rcases Nat.mod_two_eq_zero_or_one h with e | e
  · have h1 := Cs.fr_even hp
    rw [show 2 * (h / 2) = h by omega] at h1
    refine .inl ⟨by rw [h1.1, h1.2]; dsimp only; omega, ?_⟩
    rw [hp, h1.1, h1.2]
    dsimp only
    congr 2 <;> omega
  · have h1 := Cs.fr_odd hp
    rw [show 2 * (h / 2) + 1 = h by omega] at h1
    refine .inr ⟨by rw [h1.1, h1.2]; dsimp only; omega, ?_⟩
    rw [hp, h1.1, h1.2]
    dsimp only
    congr 2 <;> omega

theorem first_unique {e e' : Nat} (he : e < es.length) (he' : e' < es.length) (h : First es hv e) (h' : First es hv e') (hc : ch es hv e = ch es hv e') : e = e' := by
  have a1 := h e' (by rw [hc]; exact (ch_ok he').2)
  have a2 := h' e (by rw [← hc]; exact (ch_ok he).2)
  omega
/-- The t-th chain. -/
theorem chs_nth : ∀ {k : Nat}, k ≤ es.length → ∀ {t : Nat} {l : List Nat}, (chs es hv k)[t]? = some l → ∃ e, e < k ∧ First es hv e ∧ l = ch es hv e ∧ (chs es hv k).take t = chs es hv e
  | 0, _, t, l, h => by simp [chs] at h
  | k + 1, hk, t, l, h => by
    by_cases hf : First es hv k
    · rw [chs_yes hf] at h ⊢
      by_cases ht : t < (chs es hv k).length
      · rw [List.getElem?_append_left ht] at h
        obtain ⟨e, h1, h2, h3, h4⟩ := chs_nth (by omega) h
        refine ⟨e, by omega, h2, h3, ?_⟩
        rw [List.take_append_of_le_length (by omega)]
        exact h4
      · rw [List.getElem?_append_right (by omega)] at h
        have h0 : t - (chs es hv k).length = 0 := by
          have := (List.getElem?_eq_some_iff.1 h).1
          simp at this
          omega
        rw [h0] at h
        cases h
        refine ⟨k, by omega, hf, rfl, ?_⟩
        rw [List.take_append_of_le_length (by omega), List.take_of_length_le (by omega)]
    · rw [chs_no hf] at h ⊢
      obtain ⟨e, h1, h2, h3, h4⟩ := chs_nth (by omega) h
      exact ⟨e, by omega, h2, h3, h4⟩
theorem chs_rise {t e e' : Nat} {l l' : List Nat} (h : (chs es hv es.length)[t]? = some l) (h' : (chs es hv es.length)[t + 1]? = some l') (he : e < es.length) (he' : e' < es.length) (hf : First es hv e) (hf' : First es hv e') (hl : l = ch es hv e) (hl' : l' = ch es hv e') : e < e' := by
  obtain ⟨e2, a1, a2, a3, a4⟩ := chs_nth (Nat.le_refl _) h'
  obtain rfl := first_unique a1 he' a2 hf' (a3 ▸ hl')
  have hm : l ∈ (chs es hv es.length).take (t + 1) := by
    refine List.mem_of_getElem? (i := t) ?_
    rw [List.getElem?_take_of_lt (by omega)]
    exact h
  rw [a4] at hm
  obtain ⟨e3, b1, b2, b3⟩ := mem_chs.1 hm
  obtain rfl := first_unique he (by omega) hf b2 (hl ▸ b3)
  exact b1
theorem all_seen {x : Nat} (hx : x < es.length) : ∃ l ∈ chs es hv es.length, By l x := by
  obtain ⟨e0, h1, h2, h3⟩ := first_of (hv := hv) hx
  exact ⟨_, mem_chs.2 ⟨e0, by omega, h2, rfl⟩, h3⟩

/-- The vertices of a chain, by its half-edges. -/
theorem vs_fr {l : List Nat} (c : Cn (gs es hv) l) {i x : Nat} (h : l[i]? = some x) : (ZL (vs (gs es hv) l))[i]? = some (Cs.fr es x : Int) ∧ (ZL (vs (gs es hv) l))[i + 1]? = some (Cs.to es x : Int) := by
  have hi := (List.getElem?_eq_some_iff.1 h).1
  refine ⟨?_, ?_⟩
  · rw [ZL_at, vs_at c.tr hi, h]
    rfl
  · rw [ZL_at, vs_succ, h]
    show some (((gs es hv).to x : Nat) : Int) = _
    rw [gs_to]
theorem inner_two {l : List Nat} (c : Cn (gs es hv) l) {i x : Nat} (h : l[i]? = some x) (hi : i + 1 < l.length) : dg es (Cs.to es x) = 2 := by
  obtain ⟨y, hy⟩ : ∃ y, l[i + 1]? = some y := ⟨_, List.getElem?_eq_getElem hi⟩
  have hn : nxt es x = some y := c.tr i x y h hy
  refine Classical.byContradiction fun hc => ?_
  have := (nxt_none (c.lt x (List.mem_of_getElem? h))).2 hc
  rw [hn] at this
  cases this
theorem once {l : List Nat} (c : Cn (gs es hv) l) {i j x y : Nat} (hij : i < j) (hx : l[i]? = some x) (hy : l[j]? = some y) : x / 2 ≠ y / 2 :=
  trail_once c.tr c.nd0 half_two hij hx hy

/-- What stands at a chain's ends. -/
theorem chain_ends {l : List Nat} (c : Cn (gs es hv) l) {a b : Int} (ha : gI (ZL (vs (gs es hv) l)) 0 = a) (hb : gI (ZL (vs (gs es hv) l)) l.length = b) :
    0 ≤ a ∧ 0 ≤ b ∧ a ≤ b ∧ (a = b → 3 ≤ l.length ∧ gI (ZL (vs (gs es hv) l)) 1 < gI (ZL (vs (gs es hv) l)) (l.length - 1)) ∧ (a ≠ b → dg es a.toNat ≠ 2 ∧ dg es b.toNat ≠ 2) ∧ (a = b → dg es a.toNat = 2 → ∀ i, i ≤ l.length → a ≤ gI (ZL (vs (gs es hv) l)) i) := by
  have hp := pos_of c.ne
  have hlen := vs_length (S := gs es hv) c.ne
  have hup := c.up
  unfold Up at hup
  rw [hlen, Nat.add_sub_cancel, show l.length + 1 - 2 = l.length - 1 by omega] at hup
  rw [gI_ZL] at ha hb
  subst ha hb
  simp only [gI_ZL]
  obtain ⟨x, hx⟩ : ∃ x, l[0]? = some x := ⟨_, List.getElem?_eq_getElem hp⟩
  obtain ⟨y, hy⟩ : ∃ y, l[l.length - 1]? = some y := ⟨_, List.getElem?_eq_getElem (by omega)⟩
  have ex : at_ (vs (gs es hv) l) 0 = Cs.fr es x := vs_first hx
  have ey : at_ (vs (gs es hv) l) l.length = Cs.to es y := by
    refine at_some ?_
    rw [show l.length = (l.length - 1) + 1 by omega, vs_succ, hy]
    show some ((gs es hv).to y) = _
    rw [gs_to]
  have hxl : x < 2 * es.length := c.lt x (List.mem_of_getElem? hx)
  have hyl : y < 2 * es.length := c.lt y (List.mem_of_getElem? hy)
  have hopn : Opn (gs es hv).toSys l → dg es (at_ (vs (gs es hv) l) 0) ≠ 2 ∧ dg es (at_ (vs (gs es hv) l) l.length) ≠ 2 := fun o => by
    have h1 : nxt es (Cs.twin x) = none := o.fst x hx
    have h2 : nxt es y = none := o.lst y hy
    rw [nxt_none (Cs.twin_lt hxl), Cs.to_twin] at h1
    rw [nxt_none hyl] at h2
    rw [ex, ey]
    exact ⟨h1, h2⟩
  refine ⟨by omega, by omega, by omega, fun e => ?_, fun e => ?_, fun e hd i hi => ?_⟩
  · have h1 : at_ (vs (gs es hv) l) 1 < at_ (vs (gs es hv) l) (l.length - 1) := by omega
    refine ⟨?_, by omega⟩
    refine Classical.byContradiction fun hc => ?_
    have h12 : l.length = 1 ∨ l.length = 2 := by omega
    rcases h12 with h' | h'
    · rw [h'] at h1 e
      simp at h1 e
      omega
    · rw [h'] at h1
      simp at h1
  · rcases c.kind with o | ⟨o, _⟩
    · rw [Int.toNat_natCast, Int.toNat_natCast]
      exact hopn o
    · exact absurd (by rw [o.vs_last]) e
  · rcases c.kind with o | ⟨o, hm⟩
    · rw [Int.toNat_natCast] at hd
      exact absurd hd (hopn o).1
    · by_cases hi' : i < l.length
      · obtain ⟨z, hz⟩ : ∃ z, l[i]? = some z := ⟨_, List.getElem?_eq_getElem hi'⟩
        have h1 := hm z (List.mem_of_getElem? hz)
        have h2 : at_ (vs (gs es hv) l) i = (gs es hv).fr z := at_some (by rw [vs_at c.tr hi', hz]; rfl)
        rw [h2]
        omega
      · obtain rfl : i = l.length := by omega
        rw [o.vs_last]
        exact Int.le_refl _
end
end Ku
end Go.Proofs.Ytdhaaodalchpkaa
