import Init
/-
  Sums of Booleans (parities), pure.
-/
namespace Go.Proofs.Ytfkmldopfhdbkaa
namespace Pl

/-- The parity of how many below n have f. -/
def px : Nat → (Nat → Bool) → Bool
  | 0, _ => false
  | n + 1, f => px n f ^^ f n

theorem px_congr : ∀ {n : Nat} {f g : Nat → Bool}, (∀ i, i < n → f i = g i) → px n f = px n g
  | 0, _, _, _ => rfl
  | n + 1, f, g, h => by
    unfold px
    rw [px_congr (n := n) (fun i hi => h i (by omega)), h n (by omega)]

theorem px_xor (f g : Nat → Bool) : ∀ n : Nat, px n (fun i => f i ^^ g i) = (px n f ^^ px n g)
  | 0 => rfl
  | n + 1 => by
    show (px n (fun i => f i ^^ g i) ^^ (f n ^^ g n)) = ((px n f ^^ f n) ^^ (px n g ^^ g n))
    rw [px_xor f g n]
    cases px n f <;> cases px n g <;> cases f n <;> cases g n <;> rfl

theorem px_zero {n : Nat} {f : Nat → Bool} (h : ∀ i, i < n → f i = false) : px n f = false := by
  induction n with
  | zero => rfl
  | succ n ih =>
    unfold px
    rw [ih (fun i hi => h i (by omega)), h n (by omega)]
    rfl

theorem px_and (c : Bool) (f : Nat → Bool) (n : Nat) : px n (fun i => c && f i) = (c && px n f) := by
  cases c with
  | false => exact px_zero fun _ _ => rfl
  | true => exact px_congr fun _ _ => rfl
theorem px_and' (c : Bool) (f : Nat → Bool) (n : Nat) : px n (fun i => f i && c) = (px n f && c) := by
  rw [Bool.and_comm, ← px_and]
  exact px_congr fun _ _ => Bool.and_comm _ _

theorem px_single {n k : Nat} {f : Nat → Bool} (hk : k < n) (h : ∀ i, i < n → i ≠ k → f i = false) : px n f = f k := by
  induction n with
  | zero => omega
  | succ n ih =>
    unfold px
    by_cases e : k = n
    · subst e
      rw [px_zero (fun i hi => h i (by omega) (by omega))]
      cases f k <;> rfl
    · rw [ih (by omega) (fun i hi => h i (by omega)), h n (by omega) (by omega)]
      cases f k <;> rfl

theorem px_pick {n k : Nat} (f : Nat → Bool) (hk : k < n) : px n (fun i => decide (i = k) && f i) = f k := by
  rw [px_single hk (fun i _ hne => by rw [decide_eq_false hne]; rfl)]
  simp

theorem px_swap (f : Nat → Nat → Bool) : ∀ (n m : Nat), px n (fun i => px m (fun j => f i j)) = px m (fun j => px n (fun i => f i j))
  | 0, m => (px_zero fun _ _ => rfl).symm
  | n + 1, m => by
    show (px n (fun i => px m (fun j => f i j)) ^^ px m (fun j => f n j)) = px m (fun j => px n (fun i => f i j) ^^ f n j)
    rw [px_xor, px_swap f n m]

/-- Numbers told again by an injection: the sum over the image. -/
theorem px_push {n m : Nat} {s : Nat → Nat} (hs : ∀ i, i < n → s i < m) (a g : Nat → Bool) : px m (fun e => px n (fun i => a i && decide (s i = e)) && g e) = px n (fun i => a i && g (s i)) := by
  have e1 : px m (fun e => px n (fun i => a i && decide (s i = e)) && g e) = px m (fun e => px n (fun i => a i && (decide (s i = e) && g e))) := px_congr fun e _ => by
    rw [← px_and']
    exact px_congr fun i _ => Bool.and_assoc _ _ _
  rw [e1, px_swap]
  refine px_congr fun i hi => ?_
  rw [px_and, px_single (hs i hi) (fun e _ hne => by rw [decide_eq_false (fun h => hne h.symm)]; rfl)]
  simp

/-- The form of a matrix. -/
def fm (m : Nat) (W : Nat → Nat → Bool) (a b : Nat → Bool) : Bool := px m fun e => px m fun f => a e && (b f && W e f)

theorem fm_congr {m : Nat} {W W' : Nat → Nat → Bool} {a a' b b' : Nat → Bool} (ha : ∀ e, e < m → a e = a' e) (hb : ∀ e, e < m → b e = b' e) (hW : ∀ e f, e < m → f < m → a e = true → b f = true → W e f = W' e f) : fm m W a b = fm m W' a' b' :=
  px_congr fun e he => px_congr fun f hf => by
    rw [← ha e he, ← hb f hf]
    cases h1 : a e with
    | false => rfl
    | true =>
      cases h2 : b f with
      | false => rfl
      | true => rw [hW e f he hf h1 h2]

theorem fm_addW {m : Nat} (W W' : Nat → Nat → Bool) (a b : Nat → Bool) : fm m (fun e f => W e f ^^ W' e f) a b = (fm m W a b ^^ fm m W' a b) := by
  unfold fm
  rw [← px_xor]
  refine px_congr fun e _ => ?_
  rw [← px_xor]
  refine px_congr fun f _ => ?_
  dsimp only
  cases a e <;> cases b f <;> cases W e f <;> cases W' e f <;> rfl

theorem fm_addL {m : Nat} (W : Nat → Nat → Bool) (a a' b : Nat → Bool) : fm m W (fun e => a e ^^ a' e) b = (fm m W a b ^^ fm m W a' b) := by
  unfold fm
  rw [← px_xor]
  refine px_congr fun e _ => ?_
  rw [← px_xor]
  refine px_congr fun f _ => ?_
  dsimp only
  cases a e <;> cases a' e <;> cases b f <;> cases W e f <;> rfl

theorem fm_addR {m : Nat} (W : Nat → Nat → Bool) (a b b' : Nat → Bool) : fm m W a (fun e => b e ^^ b' e) = (fm m W a b ^^ fm m W a b') := by
  unfold fm
  rw [← px_xor]
  refine px_congr fun e _ => ?_
  rw [← px_xor]
  refine px_congr fun f _ => ?_
  dsimp only
  cases a e <;> cases b f <;> cases b' f <;> cases W e f <;> rfl

theorem fm_zeroL {m : Nat} {W : Nat → Nat → Bool} {a b : Nat → Bool} (h : ∀ e, e < m → a e = false) : fm m W a b = false :=
  px_zero fun e he => px_zero fun f _ => by rw [h e he]; rfl
theorem fm_zeroR {m : Nat} {W : Nat → Nat → Bool} {a b : Nat → Bool} (h : ∀ e, e < m → b e = false) : fm m W a b = false :=
  px_zero fun e _ => px_zero fun f hf => by rw [h f hf]; simp

/-- A matrix of rank one. -/
theorem fm_one {m : Nat} (u t a b : Nat → Bool) : fm m (fun e f => u e && t f) a b = (px m (fun e => a e && u e) && px m (fun f => b f && t f)) := by
  unfold fm
  rw [← px_and']
  refine px_congr fun e _ => ?_
  rw [← px_and]
  refine px_congr fun f _ => ?_
  dsimp only
  cases a e <;> cases b f <;> cases u e <;> cases t f <;> rfl

/-- Sums of matrices, of sets. -/
theorem fm_sumW {m : Nat} (W : Nat → Nat → Nat → Bool) (a b : Nat → Bool) : ∀ n : Nat, fm m (fun e f => px n (fun v => W v e f)) a b = px n (fun v => fm m (W v) a b)
  | 0 => px_zero fun e _ => px_zero fun f _ => by simp [px]
  | n + 1 => by
    show fm m (fun e f => px n (fun v => W v e f) ^^ W n e f) a b = (px n (fun v => fm m (W v) a b) ^^ fm m (W n) a b)
    rw [fm_addW, fm_sumW W a b n]
theorem fm_sumL {m : Nat} (W : Nat → Nat → Bool) (a : Nat → Nat → Bool) (b : Nat → Bool) : ∀ n : Nat, fm m W (fun e => px n (fun v => a v e)) b = px n (fun v => fm m W (a v) b)
  | 0 => fm_zeroL fun _ _ => rfl
  | n + 1 => by
    show fm m W (fun e => px n (fun v => a v e) ^^ a n e) b = (px n (fun v => fm m W (a v) b) ^^ fm m W (a n) b)
    rw [fm_addL, fm_sumL W a b n]
theorem fm_sumR {m : Nat} (W : Nat → Nat → Bool) (a : Nat → Bool) (b : Nat → Nat → Bool) : ∀ n : Nat, fm m W a (fun e => px n (fun v => b v e)) = px n (fun v => fm m W a (b v))
  | 0 => fm_zeroR fun _ _ => rfl
  | n + 1 => by
    show fm m W a (fun e => px n (fun v => b v e) ^^ b n e) = (px n (fun v => fm m W a (b v)) ^^ fm m W a (b n))
    rw [fm_addR, fm_sumR W a b n]

end Pl
end Go.Proofs.Ytfkmldopfhdbkaa

/-
  More vectors than places depend on one another; orbits of a permutation. Pure.
-/
namespace Go.Proofs.Ytfkmldopfhdbkaa
namespace Pl

theorem px_skip (g : Nat → Bool) : ∀ (k x : Nat), x < k + 1 → px (k + 1) g = (px k (fun i => g (if i < x then i else i + 1)) ^^ g x)
  | 0, x, hx => by
    have : x = 0 := by omega
    subst this
    rfl
  | k + 1, x, hx => by
    show (px (k + 1) g ^^ g (k + 1)) = ((px k (fun i => g (if i < x then i else i + 1)) ^^ g (if k < x then k else k + 1)) ^^ g x)
    by_cases e : x = k + 1
    · subst e
      rw [if_pos (by omega)]
      have : px k (fun i => g (if i < k + 1 then i else i + 1)) = px k g := px_congr fun i hi => by rw [if_pos (by omega)]
      rw [this]
      rfl
    · rw [px_skip g k x (by omega), if_neg (by omega)]
      generalize px k (fun i => g (if i < x then i else i + 1)) = A
      cases A <;> cases g x <;> cases g (k + 1) <;> rfl

/-- More rows than columns: some of them add up to nothing. -/
theorem rank : ∀ (f k : Nat) (M : Nat → Nat → Bool), f < k → ∃ l : Nat → Bool, (∃ i, i < k ∧ l i = true) ∧ ∀ j, j < f → px k (fun i => l i && M i j) = false
  | 0, k, M, hk => ⟨fun _ => true, ⟨0, hk, rfl⟩, fun j hj => by omega⟩
  | f + 1, k, M, hk => by
    by_cases h0 : ∀ i, i < k → M i f = false
    · obtain ⟨l, h1, h2⟩ := rank f k M (by omega)
      refine ⟨l, h1, fun j hj => ?_⟩
      by_cases e : j = f
      · subst e
        exact px_zero fun i hi => by rw [h0 i hi]; simp
      · exact h2 j (by omega)
    · have h0' : ∃ x, x < k ∧ M x f = true := Classical.byContradiction fun hn => h0 fun i hi => by
        cases h : M i f with
        | false => rfl
        | true => exact absurd ⟨i, hi, h⟩ hn
      obtain ⟨x, hx, hxf⟩ := h0'
      obtain ⟨k', rfl⟩ : ∃ k', k = k' + 1 := ⟨k - 1, by omega⟩
      let sk : Nat → Nat := fun i => if i < x then i else i + 1
      obtain ⟨l, ⟨i0, hi0, hl0⟩, h2⟩ := rank f k' (fun i j => M (sk i) j ^^ (M (sk i) f && M x j)) (by omega)
      let c := px k' (fun i => l i && M (sk i) f)
      let l' : Nat → Bool := fun i => if i = x then c else l (if i < x then i else i - 1)
      have lx : l' x = c := if_pos rfl
      have ls : ∀ i, l' (sk i) = l i := fun i => by
        simp only [l', sk]
        by_cases hi : i < x
        · rw [if_pos hi, if_neg (by omega), if_pos hi]
        · rw [if_neg hi, if_neg (by omega), if_neg (by omega), Nat.add_sub_cancel]
      refine ⟨l', ⟨sk i0, ?_, by rw [ls, hl0]⟩, fun j hj => ?_⟩
      · simp only [sk]; split <;> omega
      · rw [px_skip _ k' x hx, lx]
        have e1 : px k' (fun i => l' (if i < x then i else i + 1) && M (if i < x then i else i + 1) j) = px k' (fun i => l i && M (sk i) j) := px_congr fun i _ => by
          have := ls i
          simp only [sk] at this
          rw [this]
        rw [e1]
        by_cases e : j = f
        · subst e
          rw [hxf]
          show (c ^^ (c && true)) = false
          cases c <;> rfl
        · have := h2 j (by omega)
          have e2 : px k' (fun i => l i && (M (sk i) j ^^ (M (sk i) f && M x j))) = (px k' (fun i => l i && M (sk i) j) ^^ (c && M x j)) := by
            show _ = (_ ^^ (px k' (fun i => l i && M (sk i) f) && M x j))
            rw [← px_and', ← px_xor]
            refine px_congr fun i _ => ?_
            cases l i <;> cases M (sk i) j <;> cases M (sk i) f <;> cases M x j <;> rfl
          rw [e2] at this
          exact this

theorem nodup_in : ∀ {l1 l2 : List Nat}, l1.Nodup → (∀ x ∈ l1, x ∈ l2) → l1.length ≤ l2.length
  | [], _, _, _ => Nat.zero_le _
  | a :: l1, l2, hn, hs => by
    have ha : a ∈ l2 := hs a List.mem_cons_self
    obtain ⟨hna, hn'⟩ := List.nodup_cons.1 hn
    have h1 := nodup_in (l1 := l1) (l2 := l2.erase a) hn' (fun x hx => (List.mem_erase_of_ne (fun e => hna (by rw [← e]; exact hx))).2 (hs x (List.mem_cons_of_mem _ hx)))
    have h2 := List.length_erase_of_mem ha
    have h3 := List.length_pos_of_mem ha
    show l1.length + 1 ≤ l2.length
    omega
theorem nodup_le {l : List Nat} {n : Nat} (h : l.Nodup) (hl : ∀ x ∈ l, x < n) : l.length ≤ n := by
  have := nodup_in h (l2 := List.range n) (fun x hx => List.mem_range.2 (hl x hx))
  rwa [List.length_range] at this

/-- Again and again. -/
def it (f : Nat → Nat) : Nat → Nat → Nat
  | 0, x => x
  | k + 1, x => it f k (f x)
theorem it_add (f : Nat → Nat) : ∀ (a b x : Nat), it f (a + b) x = it f a (it f b x)
  | _, 0, _ => rfl
  | a, b + 1, x => it_add f a b (f x)
theorem it_succ (f : Nat → Nat) (k x : Nat) : it f (k + 1) x = f (it f k x) := by
  rw [Nat.add_comm, it_add]; rfl

section
variable {n : Nat} {f : Nat → Nat} (hf : ∀ x, x < n → f x < n) (hi : ∀ x y, x < n → y < n → f x = f y → x = y)
include hf
theorem it_lt : ∀ (k : Nat) {x : Nat}, x < n → it f k x < n
  | 0, _, hx => hx
  | k + 1, _, hx => it_lt k (hf _ hx)
include hi
theorem it_inj : ∀ (k : Nat) {x y : Nat}, x < n → y < n → it f k x = it f k y → x = y
  | 0, _, _, _, _, h => h
  | k + 1, x, y, hx, hy, h => hi x y hx hy (it_inj k (hf x hx) (hf y hy) h)

theorem it_back {x : Nat} (hx : x < n) : ∃ k, 0 < k ∧ it f k x = x := by
  have : ∃ i j, i < j ∧ it f i x = it f j x := Classical.byContradiction fun hn => by
    have h1 : ((List.range (n + 1)).map fun i => it f i x).Nodup := by
      unfold List.Nodup
      rw [List.pairwise_map]
      refine List.Pairwise.imp_of_mem ?_ List.pairwise_lt_range
      intro i j _ _ hij e
      exact hn ⟨i, j, hij, e⟩
    have h2 := nodup_le h1 (n := n) (fun y hy => by
      obtain ⟨i, _, rfl⟩ := List.mem_map.1 hy
      exact it_lt hf i hx)
    rw [List.length_map, List.length_range] at h2
    omega
  obtain ⟨i, j, hij, e⟩ := this
  refine ⟨j - i, by omega, ?_⟩
  have e2 : it f j x = it f i (it f (j - i) x) := by rw [← it_add]; congr 1; omega
  rw [e2] at e
  exact (it_inj hf hi i hx (it_lt hf _ hx) e).symm

theorem it_home {x : Nat} (hx : x < n) (b : Nat) : ∃ c, it f c (it f b x) = x := by
  obtain ⟨k, hk, e⟩ := it_back hf hi hx
  have rep : ∀ t, it f (t * k) x = x := fun t => by
    induction t with
    | zero => rw [Nat.zero_mul]; rfl
    | succ t ih => rw [Nat.succ_mul, it_add, e, ih]
  refine ⟨b * k - b, ?_⟩
  have : b ≤ b * k := Nat.le_mul_of_pos_right b hk
  rw [← it_add, show b * k - b + b = b * k by omega]
  exact rep b
end

open Classical in
/-- The least of each orbit. -/
noncomputable def firsts (n : Nat) (f : Nat → Nat) : List Nat := (List.range n).filter fun h => decide (∀ k, h ≤ it f k h)
open Classical in
theorem mem_firsts {n : Nat} {f : Nat → Nat} {h : Nat} : h ∈ firsts n f ↔ h < n ∧ ∀ k, h ≤ it f k h := by
  unfold firsts
  rw [List.mem_filter, List.mem_range, decide_eq_true_iff]

section
variable {n : Nat} {f : Nat → Nat} (hf : ∀ x, x < n → f x < n) (hi : ∀ x y, x < n → y < n → f x = f y → x = y)
include hf
theorem first_of {x : Nat} (hx : x < n) : ∃ k, it f k x ∈ firsts n f := by
  have key : ∀ (d k : Nat), it f k x ≤ d → ∃ k, it f k x ∈ firsts n f := by
    intro d
    induction d with
    | zero =>
      intro k hk
      exact ⟨k, mem_firsts.2 ⟨it_lt hf k hx, fun j => by omega⟩⟩
    | succ d ih =>
      intro k hk
      by_cases h : ∀ j, it f k x ≤ it f j (it f k x)
      · exact ⟨k, mem_firsts.2 ⟨it_lt hf k hx, h⟩⟩
      · have : ∃ j, it f j (it f k x) < it f k x := Classical.byContradiction fun hn => h fun j => Nat.le_of_not_lt fun hlt => hn ⟨j, hlt⟩
        obtain ⟨j, hj⟩ := this
        exact ih (j + k) (by rw [it_add]; omega)
  exact key _ 0 (Nat.le_refl _)
include hi
theorem firsts_apart {x y a b : Nat} (hx : x ∈ firsts n f) (hy : y ∈ firsts n f) (h : it f a x = it f b y) : x = y := by
  obtain ⟨hxn, hx⟩ := mem_firsts.1 hx
  obtain ⟨hyn, hy⟩ := mem_firsts.1 hy
  obtain ⟨c, hc⟩ := it_home hf hi hyn b
  obtain ⟨d, hd⟩ := it_home hf hi hxn a
  have h1 := hx (c + a)
  rw [it_add, h, hc] at h1
  have h2 := hy (d + b)
  rw [it_add, ← h, hd] at h2
  omega
end

end Pl
end Go.Proofs.Ytfkmldopfhdbkaa

/-
  The scanner of decimal numbers as plain functions on bytes, with no program in it: what passing, reading one token, and reading all tokens come to, and the small laws of these.
-/
namespace Go.Proofs.Ytfkmldopfhdbkaa
namespace Nu

def isBlank (c : Int) : Bool := c == 32 || (c == 9 || c == 13)
def isDigit (c : Int) : Bool := decide (48 ≤ c) && decide (c ≤ 57)

/-- q is the first place from p on (below n) whose byte f refuses, or n. -/
structure IsSkip (f : Int → Bool) (g : Nat → Int) (n p q : Nat) : Prop where
  lo : p ≤ q
  hi : q ≤ n
  all : ∀ i, p ≤ i → i < q → f (g i) = true
  stop : q < n → f (g q) = false

theorem IsSkip.uniq {f : Int → Bool} {g : Nat → Int} {n p q r : Nat} (h : IsSkip f g n p q) (k : IsSkip f g n p r) : q = r := by
  rcases Nat.lt_trichotomy q r with l | l | l
  · have := k.all q h.lo l
    rw [h.stop (Nat.lt_of_lt_of_le l k.hi)] at this
    cases this
  · exact l
  · have := h.all r k.lo l
    rw [k.stop (Nat.lt_of_lt_of_le l h.hi)] at this
    cases this

def skipF (f : Int → Bool) (g : Nat → Int) (n : Nat) : Nat → Nat → Nat
  | 0, p => p
  | k + 1, p => if p < n ∧ f (g p) = true then skipF f g n k (p + 1) else p

def skip (f : Int → Bool) (g : Nat → Int) (n p : Nat) : Nat := skipF f g n (n - p) p

theorem skipF_is (f : Int → Bool) (g : Nat → Int) (n : Nat) : ∀ k p, p ≤ n → n - p ≤ k → IsSkip f g n p (skipF f g n k p)
  | 0, p, hp, hk => ⟨Nat.le_refl _, hp, fun i h1 h2 => by simp [skipF] at h2; omega, fun h => by simp [skipF] at h; omega⟩
  | k + 1, p, hp, hk => by
    unfold skipF
    by_cases h : p < n ∧ f (g p) = true
    · rw [if_pos h]
      have ih := skipF_is f g n k (p + 1) (by omega) (by omega)
      refine ⟨by have := ih.lo; omega, ih.hi, fun i h1 h2 => ?_, ih.stop⟩
      by_cases e : i = p
      · subst e; exact h.2
      · exact ih.all i (by omega) h2
    · rw [if_neg h]
      refine ⟨Nat.le_refl _, hp, fun i h1 h2 => by omega, fun hn => ?_⟩
      cases hb : f (g p)
      · rfl
      · exact absurd ⟨hn, hb⟩ h

theorem skip_is (f : Int → Bool) (g : Nat → Int) (n p : Nat) (hp : p ≤ n) : IsSkip f g n p (skip f g n p) := skipF_is f g n (n - p) p hp (Nat.le_refl _)

theorem IsSkip.eq {f : Int → Bool} {g : Nat → Int} {n p q : Nat} (h : IsSkip f g n p q) : q = skip f g n p := h.uniq (skip_is f g n p (Nat.le_trans h.lo h.hi))

/-- The value of the k digits from place q on. -/
def val (g : Nat → Int) (q : Nat) : Nat → Int
  | 0 => 0
  | k + 1 => 10 * val g q k + (g (q + k) - 48)

def pow10 : Nat → Int
  | 0 => 1
  | k + 1 => 10 * pow10 k

theorem val_bound (g : Nat → Int) (q : Nat) : ∀ k, (∀ i, i < k → 48 ≤ g (q + i) ∧ g (q + i) ≤ 57) → 0 ≤ val g q k ∧ val g q k < pow10 k
  | 0, _ => by simp [val, pow10]
  | k + 1, h => by
    have ih := val_bound g q k (fun i hi => h i (by omega))
    have hk := h k (by omega)
    simp only [val, pow10]
    omega

theorem pow10_pos : ∀ k, 0 < pow10 k
  | 0 => by simp [pow10]
  | k + 1 => by have := pow10_pos k; simp only [pow10]; omega

theorem pow10_mono {a b : Nat} (h : a ≤ b) : pow10 a ≤ pow10 b := by
  induction b with
  | zero => have : a = 0 := by omega
            subst this; exact Int.le_refl _
  | succ b ih =>
    by_cases e : a = b + 1
    · subst e; exact Int.le_refl _
    · have := ih (by omega)
      have := pow10_pos b
      simp only [pow10]; omega

theorem val_lt_9 (g : Nat → Int) (q k : Nat) (hk : k ≤ 9) (h : ∀ i, i < k → 48 ≤ g (q + i) ∧ g (q + i) ≤ 57) : 0 ≤ val g q k ∧ val g q k < 1000000000 := by
  have h1 := val_bound g q k h
  have h2 : pow10 k ≤ pow10 9 := pow10_mono hk
  have h3 : pow10 9 = 1000000000 := by decide
  omega

/-- A token: its kind, its place, the place behind it, its number. -/
structure Tok where
  kind : Int
  at' : Int
  fin : Int
  num : Int

/-- The next token from place p on and where it ends, or the fault's place and number. -/
def next (g : Nat → Int) (n p : Nat) : Except (Nat × Int) (Tok × Nat) :=
  if skip isBlank g n p = n then .ok (⟨3, n, n, 0⟩, n)
  else if isDigit (g (skip isBlank g n p)) = true then
    if 9 < skip isDigit g n (skip isBlank g n p) - skip isBlank g n p ∨ (1 < skip isDigit g n (skip isBlank g n p) - skip isBlank g n p ∧ g (skip isBlank g n p) = 48) then .error (skip isBlank g n p, 12)
    else .ok (⟨1, skip isBlank g n p, skip isDigit g n (skip isBlank g n p), val g (skip isBlank g n p) (skip isDigit g n (skip isBlank g n p) - skip isBlank g n p)⟩, skip isDigit g n (skip isBlank g n p))
  else if g (skip isBlank g n p) = 10 then .ok (⟨2, skip isBlank g n p, skip isBlank g n p + 1, 0⟩, skip isBlank g n p + 1)
  else .error (skip isBlank g n p, 11)

theorem next_end {g : Nat → Int} {n p : Nat} (h : IsSkip isBlank g n p n) : next g n p = .ok (⟨3, n, n, 0⟩, n) := by
  unfold next; rw [← h.eq]; simp

theorem next_line {g : Nat → Int} {n p q : Nat} (h : IsSkip isBlank g n p q) (hq : q < n) (h10 : g q = 10) : next g n p = .ok (⟨2, q, q + 1, 0⟩, q + 1) := by
  unfold next
  rw [← h.eq, if_neg (by omega), if_neg (by rw [h10]; decide), if_pos h10]

theorem next_byte {g : Nat → Int} {n p q : Nat} (h : IsSkip isBlank g n p q) (hq : q < n) (hd : isDigit (g q) = false) (h10 : g q ≠ 10) : next g n p = .error (q, 11) := by
  unfold next
  rw [← h.eq, if_neg (by omega), if_neg (by rw [hd]; decide), if_neg h10]

theorem next_bad {g : Nat → Int} {n p q r : Nat} (h : IsSkip isBlank g n p q) (hq : q < n) (hd : isDigit (g q) = true) (hr : IsSkip isDigit g n q r) (hb : 9 < r - q ∨ (1 < r - q ∧ g q = 48)) : next g n p = .error (q, 12) := by
  unfold next
  rw [← h.eq, if_neg (by omega), if_pos hd, ← hr.eq, if_pos hb]

theorem next_num {g : Nat → Int} {n p q r : Nat} (h : IsSkip isBlank g n p q) (hq : q < n) (hd : isDigit (g q) = true) (hr : IsSkip isDigit g n q r) (hb : ¬ (9 < r - q ∨ (1 < r - q ∧ g q = 48))) : next g n p = .ok (⟨1, q, r, val g q (r - q)⟩, r) := by
  unfold next
  rw [← h.eq, if_neg (by omega), if_pos hd, ← hr.eq, if_neg hb]

/-- All tokens from place p on (k: how many more may come), or the first fault. -/
def scanF (g : Nat → Int) (n : Nat) : Nat → Nat → Except (Nat × Int) (List Tok)
  | 0, _ => .ok []
  | k + 1, p => match next g n p with
    | .error x => .error x
    | .ok (t, p') => if t.kind = 3 then .ok [t] else match scanF g n k p' with
      | .error x => .error x
      | .ok ts => .ok (t :: ts)

def scan (g : Nat → Int) (n : Nat) : Except (Nat × Int) (List Tok) := scanF g n (n + 1) 0

end Nu
end Go.Proofs.Ytfkmldopfhdbkaa
