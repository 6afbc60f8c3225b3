import Init
/-
  The scanner of decimal numbers as plain functions on bytes, with no program in it: what passing, reading one token, and reading all tokens come to, and the small laws of these.
-/
namespace Go.Proofs.YtfjgmbimapkabaaDoor
namespace Nu

def isBlank (c : Int) : Bool := c == 32 || (c == 9 || c == 13)
def isDigit (c : Int) : Bool := decide (48 ≤ c) && decide (c ≤ 57)

/-- q is the first place from p on (below n) whose byte f refuses, or n. -/
structure IsSkip (f : Int → Bool) (g : Nat → Int) (n p q : Nat) : Prop where
  lo : p ≤ q
  hi : q ≤ n
  all : ∀ i, p ≤ i → i < q → f (g i) = true
  stop : q < n → f (g q) = false

theorem IsSkip.uniq {f : Int → Bool} {g : Nat → Int} {n p q r : Nat} (h : IsSkip f g n p q) (k : IsSkip f g n p r) : q = r := by
  rcases Nat.lt_trichotomy q r with l | l | l
  · have := k.all q h.lo l
    rw [h.stop (Nat.lt_of_lt_of_le l k.hi)] at this
    cases this
  · exact l
  · have := h.all r k.lo l
    rw [k.stop (Nat.lt_of_lt_of_le l h.hi)] at this
    cases this

def skipF (f : Int → Bool) (g : Nat → Int) (n : Nat) : Nat → Nat → Nat
  | 0, p => p
  | k + 1, p => if p < n ∧ f (g p) = true then skipF f g n k (p + 1) else p

def skip (f : Int → Bool) (g : Nat → Int) (n p : Nat) : Nat := skipF f g n (n - p) p

theorem skipF_is (f : Int → Bool) (g : Nat → Int) (n : Nat) : ∀ k p, p ≤ n → n - p ≤ k → IsSkip f g n p (skipF f g n k p)
  | 0, p, hp, hk => ⟨Nat.le_refl _, hp, fun i h1 h2 => by simp [skipF] at h2; omega, fun h => by simp [skipF] at h; omega⟩
  | k + 1, p, hp, hk => by
    unfold skipF
    by_cases h : p < n ∧ f (g p) = true
    · rw [if_pos h]
      have ih := skipF_is f g n k (p + 1) (by omega) (by omega)
      refine ⟨by have := ih.lo; omega, ih.hi, fun i h1 h2 => ?_, ih.stop⟩
      by_cases e : i = p
      · subst e; exact h.2
      · exact ih.all i (by omega) h2
    · rw [if_neg h]
      refine ⟨Nat.le_refl _, hp, fun i h1 h2 => by omega, fun hn => ?_⟩
      cases hb : f (g p)
      · rfl
      · exact absurd ⟨hn, hb⟩ h

theorem skip_is (f : Int → Bool) (g : Nat → Int) (n p : Nat) (hp : p ≤ n) : IsSkip f g n p (skip f g n p) := skipF_is f g n (n - p) p hp (Nat.le_refl _)

theorem IsSkip.eq {f : Int → Bool} {g : Nat → Int} {n p q : Nat} (h : IsSkip f g n p q) : q = skip f g n p := h.uniq (skip_is f g n p (Nat.le_trans h.lo h.hi))

/-- The value of the k digits from place q on. -/
def val (g : Nat → Int) (q : Nat) : Nat → Int
  | 0 => 0
  | k + 1 => 10 * val g q k + (g (q + k) - 48)

def pow10 : Nat → Int
  | 0 => 1
  | k + 1 => 10 * pow10 k

theorem val_bound (g : Nat → Int) (q : Nat) : ∀ k, (∀ i, i < k → 48 ≤ g (q + i) ∧ g (q + i) ≤ 57) → 0 ≤ val g q k ∧ val g q k < pow10 k
  | 0, _ => by simp [val, pow10]
  | k + 1, h => by
    have ih := val_bound g q k (fun i hi => h i (by omega))
    have hk := h k (by omega)
    simp only [val, pow10]
    omega

theorem pow10_pos : ∀ k, 0 < pow10 k
  | 0 => by simp [pow10]
  | k + 1 => by have := pow10_pos k; simp only [pow10]; omega

theorem pow10_mono {a b : Nat} (h : a ≤ b) : pow10 a ≤ pow10 b := by
  induction b with
  | zero => have : a = 0 := by omega
            subst this; exact Int.le_refl _
  | succ b ih =>
    by_cases e : a = b + 1
    · subst e; exact Int.le_refl _
    · have := ih (by omega)
      have := pow10_pos b
      simp only [pow10]; omega

theorem val_lt_9 (g : Nat → Int) (q k : Nat) (hk : k ≤ 9) (h : ∀ i, i < k → 48 ≤ g (q + i) ∧ g (q + i) ≤ 57) : 0 ≤ val g q k ∧ val g q k < 1000000000 := by
  have h1 := val_bound g q k h
  have h2 : pow10 k ≤ pow10 9 := pow10_mono hk
  have h3 : pow10 9 = 1000000000 := by decide
  omega

/-- A token: its kind, its place, the place behind it, its number. -/
structure Tok where
  kind : Int
  at' : Int
  fin : Int
  num : Int

/-- The next token from place p on and where it ends, or the fault's place and number. -/
def next (g : Nat → Int) (n p : Nat) : Except (Nat × Int) (Tok × Nat) :=
  if skip isBlank g n p = n then .ok (⟨3, n, n, 0⟩, n)
  else if isDigit (g (skip isBlank g n p)) = true then
    if 9 < skip isDigit g n (skip isBlank g n p) - skip isBlank g n p ∨ (1 < skip isDigit g n (skip isBlank g n p) - skip isBlank g n p ∧ g (skip isBlank g n p) = 48) then .error (skip isBlank g n p, 12)
    else .ok (⟨1, skip isBlank g n p, skip isDigit g n (skip isBlank g n p), val g (skip isBlank g n p) (skip isDigit g n (skip isBlank g n p) - skip isBlank g n p)⟩, skip isDigit g n (skip isBlank g n p))
  else if g (skip isBlank g n p) = 10 then .ok (⟨2, skip isBlank g n p, skip isBlank g n p + 1, 0⟩, skip isBlank g n p + 1)
  else .error (skip isBlank g n p, 11)

theorem next_end {g : Nat → Int} {n p : Nat} (h : IsSkip isBlank g n p n) : next g n p = .ok (⟨3, n, n, 0⟩, n) := by
  unfold next; rw [← h.eq]; simp

theorem next_line {g : Nat → Int} {n p q : Nat} (h : IsSkip isBlank g n p q) (hq : q < n) (h10 : g q = 10) : next g n p = .ok (⟨2, q, q + 1, 0⟩, q + 1) := by
  unfold next
  rw [← h.eq, if_neg (by omega), if_neg (by rw [h10]; decide), if_pos h10]

theorem next_byte {g : Nat → Int} {n p q : Nat} (h : IsSkip isBlank g n p q) (hq : q < n) (hd : isDigit (g q) = false) (h10 : g q ≠ 10) : next g n p = .error (q, 11) := by
  unfold next
  rw [← h.eq, if_neg (by omega), if_neg (by rw [hd]; decide), if_neg h10]

theorem next_bad {g : Nat → Int} {n p q r : Nat} (h : IsSkip isBlank g n p q) (hq : q < n) (hd : isDigit (g q) = true) (hr : IsSkip isDigit g n q r) (hb : 9 < r - q ∨ (1 < r - q ∧ g q = 48)) : next g n p = .error (q, 12) := by
  unfold next
  rw [← h.eq, if_neg (by omega), if_pos hd, ← hr.eq, if_pos hb]

theorem next_num {g : Nat → Int} {n p q r : Nat} (h : IsSkip isBlank g n p q) (hq : q < n) (hd : isDigit (g q) = true) (hr : IsSkip isDigit g n q r) (hb : ¬ (9 < r - q ∨ (1 < r - q ∧ g q = 48))) : next g n p = .ok (⟨1, q, r, val g q (r - q)⟩, r) := by
  unfold next
  rw [← h.eq, if_neg (by omega), if_pos hd, ← hr.eq, if_neg hb]

/-- All tokens from place p on (k: how many more may come), or the first fault. -/
def scanF (g : Nat → Int) (n : Nat) : Nat → Nat → Except (Nat × Int) (List Tok)
  | 0, _ => .ok []
  | k + 1, p => match next g n p with
    | .error x => .error x
    | .ok (t, p') => if t.kind = 3 then .ok [t] else match scanF g n k p' with
      | .error x => .error x
      | .ok ts => .ok (t :: ts)

def scan (g : Nat → Int) (n : Nat) : Except (Nat × Int) (List Tok) := scanF g n (n + 1) 0

end Nu
end Go.Proofs.YtfjgmbimapkabaaDoor
/-
  The whole scan, token by token: what one step forward does to it.
-/
namespace Go.Proofs.YtfjgmbimapkabaaDoor
namespace Nu

/-- What stands ahead of an answer. -/
def pre (ts : List Tok) : Except (Nat × Int) (List Tok) → Except (Nat × Int) (List Tok)
  | .error x => .error x
  | .ok us => .ok (ts ++ us)

theorem pre_nil (r : Except (Nat × Int) (List Tok)) : pre [] r = r := by cases r <;> rfl
theorem pre_pre (a b : List Tok) (r : Except (Nat × Int) (List Tok)) : pre a (pre b r) = pre (a ++ b) r := by cases r <;> simp [pre]

theorem scanF_fault {g : Nat → Int} {n p : Nat} {x : Nat × Int} (k : Nat) (h : next g n p = .error x) : scanF g n (k + 1) p = .error x := by simp [scanF, h]
theorem scanF_last {g : Nat → Int} {n p p' : Nat} {t : Tok} (k : Nat) (h : next g n p = .ok (t, p')) (h3 : t.kind = 3) : scanF g n (k + 1) p = .ok [t] := by simp [scanF, h, h3]
theorem scanF_more {g : Nat → Int} {n p p' : Nat} {t : Tok} (k : Nat) (h : next g n p = .ok (t, p')) (h3 : t.kind ≠ 3) : scanF g n (k + 1) p = pre [t] (scanF g n k p') := by
  simp only [scanF, h, if_neg h3]
  cases scanF g n k p' <;> rfl

/-- A token that is not the end lies behind p, and not beyond n. -/
theorem next_moves {g : Nat → Int} {n p p' : Nat} {t : Tok} (hp : p ≤ n) (h : next g n p = .ok (t, p')) : p' ≤ n ∧ (t.kind ≠ 3 → p < p') := by
  have hs := skip_is isBlank g n p hp
  by_cases h1 : skip isBlank g n p = n
  · rw [h1] at hs
    rw [next_end hs] at h
    cases h
    exact ⟨Nat.le_refl _, fun h => absurd rfl h⟩
  · have hlt : skip isBlank g n p < n := Nat.lt_of_le_of_ne hs.hi h1
    have hlo := hs.lo
    cases hd : isDigit (g (skip isBlank g n p))
    · by_cases h10 : g (skip isBlank g n p) = 10
      · rw [next_line hs hlt h10] at h
        cases h
        exact ⟨hlt, fun _ => by omega⟩
      · rw [next_byte hs hlt hd h10] at h
        cases h
    · have hr := skip_is isDigit g n (skip isBlank g n p) hs.hi
      have hrl : skip isBlank g n p < skip isDigit g n (skip isBlank g n p) := by
        rcases Nat.lt_or_ge (skip isBlank g n p) (skip isDigit g n (skip isBlank g n p)) with h' | h'
        · exact h'
        · have e := Nat.le_antisymm hr.lo h'
          have := hr.stop (by rw [← e]; exact hlt)
          rw [← e, hd] at this
          cases this
      by_cases hb : 9 < skip isDigit g n (skip isBlank g n p) - skip isBlank g n p ∨ (1 < skip isDigit g n (skip isBlank g n p) - skip isBlank g n p ∧ g (skip isBlank g n p) = 48)
      · rw [next_bad hs hlt hd hr hb] at h
        cases h
      · rw [next_num hs hlt hd hr hb] at h
        cases h
        exact ⟨hr.hi, fun _ => by omega⟩

/-- The kinds of tokens are 1, 2, 3; each value fits. -/
theorem next_fits {g : Nat → Int} {n p p' : Nat} {t : Tok} (hp : p ≤ n) (h : next g n p = .ok (t, p')) :
    (t.kind = 1 ∨ t.kind = 2 ∨ t.kind = 3) ∧ 0 ≤ t.at' ∧ t.at' ≤ n ∧ 0 ≤ t.fin ∧ t.fin ≤ n ∧ 0 ≤ t.num ∧ t.num < 1000000000 := by
  have hs := skip_is isBlank g n p hp
  have hhi := hs.hi
  by_cases h1 : skip isBlank g n p = n
  · rw [h1] at hs
    rw [next_end hs] at h
    cases h
    exact ⟨by simp, by simp⟩
  · have hlt : skip isBlank g n p < n := Nat.lt_of_le_of_ne hs.hi h1
    cases hd : isDigit (g (skip isBlank g n p))
    · by_cases h10 : g (skip isBlank g n p) = 10
      · rw [next_line hs hlt h10] at h
        cases h
        refine ⟨by simp, ?_⟩
        dsimp only
        omega
      · rw [next_byte hs hlt hd h10] at h
        cases h
    · have hr := skip_is isDigit g n (skip isBlank g n p) hs.hi
      have hrhi := hr.hi
      by_cases hb : 9 < skip isDigit g n (skip isBlank g n p) - skip isBlank g n p ∨ (1 < skip isDigit g n (skip isBlank g n p) - skip isBlank g n p ∧ g (skip isBlank g n p) = 48)
      · rw [next_bad hs hlt hd hr hb] at h
        cases h
      · rw [next_num hs hlt hd hr hb] at h
        cases h
        have hv := val_lt_9 g (skip isBlank g n p) (skip isDigit g n (skip isBlank g n p) - skip isBlank g n p) (by omega) (fun i hi => by
          have := hr.all (skip isBlank g n p + i) (by omega) (by omega)
          simpa [isDigit] using this)
        refine ⟨by simp, ?_⟩
        dsimp only
        omega

/-- Where the scan goes right, each token comes out of a next. -/
theorem scanF_cons {g : Nat → Int} {n : Nat} {k p : Nat} {t : Tok} {ts : List Tok} (hp : p ≤ n) (h : scanF g n k p = .ok (t :: ts)) :
    ∃ p', next g n p = .ok (t, p') ∧ p' ≤ n ∧ ∃ k', scanF g n k' p' = .ok ts := by
  cases k with
  | zero => simp [scanF] at h
  | succ k =>
    cases hx : next g n p with
    | error x => rw [scanF_fault k hx] at h; cases h
    | ok y =>
      obtain ⟨u, p'⟩ := y
      have hm := next_moves hp hx
      by_cases h3 : u.kind = 3
      · rw [scanF_last k hx h3] at h
        cases h
        exact ⟨p', rfl, hm.1, 0, rfl⟩
      · rw [scanF_more k hx h3] at h
        cases hr : scanF g n k p' with
        | error x => rw [hr] at h; cases h
        | ok us =>
          rw [hr] at h
          simp only [pre, Except.ok.injEq, List.cons_append, List.nil_append, List.cons.injEq] at h
          obtain ⟨rfl, rfl⟩ := h
          exact ⟨p', rfl, hm.1, k, hr⟩

/-- How many tokens there are: at most one more than there are bytes. -/
theorem scanF_length {g : Nat → Int} {n : Nat} : ∀ {k p : Nat} {ts : List Tok}, p ≤ n → scanF g n k p = .ok ts → ts.length ≤ n - p + 1
  | 0, p, ts, _, h => by simp [scanF] at h; subst h; simp
  | k + 1, p, ts, hp, h => by
    cases hx : next g n p with
    | error x => rw [scanF_fault k hx] at h; cases h
    | ok y =>
      obtain ⟨u, p'⟩ := y
      have hm := next_moves hp hx
      by_cases h3 : u.kind = 3
      · rw [scanF_last k hx h3] at h
        cases h
        simp
      · rw [scanF_more k hx h3] at h
        cases hr : scanF g n k p' with
        | error x => rw [hr] at h; cases h
        | ok us =>
          rw [hr] at h
          cases h
          have ih := scanF_length hm.1 hr
          have := hm.2 h3
          simp
          omega

theorem scan_length {g : Nat → Int} {n : Nat} {ts : List Tok} (h : scan g n = .ok ts) : ts.length ≤ n + 1 := by
  have := scanF_length (Nat.zero_le _) h
  omega

end Nu
end Go.Proofs.YtfjgmbimapkabaaDoor
/-
  The scan byte by byte, as the document's own answer goes: what a blank, a line's end, a digit, another byte do to it.
-/
namespace Go.Proofs.YtfjgmbimapkabaaDoor
namespace Nu

theorem IsSkip.here {f : Int → Bool} {g : Nat → Int} {n p : Nat} (hp : p ≤ n) (h : p < n → f (g p) = false) : IsSkip f g n p p :=
  ⟨Nat.le_refl _, hp, fun i h1 h2 => by omega, h⟩

theorem IsSkip.back {f : Int → Bool} {g : Nat → Int} {n p q : Nat} (h : IsSkip f g n (p + 1) q) (hf : f (g p) = true) : IsSkip f g n p q :=
  ⟨by have := h.lo; omega, h.hi, fun i h1 h2 => by
    by_cases e : i = p
    · subst e; exact hf
    · exact h.all i (by omega) h2, h.stop⟩

theorem next_blank {g : Nat → Int} {n p : Nat} (hp : p < n) (h : isBlank (g p) = true) : next g n p = next g n (p + 1) := by
  have e : skip isBlank g n p = skip isBlank g n (p + 1) := ((skip_is isBlank g n (p + 1) hp).back h).eq.symm
  unfold next
  rw [e]

theorem scanF_blank {g : Nat → Int} {n p : Nat} (k : Nat) (hp : p < n) (h : isBlank (g p) = true) : scanF g n k p = scanF g n k (p + 1) := by
  cases k with
  | zero => rfl
  | succ k => simp only [scanF, next_blank hp h]

theorem not_blank_of_digit {c : Int} (h : isDigit c = true) : isBlank c = false := by
  simp [isDigit] at h
  simp [isBlank]
  omega

theorem val_min_succ {g : Nat → Int} {i j : Nat} (hij : i ≤ j) (h : j - i < 9) : val g i (min (j + 1 - i) 9) = 10 * val g i (min (j - i) 9) + (g j - 48) := by
  have e1 : min (j + 1 - i) 9 = (j - i) + 1 := by omega
  have e2 : min (j - i) 9 = j - i := by omega
  rw [e1, e2]
  simp only [val]
  rw [show i + (j - i) = j by omega]

theorem val_min_same {g : Nat → Int} {i j : Nat} (h : 9 ≤ j - i) : val g i (min (j + 1 - i) 9) = val g i (min (j - i) 9) := by
  rw [show min (j + 1 - i) 9 = 9 by omega, show min (j - i) 9 = 9 by omega]

end Nu

end Go.Proofs.YtfjgmbimapkabaaDoor
