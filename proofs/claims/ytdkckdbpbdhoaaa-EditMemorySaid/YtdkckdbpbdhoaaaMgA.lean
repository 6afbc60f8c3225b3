import Init
/-
  The scanner of decimal numbers as plain functions on bytes, with no program in it: what passing, reading one token, and reading all tokens come to, and the small laws of these.
-/
namespace Go.Proofs.Ytdkckdbpbdhoaaa
namespace Nu

def isBlank (c : Int) : Bool := c == 32 || (c == 9 || c == 13)
def isDigit (c : Int) : Bool := decide (48 ≤ c) && decide (c ≤ 57)

/-- q is the first place from p on (below n) whose byte f refuses, or n. -/
structure IsSkip (f : Int → Bool) (g : Nat → Int) (n p q : Nat) : Prop where
  lo : p ≤ q
  hi : q ≤ n
  all : ∀ i, p ≤ i → i < q → f (g i) = true
  stop : q < n → f (g q) = false

theorem IsSkip.uniq {f : Int → Bool} {g : Nat → Int} {n p q r : Nat} (h : IsSkip f g n p q) (k : IsSkip f g n p r) : q = r := by
  rcases Nat.lt_trichotomy q r with l | l | l
  · have := k.all q h.lo l
    rw [h.stop (Nat.lt_of_lt_of_le l k.hi)] at this
    cases this
  · exact l
  · have := h.all r k.lo l
    rw [k.stop (Nat.lt_of_lt_of_le l h.hi)] at this
    cases this

def skipF (f : Int → Bool) (g : Nat → Int) (n : Nat) : Nat → Nat → Nat
  | 0, p => p
  | k + 1, p => if p < n ∧ f (g p) = true then skipF f g n k (p + 1) else p

def skip (f : Int → Bool) (g : Nat → Int) (n p : Nat) : Nat := skipF f g n (n - p) p

theorem skipF_is (f : Int → Bool) (g : Nat → Int) (n : Nat) : ∀ k p, p ≤ n → n - p ≤ k → IsSkip f g n p (skipF f g n k p)
  | 0, p, hp, hk => ⟨Nat.le_refl _, hp, fun i h1 h2 => by simp [skipF] at h2; omega, fun h => by simp [skipF] at h; omega⟩
  | k + 1, p, hp, hk => by
    unfold skipF
    by_cases h : p < n ∧ f (g p) = true
    · rw [if_pos h]
      have ih := skipF_is f g n k (p + 1) (by omega) (by omega)
      refine ⟨by have := ih.lo; omega, ih.hi, fun i h1 h2 => ?_, ih.stop⟩
      by_cases e : i = p
      · subst e; exact h.2
      · exact ih.all i (by omega) h2
    · rw [if_neg h]
      refine ⟨Nat.le_refl _, hp, fun i h1 h2 => by omega, fun hn => ?_⟩
      cases hb : f (g p)
      · rfl
      · exact absurd ⟨hn, hb⟩ h

theorem skip_is (f : Int → Bool) (g : Nat → Int) (n p : Nat) (hp : p ≤ n) : IsSkip f g n p (skip f g n p) := skipF_is f g n (n - p) p hp (Nat.le_refl _)

theorem IsSkip.eq {f : Int → Bool} {g : Nat → Int} {n p q : Nat} (h : IsSkip f g n p q) : q = skip f g n p := h.uniq (skip_is f g n p (Nat.le_trans h.lo h.hi))

/-- The value of the k digits from place q on. -/
def val (g : Nat → Int) (q : Nat) : Nat → Int
  | 0 => 0
  | k + 1 => 10 * val g q k + (g (q + k) - 48)

def pow10 : Nat → Int
  | 0 => 1
  | k + 1 => 10 * pow10 k

theorem val_bound (g : Nat → Int) (q : Nat) : ∀ k, (∀ i, i < k → 48 ≤ g (q + i) ∧ g (q + i) ≤ 57) → 0 ≤ val g q k ∧ val g q k < pow10 k
  | 0, _ => by simp [val, pow10]
  | k + 1, h => by
    have ih := val_bound g q k (fun i hi => h i (by omega))
    have hk := h k (by omega)
    simp only [val, pow10]
    omega

theorem pow10_pos : ∀ k, 0 < pow10 k
  | 0 => by simp [pow10]
  | k + 1 => by have := pow10_pos k; simp only [pow10]; omega

theorem pow10_mono {a b : Nat} (h : a ≤ b) : pow10 a ≤ pow10 b := by
  induction b with
  | zero => have : a = 0 := by omega
            subst this; exact Int.le_refl _
  | succ b ih =>
    by_cases e : a = b + 1
    · subst e; exact Int.le_refl _
    · have := ih (by omega)
      have := pow10_pos b
      simp only [pow10]; omega

theorem val_lt_9 (g : Nat → Int) (q k : Nat) (hk : k ≤ 9) (h : ∀ i, i < k → 48 ≤ g (q + i) ∧ g (q + i) ≤ 57) : 0 ≤ val g q k ∧ val g q k < 1000000000 := by
  have h1 := val_bound g q k h
  have h2 : pow10 k ≤ pow10 9 := pow10_mono hk
  have h3 : pow10 9 = 1000000000 := by decide
  omega

/-- A token: its kind, its place, the place behind it, its number. -/
structure Tok where
  kind : Int
  at' : Int
  fin : Int
  num : Int

/-- The next token from place p on and where it ends, or the fault's place and number. -/
def next (g : Nat → Int) (n p : Nat) : Except (Nat × Int) (Tok × Nat) :=
  if skip isBlank g n p = n then .ok (⟨3, n, n, 0⟩, n)
  else if isDigit (g (skip isBlank g n p)) = true then
    if 9 < skip isDigit g n (skip isBlank g n p) - skip isBlank g n p ∨ (1 < skip isDigit g n (skip isBlank g n p) - skip isBlank g n p ∧ g (skip isBlank g n p) = 48) then .error (skip isBlank g n p, 12)
    else .ok (⟨1, skip isBlank g n p, skip isDigit g n (skip isBlank g n p), val g (skip isBlank g n p) (skip isDigit g n (skip isBlank g n p) - skip isBlank g n p)⟩, skip isDigit g n (skip isBlank g n p))
  else if g (skip isBlank g n p) = 10 then .ok (⟨2, skip isBlank g n p, skip isBlank g n p + 1, 0⟩, skip isBlank g n p + 1)
  else .error (skip isBlank g n p, 11)

theorem next_end {g : Nat → Int} {n p : Nat} (h : IsSkip isBlank g n p n) : next g n p = .ok (⟨3, n, n, 0⟩, n) := by
  unfold next; rw [← h.eq]; simp

theorem next_line {g : Nat → Int} {n p q : Nat} (h : IsSkip isBlank g n p q) (hq : q < n) (h10 : g q = 10) : next g n p = .ok (⟨2, q, q + 1, 0⟩, q + 1) := by
  unfold next
  rw [← h.eq, if_neg (by omega), if_neg (by rw [h10]; decide), if_pos h10]

theorem next_byte {g : Nat → Int} {n p q : Nat} (h : IsSkip isBlank g n p q) (hq : q < n) (hd : isDigit (g q) = false) (h10 : g q ≠ 10) : next g n p = .error (q, 11) := by
  unfold next
  rw [← h.eq, if_neg (by omega), if_neg (by rw [hd]; decide), if_neg h10]

theorem next_bad {g : Nat → Int} {n p q r : Nat} (h : IsSkip isBlank g n p q) (hq : q < n) (hd : isDigit (g q) = true) (hr : IsSkip isDigit g n q r) (hb : 9 < r - q ∨ (1 < r - q ∧ g q = 48)) : next g n p = .error (q, 12) := by
  unfold next
  rw [← h.eq, if_neg (by omega), if_pos hd, ← hr.eq, if_pos hb]

theorem next_num {g : Nat → Int} {n p q r : Nat} (h : IsSkip isBlank g n p q) (hq : q < n) (hd : isDigit (g q) = true) (hr : IsSkip isDigit g n q r) (hb : ¬ (9 < r - q ∨ (1 < r - q ∧ g q = 48))) : next g n p = .ok (⟨1, q, r, val g q (r - q)⟩, r) := by
  unfold next
  rw [← h.eq, if_neg (by omega), if_pos hd, ← hr.eq, if_neg hb]

/-- All tokens from place p on (k: how many more may come), or the first fault. -/
def scanF (g : Nat → Int) (n : Nat) : Nat → Nat → Except (Nat × Int) (List Tok)
  | 0, _ => .ok []
  | k + 1, p => match next g n p with
    | .error x => .error x
    | .ok (t, p') => if t.kind = 3 then .ok [t] else match scanF g n k p' with
      | .error x => .error x
      | .ok ts => .ok (t :: ts)

def scan (g : Nat → Int) (n : Nat) : Except (Nat × Int) (List Tok) := scanF g n (n + 1) 0

end Nu
end Go.Proofs.Ytdkckdbpbdhoaaa

/-
  Simple graphs, pure: the order of edges, what a valid graph is, where an edge lies, what pairs make.
-/
namespace Go.Proofs.Ytdkckdbpbdhoaaa
namespace Si

def lt (a b : Int × Int) : Prop := a.1 < b.1 ∨ (a.1 = b.1 ∧ a.2 < b.2)

instance (a b : Int × Int) : Decidable (lt a b) := by unfold lt; infer_instance

def cf (a b : Int × Int) : Int := if a.1 < b.1 then -1 else if b.1 < a.1 then 1 else if a.2 < b.2 then -1 else if b.2 < a.2 then 1 else 0

theorem cf_neg {a b : Int × Int} : cf a b < 0 ↔ lt a b := by
  unfold cf lt
  split
  · simp; omega
  · split
    · simp; omega
    · split
      · simp; omega
      · split
        · simp; omega
        · simp; omega

theorem cf_zero {a b : Int × Int} : cf a b = 0 ↔ a = b := by
  unfold cf
  obtain ⟨a1, a2⟩ := a
  obtain ⟨b1, b2⟩ := b
  simp only [Prod.mk.injEq]
  split
  · simp; omega
  · split
    · simp; omega
    · split
      · simp; omega
      · split
        · simp; omega
        · simp; omega

theorem lt_irrefl (a : Int × Int) : ¬ lt a a := by unfold lt; omega
theorem lt_trans {a b c : Int × Int} (h : lt a b) (k : lt b c) : lt a c := by unfold lt at *; omega
theorem lt_total (a b : Int × Int) : lt a b ∨ a = b ∨ lt b a := by
  unfold lt
  by_cases h : a = b
  · exact .inr (.inl h)
  · have : a.1 ≠ b.1 ∨ a.2 ≠ b.2 := by
      by_cases h1 : a.1 = b.1
      · exact .inr fun h2 => h (Prod.ext h1 h2)
      · exact .inl h1
    omega
theorem lt_asymm {a b : Int × Int} (h : lt a b) : ¬ lt b a := fun k => lt_irrefl a (lt_trans h k)
theorem lt_ne {a b : Int × Int} (h : lt a b) : a ≠ b := fun e => lt_irrefl a (by rw [e] at h ⊢; exact h)

def ok (n : Int) (e : Int × Int) : Prop := 0 ≤ e.1 ∧ e.1 < e.2 ∧ e.2 < n

/-- A graph in its one form. -/
structure Val (n : Int) (es : List (Int × Int)) : Prop where
  lo : 0 ≤ n
  hi : n ≤ 1048576
  few : es.length ≤ 4194304
  each : ∀ (j : Nat) (p : Int × Int), es[j]? = some p → ok n p
  up : ∀ (j : Nat) (p q : Int × Int), es[j]? = some p → es[j + 1]? = some q → lt p q

open Classical in
noncomputable def valid (n : Int) (es : List (Int × Int)) : Bool := decide (Val n es)

theorem valid_iff {n : Int} {es : List (Int × Int)} : valid n es = true ↔ Val n es := by unfold valid; exact @decide_eq_true_iff _ (Classical.propDecidable _)
theorem valid_no {n : Int} {es : List (Int × Int)} (h : ¬ Val n es) : valid n es = false := by
  cases hv : valid n es
  · rfl
  · exact absurd (valid_iff.1 hv) h

theorem Val.mono {n : Int} {es : List (Int × Int)} (h : Val n es) : ∀ (j i : Nat) (p q : Int × Int), i < j → es[i]? = some p → es[j]? = some q → lt p q
  | 0, _, _, _, hij, _, _ => by omega
  | j + 1, i, p, q, hij, hp, hq => by
    have hl : j + 1 < es.length := by
      rcases Nat.lt_or_ge (j + 1) es.length with hl | hl
      · exact hl
      · rw [List.getElem?_eq_none hl] at hq; cases hq
    have hr : es[j]? = some es[j] := List.getElem?_eq_getElem (by omega)
    have h1 := h.up j _ q hr hq
    by_cases hij' : i = j
    · subst hij'
      rw [hp] at hr
      cases hr
      exact h1
    · exact lt_trans (h.mono j i p _ (by omega) hp hr) h1

theorem Val.place {n : Int} {es : List (Int × Int)} (h : Val n es) {i j : Nat} {p : Int × Int} (hi : es[i]? = some p) (hj : es[j]? = some p) : i = j := by
  rcases Nat.lt_trichotomy i j with a | a | a
  · exact absurd (h.mono j i p p a hi hj) (lt_irrefl p)
  · exact a
  · exact absurd (h.mono i j p p a hj hi) (lt_irrefl p)

/-- r is the number of the edge e. -/
def IsFind (n : Int) (es : List (Int × Int)) (e : Int × Int) (r : Int) : Prop := (∃ k : Nat, Val n es ∧ es[k]? = some e ∧ r = k) ∨ (r = -1 ∧ ¬ (Val n es ∧ ∃ k : Nat, es[k]? = some e))

theorem IsFind.same {n : Int} {es : List (Int × Int)} {e : Int × Int} {r r' : Int} (h : IsFind n es e r) (h' : IsFind n es e r') : r = r' := by
  rcases h with ⟨k, hv, hk, rfl⟩ | ⟨rfl, hn⟩ <;> rcases h' with ⟨k', hv', hk', rfl⟩ | ⟨rfl, hn'⟩
  · rw [hv.place hk hk']
  · exact absurd ⟨hv, k, hk⟩ hn'
  · exact absurd ⟨hv', k', hk'⟩ hn
  · rfl

/-- Where a half-edge begins and ends. -/
noncomputable def ends (n : Int) (es : List (Int × Int)) (h : Int) : Int × Int × Bool :=
  if valid n es = true ∧ 0 ≤ h ∧ h < 2 * es.length then
    (if h % 2 = 1 then ((es.getD (h / 2).toNat (0, 0)).2, (es.getD (h / 2).toNat (0, 0)).1, true) else ((es.getD (h / 2).toNat (0, 0)).1, (es.getD (h / 2).toNat (0, 0)).2, true))
  else (0, 0, false)

def bump (l : List Int) (v : Int) : List Int := l.set v.toNat (l.getD v.toNat 0 + 1)
def degs (n : Int) : List (Int × Int) → List Int
  | es => es.foldl (fun l e => bump (bump l e.1) e.2) (List.replicate n.toNat 0)

def norm (p : Int × Int) : Int × Int := (min p.1 p.2, max p.1 p.2)

/-- l: the edges that the pairs say. -/
def IsMade (ps : List (Int × Int)) (l : List (Int × Int)) : Prop := l.Pairwise lt ∧ ∀ e, e ∈ l ↔ ∃ p ∈ ps, p.1 ≠ p.2 ∧ e = norm p

theorem sorted_ext : ∀ {l l' : List (Int × Int)}, l.Pairwise lt → l'.Pairwise lt → (∀ e, e ∈ l ↔ e ∈ l') → l = l'
  | [], [], _, _, _ => rfl
  | [], b :: l', _, _, h => by have := (h b).2 (by simp); simp at this
  | a :: l, [], _, _, h => by have := (h a).1 (by simp); simp at this
  | a :: l, b :: l', hs, hs', h => by
    rw [List.pairwise_cons] at hs hs'
    have hab : a = b := by
      have h1 := (h a).1 (by simp)
      have h2 := (h b).2 (by simp)
      rcases List.mem_cons.1 h1 with e | e
      · exact e
      · rcases List.mem_cons.1 h2 with e2 | e2
        · exact e2.symm
        · exact absurd (hs'.1 a e) (lt_asymm (hs.1 b e2))
    subst hab
    congr 1
    refine sorted_ext hs.2 hs'.2 fun e => ⟨fun he => ?_, fun he => ?_⟩
    · rcases List.mem_cons.1 ((h e).1 (List.mem_cons_of_mem _ he)) with e1 | e1
      · exact absurd e1.symm (lt_ne (hs.1 e he))
      · exact e1
    · rcases List.mem_cons.1 ((h e).2 (List.mem_cons_of_mem _ he)) with e1 | e1
      · exact absurd e1.symm (lt_ne (hs'.1 e he))
      · exact e1

theorem IsMade.same {ps l l' : List (Int × Int)} (h : IsMade ps l) (h' : IsMade ps l') : l = l' := sorted_ext h.1 h'.1 fun e => (h.2 e).trans (h'.2 e).symm

/-- The edges with one more. -/
def put : List (Int × Int) → Int × Int → List (Int × Int)
  | [], e => [e]
  | x :: l, e => if lt x e then x :: put l e else if x = e then x :: l else e :: x :: l

theorem mem_put : ∀ (l : List (Int × Int)) (e x : Int × Int), x ∈ put l e ↔ x = e ∨ x ∈ l
  | [], e, x => by simp [put]
  | y :: l, e, x => by
    unfold put
    split
    · rw [List.mem_cons, mem_put l e x, List.mem_cons]
      constructor
      · rintro (h | h | h)
        · exact .inr (.inl h)
        · exact .inl h
        · exact .inr (.inr h)
      · rintro (h | h | h)
        · exact .inr (.inl h)
        · exact .inl h
        · exact .inr (.inr h)
    · split
      · rename_i h
        subst h
        simp
      · rw [List.mem_cons]

theorem put_sorted : ∀ (l : List (Int × Int)) (e : Int × Int), l.Pairwise lt → (put l e).Pairwise lt
  | [], e, _ => by simp [put]
  | y :: l, e, h => by
    have h' := h
    rw [List.pairwise_cons] at h
    unfold put
    split
    · rename_i hye
      rw [List.pairwise_cons]
      refine ⟨fun z hz => ?_, put_sorted l e h.2⟩
      rcases (mem_put l e z).1 hz with rfl | hz
      · exact hye
      · exact h.1 z hz
    · split
      · exact h'
      · rename_i h1 h2
        rw [List.pairwise_cons]
        refine ⟨fun z hz => ?_, h'⟩
        have hey : lt e y := by
          rcases lt_total y e with a | a | a
          · exact absurd a h1
          · exact absurd a h2
          · exact a
        rcases List.mem_cons.1 hz with rfl | hz
        · exact hey
        · exact lt_trans hey (h.1 z hz)

theorem put_length : ∀ (l : List (Int × Int)) (e : Int × Int), l.length ≤ (put l e).length ∧ (put l e).length ≤ l.length + 1
  | [], e => by simp [put]
  | y :: l, e => by
    have := put_length l e
    unfold put
    split
    · simp; omega
    · split <;> simp

/-- Where it is put. -/
theorem put_at : ∀ (l : List (Int × Int)) (e : Int × Int) (i : Nat), i ≤ l.length → (∀ (j : Nat) (x : Int × Int), j < i → l[j]? = some x → lt x e) → (∀ x, l[i]? = some x → ¬ lt x e) →
    put l e = if l[i]? = some e then l else l.take i ++ e :: l.drop i
  | [], e, 0, _, _, _ => by simp [put]
  | [], e, i + 1, h, _, _ => by simp at h
  | y :: l, e, 0, _, _, h => by
    have := h y (by simp)
    unfold put
    rw [if_neg this]
    simp
  | y :: l, e, i + 1, hi, h1, h2 => by
    have hy := h1 0 y (by omega) (by simp)
    have ih := put_at l e i (by simpa using hi) (fun j x hj hx => h1 (j + 1) x (by omega) (by simpa using hx)) (fun x hx => h2 x (by simpa using hx))
    unfold put
    rw [if_pos hy, ih]
    simp only [List.getElem?_cons_succ, List.take_succ_cons, List.drop_succ_cons]
    split <;> simp

/-- The edges of pairs, one by one. -/
def made : List (Int × Int) → List (Int × Int) → List (Int × Int)
  | l, [] => l
  | l, p :: ps => made (if p.1 = p.2 then l else put l (norm p)) ps

theorem made_snoc : ∀ (ps l : List (Int × Int)) (p : Int × Int), made l (ps ++ [p]) = if p.1 = p.2 then made l ps else put (made l ps) (norm p)
  | [], l, p => by simp [made]
  | q :: ps, l, p => by simp only [List.cons_append, made]; exact made_snoc ps _ p

theorem made_is : ∀ (ps l : List (Int × Int)), l.Pairwise lt → (made l ps).Pairwise lt ∧ ∀ e, e ∈ made l ps ↔ e ∈ l ∨ ∃ p ∈ ps, p.1 ≠ p.2 ∧ e = norm p
  | [], l, h => ⟨h, fun e => by simp [made]⟩
  | p :: ps, l, h => by
    by_cases hp : p.1 = p.2
    · obtain ⟨h1, h2⟩ := made_is ps l h
      simp only [made, if_pos hp]
      refine ⟨h1, fun e => (h2 e).trans ?_⟩
      simp only [List.mem_cons, exists_eq_or_imp]
      constructor
      · rintro (a | a)
        · exact .inl a
        · exact .inr (.inr a)
      · rintro (a | a | a)
        · exact .inl a
        · exact absurd hp a.1
        · exact .inr a
    · obtain ⟨h1, h2⟩ := made_is ps (put l (norm p)) (put_sorted l _ h)
      simp only [made, if_neg hp]
      refine ⟨h1, fun e => (h2 e).trans ?_⟩
      rw [mem_put]
      simp only [List.mem_cons, exists_eq_or_imp]
      constructor
      · rintro ((a | a) | a)
        · exact .inr (.inl ⟨hp, a⟩)
        · exact .inl a
        · exact .inr (.inr a)
      · rintro (a | a | a)
        · exact .inl (.inr a)
        · exact .inl (.inl a.2)
        · exact .inr a

theorem made_made (ps : List (Int × Int)) : IsMade ps (made [] ps) := by
  obtain ⟨h1, h2⟩ := made_is ps [] List.Pairwise.nil
  exact ⟨h1, fun e => by rw [h2]; simp⟩

theorem made_length : ∀ (ps l : List (Int × Int)), l.length ≤ (made l ps).length ∧ (made l ps).length ≤ l.length + ps.length
  | [], l => by simp [made]
  | p :: ps, l => by
    simp only [made]
    split
    · have := made_length ps l
      simp; omega
    · have := made_length ps (put l (norm p))
      have := put_length l (norm p)
      simp; omega

theorem made_append : ∀ (ps qs l : List (Int × Int)), made l (ps ++ qs) = made (made l ps) qs
  | [], _, _ => rfl
  | p :: ps, qs, l => by simp only [List.cons_append, made]; exact made_append ps qs _

theorem made_take (ps : List (Int × Int)) (k : Nat) : (made [] (ps.take k)).length ≤ (made [] ps).length := by
  conv => rhs; rw [← List.take_append_drop k ps, made_append]
  exact (made_length _ _).1

/-- A list without doubles of just these is as long. -/
theorem nodup_length : ∀ {l l' : List (Int × Int)}, l.Nodup → l'.Nodup → (∀ e, e ∈ l ↔ e ∈ l') → l.length = l'.length
  | [], l', _, _, h => by
    cases l' with
    | nil => rfl
    | cons b l' => have := (h b).2 (by simp); simp at this
  | a :: l, l', hn, hn', h => by
    have ha : a ∈ l' := (h a).1 (by simp)
    obtain ⟨s, t, rfl⟩ := List.append_of_mem ha
    rw [List.nodup_cons] at hn
    have hn2 : a ∉ s ++ t ∧ (s ++ t).Nodup := by
      have := (List.perm_middle (a := a) (l₁ := s) (l₂ := t)).nodup_iff.1 hn'
      exact List.nodup_cons.1 this
    have := nodup_length (l := l) (l' := s ++ t) hn.2 hn2.2 fun e => by
      have he := h e
      simp only [List.mem_cons, List.mem_append] at he ⊢
      constructor
      · intro hl
        rcases he.1 (.inr hl) with a1 | a1 | a1
        · exact .inl a1
        · exact absurd (a1 ▸ hl) hn.1
        · exact .inr a1
      · intro hst
        rcases he.2 (by rcases hst with a1 | a1 <;> simp [a1]) with a1 | a1
        · exact absurd (by rw [List.mem_append]; exact a1 ▸ hst) hn2.1
        · exact a1
    simp at this ⊢
    omega

theorem sorted_nodup {l : List (Int × Int)} (h : l.Pairwise lt) : l.Nodup := h.imp fun hab => lt_ne hab

end Si
end Go.Proofs.Ytdkckdbpbdhoaaa

/-
  Pure: a set of edges moved into a list, one by one, and sorted.
-/
namespace Go.Proofs.Ytdkckdbpbdhoaaa
namespace Si

theorem put_len : ∀ (l : List (Int × Int)) (e : Int × Int), l.Pairwise lt → (put l e).length = if e ∈ l then l.length else l.length + 1
  | [], e, _ => by simp [put]
  | y :: l, e, h => by
    rw [List.pairwise_cons] at h
    unfold put
    split
    · rename_i hye
      have hne : e ≠ y := (lt_ne hye).symm
      rw [List.length_cons, put_len l e h.2]
      by_cases hm : e ∈ l
      · simp [hm]
      · simp [hm, hne]
    · split
      · rename_i h2
        subst h2
        simp
      · rename_i h1 h2
        have hey : lt e y := by
          rcases lt_total y e with a | a | a
          · exact absurd a h1
          · exact absurd a h2
          · exact a
        have hn : e ∉ y :: l := fun hm => by
          rcases List.mem_cons.1 hm with a | a
          · exact h2 a.symm
          · exact lt_asymm hey (h.1 e a)
        rw [if_neg hn]
        simp

theorem made_sorted (ps : List (Int × Int)) : (made [] ps).Pairwise lt := (made_made ps).1

theorem take_snoc {ps : List (Int × Int)} {k : Nat} {p : Int × Int} (h : ps[k]? = some p) : ps.take (k + 1) = ps.take k ++ [p] := by
  have hl : k < ps.length := (List.getElem?_eq_some_iff.1 h).1
  rw [List.take_succ_eq_append_getElem hl]
  rw [List.getElem?_eq_getElem hl] at h
  cases h
  rfl

/-- The edges moved so far, by the first k pairs. -/
structure Taken (l0 ps : List (Int × Int)) (k : Nat) (acc : List (Int × Int)) : Prop where
  nodup : acc.Nodup
  mem : ∀ e, e ∈ acc ↔ e ∈ l0 ∧ ∃ p ∈ ps.take k, norm p = e

theorem Taken.start (l0 ps : List (Int × Int)) : Taken l0 ps 0 [] := ⟨List.nodup_nil, fun e => by simp⟩

theorem Taken.new {l0 ps acc : List (Int × Int)} {k : Nat} {p : Int × Int} (h : Taken l0 ps k acc) (hp : ps[k]? = some p) (h0 : norm p ∈ l0) (h1 : norm p ∉ acc) : Taken l0 ps (k + 1) (acc ++ [norm p]) := by
  refine ⟨?_, fun e => ?_⟩
  · rw [List.nodup_append]
    exact ⟨h.nodup, by simp, fun a ha b hb hab => by rw [List.mem_singleton] at hb; subst hb; subst hab; exact h1 ha⟩
  · rw [List.mem_append, List.mem_singleton, h.mem, take_snoc hp]
    constructor
    · rintro (⟨a, q, hq, e1⟩ | rfl)
      · exact ⟨a, q, List.mem_append_left _ hq, e1⟩
      · exact ⟨h0, p, by simp, rfl⟩
    · rintro ⟨a, q, hq, e1⟩
      rcases List.mem_append.1 hq with hq | hq
      · exact .inl ⟨a, q, hq, e1⟩
      · rw [List.mem_singleton] at hq
        subst hq
        exact .inr e1.symm

theorem Taken.old {l0 ps acc : List (Int × Int)} {k : Nat} {p : Int × Int} (h : Taken l0 ps k acc) (hp : ps[k]? = some p) (h1 : ¬ (norm p ∈ l0 ∧ norm p ∉ acc)) : Taken l0 ps (k + 1) acc := by
  refine ⟨h.nodup, fun e => ?_⟩
  rw [h.mem, take_snoc hp]
  constructor
  · rintro ⟨a, q, hq, e1⟩
    exact ⟨a, q, List.mem_append_left _ hq, e1⟩
  · rintro ⟨a, q, hq, e1⟩
    rcases List.mem_append.1 hq with hq | hq
    · exact ⟨a, q, hq, e1⟩
    · rw [List.mem_singleton] at hq
      subst hq
      subst e1
      by_cases ha : norm q ∈ acc
      · exact ⟨a, ((h.mem _).1 ha).2⟩
      · exact absurd ⟨a, ha⟩ h1

theorem Taken.all {ps acc : List (Int × Int)} (h : Taken (made [] ps) ps ps.length acc) (e : Int × Int) : e ∈ acc ↔ e ∈ made [] ps := by
  rw [h.mem]
  constructor
  · exact fun a => a.1
  · intro a
    obtain ⟨p, hp, _, e1⟩ := ((made_made ps).2 e).1 a
    exact ⟨a, p, by rw [List.take_length]; exact hp, e1.symm⟩

/-- Sorted, a list of just these edges, each once, is the graph's. -/
theorem sorted_made {l0 acc l : List (Int × Int)} (h0 : l0.Pairwise lt) (hn : acc.Nodup) (hm : ∀ e, e ∈ acc ↔ e ∈ l0) (hp : l.Perm acc) (hs : ∀ (i j : Nat) (a b : Int × Int), i < j → l[i]? = some a → l[j]? = some b → ¬ lt b a) : l = l0 := by
  have hnl : l.Nodup := hp.nodup_iff.2 hn
  refine sorted_ext ?_ h0 (fun e => (hp.mem_iff).trans (hm e))
  rw [List.pairwise_iff_getElem]
  intro i j hi hj hij
  have hne : l[i] ≠ l[j] := by
    intro he
    have := (List.getElem_inj hnl).1 he
    omega
  rcases lt_total l[i] l[j] with a | a | a
  · exact a
  · exact absurd a hne
  · exact absurd a (hs i j _ _ hij (List.getElem?_eq_getElem hi) (List.getElem?_eq_getElem hj))

theorem norm_in {n : Int} {p : Int × Int} (h : (0 ≤ p.1 ∧ p.1 < n) ∧ 0 ≤ p.2 ∧ p.2 < n) (hn : n ≤ 1048576) : (0 ≤ (norm p).1 ∧ (norm p).1 ≤ 1048576) ∧ 0 ≤ (norm p).2 ∧ (norm p).2 ≤ 1048576 := by
  unfold norm
  dsimp only
  omega

/-- What is made of pairs of vertices is a valid graph. -/
theorem made_val {n : Int} {ps : List (Int × Int)} (h0 : 0 ≤ n) (h1 : n ≤ 1048576) (hin : ∀ (j : Nat) (p : Int × Int), ps[j]? = some p → (0 ≤ p.1 ∧ p.1 < n) ∧ 0 ≤ p.2 ∧ p.2 < n) (hl : (made [] ps).length ≤ 4194304) : Val n (made [] ps) := by
  refine ⟨h0, h1, hl, fun j p hj => ?_, fun j p q hp hq => ?_⟩
  · obtain ⟨r, hr, hne, rfl⟩ := ((made_made ps).2 p).1 (List.mem_of_getElem? hj)
    obtain ⟨i, hi, e⟩ := List.mem_iff_getElem.1 hr
    have := hin i r (by rw [← e]; exact List.getElem?_eq_getElem hi)
    unfold ok norm
    dsimp only
    omega
  · have hs := made_sorted ps
    rw [List.pairwise_iff_getElem] at hs
    obtain ⟨hi, ei⟩ := List.getElem?_eq_some_iff.1 hp
    obtain ⟨hj, ej⟩ := List.getElem?_eq_some_iff.1 hq
    have := hs j (j + 1) hi hj (by omega)
    rw [ei, ej] at this
    exact this

end Si
end Go.Proofs.Ytdkckdbpbdhoaaa

/-
  Graphs out of graphs, pure: what each call is to answer.
-/
namespace Go.Proofs.Ytdkckdbpbdhoaaa
namespace Ed
open Si

abbrev E := Int × Int
/-- How many vertices, the edges, the error's number. -/
abbrev Ans := Int × List E × Int

/-- A number of a list, -1 beyond it. -/
def nth (ns : List Int) (v : Int) : Int := ns.getD v.toNat (-1)
theorem nth_at {ns : List Int} {v : Nat} {x : Int} (h : ns[v]? = some x) : nth ns (v : Int) = x := by
  unfold nth
  rw [Int.toNat_natCast, List.getD_eq_getElem?_getD, h]
  rfl

/-- Both have names. -/
def okq (q : E) : Bool := decide (0 ≤ q.1) && decide (0 ≤ q.2)
/-- The pairs of the names, where both have one. -/
def pr (ns : List Int) (es : List E) : List E := (es.map fun p => (nth ns p.1, nth ns p.2)).filter okq
def named (ns : List Int) (es : List E) : List E := made [] (pr ns es)

/-- No name is another's. -/
def Inj (ns : List Int) : Prop := ∀ (i j : Nat) (x : Int), ns[i]? = some x → ns[j]? = some x → 0 ≤ x → i = j

theorem pr_snoc (ns : List Int) (es : List E) (p : E) : pr ns (es ++ [p]) = pr ns es ++ (if okq (nth ns p.1, nth ns p.2) = true then [(nth ns p.1, nth ns p.2)] else []) := by
  unfold pr
  rw [List.map_append, List.filter_append]
  congr 1
  simp [List.filter_cons]

theorem mem_pr {ns : List Int} {es : List E} {q : E} : q ∈ pr ns es ↔ ∃ p ∈ es, q = (nth ns p.1, nth ns p.2) ∧ 0 ≤ q.1 ∧ 0 ≤ q.2 := by
  unfold pr okq
  rw [List.mem_filter, List.mem_map]
  simp only [Bool.and_eq_true, decide_eq_true_eq]
  constructor
  · rintro ⟨⟨p, hp, e⟩, h⟩
    exact ⟨p, hp, e.symm, h⟩
  · rintro ⟨p, hp, e, h⟩
    exact ⟨⟨p, hp, e.symm⟩, h⟩

theorem pr_length (ns : List Int) (es : List E) : (pr ns es).length ≤ es.length := by
  unfold pr
  refine Nat.le_trans (List.length_filter_le _ _) ?_
  rw [List.length_map]
  exact Nat.le_refl _

/-- Vertices are below how many there are names. -/
def Fits (ns : List Int) (es : List E) : Prop := ∀ p ∈ es, 0 ≤ p.1 ∧ p.1 < p.2 ∧ p.2 < (ns.length : Int)

theorem Fits.at {ns : List Int} {es : List E} (h : Fits ns es) {p : E} (hp : p ∈ es) : ∃ u v : Nat, p = ((u : Int), (v : Int)) ∧ u < v ∧ v < ns.length ∧ ns[u]? = some (nth ns p.1) ∧ ns[v]? = some (nth ns p.2) := by
  obtain ⟨h0, h1, h2⟩ := h p hp
  refine ⟨p.1.toNat, p.2.toNat, by ext <;> simp <;> omega, by omega, by omega, ?_, ?_⟩
  · unfold nth
    rw [List.getD_eq_getElem?_getD, List.getElem?_eq_getElem (show p.1.toNat < ns.length by omega)]
    rfl
  · unfold nth
    rw [List.getD_eq_getElem?_getD, List.getElem?_eq_getElem (show p.2.toNat < ns.length by omega)]
    rfl

theorem norm_inj {a b c d : Int} (h : norm (a, b) = norm (c, d)) : (a = c ∧ b = d) ∨ (a = d ∧ b = c) := by
  unfold norm at h
  simp only [Prod.mk.injEq] at h
  omega

/-- Other edges have other names. -/
theorem names_inj {ns : List Int} {es : List E} (hi : Inj ns) (hf : Fits ns es) {p q : E} (hp : p ∈ es) (hq : q ∈ es) (h1 : 0 ≤ nth ns p.1) (h2 : 0 ≤ nth ns p.2)
    (h : norm (nth ns p.1, nth ns p.2) = norm (nth ns q.1, nth ns q.2)) : p = q := by
  obtain ⟨u, v, ep, h3, _, a1, a2⟩ := hf.at hp
  obtain ⟨x, y, eq, h4, _, b1, b2⟩ := hf.at hq
  rcases norm_inj h with ⟨e1, e2⟩ | ⟨e1, e2⟩
  · rw [← e1] at b1
    rw [← e2] at b2
    have k1 := hi _ _ _ a1 b1 h1
    have k2 := hi _ _ _ a2 b2 h2
    rw [ep, eq, k1, k2]
  · rw [← e1] at b2
    rw [← e2] at b1
    have k1 := hi _ _ _ a1 b2 h1
    have k2 := hi _ _ _ a2 b1 h2
    omega

theorem names_ne {ns : List Int} {es : List E} (hi : Inj ns) (hf : Fits ns es) {p : E} (hp : p ∈ es) (h1 : 0 ≤ nth ns p.1) : nth ns p.1 ≠ nth ns p.2 := by
  obtain ⟨u, v, ep, h3, _, a1, a2⟩ := hf.at hp
  intro e
  rw [← e] at a2
  have := hi _ _ _ a1 a2 h1
  omega

theorem mem_named {ns : List Int} {es : List E} (hi : Inj ns) (hf : Fits ns es) {e : E} : e ∈ named ns es ↔ ∃ p ∈ es, 0 ≤ nth ns p.1 ∧ 0 ≤ nth ns p.2 ∧ e = norm (nth ns p.1, nth ns p.2) := by
  unfold named
  rw [(made_made _).2]
  constructor
  · rintro ⟨q, hq, _, rfl⟩
    obtain ⟨p, hp, rfl, h1, h2⟩ := mem_pr.1 hq
    exact ⟨p, hp, h1, h2, rfl⟩
  · rintro ⟨p, hp, h1, h2, rfl⟩
    exact ⟨_, mem_pr.2 ⟨p, hp, rfl, h1, h2⟩, names_ne hi hf hp h1, rfl⟩

theorem named_sorted (ns : List Int) (es : List E) : (named ns es).Pairwise lt := made_sorted _

theorem sorted_of_val {n : Int} {es : List E} (h : Val n es) : es.Pairwise lt := by
  rw [List.pairwise_iff_getElem]
  intro i j hi hj hij
  exact h.mono j i _ _ hij (List.getElem?_eq_getElem hi) (List.getElem?_eq_getElem hj)

theorem val_of {n : Int} {es : List E} (h0 : 0 ≤ n) (h1 : n ≤ 1048576) (h2 : es.length ≤ 4194304) (h3 : ∀ p ∈ es, ok n p) (h4 : es.Pairwise lt) : Val n es := by
  refine ⟨h0, h1, h2, fun j p hj => h3 p (List.mem_of_getElem? hj), fun j p q hp hq => ?_⟩
  rw [List.pairwise_iff_getElem] at h4
  obtain ⟨hi, ei⟩ := List.getElem?_eq_some_iff.1 hp
  obtain ⟨hj, ej⟩ := List.getElem?_eq_some_iff.1 hq
  have := h4 j (j + 1) hi hj (by omega)
  rw [ei, ej] at this
  exact this

theorem val_ok {n : Int} {es : List E} (h : Val n es) {p : E} (hp : p ∈ es) : ok n p := by
  obtain ⟨j, hj, e⟩ := List.mem_iff_getElem.1 hp
  exact h.each j p (by rw [← e]; exact List.getElem?_eq_getElem hj)

theorem val_fits {n : Int} {es : List E} {ns : List Int} (h : Val n es) (hn : (ns.length : Int) = n) : Fits ns es := fun p hp => by
  have := val_ok h hp
  unfold ok at this
  omega

/-- The pairs' edges, each once. -/
theorem pr_nodup {ns : List Int} {es : List E} (hi : Inj ns) (hf : Fits ns es) (hs : es.Nodup) : ((pr ns es).map norm).Nodup := by
  induction es with
  | nil => simp [pr]
  | cons p es ih =>
    rw [List.nodup_cons] at hs
    have ih' := ih (fun q hq => hf q (List.mem_cons_of_mem _ hq)) hs.2
    have e : pr ns (p :: es) = (if okq (nth ns p.1, nth ns p.2) = true then [(nth ns p.1, nth ns p.2)] else []) ++ pr ns es := by
      unfold pr
      rw [List.map_cons, List.filter_cons]
      split <;> simp
    rw [e]
    split
    · rename_i hok
      unfold okq at hok
      simp only [Bool.and_eq_true, decide_eq_true_eq] at hok
      rw [List.singleton_append, List.map_cons, List.nodup_cons]
      refine ⟨fun hm => ?_, ih'⟩
      obtain ⟨q, hq, he⟩ := List.mem_map.1 hm
      obtain ⟨p', hp', rfl, _, _⟩ := mem_pr.1 hq
      have := names_inj hi hf (p := p) (q := p') (by simp) (List.mem_cons_of_mem _ hp') hok.1 hok.2 he.symm
      exact hs.1 (this ▸ hp')
    · simpa using ih'

/-- The names of the first edges, one more. -/
theorem named_snoc {ns : List Int} {es : List E} {k : Nat} {p : E} (hp : es[k]? = some p) (hi : Inj ns) (hf : Fits ns es) (hok : 0 ≤ nth ns p.1 ∧ 0 ≤ nth ns p.2) : named ns (es.take (k + 1)) = put (named ns (es.take k)) (norm (nth ns p.1, nth ns p.2)) := by
  unfold named
  rw [take_snoc hp, pr_snoc, if_pos (by simp [okq, hok]), made_snoc, if_neg]
  exact names_ne hi hf (List.mem_of_getElem? hp) hok.1
theorem named_skip {ns : List Int} {es : List E} {k : Nat} {p : E} (hp : es[k]? = some p) (hok : ¬ (0 ≤ nth ns p.1 ∧ 0 ≤ nth ns p.2)) : named ns (es.take (k + 1)) = named ns (es.take k) := by
  unfold named
  rw [take_snoc hp, pr_snoc, if_neg (by simpa [okq] using hok), List.append_nil]
theorem pr_some {ns : List Int} {es : List E} {k : Nat} {p : E} (hp : es[k]? = some p) (hok : 0 ≤ nth ns p.1 ∧ 0 ≤ nth ns p.2) : pr ns (es.take (k + 1)) = pr ns (es.take k) ++ [(nth ns p.1, nth ns p.2)] := by
  rw [take_snoc hp, pr_snoc, if_pos (by simp [okq, hok])]
theorem pr_skip {ns : List Int} {es : List E} {k : Nat} {p : E} (hp : es[k]? = some p) (hok : ¬ (0 ≤ nth ns p.1 ∧ 0 ≤ nth ns p.2)) : pr ns (es.take (k + 1)) = pr ns (es.take k) := by
  rw [take_snoc hp, pr_snoc, if_neg (by simpa [okq] using hok), List.append_nil]
theorem fits_take {ns : List Int} {es : List E} (hf : Fits ns es) (k : Nat) : Fits ns (es.take k) := fun p hp => hf p (List.mem_of_mem_take hp)

theorem named_new {ns : List Int} {es : List E} {k : Nat} {p : E} (hp : es[k]? = some p) (hi : Inj ns) (hf : Fits ns es) (hs : es.Nodup) (hok : 0 ≤ nth ns p.1 ∧ 0 ≤ nth ns p.2) : norm (nth ns p.1, nth ns p.2) ∉ named ns (es.take k) := by
  intro hm
  obtain ⟨q, hq, h1, h2, e⟩ := (mem_named hi (fits_take hf k)).1 hm
  have hpm := List.mem_of_getElem? hp
  have he := names_inj hi hf hpm (List.mem_of_mem_take hq) hok.1 hok.2 e
  subst he
  have hl : k < es.length := (List.getElem?_eq_some_iff.1 hp).1
  have hn : (es.take k ++ [p]).Nodup := by
    rw [← take_snoc hp]
    exact List.Nodup.sublist (List.take_sublist _ _) hs
  rw [List.nodup_append] at hn
  exact hn.2.2 p hq p (by simp) rfl

/-- Sorted, the pairs' edges are the named ones. -/
theorem named_of_sort {ns : List Int} {es l : List E} (hi : Inj ns) (hf : Fits ns es) (hs : es.Nodup) (hp : l.Perm ((pr ns es).map norm)) (hl : ∀ (i j : Nat) (a b : E), i < j → l[i]? = some a → l[j]? = some b → ¬ lt b a) : l = named ns es := by
  refine sorted_made (named_sorted _ _) (pr_nodup hi hf hs) (fun e => ?_) hp hl
  rw [mem_named hi hf, List.mem_map]
  constructor
  · rintro ⟨q, hq, rfl⟩
    obtain ⟨p, hpe, rfl, h1, h2⟩ := mem_pr.1 hq
    exact ⟨p, hpe, h1, h2, rfl⟩
  · rintro ⟨p, hpe, h1, h2, rfl⟩
    exact ⟨_, mem_pr.2 ⟨p, hpe, rfl, h1, h2⟩, rfl⟩

theorem named_length {ns : List Int} {es : List E} (hi : Inj ns) (hf : Fits ns es) (hs : es.Nodup) : (named ns es).length = (pr ns es).length := by
  have := nodup_length (sorted_nodup (named_sorted ns es)) (pr_nodup hi hf hs) (fun e => by
    rw [mem_named hi hf, List.mem_map]
    constructor
    · rintro ⟨p, hpe, h1, h2, rfl⟩
      exact ⟨_, mem_pr.2 ⟨p, hpe, rfl, h1, h2⟩, rfl⟩
    · rintro ⟨q, hq, rfl⟩
      obtain ⟨p, hpe, rfl, h1, h2⟩ := mem_pr.1 hq
      exact ⟨p, hpe, h1, h2, rfl⟩)
  rw [this, List.length_map]

/-! ## Places -/

/-- By number, its place among the first of a list. -/
def pls (n : Nat) (l : List Int) : Nat → List Int
  | 0 => List.replicate n (-1)
  | k + 1 => (pls n l k).set (l.getD k 0).toNat (k : Int)
def pl (n : Nat) (l : List Int) : List Int := pls n l l.length

theorem pls_length (n : Nat) (l : List Int) : ∀ k, (pls n l k).length = n
  | 0 => by simp [pls]
  | k + 1 => by simp [pls, pls_length n l k]

/-- Numbers below n, each once. -/
def Once (n : Int) (l : List Int) : Prop := (∀ x ∈ l, 0 ≤ x ∧ x < n) ∧ l.Nodup

/-- So many are all vertices, and none twice. -/
def OnceTo (n : Int) (l : List Int) (k : Nat) : Prop := ∀ (i : Nat) (x : Int), i < k → l[i]? = some x → (0 ≤ x ∧ x < n) ∧ ∀ j, j < i → l[j]? ≠ some x

theorem once_iff {n : Int} {l : List Int} : Once n l ↔ OnceTo n l l.length := by
  constructor
  · rintro ⟨h1, h2⟩ i x _ hx
    refine ⟨h1 x (List.mem_of_getElem? hx), fun j hj hjx => ?_⟩
    obtain ⟨hi, ei⟩ := List.getElem?_eq_some_iff.1 hx
    obtain ⟨hjl, ej⟩ := List.getElem?_eq_some_iff.1 hjx
    have := (List.getElem_inj h2).1 (ei.trans ej.symm)
    omega
  · intro h
    refine ⟨fun x hx => ?_, ?_⟩
    · obtain ⟨i, hi, e⟩ := List.mem_iff_getElem.1 hx
      exact (h i x hi (by rw [← e]; exact List.getElem?_eq_getElem hi)).1
    · rw [List.nodup_iff_pairwise_ne, List.pairwise_iff_getElem]
      intro i j hi hj hij e
      exact (h j _ hj (List.getElem?_eq_getElem hj)).2 i hij (by rw [List.getElem?_eq_getElem hi, e])

theorem pls_at {n : Nat} {l : List Int} : ∀ {k : Nat}, k ≤ l.length → OnceTo (n : Int) l k → ∀ (v : Nat) (x : Int), (pls n l k)[v]? = some x → (x = -1 ∧ ∀ i, i < k → l[i]? ≠ some (v : Int)) ∨ ∃ i : Nat, i < k ∧ x = (i : Int) ∧ l[i]? = some (v : Int)
  | 0, _, _, v, x, h => by
    left
    simp only [pls, List.getElem?_replicate] at h
    split at h
    · cases h
      exact ⟨rfl, fun i hi => by omega⟩
    · cases h
  | k + 1, hk, ho, v, x, h => by
    have hkl : k < l.length := by omega
    have hg : l[k]? = some l[k] := List.getElem?_eq_getElem hkl
    have hd : l.getD k 0 = l[k] := by rw [List.getD_eq_getElem?_getD, hg]; rfl
    obtain ⟨⟨h0, h1⟩, h2⟩ := ho k _ (by omega) hg
    simp only [pls, hd] at h
    rw [List.getElem?_set] at h
    by_cases hv : l[k].toNat = v
    · rw [if_pos hv, if_pos (by rw [pls_length]; omega)] at h
      cases h
      right
      exact ⟨k, by omega, rfl, by rw [hg]; congr 1; omega⟩
    · rw [if_neg hv] at h
      rcases pls_at (k := k) (by omega) (fun i x hi => ho i x (by omega)) v x h with ⟨e, h3⟩ | ⟨i, hi, e, h3⟩
      · left
        refine ⟨e, fun i hi => ?_⟩
        by_cases hik : i = k
        · subst hik
          rw [hg]
          intro he
          have := Option.some.inj he
          exact hv (by omega)
        · exact h3 i (by omega)
      · right
        exact ⟨i, by omega, e, h3⟩

theorem pls_inj {n : Nat} {l : List Int} {k : Nat} (hk : k ≤ l.length) (ho : OnceTo (n : Int) l k) : Inj (pls n l k) := by
  intro i j x hi hj hx
  rcases pls_at hk ho i x hi with ⟨e, _⟩ | ⟨a, ha, e, h1⟩
  · omega
  rcases pls_at hk ho j x hj with ⟨e', _⟩ | ⟨b, hb, e', h2⟩
  · omega
  have : a = b := by omega
  subst this
  rw [h1] at h2
  have := Option.some.inj h2
  omega

theorem pl_inj {n : Nat} {l : List Int} (h : Once (n : Int) l) : Inj (pl n l) := pls_inj (Nat.le_refl _) (once_iff.1 h)
theorem pl_at {n : Nat} {l : List Int} (h : Once (n : Int) l) {v : Nat} {x : Int} (hx : (pl n l)[v]? = some x) : (x = -1 ∧ (v : Int) ∉ l) ∨ ∃ i : Nat, x = (i : Int) ∧ l[i]? = some (v : Int) := by
  rcases pls_at (Nat.le_refl _) (once_iff.1 h) v x hx with ⟨e, h1⟩ | ⟨i, _, e, h1⟩
  · refine .inl ⟨e, fun hm => ?_⟩
    obtain ⟨i, hi, ei⟩ := List.mem_iff_getElem.1 hm
    exact h1 i hi (by rw [← ei]; exact List.getElem?_eq_getElem hi)
  · exact .inr ⟨i, e, h1⟩
theorem pl_length (n : Nat) (l : List Int) : (pl n l).length = n := pls_length _ _ _
/-- What stands in the list has its place. -/
theorem pl_of {n : Nat} {l : List Int} (h : Once (n : Int) l) {i v : Nat} (hi : l[i]? = some (v : Int)) : (pl n l)[v]? = some (i : Int) := by
  have hv := h.1 _ (List.mem_of_getElem? hi)
  obtain ⟨x, hx⟩ : ∃ x, (pl n l)[v]? = some x := ⟨_, List.getElem?_eq_getElem (by rw [pl_length]; omega)⟩
  rcases pl_at h hx with ⟨_, h1⟩ | ⟨j, rfl, h1⟩
  · exact absurd (List.mem_of_getElem? hi) h1
  · have : j = i := by
      obtain ⟨a, ea⟩ := List.getElem?_eq_some_iff.1 h1
      obtain ⟨b, eb⟩ := List.getElem?_eq_some_iff.1 hi
      exact (List.getElem_inj h.2).1 (ea.trans eb.symm)
    rw [hx, this]
theorem pl_none {n : Nat} {l : List Int} (h : Once (n : Int) l) {v : Nat} (hv : v < n) (hm : (v : Int) ∉ l) : (pl n l)[v]? = some (-1) := by
  obtain ⟨x, hx⟩ : ∃ x, (pl n l)[v]? = some x := ⟨_, List.getElem?_eq_getElem (by rw [pl_length]; omega)⟩
  rcases pl_at h hx with ⟨e, h1⟩ | ⟨j, rfl, h1⟩
  · rw [hx, e]
  · exact absurd (List.mem_of_getElem? h1) hm
theorem once_few {n : Nat} {l : List Int} (h : Once (n : Int) l) : l.length ≤ n := by
  have h1 : (l.map Int.toNat).Nodup := by
    rw [List.nodup_iff_pairwise_ne, List.pairwise_map]
    refine List.Pairwise.imp_of_mem ?_ (List.nodup_iff_pairwise_ne.1 h.2)
    intro a b ha hb hab e
    have := h.1 a ha
    have := h.1 b hb
    omega
  have h2 := List.Nodup.length_le_of_subset h1 (l₂ := List.range n) (fun x hx => by
    obtain ⟨y, hy, rfl⟩ := List.mem_map.1 hx
    have := h.1 y hy
    rw [List.mem_range]
    omega)
  simpa using h2

/-! ## Marks -/

def mks (m : Nat) (keep : List Int) : Nat → List Bool
  | 0 => List.replicate m false
  | k + 1 => (mks m keep k).set (keep.getD k 0).toNat true
def mk (m : Nat) (keep : List Int) : List Bool := mks m keep keep.length
theorem mks_length (m : Nat) (l : List Int) : ∀ k, (mks m l k).length = m
  | 0 => by simp [mks]
  | k + 1 => by simp [mks, mks_length m l k]
/-- Those that are marked. -/
def sel : List Bool → List E → List E
  | true :: b, e :: es => e :: sel b es
  | false :: b, _ :: es => sel b es
  | _, _ => []
theorem sel_take : ∀ (b : List Bool) (es : List E) (k : Nat) (p : E) (x : Bool), es[k]? = some p → b[k]? = some x → sel b (es.take (k + 1)) = sel b (es.take k) ++ (if x = true then [p] else [])
  | [], _, _, _, _, _, h => by simp at h
  | _ :: _, [], _, _, _, h, _ => by simp at h
  | c :: b, e :: es, 0, p, x, h1, h2 => by
    simp at h1 h2
    subst h1
    subst h2
    cases c <;> simp [sel]
  | c :: b, e :: es, k + 1, p, x, h1, h2 => by
    have ih := sel_take b es k p x (by simpa using h1) (by simpa using h2)
    simp only [List.take_succ_cons]
    cases c
    · simp only [sel]
      simpa using ih
    · simp only [sel, List.cons_append]
      congr 1
theorem sel_sub : ∀ (b : List Bool) (es : List E), (sel b es).Sublist es
  | [], es => by simp [sel]
  | _ :: _, [] => by simp [sel]
  | true :: b, e :: es => by simp only [sel]; exact (sel_sub b es).cons_cons e
  | false :: b, e :: es => by simp only [sel]; exact (sel_sub b es).cons e

/-! ## The answers -/

noncomputable def without (n : Int) (es : List E) (e : Int) : Ans :=
  if valid n es = false then (0, [], 1) else if e < 0 ∨ (es.length : Int) ≤ e then (0, [], 2) else (n, es.eraseIdx e.toNat, 0)
open Classical in
noncomputable def withE (n : Int) (es : List E) (x : E) : Ans :=
  if valid n es = false then (0, [], 1) else if ¬ ok n x then (0, [], 2) else if x ∈ es then (0, [], 140) else if 4194304 ≤ es.length then (0, [], 141) else (n, put es x, 0)
open Classical in
noncomputable def sub (n : Int) (es : List E) (keep : List Int) : Ans :=
  if valid n es = false then (0, [], 1) else if ¬ ∀ x ∈ keep, 0 ≤ x ∧ x < (es.length : Int) then (0, [], 2) else (n, sel (mk es.length keep) es, 0)
def sh (by_ : Int) (es : List E) : List E := es.map fun p => (by_ + p.1, by_ + p.2)
noncomputable def beside (n : Int) (es : List E) (n' : Int) (es' : List E) : Ans :=
  if valid n es = false ∨ valid n' es' = false then (0, [], 1) else if 1048576 < n + n' ∨ 4194304 < es.length + es'.length then (0, [], 141) else (n + n', es ++ sh n es', 0)
open Classical in
noncomputable def relabel (n : Int) (es : List E) (to_ : List Int) : Ans :=
  if valid n es = false then (0, [], 1) else if ¬ (Once n to_ ∧ (to_.length : Int) = n) then (0, [], 2) else (n, named to_ es, 0)
noncomputable def divide (n : Int) (es : List E) (e : Int) : Ans :=
  if valid n es = false then (0, [], 1) else if e < 0 ∨ (es.length : Int) ≤ e then (0, [], 2) else if 1048576 ≤ n ∨ 4194304 ≤ es.length then (0, [], 141)
  else (n + 1, put (put (es.eraseIdx e.toNat) ((es.getD e.toNat (0, 0)).1, n)) ((es.getD e.toNat (0, 0)).2, n), 0)
/-- An edge to each of the first k. -/
def spk (n : Int) (es : List E) : Nat → List E
  | 0 => es
  | k + 1 => put (spk n es k) ((k : Int), n)
noncomputable def apex (n : Int) (es : List E) : Ans :=
  if valid n es = false then (0, [], 1) else if 1048576 ≤ n ∨ 4194304 < (es.length : Int) + n then (0, [], 141) else (n + 1, spk n es n.toNat, 0)
/-- Is it an edge's end? -/
def has (es : List E) (v : Int) : Bool := es.any fun p => p.1 == v || p.2 == v
/-- The vertices below k that have an edge. -/
def bl (es : List E) : Nat → List Int
  | 0 => []
  | k + 1 => bl es k ++ (if has es k = true then [(k : Int)] else [])
noncomputable def bareL (n : Int) (es : List E) : List Int := if valid n es = false then [] else bl es n.toNat
noncomputable def bare (n : Int) (es : List E) : Ans :=
  if valid n es = false then (0, [], 1) else ((bl es n.toNat).length, named (pl n.toNat (bl es n.toNat)) es, 0)
open Classical in
noncomputable def induced (n : Int) (es : List E) (l : List Int) : Ans :=
  if valid n es = false then (0, [], 1) else if ¬ Once n l then (0, [], 2) else (l.length, named (pl n.toNat l) es, 0)

end Ed
end Go.Proofs.Ytdkckdbpbdhoaaa

/-
  Graphs out of graphs, pure: merging.
-/
namespace Go.Proofs.Ytdkckdbpbdhoaaa

/-- Merged. -/
def Ed.mrg (es ms : List (Int × Int)) : List (Int × Int) := List.merge es ms (fun e m => !decide (Si.lt m e))
theorem Ed.mrg_nil (es : List (Int × Int)) : Ed.mrg es [] = es := by unfold Ed.mrg; simp
theorem Ed.nil_mrg (ms : List (Int × Int)) : Ed.mrg [] ms = ms := by unfold Ed.mrg; simp
theorem Ed.mrg_lt {e m : Int × Int} {es ms : List (Int × Int)} (h : Si.lt m e) : Ed.mrg (e :: es) (m :: ms) = m :: Ed.mrg (e :: es) ms := by
  unfold Ed.mrg
  rw [List.cons_merge_cons]
  simp [h]
theorem Ed.mrg_ge {e m : Int × Int} {es ms : List (Int × Int)} (h : ¬ Si.lt m e) : Ed.mrg (e :: es) (m :: ms) = e :: Ed.mrg es (m :: ms) := by
  unfold Ed.mrg
  rw [List.cons_merge_cons]
  simp [h]
theorem Ed.mrg_length (es ms : List (Int × Int)) : (Ed.mrg es ms).length = es.length + ms.length := by
  unfold Ed.mrg
  rw [(List.merge_perm_append _).length_eq, List.length_append]

theorem Ed.erase_at {n : Int} {es : List (Int × Int)} (hv : Si.Val n es) {k : Nat} {x : Int × Int} (hx : es[k]? = some x) : es.erase x = es.eraseIdx k := by
  rw [List.erase_eq_eraseIdx]
  have hl : k < es.length := (List.getElem?_eq_some_iff.1 hx).1
  have hi : es.idxOf? x = some k := by
    rw [List.idxOf?_eq_some_iff] 
    refine ⟨hl, (List.getElem?_eq_some_iff.1 hx).2, fun j hj => ?_⟩
    intro e
    have := hv.place (i := j) (j := k) (p := x) (by rw [List.getElem?_eq_getElem (by omega)]; simpa using e) hx
    omega
  rw [hi]

/-- The first edges to a vertex. -/
def Ed.sp (n : Int) (k : Nat) : List (Int × Int) := (List.range k).map fun v : Nat => ((v : Int), n)
theorem Ed.sp_set {n : Int} {m k : Nat} (hk : k < m) : (Ed.sp n k ++ List.replicate (m - k) (0, 0)).set k ((k : Int), n) = Ed.sp n (k + 1) ++ List.replicate (m - (k + 1)) (0, 0) := by
  have e : m - k = (m - (k + 1)) + 1 := by omega
  have hl : (Ed.sp n k).length = k := by simp [Ed.sp]
  rw [e, List.replicate_succ, List.set_append_right _ _ (by omega), hl]
  simp [Ed.sp, List.range_succ]

namespace Ed
open Si

theorem mem_mrg {es ms : List E} {e : E} : e ∈ mrg es ms ↔ e ∈ es ∨ e ∈ ms := by
  unfold mrg
  rw [(List.merge_perm_append _).mem_iff, List.mem_append]

theorem mrg_sorted {es ms : List E} (hs : es.Pairwise lt) (hm : ms.Pairwise lt) (hd : ∀ e ∈ es, e ∉ ms) : (mrg es ms).Pairwise lt := by
  have hle : ∀ {l : List E}, l.Pairwise lt → l.Pairwise fun a b => (!decide (lt b a)) = true := fun h => h.imp fun {a b} hab => by simpa using lt_asymm hab
  have h1 : (mrg es ms).Pairwise fun a b => (!decide (lt b a)) = true := by
    unfold mrg
    refine List.pairwise_merge ?_ ?_ _ _ (hle hs) (hle hm)
    · intro a b c h1 h2
      simp at h1 h2 ⊢
      unfold lt at *
      omega
    · intro a b
      by_cases h : lt b a
      · simp [h, lt_asymm h]
      · simp [h]
  have hn : (mrg es ms).Nodup := by
    unfold mrg
    rw [(List.merge_perm_append _).nodup_iff, List.nodup_append]
    exact ⟨sorted_nodup hs, sorted_nodup hm, fun a ha b hb e => hd a ha (e ▸ hb)⟩
  rw [List.pairwise_iff_getElem] at h1 ⊢
  intro i j hi hj hij
  have h2 := h1 i j hi hj hij
  rcases lt_total (mrg es ms)[i] (mrg es ms)[j] with a | a | a
  · exact a
  · have := (List.getElem_inj hn).1 a
    omega
  · simp [a] at h2

theorem mrg_eq {es ms l : List E} (hs : es.Pairwise lt) (hm : ms.Pairwise lt) (hd : ∀ e ∈ es, e ∉ ms) (hl : l.Pairwise lt) (h : ∀ e, e ∈ l ↔ e ∈ es ∨ e ∈ ms) : mrg es ms = l :=
  sorted_ext (mrg_sorted hs hm hd) hl fun e => mem_mrg.trans (h e).symm

theorem mrg_one {es : List E} {x : E} (hs : es.Pairwise lt) (hx : x ∉ es) : mrg es [x] = put es x :=
  mrg_eq hs (by simp) (fun e he h => hx (by rw [List.mem_singleton] at h; exact h ▸ he)) (put_sorted _ _ hs) fun e => by
    rw [mem_put, List.mem_singleton]
    exact Or.comm

theorem mrg_two {es : List E} {x y : E} (hs : es.Pairwise lt) (hx : x ∉ es) (hy : y ∉ es) (hxy : lt x y) : mrg es [x, y] = put (put es x) y :=
  mrg_eq hs (by simpa using hxy) (fun e he h => by
    simp at h
    rcases h with rfl | rfl
    · exact hx he
    · exact hy he) (put_sorted _ _ (put_sorted _ _ hs)) fun e => by
    rw [mem_put, mem_put]
    simp
    constructor
    · rintro (h | h | h)
      · exact .inr (.inr h)
      · exact .inr (.inl h)
      · exact .inl h
    · rintro (h | h | h)
      · exact .inr (.inr h)
      · exact .inr (.inl h)
      · exact .inl h

theorem mem_sp {n : Int} {k : Nat} {e : E} : e ∈ sp n k ↔ ∃ v : Nat, v < k ∧ e = ((v : Int), n) := by
  unfold sp
  rw [List.mem_map]
  constructor
  · rintro ⟨v, hv, rfl⟩
    exact ⟨v, List.mem_range.1 hv, rfl⟩
  · rintro ⟨v, hv, rfl⟩
    exact ⟨v, List.mem_range.2 hv, rfl⟩

theorem sp_sorted (n : Int) (k : Nat) : (sp n k).Pairwise lt := by
  unfold sp
  rw [List.pairwise_map]
  refine List.Pairwise.imp ?_ List.pairwise_lt_range
  intro a b hab
  left
  simpa using hab

theorem mem_spk {n : Int} {es : List E} : ∀ {k : Nat} {e : E}, e ∈ spk n es k ↔ e ∈ es ∨ e ∈ sp n k
  | 0, e => by simp [spk, sp]
  | k + 1, e => by
    unfold spk
    rw [mem_put, mem_spk, mem_sp, mem_sp]
    constructor
    · rintro (rfl | h | ⟨v, hv, rfl⟩)
      · exact .inr ⟨k, by omega, rfl⟩
      · exact .inl h
      · exact .inr ⟨v, by omega, rfl⟩
    · rintro (h | ⟨v, hv, rfl⟩)
      · exact .inr (.inl h)
      · by_cases hk : v = k
        · exact .inl (by rw [hk])
        · exact .inr (.inr ⟨v, by omega, rfl⟩)
theorem spk_sorted {n : Int} {es : List E} (hs : es.Pairwise lt) : ∀ k, (spk n es k).Pairwise lt
  | 0 => hs
  | k + 1 => put_sorted _ _ (spk_sorted hs k)
theorem val_no_n {n : Int} {es : List E} (hv : Val n es) (u : Int) : (u, n) ∉ es := fun h => by
  have := val_ok hv h
  unfold ok at this
  omega
theorem mrg_sp {n : Int} {es : List E} (hv : Val n es) (k : Nat) : mrg es (sp n k) = spk n es k :=
  mrg_eq (sorted_of_val hv) (sp_sorted n k) (fun e he h => by
    obtain ⟨v, _, rfl⟩ := mem_sp.1 h
    exact val_no_n hv _ he) (spk_sorted (sorted_of_val hv) k) fun e => mem_spk

theorem mem_sh {d : Int} {es : List E} {e : E} : e ∈ sh d es ↔ ∃ p ∈ es, e = (d + p.1, d + p.2) := by
  unfold sh
  rw [List.mem_map]
  constructor
  · rintro ⟨p, hp, rfl⟩
    exact ⟨p, hp, rfl⟩
  · rintro ⟨p, hp, rfl⟩
    exact ⟨p, hp, rfl⟩
theorem sh_sorted {d : Int} {es : List E} (hs : es.Pairwise lt) : (sh d es).Pairwise lt := by
  unfold sh
  rw [List.pairwise_map]
  refine hs.imp ?_
  intro a b hab
  unfold lt at *
  dsimp only
  omega
theorem app_sorted {n n' : Int} {es es' : List E} (hv : Val n es) (hv' : Val n' es') : (es ++ sh n es').Pairwise lt := by
  rw [List.pairwise_append]
  refine ⟨sorted_of_val hv, sh_sorted (sorted_of_val hv'), fun a ha b hb => ?_⟩
  obtain ⟨p, hp, rfl⟩ := mem_sh.1 hb
  have h1 := val_ok hv ha
  have h2 := val_ok hv' hp
  unfold ok at h1 h2
  left
  dsimp only
  omega
theorem mrg_sh {n n' : Int} {es es' : List E} (hv : Val n es) (hv' : Val n' es') : mrg es (sh n es') = es ++ sh n es' :=
  mrg_eq (sorted_of_val hv) (sh_sorted (sorted_of_val hv')) (fun e he h => by
    obtain ⟨p, hp, rfl⟩ := mem_sh.1 h
    have h1 := val_ok hv he
    have h2 := val_ok hv' hp
    unfold ok at h1 h2
    omega) (app_sorted hv hv') fun e => List.mem_append

theorem erase_sorted {es : List E} (hs : es.Pairwise lt) (k : Nat) : (es.eraseIdx k).Pairwise lt := hs.sublist (List.eraseIdx_sublist _ _)
theorem mem_eraseIdx {n : Int} {es : List E} (hv : Val n es) {k : Nat} {x e : E} (hx : es[k]? = some x) : e ∈ es.eraseIdx k ↔ e ∈ es ∧ e ≠ x := by
  rw [← erase_at hv hx, (sorted_nodup (sorted_of_val hv)).mem_erase_iff]
  exact And.comm

end Ed
end Go.Proofs.Ytdkckdbpbdhoaaa

/-
  Graphs out of graphs, pure: the vertices that have edges.
-/
namespace Go.Proofs.Ytdkckdbpbdhoaaa
namespace Ed
open Si

theorem bump_get {l : List Int} {u : Int} {v : Nat} {d : Int} (h : l[v]? = some d) : (bump l u)[v]? = some (if u.toNat = v then d + 1 else d) := by
  unfold bump
  rw [List.getElem?_set]
  have hl : v < l.length := (List.getElem?_eq_some_iff.1 h).1
  by_cases e : u.toNat = v
  · rw [if_pos e, if_pos (by omega), if_pos e, e, List.getD_eq_getElem?_getD, h]
    rfl
  · rw [if_neg e, if_neg e, h]

theorem degs_go : ∀ (es : List E) (l : List Int) (v : Nat) (d : Int), (∀ p ∈ es, 0 ≤ p.1 ∧ 0 ≤ p.2) → l[v]? = some d → 0 ≤ d → ∃ d', (es.foldl (fun l e => bump (bump l e.1) e.2) l)[v]? = some d' ∧ 0 ≤ d' ∧ (0 < d' ↔ 0 < d ∨ has es (v : Int) = true)
  | [], l, v, d, _, h, h0 => ⟨d, h, h0, by simp [has]⟩
  | p :: es, l, v, d, hp, h, h0 => by
    obtain ⟨p1, p2⟩ := p
    have hp0 := hp (p1, p2) (by simp)
    dsimp only at hp0
    have h1 := bump_get (u := p2) (bump_get (u := p1) h)
    obtain ⟨d', e1, e2, e3⟩ := degs_go es _ v _ (fun q hq => hp q (List.mem_cons_of_mem _ hq)) h1 (by split <;> split <;> omega)
    refine ⟨d', e1, e2, e3.trans ?_⟩
    unfold has
    rw [List.any_cons]
    simp only [Bool.or_eq_true, beq_iff_eq]
    have a1 : p1.toNat = v ↔ p1 = (v : Int) := by omega
    have a2 : p2.toNat = v ↔ p2 = (v : Int) := by omega
    simp only [a1, a2]
    by_cases b1 : p1 = (v : Int) <;> by_cases b2 : p2 = (v : Int) <;> simp [b1, b2] <;> omega

theorem degs_pos {m : Nat} {es : List E} (hv : Val (m : Int) es) {v : Nat} {d : Int} (h : (degs (m : Int) es)[v]? = some d) : 0 < d ↔ has es (v : Int) = true := by
  have hl : v < m := by
    have := (List.getElem?_eq_some_iff.1 h).1
    unfold degs at this
    suffices hh : ∀ (es : List E) (l : List Int), (es.foldl (fun l e => bump (bump l e.1) e.2) l).length = l.length by
      rw [hh] at this
      simpa using this
    intro es
    induction es with
    | nil => intro l; rfl
    | cons e es ih => intro l; rw [List.foldl_cons, ih]; simp [bump]
  obtain ⟨d', e1, _, e3⟩ := degs_go es (List.replicate ((m : Int)).toNat 0) v 0 (fun p hp => by have := val_ok hv hp; unfold ok at this; omega) (by simp [hl]) (Int.le_refl _)
  have : d' = d := by
    unfold degs at h
    rw [e1] at h
    exact Option.some.inj h
  subst this
  rw [e3]
  simp

theorem mem_bl {es : List E} : ∀ {k : Nat} {x : Int}, x ∈ bl es k ↔ ∃ v : Nat, v < k ∧ x = (v : Int) ∧ has es (v : Int) = true
  | 0, x => by simp [bl]
  | k + 1, x => by
    unfold bl
    rw [List.mem_append, mem_bl]
    constructor
    · rintro (⟨v, hv, e, h⟩ | h)
      · exact ⟨v, by omega, e, h⟩
      · split at h
        · rename_i hh
          rw [List.mem_singleton] at h
          exact ⟨k, by omega, h, hh⟩
        · simp at h
    · rintro ⟨v, hv, e, h⟩
      by_cases hk : v = k
      · subst hk
        right
        rw [if_pos h, List.mem_singleton]
        exact e
      · exact .inl ⟨v, by omega, e, h⟩

theorem bl_nodup (es : List E) : ∀ k, (bl es k).Nodup
  | 0 => List.nodup_nil
  | k + 1 => by
    unfold bl
    rw [List.nodup_append]
    refine ⟨bl_nodup es k, by split <;> simp, fun a ha b hb e => ?_⟩
    obtain ⟨v, hv, e1, _⟩ := mem_bl.1 ha
    split at hb
    · rw [List.mem_singleton] at hb
      omega
    · simp at hb

theorem bl_once (es : List E) {k m : Nat} (h : k ≤ m) : Once (m : Int) (bl es k) :=
  ⟨fun x hx => by obtain ⟨v, hv, e, _⟩ := mem_bl.1 hx; omega, bl_nodup es k⟩

theorem bl_length (es : List E) : ∀ k, (bl es k).length ≤ k
  | 0 => by simp [bl]
  | k + 1 => by
    have := bl_length es k
    unfold bl
    rw [List.length_append]
    split <;> simp <;> omega

theorem bl_succ (es : List E) (k : Nat) : bl es (k + 1) = bl es k ++ (if has es (k : Int) = true then [(k : Int)] else []) := rfl

/-- The places of those, one by one. -/
theorem bl_place (es : List E) : ∀ {k v : Nat}, v < k → has es (v : Int) = true → (bl es k)[(bl es v).length]? = some (v : Int)
  | 0, v, h, _ => by omega
  | k + 1, v, h, hh => by
    rw [bl_succ]
    by_cases hk : v = k
    · subst hk
      rw [List.getElem?_append_right (Nat.le_refl _), Nat.sub_self, if_pos hh]
      rfl
    · have := bl_place es (k := k) (v := v) (by omega) hh
      rw [List.getElem?_append_left (List.getElem?_eq_some_iff.1 this).1]
      exact this

theorem pl_bl {es : List E} {m v : Nat} (hv : v < m) : (pl m (bl es m))[v]? = some (if has es (v : Int) = true then ((bl es v).length : Int) else -1) := by
  have ho := bl_once es (k := m) (m := m) (Nat.le_refl _)
  split
  · rename_i h
    exact pl_of ho (bl_place es hv h)
  · rename_i h
    refine pl_none ho hv fun hm => ?_
    obtain ⟨u, _, e, hu⟩ := mem_bl.1 hm
    exact h (by rw [show (v : Int) = (u : Int) from e]; exact hu)

end Ed
end Go.Proofs.Ytdkckdbpbdhoaaa
