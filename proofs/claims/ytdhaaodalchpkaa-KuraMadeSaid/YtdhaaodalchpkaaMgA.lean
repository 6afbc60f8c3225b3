import Init
/-
  The scanner of decimal numbers as plain functions on bytes, with no program in it: what passing, reading one token, and reading all tokens come to, and the small laws of these.
-/
namespace Go.Proofs.Ytdhaaodalchpkaa
namespace Nu

def isBlank (c : Int) : Bool := c == 32 || (c == 9 || c == 13)
def isDigit (c : Int) : Bool := decide (48 ≤ c) && decide (c ≤ 57)

/-- q is the first place from p on (below n) whose byte f refuses, or n. -/
structure IsSkip (f : Int → Bool) (g : Nat → Int) (n p q : Nat) : Prop where
  lo : p ≤ q
  hi : q ≤ n
  all : ∀ i, p ≤ i → i < q → f (g i) = true
  stop : q < n → f (g q) = false

theorem IsSkip.uniq {f : Int → Bool} {g : Nat → Int} {n p q r : Nat} (h : IsSkip f g n p q) (k : IsSkip f g n p r) : q = r := by
  rcases Nat.lt_trichotomy q r with l | l | l
  · have := k.all q h.lo l
    rw [h.stop (Nat.lt_of_lt_of_le l k.hi)] at this
    cases this
  · exact l
  · have := h.all r k.lo l
    rw [k.stop (Nat.lt_of_lt_of_le l h.hi)] at this
    cases this

def skipF (f : Int → Bool) (g : Nat → Int) (n : Nat) : Nat → Nat → Nat
  | 0, p => p
  | k + 1, p => if p < n ∧ f (g p) = true then skipF f g n k (p + 1) else p

def skip (f : Int → Bool) (g : Nat → Int) (n p : Nat) : Nat := skipF f g n (n - p) p

theorem skipF_is (f : Int → Bool) (g : Nat → Int) (n : Nat) : ∀ k p, p ≤ n → n - p ≤ k → IsSkip f g n p (skipF f g n k p)
  | 0, p, hp, hk => ⟨Nat.le_refl _, hp, fun i h1 h2 => by simp [skipF] at h2; omega, fun h => by simp [skipF] at h; omega⟩
  | k + 1, p, hp, hk => by
    unfold skipF
    by_cases h : p < n ∧ f (g p) = true
    · rw [if_pos h]
      have ih := skipF_is f g n k (p + 1) (by omega) (by omega)
      refine ⟨by have := ih.lo; omega, ih.hi, fun i h1 h2 => ?_, ih.stop⟩
      by_cases e : i = p
      · subst e; exact h.2
      · exact ih.all i (by omega) h2
    · rw [if_neg h]
      refine ⟨Nat.le_refl _, hp, fun i h1 h2 => by omega, fun hn => ?_⟩
      cases hb : f (g p)
      · rfl
      · exact absurd ⟨hn, hb⟩ h

theorem skip_is (f : Int → Bool) (g : Nat → Int) (n p : Nat) (hp : p ≤ n) : IsSkip f g n p (skip f g n p) := skipF_is f g n (n - p) p hp (Nat.le_refl _)

theorem IsSkip.eq {f : Int → Bool} {g : Nat → Int} {n p q : Nat} (h : IsSkip f g n p q) : q = skip f g n p := h.uniq (skip_is f g n p (Nat.le_trans h.lo h.hi))

/-- The value of the k digits from place q on. -/
def val (g : Nat → Int) (q : Nat) : Nat → Int
  | 0 => 0
  | k + 1 => 10 * val g q k + (g (q + k) - 48)

def pow10 : Nat → Int
  | 0 => 1
  | k + 1 => 10 * pow10 k

theorem val_bound (g : Nat → Int) (q : Nat) : ∀ k, (∀ i, i < k → 48 ≤ g (q + i) ∧ g (q + i) ≤ 57) → 0 ≤ val g q k ∧ val g q k < pow10 k
  | 0, _ => by simp [val, pow10]
  | k + 1, h => by
    have ih := val_bound g q k (fun i hi => h i (by omega))
    have hk := h k (by omega)
    simp only [val, pow10]
    omega

theorem pow10_pos : ∀ k, 0 < pow10 k
  | 0 => by simp [pow10]
  | k + 1 => by have := pow10_pos k; simp only [pow10]; omega

theorem pow10_mono {a b : Nat} (h : a ≤ b) : pow10 a ≤ pow10 b := by
  induction b with
  | zero => have : a = 0 := by omega
            subst this; exact Int.le_refl _
  | succ b ih =>
    by_cases e : a = b + 1
    · subst e; exact Int.le_refl _
    · have := ih (by omega)
      have := pow10_pos b
      simp only [pow10]; omega

theorem val_lt_9 (g : Nat → Int) (q k : Nat) (hk : k ≤ 9) (h : ∀ i, i < k → 48 ≤ g (q + i) ∧ g (q + i) ≤ 57) : 0 ≤ val g q k ∧ val g q k < 1000000000 := by
  have h1 := val_bound g q k h
  have h2 : pow10 k ≤ pow10 9 := pow10_mono hk
  have h3 : pow10 9 = 1000000000 := by decide
  omega

/-- A token: its kind, its place, the place behind it, its number. -/
structure Tok where
  kind : Int
  at' : Int
  fin : Int
  num : Int

/-- The next token from place p on and where it ends, or the fault's place and number. -/
def next (g : Nat → Int) (n p : Nat) : Except (Nat × Int) (Tok × Nat) :=
  if skip isBlank g n p = n then .ok (⟨3, n, n, 0⟩, n)
  else if isDigit (g (skip isBlank g n p)) = true then
    if 9 < skip isDigit g n (skip isBlank g n p) - skip isBlank g n p ∨ (1 < skip isDigit g n (skip isBlank g n p) - skip isBlank g n p ∧ g (skip isBlank g n p) = 48) then .error (skip isBlank g n p, 12)
    else .ok (⟨1, skip isBlank g n p, skip isDigit g n (skip isBlank g n p), val g (skip isBlank g n p) (skip isDigit g n (skip isBlank g n p) - skip isBlank g n p)⟩, skip isDigit g n (skip isBlank g n p))
  else if g (skip isBlank g n p) = 10 then .ok (⟨2, skip isBlank g n p, skip isBlank g n p + 1, 0⟩, skip isBlank g n p + 1)
  else .error (skip isBlank g n p, 11)

theorem next_end {g : Nat → Int} {n p : Nat} (h : IsSkip isBlank g n p n) : next g n p = .ok (⟨3, n, n, 0⟩, n) := by
  unfold next; rw [← h.eq]; simp

theorem next_line {g : Nat → Int} {n p q : Nat} (h : IsSkip isBlank g n p q) (hq : q < n) (h10 : g q = 10) : next g n p = .ok (⟨2, q, q + 1, 0⟩, q + 1) := by
  unfold next
  rw [← h.eq, if_neg (by omega), if_neg (by rw [h10]; decide), if_pos h10]

theorem next_byte {g : Nat → Int} {n p q : Nat} (h : IsSkip isBlank g n p q) (hq : q < n) (hd : isDigit (g q) = false) (h10 : g q ≠ 10) : next g n p = .error (q, 11) := by
  unfold next
  rw [← h.eq, if_neg (by omega), if_neg (by rw [hd]; decide), if_neg h10]

theorem next_bad {g : Nat → Int} {n p q r : Nat} (h : IsSkip isBlank g n p q) (hq : q < n) (hd : isDigit (g q) = true) (hr : IsSkip isDigit g n q r) (hb : 9 < r - q ∨ (1 < r - q ∧ g q = 48)) : next g n p = .error (q, 12) := by
  unfold next
  rw [← h.eq, if_neg (by omega), if_pos hd, ← hr.eq, if_pos hb]

theorem next_num {g : Nat → Int} {n p q r : Nat} (h : IsSkip isBlank g n p q) (hq : q < n) (hd : isDigit (g q) = true) (hr : IsSkip isDigit g n q r) (hb : ¬ (9 < r - q ∨ (1 < r - q ∧ g q = 48))) : next g n p = .ok (⟨1, q, r, val g q (r - q)⟩, r) := by
  unfold next
  rw [← h.eq, if_neg (by omega), if_pos hd, ← hr.eq, if_neg hb]

/-- All tokens from place p on (k: how many more may come), or the first fault. -/
def scanF (g : Nat → Int) (n : Nat) : Nat → Nat → Except (Nat × Int) (List Tok)
  | 0, _ => .ok []
  | k + 1, p => match next g n p with
    | .error x => .error x
    | .ok (t, p') => if t.kind = 3 then .ok [t] else match scanF g n k p' with
      | .error x => .error x
      | .ok ts => .ok (t :: ts)

def scan (g : Nat → Int) (n : Nat) : Except (Nat × Int) (List Tok) := scanF g n (n + 1) 0

end Nu
end Go.Proofs.Ytdhaaodalchpkaa

/-
  Simple graphs, pure: the order of edges, what a valid graph is, where an edge lies, what pairs make.
-/
namespace Go.Proofs.Ytdhaaodalchpkaa
namespace Si

def lt (a b : Int × Int) : Prop := a.1 < b.1 ∨ (a.1 = b.1 ∧ a.2 < b.2)

instance (a b : Int × Int) : Decidable (lt a b) := by unfold lt; infer_instance

def cf (a b : Int × Int) : Int := if a.1 < b.1 then -1 else if b.1 < a.1 then 1 else if a.2 < b.2 then -1 else if b.2 < a.2 then 1 else 0

theorem cf_neg {a b : Int × Int} : cf a b < 0 ↔ lt a b := by
  unfold cf lt
  split
  · simp; omega
  · split
    · simp; omega
    · split
      · simp; omega
      · split
        · simp; omega
        · simp; omega

theorem cf_zero {a b : Int × Int} : cf a b = 0 ↔ a = b := by
  unfold cf
  obtain ⟨a1, a2⟩ := a
  obtain ⟨b1, b2⟩ := b
  simp only [Prod.mk.injEq]
  split
  · simp; omega
  · split
    · simp; omega
    · split
      · simp; omega
      · split
        · simp; omega
        · simp; omega

theorem lt_irrefl (a : Int × Int) : ¬ lt a a := by unfold lt; omega
theorem lt_trans {a b c : Int × Int} (h : lt a b) (k : lt b c) : lt a c := by unfold lt at *; omega
theorem lt_total (a b : Int × Int) : lt a b ∨ a = b ∨ lt b a := by
  unfold lt
  by_cases h : a = b
  · exact .inr (.inl h)
  · have : a.1 ≠ b.1 ∨ a.2 ≠ b.2 := by
      by_cases h1 : a.1 = b.1
      · exact .inr fun h2 => h (Prod.ext h1 h2)
      · exact .inl h1
    omega
theorem lt_asymm {a b : Int × Int} (h : lt a b) : ¬ lt b a := fun k => lt_irrefl a (lt_trans h k)
theorem lt_ne {a b : Int × Int} (h : lt a b) : a ≠ b := fun e => lt_irrefl a (by rw [e] at h ⊢; exact h)

def ok (n : Int) (e : Int × Int) : Prop := 0 ≤ e.1 ∧ e.1 < e.2 ∧ e.2 < n

/-- A graph in its one form. -/
structure Val (n : Int) (es : List (Int × Int)) : Prop where
  lo : 0 ≤ n
  hi : n ≤ 1048576
  few : es.length ≤ 4194304
  each : ∀ (j : Nat) (p : Int × Int), es[j]? = some p → ok n p
  up : ∀ (j : Nat) (p q : Int × Int), es[j]? = some p → es[j + 1]? = some q → lt p q

open Classical in
noncomputable def valid (n : Int) (es : List (Int × Int)) : Bool := decide (Val n es)

theorem valid_iff {n : Int} {es : List (Int × Int)} : valid n es = true ↔ Val n es := by unfold valid; exact @decide_eq_true_iff _ (Classical.propDecidable _)
theorem valid_no {n : Int} {es : List (Int × Int)} (h : ¬ Val n es) : valid n es = false := by
  cases hv : valid n es
  · rfl
  · exact absurd (valid_iff.1 hv) h

theorem Val.mono {n : Int} {es : List (Int × Int)} (h : Val n es) : ∀ (j i : Nat) (p q : Int × Int), i < j → es[i]? = some p → es[j]? = some q → lt p q
  | 0, _, _, _, hij, _, _ => by omega
  | j + 1, i, p, q, hij, hp, hq => by
    have hl : j + 1 < es.length := by
      rcases Nat.lt_or_ge (j + 1) es.length with hl | hl
      · exact hl
      · rw [List.getElem?_eq_none hl] at hq; cases hq
    have hr : es[j]? = some es[j] := List.getElem?_eq_getElem (by omega)
    have h1 := h.up j _ q hr hq
    by_cases hij' : i = j
    · subst hij'
      rw [hp] at hr
      cases hr
      exact h1
    · exact lt_trans (h.mono j i p _ (by omega) hp hr) h1

theorem Val.place {n : Int} {es : List (Int × Int)} (h : Val n es) {i j : Nat} {p : Int × Int} (hi : es[i]? = some p) (hj : es[j]? = some p) : i = j := by
  rcases Nat.lt_trichotomy i j with a | a | a
  · exact absurd (h.mono j i p p a hi hj) (lt_irrefl p)
  · exact a
  · exact absurd (h.mono i j p p a hj hi) (lt_irrefl p)

/-- r is the number of the edge e. -/
def IsFind (n : Int) (es : List (Int × Int)) (e : Int × Int) (r : Int) : Prop := (∃ k : Nat, Val n es ∧ es[k]? = some e ∧ r = k) ∨ (r = -1 ∧ ¬ (Val n es ∧ ∃ k : Nat, es[k]? = some e))

theorem IsFind.same {n : Int} {es : List (Int × Int)} {e : Int × Int} {r r' : Int} (h : IsFind n es e r) (h' : IsFind n es e r') : r = r' := by
  rcases h with ⟨k, hv, hk, rfl⟩ | ⟨rfl, hn⟩ <;> rcases h' with ⟨k', hv', hk', rfl⟩ | ⟨rfl, hn'⟩
  · rw [hv.place hk hk']
  · exact absurd ⟨hv, k, hk⟩ hn'
  · exact absurd ⟨hv', k', hk'⟩ hn
  · rfl

/-- Where a half-edge begins and ends. -/
noncomputable def ends (n : Int) (es : List (Int × Int)) (h : Int) : Int × Int × Bool :=
  if valid n es = true ∧ 0 ≤ h ∧ h < 2 * es.length then
    (if h % 2 = 1 then ((es.getD (h / 2).toNat (0, 0)).2, (es.getD (h / 2).toNat (0, 0)).1, true) else ((es.getD (h / 2).toNat (0, 0)).1, (es.getD (h / 2).toNat (0, 0)).2, true))
  else (0, 0, false)

def bump (l : List Int) (v : Int) : List Int := l.set v.toNat (l.getD v.toNat 0 + 1)
def degs (n : Int) : List (Int × Int) → List Int
  | es => es.foldl (fun l e => bump (bump l e.1) e.2) (List.replicate n.toNat 0)

def norm (p : Int × Int) : Int × Int := (min p.1 p.2, max p.1 p.2)

/-- l: the edges that the pairs say. -/
def IsMade (ps : List (Int × Int)) (l : List (Int × Int)) : Prop := l.Pairwise lt ∧ ∀ e, e ∈ l ↔ ∃ p ∈ ps, p.1 ≠ p.2 ∧ e = norm p

theorem sorted_ext : ∀ {l l' : List (Int × Int)}, l.Pairwise lt → l'.Pairwise lt → (∀ e, e ∈ l ↔ e ∈ l') → l = l'
  | [], [], _, _, _ => rfl
  | [], b :: l', _, _, h => by have := (h b).2 (by simp); simp at this
  | a :: l, [], _, _, h => by have := (h a).1 (by simp); simp at this
  | a :: l, b :: l', hs, hs', h => by
    rw [List.pairwise_cons] at hs hs'
    have hab : a = b := by
      have h1 := (h a).1 (by simp)
      have h2 := (h b).2 (by simp)
      rcases List.mem_cons.1 h1 with e | e
      · exact e
      · rcases List.mem_cons.1 h2 with e2 | e2
        · exact e2.symm
        · exact absurd (hs'.1 a e) (lt_asymm (hs.1 b e2))
    subst hab
    congr 1
    refine sorted_ext hs.2 hs'.2 fun e => ⟨fun he => ?_, fun he => ?_⟩
    · rcases List.mem_cons.1 ((h e).1 (List.mem_cons_of_mem _ he)) with e1 | e1
      · exact absurd e1.symm (lt_ne (hs.1 e he))
      · exact e1
    · rcases List.mem_cons.1 ((h e).2 (List.mem_cons_of_mem _ he)) with e1 | e1
      · exact absurd e1.symm (lt_ne (hs'.1 e he))
      · exact e1

theorem IsMade.same {ps l l' : List (Int × Int)} (h : IsMade ps l) (h' : IsMade ps l') : l = l' := sorted_ext h.1 h'.1 fun e => (h.2 e).trans (h'.2 e).symm

/-- The edges with one more. -/
def put : List (Int × Int) → Int × Int → List (Int × Int)
  | [], e => [e]
  | x :: l, e => if lt x e then x :: put l e else if x = e then x :: l else e :: x :: l

theorem mem_put : ∀ (l : List (Int × Int)) (e x : Int × Int), x ∈ put l e ↔ x = e ∨ x ∈ l
  | [], e, x => by simp [put]
  | y :: l, e, x => by
    unfold put
    split
    · rw [List.mem_cons, mem_put l e x, List.mem_cons]
      constructor
      · rintro (h | h | h)
        · exact .inr (.inl h)
        · exact .inl h
        · exact .inr (.inr h)
      · rintro (h | h | h)
        · exact .inr (.inl h)
        · exact .inl h
        · exact .inr (.inr h)
    · split
      · rename_i h
        subst h
        simp
      · rw [List.mem_cons]

theorem put_sorted : ∀ (l : List (Int × Int)) (e : Int × Int), l.Pairwise lt → (put l e).Pairwise lt
  | [], e, _ => by simp [put]
  | y :: l, e, h => by
    have h' := h
    rw [List.pairwise_cons] at h
    unfold put
    split
    · rename_i hye
      rw [List.pairwise_cons]
      refine ⟨fun z hz => ?_, put_sorted l e h.2⟩
      rcases (mem_put l e z).1 hz with rfl | hz
      · exact hye
      · exact h.1 z hz
    · split
      · exact h'
      · rename_i h1 h2
        rw [List.pairwise_cons]
        refine ⟨fun z hz => ?_, h'⟩
        have hey : lt e y := by
          rcases lt_total y e with a | a | a
          · exact absurd a h1
          · exact absurd a h2
          · exact a
        rcases List.mem_cons.1 hz with rfl | hz
        · exact hey
        · exact lt_trans hey (h.1 z hz)

theorem put_length : ∀ (l : List (Int × Int)) (e : Int × Int), l.length ≤ (put l e).length ∧ (put l e).length ≤ l.length + 1
  | [], e => by simp [put]
  | y :: l, e => by
    have := put_length l e
    unfold put
    split
    · simp; omega
    · split <;> simp

/-- Where it is put. -/
theorem put_at : ∀ (l : List (Int × Int)) (e : Int × Int) (i : Nat), i ≤ l.length → (∀ (j : Nat) (x : Int × Int), j < i → l[j]? = some x → lt x e) → (∀ x, l[i]? = some x → ¬ lt x e) →
    put l e = if l[i]? = some e then l else l.take i ++ e :: l.drop i
  | [], e, 0, _, _, _ => by simp [put]
  | [], e, i + 1, h, _, _ => by simp at h
  | y :: l, e, 0, _, _, h => by
    have := h y (by simp)
    unfold put
    rw [if_neg this]
    simp
  | y :: l, e, i + 1, hi, h1, h2 => by
    have hy := h1 0 y (by omega) (by simp)
    have ih := put_at l e i (by simpa using hi) (fun j x hj hx => h1 (j + 1) x (by omega) (by simpa using hx)) (fun x hx => h2 x (by simpa using hx))
    unfold put
    rw [if_pos hy, ih]
    simp only [List.getElem?_cons_succ, List.take_succ_cons, List.drop_succ_cons]
    split <;> simp

/-- The edges of pairs, one by one. -/
def made : List (Int × Int) → List (Int × Int) → List (Int × Int)
  | l, [] => l
  | l, p :: ps => made (if p.1 = p.2 then l else put l (norm p)) ps

theorem made_snoc : ∀ (ps l : List (Int × Int)) (p : Int × Int), made l (ps ++ [p]) = if p.1 = p.2 then made l ps else put (made l ps) (norm p)
  | [], l, p => by simp [made]
  | q :: ps, l, p => by simp only [List.cons_append, made]; exact made_snoc ps _ p

theorem made_is : ∀ (ps l : List (Int × Int)), l.Pairwise lt → (made l ps).Pairwise lt ∧ ∀ e, e ∈ made l ps ↔ e ∈ l ∨ ∃ p ∈ ps, p.1 ≠ p.2 ∧ e = norm p
  | [], l, h => ⟨h, fun e => by simp [made]⟩
  | p :: ps, l, h => by
    by_cases hp : p.1 = p.2
    · obtain ⟨h1, h2⟩ := made_is ps l h
      simp only [made, if_pos hp]
      refine ⟨h1, fun e => (h2 e).trans ?_⟩
      simp only [List.mem_cons, exists_eq_or_imp]
      constructor
      · rintro (a | a)
        · exact .inl a
        · exact .inr (.inr a)
      · rintro (a | a | a)
        · exact .inl a
        · exact absurd hp a.1
        · exact .inr a
    · obtain ⟨h1, h2⟩ := made_is ps (put l (norm p)) (put_sorted l _ h)
      simp only [made, if_neg hp]
      refine ⟨h1, fun e => (h2 e).trans ?_⟩
      rw [mem_put]
      simp only [List.mem_cons, exists_eq_or_imp]
      constructor
      · rintro ((a | a) | a)
        · exact .inr (.inl ⟨hp, a⟩)
        · exact .inl a
        · exact .inr (.inr a)
      · rintro (a | a | a)
        · exact .inl (.inr a)
        · exact .inl (.inl a.2)
        · exact .inr a

theorem made_made (ps : List (Int × Int)) : IsMade ps (made [] ps) := by
  obtain ⟨h1, h2⟩ := made_is ps [] List.Pairwise.nil
  exact ⟨h1, fun e => by rw [h2]; simp⟩

theorem made_length : ∀ (ps l : List (Int × Int)), l.length ≤ (made l ps).length ∧ (made l ps).length ≤ l.length + ps.length
  | [], l => by simp [made]
  | p :: ps, l => by
    simp only [made]
    split
    · have := made_length ps l
      simp; omega
    · have := made_length ps (put l (norm p))
      have := put_length l (norm p)
      simp; omega

theorem made_append : ∀ (ps qs l : List (Int × Int)), made l (ps ++ qs) = made (made l ps) qs
  | [], _, _ => rfl
  | p :: ps, qs, l => by simp only [List.cons_append, made]; exact made_append ps qs _

theorem made_take (ps : List (Int × Int)) (k : Nat) : (made [] (ps.take k)).length ≤ (made [] ps).length := by
  conv => rhs; rw [← List.take_append_drop k ps, made_append]
  exact (made_length _ _).1

/-- A list without doubles of just these is as long. -/
theorem nodup_length : ∀ {l l' : List (Int × Int)}, l.Nodup → l'.Nodup → (∀ e, e ∈ l ↔ e ∈ l') → l.length = l'.length
  | [], l', _, _, h => by
    cases l' with
    | nil => rfl
    | cons b l' => have := (h b).2 (by simp); simp at this
  | a :: l, l', hn, hn', h => by
    have ha : a ∈ l' := (h a).1 (by simp)
    obtain ⟨s, t, rfl⟩ := List.append_of_mem ha
    rw [List.nodup_cons] at hn
    have hn2 : a ∉ s ++ t ∧ (s ++ t).Nodup := by
      have := (List.perm_middle (a := a) (l₁ := s) (l₂ := t)).nodup_iff.1 hn'
      exact List.nodup_cons.1 this
    have := nodup_length (l := l) (l' := s ++ t) hn.2 hn2.2 fun e => by
      have he := h e
      simp only [List.mem_cons, List.mem_append] at he ⊢
      constructor
      · intro hl
        rcases he.1 (.inr hl) with a1 | a1 | a1
        · exact .inl a1
        · exact absurd (a1 ▸ hl) hn.1
        · exact .inr a1
      · intro hst
        rcases he.2 (by rcases hst with a1 | a1 <;> simp [a1]) with a1 | a1
        · exact absurd (by rw [List.mem_append]; exact a1 ▸ hst) hn2.1
        · exact a1
    simp at this ⊢
    omega

theorem sorted_nodup {l : List (Int × Int)} (h : l.Pairwise lt) : l.Nodup := h.imp fun hab => lt_ne hab

end Si
end Go.Proofs.Ytdhaaodalchpkaa

/-
  Pure: a set of edges moved into a list, one by one, and sorted.
-/
namespace Go.Proofs.Ytdhaaodalchpkaa
namespace Si

theorem put_len : ∀ (l : List (Int × Int)) (e : Int × Int), l.Pairwise lt → (put l e).length = if e ∈ l then l.length else l.length + 1
  | [], e, _ => by simp [put]
  | y :: l, e, h => by
    rw [List.pairwise_cons] at h
    unfold put
    split
    · rename_i hye
      have hne : e ≠ y := (lt_ne hye).symm
      rw [List.length_cons, put_len l e h.2]
      by_cases hm : e ∈ l
      · simp [hm]
      · simp [hm, hne]
    · split
      · rename_i h2
        subst h2
        simp
      · rename_i h1 h2
        have hey : lt e y := by
          rcases lt_total y e with a | a | a
          · exact absurd a h1
          · exact absurd a h2
          · exact a
        have hn : e ∉ y :: l := fun hm => by
          rcases List.mem_cons.1 hm with a | a
          · exact h2 a.symm
          · exact lt_asymm hey (h.1 e a)
        rw [if_neg hn]
        simp

theorem made_sorted (ps : List (Int × Int)) : (made [] ps).Pairwise lt := (made_made ps).1

theorem take_snoc {ps : List (Int × Int)} {k : Nat} {p : Int × Int} (h : ps[k]? = some p) : ps.take (k + 1) = ps.take k ++ [p] := by
  have hl : k < ps.length := (List.getElem?_eq_some_iff.1 h).1
  rw [List.take_succ_eq_append_getElem hl]
  rw [List.getElem?_eq_getElem hl] at h
  cases h
  rfl

/-- The edges moved so far, by the first k pairs. -/
structure Taken (l0 ps : List (Int × Int)) (k : Nat) (acc : List (Int × Int)) : Prop where
  nodup : acc.Nodup
  mem : ∀ e, e ∈ acc ↔ e ∈ l0 ∧ ∃ p ∈ ps.take k, norm p = e

theorem Taken.start (l0 ps : List (Int × Int)) : Taken l0 ps 0 [] := ⟨List.nodup_nil, fun e => by simp⟩

theorem Taken.new {l0 ps acc : List (Int × Int)} {k : Nat} {p : Int × Int} (h : Taken l0 ps k acc) (hp : ps[k]? = some p) (h0 : norm p ∈ l0) (h1 : norm p ∉ acc) : Taken l0 ps (k + 1) (acc ++ [norm p]) := by
  refine ⟨?_, fun e => ?_⟩
  · rw [List.nodup_append]
    exact ⟨h.nodup, by simp, fun a ha b hb hab => by rw [List.mem_singleton] at hb; subst hb; subst hab; exact h1 ha⟩
  · rw [List.mem_append, List.mem_singleton, h.mem, take_snoc hp]
    constructor
    · rintro (⟨a, q, hq, e1⟩ | rfl)
      · exact ⟨a, q, List.mem_append_left _ hq, e1⟩
      · exact ⟨h0, p, by simp, rfl⟩
    · rintro ⟨a, q, hq, e1⟩
      rcases List.mem_append.1 hq with hq | hq
      · exact .inl ⟨a, q, hq, e1⟩
      · rw [List.mem_singleton] at hq
        subst hq
        exact .inr e1.symm

theorem Taken.old {l0 ps acc : List (Int × Int)} {k : Nat} {p : Int × Int} (h : Taken l0 ps k acc) (hp : ps[k]? = some p) (h1 : ¬ (norm p ∈ l0 ∧ norm p ∉ acc)) : Taken l0 ps (k + 1) acc := by
  refine ⟨h.nodup, fun e => ?_⟩
  rw [h.mem, take_snoc hp]
  constructor
  · rintro ⟨a, q, hq, e1⟩
    exact ⟨a, q, List.mem_append_left _ hq, e1⟩
  · rintro ⟨a, q, hq, e1⟩
    rcases List.mem_append.1 hq with hq | hq
    · exact ⟨a, q, hq, e1⟩
    · rw [List.mem_singleton] at hq
      subst hq
      subst e1
      by_cases ha : norm q ∈ acc
      · exact ⟨a, ((h.mem _).1 ha).2⟩
      · exact absurd ⟨a, ha⟩ h1

theorem Taken.all {ps acc : List (Int × Int)} (h : Taken (made [] ps) ps ps.length acc) (e : Int × Int) : e ∈ acc ↔ e ∈ made [] ps := by
  rw [h.mem]
  constructor
  · exact fun a => a.1
  · intro a
    obtain ⟨p, hp, _, e1⟩ := ((made_made ps).2 e).1 a
    exact ⟨a, p, by rw [List.take_length]; exact hp, e1.symm⟩

/-- Sorted, a list of just these edges, each once, is the graph's. -/
theorem sorted_made {l0 acc l : List (Int × Int)} (h0 : l0.Pairwise lt) (hn : acc.Nodup) (hm : ∀ e, e ∈ acc ↔ e ∈ l0) (hp : l.Perm acc) (hs : ∀ (i j : Nat) (a b : Int × Int), i < j → l[i]? = some a → l[j]? = some b → ¬ lt b a) : l = l0 := by
  have hnl : l.Nodup := hp.nodup_iff.2 hn
  refine sorted_ext ?_ h0 (fun e => (hp.mem_iff).trans (hm e))
  rw [List.pairwise_iff_getElem]
  intro i j hi hj hij
  have hne : l[i] ≠ l[j] := by
    intro he
    have := (List.getElem_inj hnl).1 he
    omega
  rcases lt_total l[i] l[j] with a | a | a
  · exact a
  · exact absurd a hne
  · exact absurd a (hs i j _ _ hij (List.getElem?_eq_getElem hi) (List.getElem?_eq_getElem hj))

theorem norm_in {n : Int} {p : Int × Int} (h : (0 ≤ p.1 ∧ p.1 < n) ∧ 0 ≤ p.2 ∧ p.2 < n) (hn : n ≤ 1048576) : (0 ≤ (norm p).1 ∧ (norm p).1 ≤ 1048576) ∧ 0 ≤ (norm p).2 ∧ (norm p).2 ≤ 1048576 := by
  unfold norm
  dsimp only
  omega

/-- What is made of pairs of vertices is a valid graph. -/
theorem made_val {n : Int} {ps : List (Int × Int)} (h0 : 0 ≤ n) (h1 : n ≤ 1048576) (hin : ∀ (j : Nat) (p : Int × Int), ps[j]? = some p → (0 ≤ p.1 ∧ p.1 < n) ∧ 0 ≤ p.2 ∧ p.2 < n) (hl : (made [] ps).length ≤ 4194304) : Val n (made [] ps) := by
  refine ⟨h0, h1, hl, fun j p hj => ?_, fun j p q hp hq => ?_⟩
  · obtain ⟨r, hr, hne, rfl⟩ := ((made_made ps).2 p).1 (List.mem_of_getElem? hj)
    obtain ⟨i, hi, e⟩ := List.mem_iff_getElem.1 hr
    have := hin i r (by rw [← e]; exact List.getElem?_eq_getElem hi)
    unfold ok norm
    dsimp only
    omega
  · have hs := made_sorted ps
    rw [List.pairwise_iff_getElem] at hs
    obtain ⟨hi, ei⟩ := List.getElem?_eq_some_iff.1 hp
    obtain ⟨hj, ej⟩ := List.getElem?_eq_some_iff.1 hq
    have := hs j (j + 1) hi hj (by omega)
    rw [ei, ej] at this
    exact this

end Si
end Go.Proofs.Ytdhaaodalchpkaa

/-
  Half-edges by vertices, pure: where they begin and lead, who leaves a vertex, in which order, and at which place.
-/
namespace Go.Proofs.Ytdhaaodalchpkaa
namespace Cs

/-- Where half-edge i begins. -/
def fr (es : List (Int × Int)) (i : Nat) : Nat := (if i % 2 = 0 then (es.getD (i / 2) (0, 0)).1 else (es.getD (i / 2) (0, 0)).2).toNat
/-- Where it leads. -/
def to (es : List (Int × Int)) (i : Nat) : Nat := (if i % 2 = 0 then (es.getD (i / 2) (0, 0)).2 else (es.getD (i / 2) (0, 0)).1).toNat

/-- The half-edges below k that leave v. -/
def out (es : List (Int × Int)) (v : Nat) : Nat → List Nat
  | 0 => []
  | k + 1 => if fr es k = v then out es v k ++ [k] else out es v k

section
variable {es : List (Int × Int)} {u v i j k : Nat}

theorem out_len_le : ∀ k, (out es v k).length ≤ k
  | 0 => by simp [out]
  | k + 1 => by
    have := out_len_le k
    unfold out
    split <;> simp <;> omega

theorem out_len_succ (k : Nat) : (out es v (k + 1)).length = (out es v k).length + if fr es k = v then 1 else 0 := by
  conv => lhs; unfold out
  split <;> simp

theorem out_mono (h : i ≤ k) : (out es v i).length ≤ (out es v k).length := by
  induction k with
  | zero =>
    obtain rfl : i = 0 := by omega
    exact Nat.le_refl _
  | succ k ih =>
    by_cases hk : i = k + 1
    · subst hk; exact Nat.le_refl _
    · have := ih (by omega)
      rw [out_len_succ]
      omega

theorem out_lt (h : i < k) (hv : fr es i = v) : (out es v i).length < (out es v k).length := by
  have h1 := out_len_succ (es := es) (v := v) i
  rw [if_pos hv] at h1
  have h2 := out_mono (es := es) (v := v) (i := i + 1) (k := k) h
  omega

theorem out_at (h : i < k) (hv : fr es i = v) : (out es v k)[(out es v i).length]? = some i := by
  induction k with
  | zero => omega
  | succ k ih =>
    by_cases hk : i = k
    · subst hk
      conv => lhs; arg 1; unfold out
      rw [if_pos hv]
      simp
    · have h1 := ih (by omega)
      have h2 : (out es v i).length < (out es v k).length := out_lt (by omega) hv
      conv => lhs; arg 1; unfold out
      split
      · rw [List.getElem?_append_left h2]; exact h1
      · exact h1

theorem out_of (h : (out es v k)[j]? = some i) : i < k ∧ fr es i = v ∧ (out es v i).length = j := by
  induction k with
  | zero => simp [out] at h
  | succ k ih =>
    unfold out at h
    split at h
    · rename_i hv
      by_cases hj : j < (out es v k).length
      · rw [List.getElem?_append_left hj] at h
        have := ih h
        exact ⟨by omega, this.2⟩
      · rw [List.getElem?_append_right (by omega)] at h
        by_cases hj2 : j - (out es v k).length = 0
        · rw [hj2] at h
          simp at h
          subst h
          exact ⟨by omega, hv, by omega⟩
        · rw [List.getElem?_eq_none (by simp; omega)] at h
          cases h
    · have := ih h
      exact ⟨by omega, this.2⟩

/-- Those that leave v rise. -/
theorem out_rises {a b : Nat} (hij : i < j) (hi : (out es v k)[i]? = some a) (hj : (out es v k)[j]? = some b) : a < b := by
  have ha := out_of hi
  have hb := out_of hj
  rcases Nat.lt_or_ge a b with h | h
  · exact h
  · have := out_mono (es := es) (v := v) h
    omega

/-- How many leave the vertices below v. -/
def st (es : List (Int × Int)) (M : Nat) : Nat → Nat
  | 0 => 0
  | v + 1 => st es M v + (out es v M).length

theorem st_lt {M : Nat} (h : u < v) : st es M u + (out es u M).length ≤ st es M v := by
  induction v with
  | zero => omega
  | succ v ih =>
    have e : st es M (v + 1) = st es M v + (out es v M).length := rfl
    by_cases hu : u = v
    · subst hu; omega
    · have := ih (by omega)
      omega

theorem st_succ (M v : Nat) : st es (M + 1) v = st es M v + if fr es M < v then 1 else 0 := by
  induction v with
  | zero => simp [st]
  | succ v ih =>
    have e1 : st es (M + 1) (v + 1) = st es (M + 1) v + (out es v (M + 1)).length := rfl
    have e2 : st es M (v + 1) = st es M v + (out es v M).length := rfl
    rw [e1, e2, ih, out_len_succ]
    split <;> split <;> split <;> omega

theorem st_sum {n : Nat} (M : Nat) (h : ∀ i, i < M → fr es i < n) : st es M n = M := by
  induction M with
  | zero =>
    have : ∀ v, st es 0 v = 0 := fun v => by
      induction v with
      | zero => rfl
      | succ v ih => rw [show st es 0 (v + 1) = st es 0 v + (out es v 0).length from rfl, ih]; rfl
    exact this n
  | succ M ih =>
    rw [st_succ, ih (fun i hi => h i (by omega)), if_pos (h M (by omega))]

theorem st_le {n M : Nat} (h : ∀ i, i < M → fr es i < n) (hv : v < n) : st es M v + (out es v M).length ≤ M := by
  have := st_lt (es := es) (M := M) hv
  rw [st_sum M h] at this
  exact this

/-- The place of half-edge i. -/
def pos (es : List (Int × Int)) (M i : Nat) : Nat := st es M (fr es i) + (out es (fr es i) i).length

theorem pos_lt {n M : Nat} (h : ∀ i, i < M → fr es i < n) (hi : i < M) : pos es M i < M := by
  have h1 := st_le h (h i hi)
  have h2 := out_lt (es := es) (k := M) hi rfl
  unfold pos
  omega

theorem pos_ne {M : Nat} (hij : i < j) (hj : j < M) : pos es M i ≠ pos es M j := by
  unfold pos
  rcases Nat.lt_trichotomy (fr es i) (fr es j) with h | h | h
  · have h1 := st_lt (es := es) (M := M) h
    have h2 := out_lt (es := es) (i := i) (k := M) (by omega) rfl
    omega
  · rw [h]
    have h2 := out_lt (es := es) (i := i) (k := j) hij h
    omega
  · have h1 := st_lt (es := es) (M := M) h
    have h2 := out_lt (es := es) (i := j) (k := M) hj rfl
    omega

end

/-- What has been laid when k half-edges have come: halves, places, ends, the next free places. -/
structure Filled (es : List (Int × Int)) (n M k : Nat) (H Pl T F : List Int) : Prop where
  lH : H.length = M
  lP : Pl.length = M
  lT : T.length = M
  lF : F.length = n
  hT : ∀ i, i < k → T[i]? = some (to es i : Int)
  hP : ∀ i, i < k → Pl[i]? = some (pos es M i : Int)
  hH : ∀ i, i < k → H[pos es M i]? = some (i : Int)
  hF : ∀ v, v < n → F[v]? = some ((st es M v + (out es v k).length : Nat) : Int)

theorem Filled.at {es : List (Int × Int)} {n M k : Nat} {H Pl T F : List Int} (h : Filled es n M k H Pl T F) (hk : fr es k < n) : F[fr es k]? = some (pos es M k : Int) := h.hF _ hk

theorem Filled.step {es : List (Int × Int)} {n M k : Nat} {H Pl T F : List Int} (h : Filled es n M k H Pl T F) (hn : ∀ i, i < M → fr es i < n) (hk : k < M) :
    Filled es n M (k + 1) (H.set (pos es M k) k) (Pl.set k (pos es M k)) (T.set k (to es k)) (F.set (fr es k) ((pos es M k : Int) + 1)) := by
  have hp := pos_lt hn hk
  refine ⟨by simp [h.lH], by simp [h.lP], by simp [h.lT], by simp [h.lF], fun i hi => ?_, fun i hi => ?_, fun i hi => ?_, fun v hv => ?_⟩
  · rw [List.getElem?_set]
    by_cases e : k = i
    · subst e; rw [if_pos rfl, if_pos (by rw [h.lT]; exact hk)]
    · rw [if_neg e]; exact h.hT i (by omega)
  · rw [List.getElem?_set]
    by_cases e : k = i
    · subst e; rw [if_pos rfl, if_pos (by rw [h.lP]; exact hk)]
    · rw [if_neg e]; exact h.hP i (by omega)
  · rw [List.getElem?_set]
    by_cases e : k = i
    · subst e; rw [if_pos rfl, if_pos (by rw [h.lH]; exact hp)]
    · rw [if_neg (fun e2 => pos_ne (es := es) (M := M) (i := i) (j := k) (by omega) hk e2.symm)]; exact h.hH i (by omega)
  · rw [List.getElem?_set, out_len_succ]
    by_cases e : fr es k = v
    · subst e
      rw [if_pos rfl, if_pos (by rw [h.lF]; exact hv), if_pos rfl]
      unfold pos
      congr 1
    · rw [if_neg e, if_neg e]; exact h.hF v hv

/-- What leaves a number, be it a vertex or not. -/
def outI (n : Nat) (es : List (Int × Int)) (v : Int) : List Nat := if 0 ≤ v ∧ v < n then out es v.toNat (2 * es.length) else []

theorem outI_in {n : Nat} {es : List (Int × Int)} {v : Nat} (h : v < n) : outI n es v = out es v (2 * es.length) := by
  unfold outI
  rw [if_pos ⟨by omega, by omega⟩]
  simp
theorem outI_no {n : Nat} {es : List (Int × Int)} {v : Int} (h : ¬ (0 ≤ v ∧ v < n)) : outI n es v = [] := by
  unfold outI
  rw [if_neg h]
theorem outI_len_le {n : Nat} {es : List (Int × Int)} {v : Int} : (outI n es v).length ≤ 2 * es.length := by
  unfold outI
  split
  · exact out_len_le _
  · simp

/-- Of a valid graph. -/
theorem half_lt {n : Nat} {es : List (Int × Int)} (hv : Si.Val n es) {i : Nat} (hi : i < 2 * es.length) : fr es i < n ∧ to es i < n := by
  obtain ⟨p, hp⟩ : ∃ p, es[i / 2]? = some p := ⟨_, List.getElem?_eq_getElem (by omega)⟩
  have ho := hv.each _ p hp
  unfold Si.ok at ho
  unfold fr to
  rw [List.getD_eq_getElem?_getD, hp]
  dsimp only [Option.getD_some]
  split <;> omega

theorem fr_even {es : List (Int × Int)} {k : Nat} {p : Int × Int} (hp : es[k]? = some p) : fr es (2 * k) = p.1.toNat ∧ to es (2 * k) = p.2.toNat := by
  unfold fr to
  have e : 2 * k / 2 = k := by omega
  have e2 : 2 * k % 2 = 0 := by omega
  rw [e, e2, List.getD_eq_getElem?_getD, hp]
  exact ⟨rfl, rfl⟩
theorem fr_odd {es : List (Int × Int)} {k : Nat} {p : Int × Int} (hp : es[k]? = some p) : fr es (2 * k + 1) = p.2.toNat ∧ to es (2 * k + 1) = p.1.toNat := by
  unfold fr to
  have e : (2 * k + 1) / 2 = k := by omega
  have e2 : (2 * k + 1) % 2 = 1 := by omega
  rw [e, e2, List.getD_eq_getElem?_getD, hp]
  exact ⟨rfl, rfl⟩

/-- The half-edge the other way. -/
def twin (i : Nat) : Nat := if i % 2 = 0 then i + 1 else i - 1

theorem twin_lt {i m : Nat} (h : i < 2 * m) : twin i < 2 * m := by
  unfold twin
  split <;> omega
theorem to_twin (es : List (Int × Int)) (i : Nat) : to es (twin i) = fr es i := by
  unfold to fr twin
  by_cases h : i % 2 = 0
  · have e : (i + 1) / 2 = i / 2 := by omega
    have e2 : ¬ ((i + 1) % 2 = 0) := by omega
    rw [if_pos h, if_pos h, e, if_neg e2]
  · have e : (i - 1) / 2 = i / 2 := by omega
    have e2 : (i - 1) % 2 = 0 := by omega
    rw [if_neg h, if_neg h, e, if_pos e2]
theorem fr_twin (es : List (Int × Int)) (i : Nat) : fr es (twin i) = to es i := by
  unfold to fr twin
  by_cases h : i % 2 = 0
  · have e : (i + 1) / 2 = i / 2 := by omega
    have e2 : ¬ ((i + 1) % 2 = 0) := by omega
    rw [if_pos h, if_pos h, e, if_neg e2]
  · have e : (i - 1) / 2 = i / 2 := by omega
    have e2 : (i - 1) % 2 = 0 := by omega
    rw [if_neg h, if_neg h, e, if_pos e2]

/-- By the vertices that they lead to they rise. -/
theorem to_rises {n : Int} {es : List (Int × Int)} (hv : Si.Val n es) {i j : Nat} (hij : i < j) (hj : j < 2 * es.length) (hf : fr es i = fr es j) : to es i < to es j := by
  obtain ⟨p, hp⟩ : ∃ p, es[i / 2]? = some p := ⟨_, List.getElem?_eq_getElem (by omega)⟩
  obtain ⟨q, hq⟩ : ∃ q, es[j / 2]? = some q := ⟨_, List.getElem?_eq_getElem (by omega)⟩
  have hop := hv.each _ p hp
  have hoq := hv.each _ q hq
  unfold Si.ok at hop hoq
  have hl : i / 2 = j / 2 ∨ Si.lt p q := by
    by_cases h : i / 2 = j / 2
    · exact .inl h
    · exact .inr (hv.mono (j / 2) (i / 2) p q (by omega) hp hq)
  have hpq : i / 2 = j / 2 → p = q := fun h => by
    rw [h, hq] at hp
    cases hp
    rfl
  have gp : es.getD (i / 2) (0, 0) = p := by rw [List.getD_eq_getElem?_getD, hp]; rfl
  have gq : es.getD (j / 2) (0, 0) = q := by rw [List.getD_eq_getElem?_getD, hq]; rfl
  unfold fr at hf
  unfold to
  rw [gp, gq] at hf
  rw [gp, gq]
  rcases hl with hl | hl
  · have := hpq hl
    subst this
    have h1 : i % 2 = 0 := by omega
    have h2 : ¬ (j % 2 = 0) := by omega
    rw [if_pos h1, if_neg h2] at hf
    omega
  · unfold Si.lt at hl
    by_cases h1 : i % 2 = 0 <;> by_cases h2 : j % 2 = 0
    · rw [if_pos h1, if_pos h2] at hf ⊢
      omega
    · rw [if_pos h1, if_neg h2] at hf ⊢
      omega
    · rw [if_neg h1, if_pos h2] at hf ⊢
      omega
    · rw [if_neg h1, if_neg h2] at hf ⊢
      omega

end Cs
end Go.Proofs.Ytdhaaodalchpkaa

/-
  Chains, pure: half-edges that lead on from one another; trails, and what none of them does.
-/
namespace Go.Proofs.Ytdhaaodalchpkaa
namespace Ku

/-- Half-edges below M, their twins, and who leads on: at a vertex of two edges the other one. -/
structure Sys where
  M : Nat
  tw : Nat → Nat
  nx : Nat → Option Nat
  tt : ∀ h, tw (tw h) = h
  tn : ∀ h, tw h ≠ h
  tl : ∀ h, h < M → tw h < M
  nl : ∀ h k, h < M → nx h = some k → k < M
  rev : ∀ h k, nx h = some k → nx (tw k) = some (tw h)
  irr : ∀ h, nx h ≠ some (tw h)

variable {S : Sys}

theorem Sys.inj {h h' k : Nat} (a : S.nx h = some k) (b : S.nx h' = some k) : h = h' := by
  have e1 := S.rev h k a
  have e2 := S.rev h' k b
  rw [e1] at e2
  have := Option.some.inj e2
  rw [← S.tt h, this, S.tt]
theorem Sys.tinj {h h' : Nat} (e : S.tw h = S.tw h') : h = h' := by rw [← S.tt h, e, S.tt]

/-- Each leads on to the next. -/
def Tr (S : Sys) (l : List Nat) : Prop := ∀ (i a b : Nat), l[i]? = some a → l[i + 1]? = some b → S.nx a = some b

theorem Tr.cons {h k : Nat} {l : List Nat} (e : S.nx h = some k) (t : Tr S (k :: l)) : Tr S (h :: k :: l) := by
  intro i a b ha hb
  cases i with
  | zero =>
    simp at ha hb
    subst ha
    subst hb
    exact e
  | succ i => exact t i a b (by simpa using ha) (by simpa using hb)
theorem Tr.one (h : Nat) : Tr S [h] := by
  intro i a b ha hb
  have := (List.getElem?_eq_some_iff.1 hb).1
  simp at this
theorem Tr.tail {h : Nat} {l : List Nat} (t : Tr S (h :: l)) : Tr S l := fun i a b ha hb => t (i + 1) a b (by simpa using ha) (by simpa using hb)

/-- No half-edge of a trail is another's twin. -/
theorem Tr.twin {l : List Nat} (t : Tr S l) : ∀ (d i a b : Nat), l[i]? = some a → l[i + d]? = some b → b ≠ S.tw a
  | 0, i, a, b, ha, hb, e => by
    rw [Nat.add_zero, ha] at hb
    cases hb
    exact S.tn a e.symm
  | 1, i, a, b, ha, hb, e => by
    have := t i a b ha hb
    rw [e] at this
    exact S.irr a this
  | d + 2, i, a, b, ha, hb, e => by
    have hl := (List.getElem?_eq_some_iff.1 hb).1
    obtain ⟨a', ha'⟩ : ∃ a', l[i + 1]? = some a' := ⟨_, List.getElem?_eq_getElem (by omega)⟩
    obtain ⟨b', hb'⟩ : ∃ b', l[i + 1 + d]? = some b' := ⟨_, List.getElem?_eq_getElem (by omega)⟩
    have h1 := t i a a' ha ha'
    have h2 := t (i + 1 + d) b' b hb' (by rw [show i + 1 + d + 1 = i + (d + 2) by omega]; exact hb)
    have h3 := S.rev b' b h2
    rw [e, S.tt, h1] at h3
    have h4 := Option.some.inj h3
    refine t.twin d (i + 1) a' b' ha' hb' ?_
    rw [h4, S.tt]
theorem Tr.no_twin {l : List Nat} (t : Tr S l) {a b : Nat} (ha : a ∈ l) (hb : b ∈ l) : b ≠ S.tw a := by
  obtain ⟨i, hi, ei⟩ := List.mem_iff_getElem.1 ha
  obtain ⟨j, hj, ej⟩ := List.mem_iff_getElem.1 hb
  have h1 : l[i]? = some a := by rw [← ei]; exact List.getElem?_eq_getElem hi
  have h2 : l[j]? = some b := by rw [← ej]; exact List.getElem?_eq_getElem hj
  rcases Nat.le_total i j with h | h
  · exact t.twin (j - i) i a b h1 (by rw [show i + (j - i) = j by omega]; exact h2)
  · intro e
    refine t.twin (i - j) j b a h2 (by rw [show j + (i - j) = i by omega]; exact h1) ?_
    rw [e, S.tt]

/-- Equal places, further back. -/
theorem Tr.back {l l' : List Nat} (t : Tr S l) (t' : Tr S l') : ∀ (d i j a : Nat), l[i + d]? = some a → l'[j + d]? = some a → l[i]? = l'[j]?
  | 0, i, j, a, h1, h2 => h1.trans h2.symm
  | d + 1, i, j, a, h1, h2 => by
    have k1 := (List.getElem?_eq_some_iff.1 h1).1
    have k2 := (List.getElem?_eq_some_iff.1 h2).1
    obtain ⟨b, hb⟩ : ∃ b, l[i + d]? = some b := ⟨_, List.getElem?_eq_getElem (by omega)⟩
    obtain ⟨b', hb'⟩ : ∃ b, l'[j + d]? = some b := ⟨_, List.getElem?_eq_getElem (by omega)⟩
    have e := S.inj (t (i + d) b a hb (by rw [show i + d + 1 = i + (d + 1) by omega]; exact h1)) (t' (j + d) b' a hb' (by rw [show j + d + 1 = j + (d + 1) by omega]; exact h2))
    subst e
    exact t.back t' d i j b hb hb'
/-- Equal places, further on. -/
theorem Tr.on {l l' : List Nat} (t : Tr S l) (t' : Tr S l') {i j a : Nat} (h1 : l[i]? = some a) (h2 : l'[j]? = some a) : ∀ (d b : Nat), l[i + d]? = some b → j + d < l'.length → l'[j + d]? = some b
  | 0, b, hb, _ => by rw [Nat.add_zero] at hb ⊢; rw [h1] at hb; rw [h2]; exact hb
  | d + 1, b, hb, hl => by
    have k1 := (List.getElem?_eq_some_iff.1 hb).1
    obtain ⟨c, hc⟩ : ∃ c, l[i + d]? = some c := ⟨_, List.getElem?_eq_getElem (by omega)⟩
    have hc' := t.on t' h1 h2 d c hc (by omega)
    obtain ⟨b', hb'⟩ : ∃ b, l'[j + (d + 1)]? = some b := ⟨_, List.getElem?_eq_getElem hl⟩
    have e1 := t (i + d) c b hc hb
    have e2 := t' (j + d) c b' hc' hb'
    rw [e1] at e2
    rw [hb', Option.some.inj e2]

/-- If the first comes only once, each does. -/
theorem Tr.nodup {l : List Nat} (t : Tr S l) (h0 : ∀ i, 0 < i → l[i]? ≠ l[0]?) : l.Nodup := by
  rw [List.nodup_iff_pairwise_ne, List.pairwise_iff_getElem]
  intro i j hi hj hij e
  have h1 : l[0 + i]? = some l[i] := by rw [Nat.zero_add]; exact List.getElem?_eq_getElem hi
  have h2 : l[(j - i) + i]? = some l[i] := by rw [show j - i + i = j by omega, e]; exact List.getElem?_eq_getElem hj
  exact h0 (j - i) (by omega) (t.back t i 0 (j - i) _ h1 h2).symm

/-- The other way round. -/
def rv (S : Sys) (l : List Nat) : List Nat := (l.map S.tw).reverse
theorem rv_length (l : List Nat) : (rv S l).length = l.length := by simp [rv]
theorem rv_at {l : List Nat} {i : Nat} (h : i < l.length) : (rv S l)[i]? = (l[l.length - 1 - i]?).map S.tw := by
  unfold rv
  rw [List.getElem?_reverse (by simpa using h), List.getElem?_map, List.length_map]
theorem rv_rv (l : List Nat) : rv S (rv S l) = l := by
  unfold rv
  rw [List.map_reverse, List.reverse_reverse, List.map_map]
  conv => rhs; rw [← List.map_id l]
  exact List.map_congr_left fun h _ => S.tt h
theorem mem_rv {l : List Nat} {h : Nat} : h ∈ rv S l ↔ S.tw h ∈ l := by
  unfold rv
  rw [List.mem_reverse, List.mem_map]
  constructor
  · rintro ⟨a, ha, rfl⟩
    rw [S.tt]
    exact ha
  · intro h1
    exact ⟨_, h1, S.tt h⟩
theorem Tr.rv {l : List Nat} (t : Tr S l) : Tr S (rv S l) := by
  intro i a b ha hb
  have hl := (List.getElem?_eq_some_iff.1 hb).1
  rw [rv_length] at hl
  rw [rv_at (by omega)] at ha hb
  obtain ⟨x, hx, rfl⟩ := Option.map_eq_some_iff.1 ha
  obtain ⟨y, hy, rfl⟩ := Option.map_eq_some_iff.1 hb
  refine S.rev y x (t (l.length - 1 - (i + 1)) y x hy ?_)
  rw [show l.length - 1 - (i + 1) + 1 = l.length - 1 - i by omega]
  exact hx

/-- From h on: as far as it leads, and not to h0 again. -/
def run (S : Sys) (h0 : Nat) : Nat → Nat → List Nat
  | 0, h => [h]
  | f + 1, h => match S.nx h with
    | none => [h]
    | some k => if k = h0 then [h] else h :: run S h0 f k

theorem run_head (h0 : Nat) (f h : Nat) : ∃ l, run S h0 f h = h :: l := by
  cases f with
  | zero => exact ⟨[], rfl⟩
  | succ f =>
    unfold run
    split
    · exact ⟨[], rfl⟩
    · split
      · exact ⟨[], rfl⟩
      · exact ⟨_, rfl⟩
theorem run_tr (h0 : Nat) : ∀ (f h : Nat), Tr S (run S h0 f h)
  | 0, h => Tr.one h
  | f + 1, h => by
    unfold run
    split
    · exact Tr.one h
    · rename_i k hk
      split
      · exact Tr.one h
      · obtain ⟨l, hl⟩ := run_head (S := S) h0 f k
        have := run_tr h0 f k
        rw [hl] at this ⊢
        exact Tr.cons hk this
theorem run_lt {h0 : Nat} : ∀ {f h : Nat}, h < S.M → ∀ x ∈ run S h0 f h, x < S.M
  | 0, h, hh, x, hx => by simp [run] at hx; omega
  | f + 1, h, hh, x, hx => by
    unfold run at hx
    split at hx
    · simp at hx; omega
    · rename_i k hk
      split at hx
      · simp at hx; omega
      · rcases List.mem_cons.1 hx with rfl | hx
        · exact hh
        · exact run_lt (S.nl h k hh hk) x hx
theorem run_no {h0 : Nat} : ∀ {f h : Nat} (i : Nat), 0 < i → (run S h0 f h)[i]? ≠ some h0
  | 0, h, i, hi, e => by
    have := (List.getElem?_eq_some_iff.1 e).1
    simp [run] at this
    omega
  | f + 1, h, i, hi, e => by
    unfold run at e
    split at e
    · have := (List.getElem?_eq_some_iff.1 e).1
      simp at this
      omega
    · rename_i k hk
      split at e
      · have := (List.getElem?_eq_some_iff.1 e).1
        simp at this
        omega
      · rename_i hne
        obtain ⟨j, rfl⟩ : ∃ j, i = j + 1 := ⟨i - 1, by omega⟩
        rw [List.getElem?_cons_succ] at e
        cases j with
        | zero =>
          obtain ⟨l, hl⟩ := run_head (S := S) h0 f k
          rw [hl] at e
          simp at e
          exact hne e
        | succ j => exact run_no (j + 1) (by omega) e
theorem run_end {h0 : Nat} : ∀ {f h x : Nat}, (run S h0 f h).getLast? = some x → (run S h0 f h).length ≤ f → S.nx x = none ∨ S.nx x = some h0
  | 0, h, x, _, hl => by simp [run] at hl
  | f + 1, h, x, hx, hl => by
    unfold run at hx hl
    split at hx
    · rename_i hk
      simp at hx
      subst hx
      exact .inl hk
    · rename_i k hk
      split at hx
      · rename_i e
        simp at hx
        subst hx
        exact .inr (by rw [hk, e])
      · rename_i hne
        rw [hk] at hl
        dsimp only at hl
        rw [if_neg hne] at hl
        obtain ⟨l, e⟩ := run_head (S := S) h0 f k
        refine run_end (f := f) (h := k) ?_ (by simp at hl; omega)
        rw [e] at hx ⊢
        rw [List.getLast?_cons_cons] at hx
        exact hx

theorem few_below {l : List Nat} {M : Nat} (hn : l.Nodup) (hl : ∀ x ∈ l, x < M) : l.length ≤ M := by
  have := List.Nodup.length_le_of_subset hn (l₂ := List.range M) (fun x hx => List.mem_range.2 (hl x hx))
  simpa using this

/-- From h0 on, all of it. -/
def all (S : Sys) (h0 : Nat) : List Nat := run S h0 S.M h0
theorem all_spec {h0 : Nat} (h : h0 < S.M) : Tr S (all S h0) ∧ (all S h0).Nodup ∧ (∀ x ∈ all S h0, x < S.M) ∧ (all S h0).head? = some h0 ∧ ∃ x, (all S h0).getLast? = some x ∧ (S.nx x = none ∨ S.nx x = some h0) := by
  obtain ⟨l, e⟩ := run_head (S := S) h0 S.M h0
  have ht := run_tr (S := S) h0 S.M h0
  have hn : (all S h0).Nodup := ht.nodup fun i hi hh => run_no (S := S) (h0 := h0) (f := S.M) (h := h0) i hi (hh.trans (by rw [e]; rfl))
  have hlt := run_lt (S := S) (h0 := h0) (f := S.M) h
  have hlen := few_below hn hlt
  refine ⟨ht, hn, hlt, by unfold all; rw [e]; rfl, ?_⟩
  obtain ⟨x, hx⟩ : ∃ x, (all S h0).getLast? = some x := by
    unfold all
    rw [e]
    exact ⟨_, List.getLast?_eq_some_getLast (by simp)⟩
  exact ⟨x, hx, run_end hx hlen⟩
end Ku
end Go.Proofs.Ytdhaaodalchpkaa

/-
  Chains, pure: trails that can't be made longer: two that share a half-edge are one, or the same round.
-/
namespace Go.Proofs.Ytdhaaodalchpkaa
namespace Ku
variable {S : Sys}

/-- It can't be made longer: nothing leads on at its end, nothing leads to its beginning. -/
structure Opn (S : Sys) (l : List Nat) : Prop where
  tr : Tr S l
  ne : l ≠ []
  fst : ∀ a, l[0]? = some a → S.nx (S.tw a) = none
  lst : ∀ a, l[l.length - 1]? = some a → S.nx a = none
/-- It goes round once. -/
structure Cyc (S : Sys) (l : List Nat) : Prop where
  tr : Tr S l
  ne : l ≠ []
  nd : l.Nodup
  rnd : ∀ a b, l[l.length - 1]? = some a → l[0]? = some b → S.nx a = some b

theorem pos_of {l : List Nat} (h : l ≠ []) : 0 < l.length := List.length_pos_iff.2 h

theorem Opn.len_on {l l' : List Nat} (o : Opn S l) (o' : Opn S l') {i j a : Nat} (h1 : l[i]? = some a) (h2 : l'[j]? = some a) : l'.length - j ≤ l.length - i := by
  have k1 := (List.getElem?_eq_some_iff.1 h1).1
  have k2 := (List.getElem?_eq_some_iff.1 h2).1
  refine Classical.byContradiction fun hc => ?_
  -- the last of l stands within l', with one behind it
  obtain ⟨x, hx⟩ : ∃ x, l[l.length - 1]? = some x := ⟨_, List.getElem?_eq_getElem (by omega)⟩
  have hx' : l[i + (l.length - 1 - i)]? = some x := by rw [show i + (l.length - 1 - i) = l.length - 1 by omega]; exact hx
  have e := o.tr.on o'.tr h1 h2 _ x hx' (by omega)
  obtain ⟨y, hy⟩ : ∃ y, l'[j + (l.length - 1 - i) + 1]? = some y := ⟨_, List.getElem?_eq_getElem (by omega)⟩
  have := o'.tr _ x y e hy
  rw [o.lst x hx] at this
  cases this
theorem Opn.rv {l : List Nat} (o : Opn S l) : Opn S (rv S l) := by
  have hp := pos_of o.ne
  refine ⟨o.tr.rv, fun h => ?_, fun a ha => ?_, fun a ha => ?_⟩
  · have := congrArg List.length h
    rw [rv_length] at this
    simp at this
    exact o.ne this
  · rw [rv_at hp] at ha
    obtain ⟨x, hx, rfl⟩ := Option.map_eq_some_iff.1 ha
    rw [S.tt]
    exact o.lst x (by rw [← hx]; congr 1)
  · rw [rv_length, rv_at (by omega)] at ha
    obtain ⟨x, hx, rfl⟩ := Option.map_eq_some_iff.1 ha
    exact o.fst x (by rw [← hx]; congr 1; omega)
theorem Opn.start {l l' : List Nat} (o : Opn S l) (o' : Opn S l') {i j a : Nat} (h1 : l[i]? = some a) (h2 : l'[j]? = some a) : j ≤ i := by
  have k1 := (List.getElem?_eq_some_iff.1 h1).1
  have k2 := (List.getElem?_eq_some_iff.1 h2).1
  have r1 : (Ku.rv S l)[l.length - 1 - i]? = some (S.tw a) := by rw [rv_at (by omega), show l.length - 1 - (l.length - 1 - i) = i by omega, h1]; rfl
  have r2 : (Ku.rv S l')[l'.length - 1 - j]? = some (S.tw a) := by rw [rv_at (by omega), show l'.length - 1 - (l'.length - 1 - j) = j by omega, h2]; rfl
  have := o.rv.len_on o'.rv r1 r2
  rw [rv_length, rv_length] at this
  omega
/-- Two that share a half-edge are one. -/
theorem Opn.unique {l l' : List Nat} (o : Opn S l) (o' : Opn S l') {a : Nat} (h1 : a ∈ l) (h2 : a ∈ l') : l = l' := by
  obtain ⟨i, hi, ei⟩ := List.mem_iff_getElem.1 h1
  obtain ⟨j, hj, ej⟩ := List.mem_iff_getElem.1 h2
  have g1 : l[i]? = some a := by rw [← ei]; exact List.getElem?_eq_getElem hi
  have g2 : l'[j]? = some a := by rw [← ej]; exact List.getElem?_eq_getElem hj
  have a1 := o.len_on o' g1 g2
  have a2 := o'.len_on o g2 g1
  have b1 := o.start o' g1 g2
  have b2 := o'.start o g2 g1
  obtain rfl : i = j := by omega
  have hlen : l.length = l'.length := by omega
  refine List.ext_getElem? fun t => ?_
  by_cases ht : t < l.length
  · by_cases hti : t ≤ i
    · exact o.tr.back o'.tr (i - t) t t a (by rw [show t + (i - t) = i by omega]; exact g1) (by rw [show t + (i - t) = i by omega]; exact g2)
    · obtain ⟨x, hx⟩ : ∃ x, l[t]? = some x := ⟨_, List.getElem?_eq_getElem ht⟩
      have := o.tr.on o'.tr g1 g2 (t - i) x (by rw [show i + (t - i) = t by omega]; exact hx) (by omega)
      rw [show i + (t - i) = t by omega] at this
      rw [hx, this]
  · rw [List.getElem?_eq_none (by omega), List.getElem?_eq_none (by omega)]

/-! ## Rounds -/

theorem Cyc.step {l : List Nat} (c : Cyc S l) {i a : Nat} (h : l[i]? = some a) : ∃ b, S.nx a = some b ∧ l[(i + 1) % l.length]? = some b := by
  have hi := (List.getElem?_eq_some_iff.1 h).1
  by_cases hl : i + 1 < l.length
  · obtain ⟨b, hb⟩ : ∃ b, l[i + 1]? = some b := ⟨_, List.getElem?_eq_getElem hl⟩
    exact ⟨b, c.tr i a b h hb, by rw [Nat.mod_eq_of_lt hl]; exact hb⟩
  · have e : i = l.length - 1 := by omega
    subst e
    obtain ⟨b, hb⟩ : ∃ b, l[0]? = some b := ⟨_, List.getElem?_eq_getElem (by omega)⟩
    refine ⟨b, c.rnd a b h hb, ?_⟩
    rw [show l.length - 1 + 1 = l.length by omega, Nat.mod_self]
    exact hb
theorem Cyc.rv {l : List Nat} (c : Cyc S l) : Cyc S (rv S l) := by
  have hp := pos_of c.ne
  refine ⟨c.tr.rv, fun h => ?_, ?_, fun a b ha hb => ?_⟩
  · have := congrArg List.length h
    rw [rv_length] at this
    simp at this
    exact c.ne this
  · unfold Ku.rv
    rw [List.nodup_iff_pairwise_ne, List.pairwise_reverse, List.pairwise_map]
    exact (List.nodup_iff_pairwise_ne.1 c.nd).imp fun hab e => hab (S.tinj e.symm)
  · rw [rv_length, rv_at (by omega)] at ha
    rw [rv_at hp] at hb
    obtain ⟨x, hx, rfl⟩ := Option.map_eq_some_iff.1 ha
    obtain ⟨y, hy, rfl⟩ := Option.map_eq_some_iff.1 hb
    exact S.rev y x (c.rnd y x (by rw [← hy]; congr 1) (by rw [← hx]; congr 1; omega))
/-- Where one round stands, so does every round that shares a half-edge, from another place on. -/
theorem Cyc.same {l l' : List Nat} (c : Cyc S l) (c' : Cyc S l') {i j a : Nat} (h1 : l[i]? = some a) (h2 : l'[j]? = some a) : ∀ d, l[(i + d) % l.length]? = l'[(j + d) % l'.length]?
  | 0 => by
    have k1 := (List.getElem?_eq_some_iff.1 h1).1
    have k2 := (List.getElem?_eq_some_iff.1 h2).1
    rw [Nat.add_zero, Nat.add_zero, Nat.mod_eq_of_lt k1, Nat.mod_eq_of_lt k2, h1, h2]
  | d + 1 => by
    have hp := pos_of c.ne
    have hp' := pos_of c'.ne
    have ih := c.same c' h1 h2 d
    obtain ⟨x, hx⟩ : ∃ x, l[(i + d) % l.length]? = some x := ⟨_, List.getElem?_eq_getElem (Nat.mod_lt _ hp)⟩
    obtain ⟨y, e1, e2⟩ := c.step hx
    obtain ⟨z, e3, e4⟩ := c'.step (ih ▸ hx)
    rw [e1] at e3
    have := Option.some.inj e3
    subst this
    rw [Nat.mod_add_mod] at e2 e4
    rw [← Nat.add_assoc, ← Nat.add_assoc, e2, e4]
/-- Two rounds that share a half-edge have the same half-edges. -/
theorem Cyc.sub {l l' : List Nat} (c : Cyc S l) (c' : Cyc S l') {a : Nat} (h1 : a ∈ l) (h2 : a ∈ l') : ∀ x ∈ l, x ∈ l' := fun x hx => by
  obtain ⟨i, hi, ei⟩ := List.mem_iff_getElem.1 h1
  obtain ⟨j, hj, ej⟩ := List.mem_iff_getElem.1 h2
  obtain ⟨t, ht, et⟩ := List.mem_iff_getElem.1 hx
  have g1 : l[i]? = some a := by rw [← ei]; exact List.getElem?_eq_getElem hi
  have g2 : l'[j]? = some a := by rw [← ej]; exact List.getElem?_eq_getElem hj
  have := c.same c' g1 g2 (l.length - i + t)
  rw [show i + (l.length - i + t) = l.length + t by omega, Nat.add_mod_left, Nat.mod_eq_of_lt ht, List.getElem?_eq_getElem ht, et] at this
  exact List.mem_of_getElem? this.symm
theorem Cyc.len {l l' : List Nat} (c : Cyc S l) (c' : Cyc S l') {a : Nat} (h1 : a ∈ l) (h2 : a ∈ l') : l.length = l'.length :=
  Nat.le_antisymm (List.Nodup.length_le_of_subset c.nd (c.sub c' h1 h2)) (List.Nodup.length_le_of_subset c'.nd (c'.sub c h2 h1))
/-- Two that begin with one half-edge are one. -/
theorem Cyc.unique {l l' : List Nat} (c : Cyc S l) (c' : Cyc S l') {a : Nat} (h1 : l[0]? = some a) (h2 : l'[0]? = some a) : l = l' := by
  have hl := c.len c' (List.mem_of_getElem? h1) (List.mem_of_getElem? h2)
  refine List.ext_getElem? fun t => ?_
  by_cases ht : t < l.length
  · have := c.same c' h1 h2 t
    rw [Nat.zero_add, Nat.mod_eq_of_lt ht, Nat.mod_eq_of_lt (by omega)] at this
    exact this
  · rw [List.getElem?_eq_none (by omega), List.getElem?_eq_none (by omega)]
/-- What can't be made longer is no round. -/
theorem Opn.not_cyc {l l' : List Nat} (o : Opn S l) (c : Cyc S l') {a : Nat} (h1 : a ∈ l) (h2 : a ∈ l') : False := by
  obtain ⟨i, hi, ei⟩ := List.mem_iff_getElem.1 h1
  have hon : ∀ d, i + d < l.length → ∀ x, l[i + d]? = some x → x ∈ l' := by
    intro d
    induction d with
    | zero =>
      intro _ x hx
      rw [Nat.add_zero, List.getElem?_eq_getElem hi, ei] at hx
      cases hx
      exact h2
    | succ d ih =>
      intro hl x hx
      obtain ⟨y, hy⟩ : ∃ y, l[i + d]? = some y := ⟨_, List.getElem?_eq_getElem (by omega)⟩
      have hm := ih (by omega) y hy
      obtain ⟨j, hj, ej⟩ := List.mem_iff_getElem.1 hm
      obtain ⟨z, e1, e2⟩ := c.step (show l'[j]? = some y by rw [← ej]; exact List.getElem?_eq_getElem hj)
      have := o.tr (i + d) y x hy hx
      rw [this] at e1
      cases e1
      exact List.mem_of_getElem? e2
  obtain ⟨x, hx⟩ : ∃ x, l[l.length - 1]? = some x := ⟨_, List.getElem?_eq_getElem (by omega)⟩
  have hm := hon (l.length - 1 - i) (by omega) x (by rw [show i + (l.length - 1 - i) = l.length - 1 by omega]; exact hx)
  obtain ⟨j, hj, ej⟩ := List.mem_iff_getElem.1 hm
  obtain ⟨z, e1, _⟩ := c.step (show l'[j]? = some x by rw [← ej]; exact List.getElem?_eq_getElem hj)
  rw [o.lst x hx] at e1
  cases e1

/-- Turned to begin at another place. -/
def rot (l : List Nat) (k : Nat) : List Nat := l.drop k ++ l.take k
theorem rot_length {l : List Nat} {k : Nat} (h : k ≤ l.length) : (rot l k).length = l.length := by unfold rot; simp; omega
theorem rot_at {l : List Nat} {k i : Nat} (hk : k < l.length) (hi : i < l.length) : (rot l k)[i]? = l[(k + i) % l.length]? := by
  unfold rot
  by_cases h : i < l.length - k
  · rw [List.getElem?_append_left (by simp; omega), List.getElem?_drop, Nat.mod_eq_of_lt (by omega)]
  · rw [List.getElem?_append_right (by simp; omega), List.length_drop, List.getElem?_take, if_pos (by omega)]
    congr 1
    rw [show k + i = l.length + (i - (l.length - k)) by omega, Nat.add_mod_left, Nat.mod_eq_of_lt (by omega)]
theorem Cyc.rot {l : List Nat} (c : Cyc S l) {k : Nat} (hk : k < l.length) : Cyc S (rot l k) := by
  have hlen := rot_length (Nat.le_of_lt hk)
  have hstep : ∀ i a b, i < l.length → (Ku.rot l k)[i]? = some a → l[(k + i + 1) % l.length]? = some b → S.nx a = some b := fun i a b hi ha hb => by
    rw [rot_at hk hi] at ha
    obtain ⟨z, e1, e2⟩ := c.step ha
    rw [Nat.mod_add_mod, hb] at e2
    cases e2
    exact e1
  refine ⟨fun i a b ha hb => ?_, fun h => ?_, ?_, fun a b ha hb => ?_⟩
  · have hl := (List.getElem?_eq_some_iff.1 hb).1
    rw [hlen] at hl
    rw [rot_at hk hl] at hb
    exact hstep i a b (by omega) ha hb
  · have := congrArg List.length h
    rw [hlen] at this
    simp at this
    exact c.ne this
  · unfold Ku.rot
    have : (l.take k ++ l.drop k).Nodup := by rw [List.take_append_drop]; exact c.nd
    exact (List.perm_append_comm).nodup_iff.1 this
  · rw [hlen] at ha
    rw [rot_at hk (by omega)] at hb
    refine hstep _ a b (by omega) ha ?_
    rw [show k + (l.length - 1) + 1 = l.length + k by omega, Nat.add_mod_left]
    exact hb

/-- What `all` gives: a round, or what can't be made longer at its end. -/
theorem all_cases {h0 : Nat} (h : h0 < S.M) : (Cyc S (all S h0) ∧ (all S h0)[0]? = some h0) ∨ (Tr S (all S h0) ∧ (all S h0)[0]? = some h0 ∧ ∀ a, (all S h0)[(all S h0).length - 1]? = some a → S.nx a = none) := by
  obtain ⟨t, nd, _, hh, x, hx, he⟩ := all_spec h
  have h0' : (all S h0)[0]? = some h0 := by rw [← List.head?_eq_getElem?]; exact hh
  have hlast : (all S h0)[(all S h0).length - 1]? = some x := by rw [← List.getLast?_eq_getElem?]; exact hx
  rcases he with he | he
  · refine .inr ⟨t, h0', fun a ha => ?_⟩
    rw [hlast] at ha
    cases ha
    exact he
  · refine .inl ⟨⟨t, fun e => by rw [e] at hh; simp at hh, nd, fun a b ha hb => ?_⟩, h0'⟩
    rw [hlast] at ha
    rw [h0'] at hb
    cases ha
    cases hb
    exact he
end Ku
end Go.Proofs.Ytdhaaodalchpkaa

/-
  Chains, pure: their vertices; each is written in one way.
-/
namespace Go.Proofs.Ytdhaaodalchpkaa
namespace Ku

/-- Half-edges with the vertices where they begin. -/
structure Gs extends Sys where
  fr : Nat → Nat
  joint : ∀ h k, nx h = some k → fr k = fr (tw h)
  simple : ∀ h k, h < M → k < M → fr h = fr k → fr (tw h) = fr (tw k) → h = k
  two : ∀ h k k', nx h = some k → k' < M → fr k' = fr (tw h) → k' = tw h ∨ k' = k

variable {S : Gs}
abbrev Gs.to (S : Gs) (h : Nat) : Nat := S.fr (S.tw h)

/-- Its vertices, both ends with them. -/
def vs (S : Gs) : List Nat → List Nat
  | [] => []
  | h :: l => S.fr h :: (h :: l).map S.to

theorem vs_length {l : List Nat} (hn : l ≠ []) : (vs S l).length = l.length + 1 := by
  cases l with
  | nil => exact absurd rfl hn
  | cons h l => simp [vs]
theorem vs_succ (l : List Nat) (i : Nat) : (vs S l)[i + 1]? = (l[i]?).map S.to := by
  cases l with
  | nil => simp [vs]
  | cons h l =>
    unfold vs
    rw [List.getElem?_cons_succ, List.getElem?_map]
theorem vs_zero (l : List Nat) : (vs S l)[0]? = (l[0]?).map S.fr := by
  cases l with
  | nil => simp [vs]
  | cons h l => simp [vs]
theorem vs_at {l : List Nat} (t : Tr S.toSys l) {i : Nat} (hi : i < l.length) : (vs S l)[i]? = (l[i]?).map S.fr := by
  cases i with
  | zero => exact vs_zero l
  | succ i =>
    rw [vs_succ]
    obtain ⟨a, ha⟩ : ∃ a, l[i]? = some a := ⟨_, List.getElem?_eq_getElem (by omega)⟩
    obtain ⟨b, hb⟩ : ∃ b, l[i + 1]? = some b := ⟨_, List.getElem?_eq_getElem hi⟩
    rw [ha, hb]
    exact congrArg some (S.joint a b (t i a b ha hb)).symm
/-- The vertices tell the half-edges. -/
theorem vs_inj {l l' : List Nat} (t : Tr S.toSys l) (t' : Tr S.toSys l') (hl : ∀ x ∈ l, x < S.M) (hl' : ∀ x ∈ l', x < S.M) (e : vs S l = vs S l') : l = l' := by
  have hlen : l.length = l'.length := by
    have := congrArg List.length e
    cases l with
    | nil =>
      cases l' with
      | nil => rfl
      | cons h l' => simp [vs] at this
    | cons h l =>
      cases l' with
      | nil => simp [vs] at this
      | cons h' l' => simpa [vs] using this
  refine List.ext_getElem? fun i => ?_
  by_cases hi : i < l.length
  · obtain ⟨a, ha⟩ : ∃ a, l[i]? = some a := ⟨_, List.getElem?_eq_getElem hi⟩
    obtain ⟨b, hb⟩ : ∃ b, l'[i]? = some b := ⟨_, List.getElem?_eq_getElem (by omega)⟩
    have e1 := vs_at t hi
    have e2 := vs_at t' (show i < l'.length by omega)
    have e3 := vs_succ (S := S) l i
    have e4 := vs_succ (S := S) l' i
    rw [ha] at e1 e3
    rw [hb] at e2 e4
    rw [e, e2] at e1
    rw [e, e4] at e3
    rw [ha, hb, S.simple a b (hl a (List.mem_of_getElem? ha)) (hl' b (List.mem_of_getElem? hb)) (Option.some.inj e1).symm (Option.some.inj e3).symm]
  · rw [List.getElem?_eq_none (by omega), List.getElem?_eq_none (by omega)]
theorem vs_rv {l : List Nat} (t : Tr S.toSys l) (hn : l ≠ []) : vs S (rv S.toSys l) = (vs S l).reverse := by
  have hp := pos_of hn
  have hn' : rv S.toSys l ≠ [] := fun h => by
    have := congrArg List.length h
    rw [rv_length] at this
    simp at this
    exact hn this
  refine List.ext_getElem? fun i => ?_
  by_cases hi : i < l.length + 1
  · rw [List.getElem?_reverse (by rw [vs_length hn]; exact hi), vs_length hn]
    cases i with
    | zero =>
      rw [vs_zero, rv_at hp, show l.length + 1 - 1 - 0 = (l.length - 1) + 1 by omega, vs_succ, Option.map_map]
      rfl
    | succ i =>
      rw [vs_succ, rv_at (by omega), Option.map_map, show l.length + 1 - 1 - (i + 1) = l.length - 1 - i by omega, vs_at t (by omega)]
      congr 1
      funext h
      show S.fr (S.tw (S.tw h)) = S.fr h
      rw [S.tt]
  · rw [List.getElem?_eq_none (by rw [vs_length hn', rv_length]; omega), List.getElem?_eq_none (by rw [List.length_reverse, vs_length hn]; omega)]

/-- A number of a list. -/
def at_ (c : List Nat) (i : Nat) : Nat := c.getD i 0
theorem at_some {c : List Nat} {i x : Nat} (h : c[i]? = some x) : at_ c i = x := by unfold at_; rw [List.getD_eq_getElem?_getD, h]; rfl
theorem at_get {c : List Nat} {i : Nat} (h : i < c.length) : c[i]? = some (at_ c i) := by unfold at_; rw [List.getD_eq_getElem?_getD, List.getElem?_eq_getElem h]; rfl

/-- The lesser end first; or, where they are one, the lesser neighbour. -/
def Up (c : List Nat) : Prop := at_ c 0 < at_ c (c.length - 1) ∨ (at_ c 0 = at_ c (c.length - 1) ∧ at_ c 1 < at_ c (c.length - 2))
theorem at_rev {c : List Nat} {i : Nat} (h : i < c.length) : at_ c.reverse i = at_ c (c.length - 1 - i) := by
  unfold at_
  rw [List.getD_eq_getElem?_getD, List.getD_eq_getElem?_getD, List.getElem?_reverse h]
theorem Up.not_rev {c : List Nat} (h2 : 2 ≤ c.length) (h : Up c) : ¬ Up c.reverse := by
  unfold Up at h ⊢
  rw [List.length_reverse, at_rev (by omega), at_rev (by omega), at_rev (by omega), at_rev (by omega)]
  rw [show c.length - 1 - 0 = c.length - 1 by omega, show c.length - 1 - (c.length - 1) = 0 by omega, show c.length - 1 - 1 = c.length - 2 by omega, show c.length - 1 - (c.length - 2) = 1 by omega]
  omega
theorem Up.or_rev {c : List Nat} (h2 : 2 ≤ c.length) (hne : at_ c 0 = at_ c (c.length - 1) → at_ c 1 ≠ at_ c (c.length - 2)) : Up c ∨ Up c.reverse := by
  unfold Up
  rw [List.length_reverse, at_rev (by omega), at_rev (by omega), at_rev (by omega), at_rev (by omega)]
  rw [show c.length - 1 - 0 = c.length - 1 by omega, show c.length - 1 - (c.length - 1) = 0 by omega, show c.length - 1 - 1 = c.length - 2 by omega, show c.length - 1 - (c.length - 2) = 1 by omega]
  by_cases h : at_ c 0 = at_ c (c.length - 1)
  · have := hne h
    omega
  · omega

/-- A chain, in the way that it is written. -/
structure Cn (S : Gs) (l : List Nat) : Prop where
  lt : ∀ x ∈ l, x < S.M
  up : Up (vs S l)
  kind : Opn S.toSys l ∨ (Cyc S.toSys l ∧ ∀ x ∈ l, at_ (vs S l) 0 ≤ S.fr x)

theorem Cn.tr {l : List Nat} (c : Cn S l) : Tr S.toSys l := by
  rcases c.kind with o | o
  · exact o.tr
  · exact o.1.tr
theorem Cn.ne {l : List Nat} (c : Cn S l) : l ≠ [] := by
  rcases c.kind with o | o
  · exact o.ne
  · exact o.1.ne

/-- In a round each vertex comes once. -/
theorem Cyc.fr_inj {l : List Nat} (c : Cyc S.toSys l) (hl : ∀ x ∈ l, x < S.M) {a b : Nat} (ha : a ∈ l) (hb : b ∈ l) (e : S.fr a = S.fr b) : a = b := by
  -- what leads to a
  obtain ⟨i, hi, ei⟩ := List.mem_iff_getElem.1 ha
  have hp := pos_of c.ne
  have g1 : l[i]? = some a := by rw [← ei]; exact List.getElem?_eq_getElem hi
  obtain ⟨p, hp1, hp2⟩ : ∃ p, p ∈ l ∧ S.nx p = some a := by
    by_cases h0 : i = 0
    · subst h0
      obtain ⟨p, hp⟩ : ∃ p, l[l.length - 1]? = some p := ⟨_, List.getElem?_eq_getElem (by omega)⟩
      exact ⟨p, List.mem_of_getElem? hp, c.rnd p a hp g1⟩
    · obtain ⟨p, hp⟩ : ∃ p, l[i - 1]? = some p := ⟨_, List.getElem?_eq_getElem (by omega)⟩
      exact ⟨p, List.mem_of_getElem? hp, c.tr (i - 1) p a hp (by rw [show i - 1 + 1 = i by omega]; exact g1)⟩
  rcases S.two p a b hp2 (hl b hb) (by rw [← e]; exact S.joint p a hp2) with h | h
  · exact absurd h (c.tr.no_twin hp1 hb)
  · exact h.symm
theorem fr_mem_vs {l : List Nat} (t : Tr S.toSys l) {x : Nat} (hx : x ∈ l) : S.fr x ∈ vs S l := by
  obtain ⟨i, hi, ei⟩ := List.mem_iff_getElem.1 hx
  have := vs_at t hi
  rw [List.getElem?_eq_getElem hi, ei] at this
  exact List.mem_of_getElem? this
theorem vs_first {l : List Nat} {a : Nat} (h : l[0]? = some a) : at_ (vs S l) 0 = S.fr a := at_some (by rw [vs_zero, h]; rfl)
theorem Cyc.vs_last {l : List Nat} (c : Cyc S.toSys l) : at_ (vs S l) l.length = at_ (vs S l) 0 := by
  have hp := pos_of c.ne
  obtain ⟨a, ha⟩ : ∃ a, l[0]? = some a := ⟨_, List.getElem?_eq_getElem hp⟩
  obtain ⟨b, hb⟩ : ∃ b, l[l.length - 1]? = some b := ⟨_, List.getElem?_eq_getElem (by omega)⟩
  rw [vs_first ha, S.joint b a (c.rnd b a hb ha)]
  refine at_some ?_
  rw [show l.length = (l.length - 1) + 1 by omega, vs_succ, hb]
  rfl
/-- Rounds that begin at their least vertex and share a half-edge are one. -/
theorem Cyc.least_unique {l l' : List Nat} (c : Cyc S.toSys l) (c' : Cyc S.toSys l') (hl : ∀ x ∈ l, x < S.M) {a : Nat} (h1 : a ∈ l) (h2 : a ∈ l') (m : ∀ x ∈ l, at_ (vs S l) 0 ≤ S.fr x) (m' : ∀ x ∈ l', at_ (vs S l') 0 ≤ S.fr x) : l = l' := by
  obtain ⟨x, hx⟩ : ∃ x, l[0]? = some x := ⟨_, List.getElem?_eq_getElem (pos_of c.ne)⟩
  obtain ⟨y, hy⟩ : ∃ y, l'[0]? = some y := ⟨_, List.getElem?_eq_getElem (pos_of c'.ne)⟩
  have hxl := List.mem_of_getElem? hx
  have hyl' := List.mem_of_getElem? hy
  have hyl := c'.sub c h2 h1 y hyl'
  have hxl' := c.sub c' h1 h2 x hxl
  have e1 := m y hyl
  have e2 := m' x hxl'
  rw [vs_first hx] at e1
  rw [vs_first hy] at e2
  have e := Cyc.fr_inj c hl hxl hyl (by omega)
  subst e
  exact c.unique c' hx hy

/-- Chains that share an edge are one. -/
theorem Cn.unique {l l' : List Nat} (c : Cn S l) (c' : Cn S l') {h : Nat} (h1 : h ∈ l) (h2 : h ∈ l' ∨ S.tw h ∈ l') : l = l' := by
  have hlen : 2 ≤ (vs S l').length := by rw [vs_length c'.ne]; have := pos_of c'.ne; omega
  rcases h2 with h2 | h2
  · rcases c.kind with o | ⟨o, m⟩ <;> rcases c'.kind with o' | ⟨o', m'⟩
    · exact o.unique o' h1 h2
    · exact (o.not_cyc o' h1 h2).elim
    · exact (o'.not_cyc o h2 h1).elim
    · exact o.least_unique o' c.lt h1 h2 m m'
  · exfalso
    have h3 : h ∈ rv S.toSys l' := mem_rv.2 h2
    have hv : vs S l = (vs S l').reverse → False := fun e => by
      have := c.up
      rw [e] at this
      exact Up.not_rev hlen c'.up this
    rcases c.kind with o | ⟨o, m⟩ <;> rcases c'.kind with o' | ⟨o', m'⟩
    · exact hv (by rw [o.unique o'.rv h1 h3, vs_rv c'.tr c'.ne])
    · exact o.not_cyc o'.rv h1 h3
    · exact o'.rv.not_cyc o h3 h1
    · refine hv ?_
      have hm : ∀ x ∈ rv S.toSys l', at_ (vs S (rv S.toSys l')) 0 ≤ S.fr x := fun x hx => by
        rw [vs_rv c'.tr c'.ne, at_rev (by omega), vs_length c'.ne, show l'.length + 1 - 1 - 0 = l'.length by omega, o'.vs_last]
        -- the vertex where x begins is one of l'
        have hy := mem_rv.1 hx
        obtain ⟨i, hi, ei⟩ := List.mem_iff_getElem.1 hy
        obtain ⟨z, e1, e2⟩ := o'.step (show l'[i]? = some (S.tw x) by rw [← ei]; exact List.getElem?_eq_getElem hi)
        have := m' z (List.mem_of_getElem? e2)
        rw [S.joint _ z e1, S.tt] at this
        exact this
      rw [o.least_unique o'.rv c.lt h1 h3 m hm, vs_rv c'.tr c'.ne]
end Ku
end Go.Proofs.Ytdhaaodalchpkaa

/-
  Chains, pure: of a graph.
-/
namespace Go.Proofs.Ytdhaaodalchpkaa
namespace Ku
open Cs

/-- Who leads on. -/
def nxt (es : List (Int × Int)) (h : Nat) : Option Nat :=
  match out es (to es h) (2 * es.length) with
  | [a, b] => if a = twin h then some b else if b = twin h then some a else none
  | _ => none

theorem twin_twin (h : Nat) : twin (twin h) = h := by
  unfold twin
  split <;> split <;> omega
theorem twin_ne (h : Nat) : twin h ≠ h := by
  unfold twin
  split <;> omega

theorem mem_out {es : List (Int × Int)} {v k i : Nat} : i ∈ out es v k ↔ i < k ∧ fr es i = v := by
  constructor
  · intro h
    obtain ⟨j, hj, e⟩ := List.mem_iff_getElem.1 h
    have := out_of (es := es) (v := v) (k := k) (j := j) (i := i) (by rw [← e]; exact List.getElem?_eq_getElem hj)
    exact ⟨this.1, this.2.1⟩
  · rintro ⟨h1, h2⟩
    exact List.mem_of_getElem? (out_at h1 h2)

theorem nxt_some {es : List (Int × Int)} {h k : Nat} (e : nxt es h = some k) : (out es (to es h) (2 * es.length) = [twin h, k] ∨ out es (to es h) (2 * es.length) = [k, twin h]) ∧ k ≠ twin h := by
  unfold nxt at e
  split at e
  · rename_i a b hab
    have hne : a ≠ b := by
      have := out_rises (es := es) (v := to es h) (k := 2 * es.length) (i := 0) (j := 1) (by omega) (by rw [hab]; rfl) (by rw [hab]; rfl)
      omega
    split at e
    · rename_i h1
      cases e
      exact ⟨.inl (by rw [hab, h1]), fun e2 => hne (by rw [h1, e2])⟩
    · split at e
      · rename_i h1 h2
        cases e
        exact ⟨.inr (by rw [hab, h2]), fun e2 => hne (by rw [h2, e2])⟩
      · cases e
  · cases e
theorem nxt_of {es : List (Int × Int)} {h k : Nat} (e : out es (to es h) (2 * es.length) = [twin h, k] ∨ out es (to es h) (2 * es.length) = [k, twin h]) (hk : k ≠ twin h) : nxt es h = some k := by
  unfold nxt
  rcases e with e | e
  · rw [e]
    simp
  · rw [e]
    simp [hk]

/-- The system of a graph. -/
def gs (es : List (Int × Int)) {n : Int} (hv : Si.Val n es) : Gs where
  M := 2 * es.length
  tw := twin
  nx := nxt es
  tt := twin_twin
  tn := twin_ne
  tl := fun _ h => twin_lt h
  nl := fun h k _ e => by
    obtain ⟨e, _⟩ := nxt_some e
    have : k ∈ out es (to es h) (2 * es.length) := by rcases e with e | e <;> rw [e] <;> simp
    exact (mem_out.1 this).1
  rev := fun h k e => by
    obtain ⟨e, hne⟩ := nxt_some e
    have hk : k ∈ out es (to es h) (2 * es.length) := by rcases e with e | e <;> rw [e] <;> simp
    have hf := (mem_out.1 hk).2
    refine nxt_of ?_ ?_
    · rw [to_twin, hf, twin_twin]
      exact e.symm
    · rw [twin_twin]
      exact hne.symm
  irr := fun h e => (nxt_some e).2 rfl
  fr := fr es
  joint := fun h k e => by
    obtain ⟨e, _⟩ := nxt_some e
    have hk : k ∈ out es (to es h) (2 * es.length) := by rcases e with e | e <;> rw [e] <;> simp
    rw [fr_twin]
    exact (mem_out.1 hk).2
  simple := fun h k hh hk e1 e2 => by
    rw [fr_twin, fr_twin] at e2
    rcases Nat.lt_trichotomy h k with h1 | h1 | h1
    · have := to_rises hv h1 hk e1
      omega
    · exact h1
    · have := to_rises hv h1 hh e1.symm
      omega
  two := fun h k k' e hk' hf => by
    obtain ⟨e, _⟩ := nxt_some e
    rw [fr_twin] at hf
    have hk : k' ∈ out es (to es h) (2 * es.length) := mem_out.2 ⟨hk', hf⟩
    rcases e with e | e <;> rw [e] at hk <;> simp at hk <;> omega

/-- How many edges a vertex has. -/
def dg (es : List (Int × Int)) (v : Nat) : Nat := (out es v (2 * es.length)).length

section
variable {es : List (Int × Int)} {n : Int} {hv : Si.Val n es}
theorem gs_to (h : Nat) : (gs es hv).to h = to es h := fr_twin es h
theorem nxt_none {h : Nat} (hh : h < 2 * es.length) : nxt es h = none ↔ dg es (to es h) ≠ 2 := by
  have hin : twin h ∈ out es (to es h) (2 * es.length) := mem_out.2 ⟨twin_lt hh, fr_twin es h⟩
  unfold dg
  constructor
  · intro e h2
    obtain ⟨a, b, hab⟩ : ∃ a b, out es (to es h) (2 * es.length) = [a, b] := by
      match hm : out es (to es h) (2 * es.length), h2 with
      | [a, b], _ => exact ⟨a, b, rfl⟩
    rw [hab] at hin
    simp at hin
    have hne : a ≠ b := by
      have := out_rises (es := es) (v := to es h) (k := 2 * es.length) (i := 0) (j := 1) (by omega) (by rw [hab]; rfl) (by rw [hab]; rfl)
      omega
    rcases hin with h1 | h1
    · rw [nxt_of (k := b) (.inl (by rw [hab, h1])) (fun e2 => hne (by rw [← h1, e2]))] at e
      cases e
    · rw [nxt_of (k := a) (.inr (by rw [hab, h1])) (fun e2 => hne (by rw [← h1, e2]))] at e
      cases e
  · intro h2
    cases hk : nxt es h with
    | none => rfl
    | some k =>
      obtain ⟨e, _⟩ := nxt_some hk
      exact absurd (by rcases e with e | e <;> rw [e] <;> rfl) h2
/-- No edge leads back to where it began. -/
theorem no_loop {h : Nat} (hv : Si.Val n es) (hh : h < 2 * es.length) : fr es h ≠ to es h := by
  obtain ⟨p, hp⟩ : ∃ p, es[h / 2]? = some p := ⟨_, List.getElem?_eq_getElem (by omega)⟩
  have hok := hv.each _ p hp
  unfold Si.ok at hok
  rcases Nat.mod_two_eq_zero_or_one h with e | e
  · have := fr_even hp
    rw [show 2 * (h / 2) = h by omega] at this
    omega
  · have := fr_odd hp
    rw [show 2 * (h / 2) + 1 = h by omega] at this
    omega
end

/-- The chain by edge e. -/
noncomputable def ch (es : List (Int × Int)) {n : Int} (hv : Si.Val n es) (e : Nat) : List Nat :=
  open Classical in if h : ∃ l, Cn (gs es hv) l ∧ ∃ x ∈ l, x / 2 = e then h.choose else []
section
variable {es : List (Int × Int)} {n : Int} {hv : Si.Val n es}
theorem ch_is {l : List Nat} {e x : Nat} (c : Cn (gs es hv) l) (hx : x ∈ l) (he : x / 2 = e) : ch es hv e = l := by
  have h : ∃ l, Cn (gs es hv) l ∧ ∃ x ∈ l, x / 2 = e := ⟨l, c, x, hx, he⟩
  unfold ch
  rw [dif_pos h]
  obtain ⟨c', y, hy, hye⟩ := h.choose_spec
  refine c'.unique c hy ?_
  have : y = x ∨ twin y = x := by
    unfold twin
    split <;> omega
  rcases this with rfl | h2
  · exact .inl hx
  · exact .inr (by rw [← h2] at hx; exact hx)
end
end Ku
end Go.Proofs.Ytdhaaodalchpkaa

/-
  Chains, pure: how the document comes by one: from an edge, both ways; a round from its least vertex; written in its one way.
-/
namespace Go.Proofs.Ytdhaaodalchpkaa
namespace Ku
variable {S : Gs}

/-- In its one way. -/
def written (c : List Nat) : List Nat := if at_ c (c.length - 1) < at_ c 0 ∨ (at_ c 0 = at_ c (c.length - 1) ∧ at_ c (c.length - 2) < at_ c 1) then c.reverse else c

theorem up_written {c : List Nat} (h2 : 2 ≤ c.length) (hne : at_ c 0 = at_ c (c.length - 1) → at_ c 1 ≠ at_ c (c.length - 2)) : Up (written c) := by
  unfold written
  split
  · rename_i h
    rcases Up.or_rev h2 hne with hu | hu
    · exfalso
      unfold Up at hu
      omega
    · exact hu
  · rename_i h
    unfold Up
    by_cases e : at_ c 0 = at_ c (c.length - 1)
    · have := hne e
      omega
    · omega

theorem Tr.not_cyc {T : Sys} {l l' : List Nat} (t : Tr T l) (lst : ∀ a, l[l.length - 1]? = some a → T.nx a = none) (c : Cyc T l') {a : Nat} (h1 : a ∈ l) (h2 : a ∈ l') : False := by
  obtain ⟨i, hi, ei⟩ := List.mem_iff_getElem.1 h1
  have hon : ∀ d, i + d < l.length → ∀ x, l[i + d]? = some x → x ∈ l' := by
    intro d
    induction d with
    | zero =>
      intro _ x hx
      rw [Nat.add_zero, List.getElem?_eq_getElem hi, ei] at hx
      cases hx
      exact h2
    | succ d ih =>
      intro hl x hx
      obtain ⟨y, hy⟩ : ∃ y, l[i + d]? = some y := ⟨_, List.getElem?_eq_getElem (by omega)⟩
      have hm := ih (by omega) y hy
      obtain ⟨j, hj, ej⟩ := List.mem_iff_getElem.1 hm
      obtain ⟨z, e1, e2⟩ := c.step (show l'[j]? = some y by rw [← ej]; exact List.getElem?_eq_getElem hj)
      have := t (i + d) y x hy hx
      rw [this] at e1
      cases e1
      exact List.mem_of_getElem? e2
  obtain ⟨x, hx⟩ : ∃ x, l[l.length - 1]? = some x := ⟨_, List.getElem?_eq_getElem (by omega)⟩
  have hm := hon (l.length - 1 - i) (by omega) x (by rw [show i + (l.length - 1 - i) = l.length - 1 by omega]; exact hx)
  obtain ⟨j, hj, ej⟩ := List.mem_iff_getElem.1 hm
  obtain ⟨z, e1, _⟩ := c.step (show l'[j]? = some x by rw [← ej]; exact List.getElem?_eq_getElem hj)
  rw [lst x hx] at e1
  cases e1

/-- A trail is lengthened by one that begins with its last. -/
theorem Tr.glue {T : Sys} {l r : List Nat} {h : Nat} (t : Tr T l) (hl : l[l.length - 1]? = some h) (t' : Tr T (h :: r)) : Tr T (l ++ r) := by
  have hp : 0 < l.length := by
    have := (List.getElem?_eq_some_iff.1 hl).1
    omega
  intro i a b ha hb
  by_cases h1 : i + 1 < l.length
  · rw [List.getElem?_append_left (by omega)] at ha
    rw [List.getElem?_append_left h1] at hb
    exact t i a b ha hb
  · rw [List.getElem?_append_right (by omega)] at hb
    by_cases h2 : i < l.length
    · rw [List.getElem?_append_left h2, show i = l.length - 1 by omega, hl] at ha
      cases ha
      rw [show i + 1 - l.length = 0 by omega] at hb
      exact t' 0 h b rfl (by simpa using hb)
    · rw [List.getElem?_append_right (by omega)] at ha
      exact t' (i - l.length + 1) a b (by simpa using ha) (by rw [show i - l.length + 1 + 1 = (i + 1 - l.length) + 1 by omega]; simpa using hb)

/-- From an edge that lies on no round, both ways. -/
theorem both_ways {h0 : Nat} (hh : h0 < S.M) (hend : ∀ a, (all S.toSys h0)[(all S.toSys h0).length - 1]? = some a → S.nx a = none) :
    ∃ l, Opn S.toSys l ∧ h0 ∈ l ∧ (∀ x ∈ l, x < S.M) ∧ vs S l = (vs S (all S.toSys (S.tw h0))).reverse ++ (vs S (all S.toSys h0)).drop 2 ∧ ∀ a, (all S.toSys (S.tw h0))[(all S.toSys (S.tw h0)).length - 1]? = some a → S.nx a = none := by
  obtain ⟨t, _, lt, hd, _⟩ := all_spec (S := S.toSys) hh
  obtain ⟨t', _, lt', hd', _⟩ := all_spec (S := S.toSys) (S.tl h0 hh)
  have h00 : h0 ∈ all S.toSys h0 := List.mem_of_mem_head? hd
  rcases all_cases (S := S.toSys) (S.tl h0 hh) with ⟨c, hc0⟩ | ⟨_, hc0, he⟩
  · exfalso
    refine t.not_cyc hend c.rv h00 ?_
    exact mem_rv.2 (List.mem_of_getElem? hc0)
  obtain ⟨r, hr⟩ : ∃ r, all S.toSys h0 = h0 :: r := by
    cases hA : all S.toSys h0 with
    | nil => rw [hA] at hd; cases hd
    | cons x r => rw [hA] at hd; cases hd; exact ⟨r, rfl⟩
  obtain ⟨r', hr'⟩ : ∃ r', all S.toSys (S.tw h0) = S.tw h0 :: r' := by
    cases hA : all S.toSys (S.tw h0) with
    | nil => rw [hA] at hd'; cases hd'
    | cons x r => rw [hA] at hd'; cases hd'; exact ⟨r, rfl⟩
  have hB : 0 < (all S.toSys (S.tw h0)).length := by rw [hr']; simp
  have hlast : (rv S.toSys (all S.toSys (S.tw h0)))[(rv S.toSys (all S.toSys (S.tw h0))).length - 1]? = some h0 := by
    rw [rv_length, rv_at (by omega), show (all S.toSys (S.tw h0)).length - 1 - ((all S.toSys (S.tw h0)).length - 1) = 0 by omega, hc0]
    exact congrArg some (S.tt h0)
  have hne : rv S.toSys (all S.toSys (S.tw h0)) ≠ [] := fun e => by
    rw [e] at hlast
    simp at hlast
  have ht := t'.rv.glue hlast (by rw [← hr]; exact t)
  have hne' : rv S.toSys (all S.toSys (S.tw h0)) ++ r ≠ [] := by simp [hne]
  refine ⟨_, ⟨ht, hne', fun a ha => ?_, fun a ha => ?_⟩, List.mem_append_left _ (List.mem_of_getElem? hlast), fun x hx => ?_, ?_, he⟩
  · rw [List.getElem?_append_left (by rw [rv_length]; exact hB), rv_at hB] at ha
    obtain ⟨x, hx, rfl⟩ := Option.map_eq_some_iff.1 ha
    rw [S.tt]
    exact he x (by rw [← hx]; congr 1)
  · cases r with
    | nil =>
      rw [List.append_nil] at ha
      rw [hlast] at ha
      cases ha
      exact hend h0 (by rw [hr]; rfl)
    | cons y r =>
      refine hend a ?_
      rw [List.getElem?_append_right (by simp)] at ha
      rw [hr, ← ha]
      simp only [List.length_append, List.length_cons]
      rw [show r.length + 1 + 1 - 1 = (r.length) + 1 by omega, List.getElem?_cons_succ]
      congr 1
      omega
  · rcases List.mem_append.1 hx with h1 | h1
    · have := lt' _ (mem_rv.1 h1)
      have h2 := S.tl _ this
      rw [S.tt] at h2
      exact h2
    · exact lt x (by rw [hr]; exact List.mem_cons_of_mem _ h1)
  · rw [← vs_rv t' (by rw [hr']; simp), hr]
    cases hR : rv S.toSys (all S.toSys (S.tw h0)) with
    | nil => exact absurd hR hne
    | cons y R => simp [vs]

/-- Where both ends are one vertex the neighbours are two. -/
theorem ends_ne {l : List Nat} (t : Tr S.toSys l) (hn : l ≠ []) (lt : ∀ x ∈ l, x < S.M) : at_ (vs S l) 0 = at_ (vs S l) ((vs S l).length - 1) → at_ (vs S l) 1 ≠ at_ (vs S l) ((vs S l).length - 2) := by
  intro e0 e1
  have hp := pos_of hn
  rw [vs_length hn] at e0 e1
  obtain ⟨a, ha⟩ : ∃ a, l[0]? = some a := ⟨_, List.getElem?_eq_getElem hp⟩
  obtain ⟨b, hb⟩ : ∃ b, l[l.length - 1]? = some b := ⟨_, List.getElem?_eq_getElem (by omega)⟩
  have k0 : at_ (vs S l) 0 = S.fr a := vs_first ha
  have k1 : at_ (vs S l) 1 = S.to a := at_some (by rw [show (1 : Nat) = 0 + 1 from rfl, vs_succ, ha]; rfl)
  have k2 : at_ (vs S l) (l.length + 1 - 1) = S.to b := at_some (by rw [show l.length + 1 - 1 = (l.length - 1) + 1 by omega, vs_succ, hb]; rfl)
  have k3 : at_ (vs S l) (l.length + 1 - 2) = S.fr b := at_some (by rw [show l.length + 1 - 2 = l.length - 1 by omega, vs_at t (by omega), hb]; rfl)
  rw [k0, k2] at e0
  rw [k1, k3] at e1
  have hbl := lt b (List.mem_of_getElem? hb)
  have := S.simple a (S.tw b) (lt a (List.mem_of_getElem? ha)) (S.tl b hbl) e0 (by rw [S.tt]; exact e1)
  exact t.no_twin (List.mem_of_getElem? hb) (List.mem_of_getElem? ha) this

theorem Opn.written {l : List Nat} (o : Opn S.toSys l) (lt : ∀ x ∈ l, x < S.M) : ∃ l', Cn S l' ∧ vs S l' = written (vs S l) ∧ ∀ x ∈ l, x ∈ l' ∨ S.tw x ∈ l' := by
  have h2 : 2 ≤ (vs S l).length := by rw [vs_length o.ne]; have := pos_of o.ne; omega
  have hu := up_written h2 (ends_ne o.tr o.ne lt)
  by_cases h : Ku.written (vs S l) = vs S l
  · exact ⟨l, ⟨lt, by rw [h] at hu; exact hu, .inl o⟩, h.symm, fun x hx => .inl hx⟩
  · have e : Ku.written (vs S l) = (vs S l).reverse := by
      unfold Ku.written at h ⊢
      split
      · rfl
      · rename_i hc
        rw [if_neg hc] at h
        exact absurd rfl h
    refine ⟨Ku.rv S.toSys l, ⟨fun x hx => ?_, by rw [vs_rv o.tr o.ne, ← e]; exact hu, .inl o.rv⟩, by rw [vs_rv o.tr o.ne, e], fun x hx => .inr (mem_rv.2 (by rw [S.tt]; exact hx))⟩
    have := S.tl _ (lt _ (mem_rv.1 hx))
    rw [S.tt] at this
    exact this

theorem Cyc.rv_least {l : List Nat} (c : Cyc S.toSys l) (m : ∀ x ∈ l, at_ (vs S l) 0 ≤ S.fr x) : ∀ x ∈ Ku.rv S.toSys l, at_ (vs S (Ku.rv S.toSys l)) 0 ≤ S.fr x := fun x hx => by
  rw [vs_rv c.tr c.ne, at_rev (by rw [vs_length c.ne]; omega), vs_length c.ne, show l.length + 1 - 1 - 0 = l.length by omega, c.vs_last]
  have hy := mem_rv.1 hx
  obtain ⟨i, hi, ei⟩ := List.mem_iff_getElem.1 hy
  obtain ⟨z, e1, e2⟩ := c.step (show l[i]? = some (S.tw x) by rw [← ei]; exact List.getElem?_eq_getElem hi)
  have := m z (List.mem_of_getElem? e2)
  rw [S.joint _ z e1, S.tt] at this
  exact this
theorem Cyc.written {l : List Nat} (c : Cyc S.toSys l) (lt : ∀ x ∈ l, x < S.M) (m : ∀ x ∈ l, at_ (vs S l) 0 ≤ S.fr x) : ∃ l', Cn S l' ∧ vs S l' = written (vs S l) ∧ ∀ x ∈ l, x ∈ l' ∨ S.tw x ∈ l' := by
  have h2 : 2 ≤ (vs S l).length := by rw [vs_length c.ne]; have := pos_of c.ne; omega
  have hu := up_written h2 (ends_ne c.tr c.ne lt)
  by_cases h : Ku.written (vs S l) = vs S l
  · exact ⟨l, ⟨lt, by rw [h] at hu; exact hu, .inr ⟨c, m⟩⟩, h.symm, fun x hx => .inl hx⟩
  · have e : Ku.written (vs S l) = (vs S l).reverse := by
      unfold Ku.written at h ⊢
      split
      · rfl
      · rename_i hc
        rw [if_neg hc] at h
        exact absurd rfl h
    refine ⟨Ku.rv S.toSys l, ⟨fun x hx => ?_, by rw [vs_rv c.tr c.ne, ← e]; exact hu, .inr ⟨c.rv, c.rv_least m⟩⟩, by rw [vs_rv c.tr c.ne, e], fun x hx => .inr (mem_rv.2 (by rw [S.tt]; exact hx))⟩
    have := S.tl _ (lt _ (mem_rv.1 hx))
    rw [S.tt] at this
    exact this

/-- A round from its k-th vertex on. -/
theorem Cyc.turn {l : List Nat} (c : Cyc S.toSys l) (lt : ∀ x ∈ l, x < S.M) {k : Nat} (hk : k < l.length) (hmin : ∀ i, i < l.length → at_ (vs S l) k ≤ at_ (vs S l) i) :
    ∃ l', Cyc S.toSys l' ∧ (∀ x ∈ l', x < S.M) ∧ (∀ x ∈ l', at_ (vs S l') 0 ≤ S.fr x) ∧ (∀ x, x ∈ l → x ∈ l') ∧ vs S l' = (List.range l.length).map (fun i => at_ (vs S l) ((k + i) % l.length)) ++ [at_ (vs S l) k] := by
  have hp := pos_of c.ne
  have hlen := rot_length (Nat.le_of_lt hk)
  have hat : ∀ i, i < l.length → ∃ a, l[i]? = some a ∧ at_ (vs S l) i = S.fr a := fun i hi => by
    obtain ⟨a, ha⟩ : ∃ a, l[i]? = some a := ⟨_, List.getElem?_eq_getElem hi⟩
    exact ⟨a, ha, at_some (by rw [vs_at c.tr hi, ha]; rfl)⟩
  have hc := c.rot hk
  have hmem : ∀ x, x ∈ Ku.rot l k ↔ x ∈ l := fun x => by
    unfold Ku.rot
    rw [List.mem_append, or_comm, ← List.mem_append, List.take_append_drop]
  have h0 : at_ (vs S (Ku.rot l k)) 0 = at_ (vs S l) k := by
    obtain ⟨a, ha, e⟩ := hat k hk
    rw [e]
    exact vs_first (by rw [rot_at hk hp, Nat.add_zero, Nat.mod_eq_of_lt hk, ha])
  refine ⟨Ku.rot l k, hc, fun x hx => lt x ((hmem x).1 hx), fun x hx => ?_, fun x hx => (hmem x).2 hx, ?_⟩
  · rw [h0]
    obtain ⟨i, hi, ei⟩ := List.mem_iff_getElem.1 ((hmem x).1 hx)
    obtain ⟨a, ha, e⟩ := hat i hi
    rw [List.getElem?_eq_getElem hi, ei] at ha
    cases ha
    rw [← e]
    exact hmin i hi
  · have hvl : (vs S (Ku.rot l k)).length = l.length + 1 := by rw [vs_length hc.ne, hlen]
    refine List.ext_getElem? fun i => ?_
    by_cases hi : i < l.length
    · rw [List.getElem?_append_left (by simpa using hi), vs_at hc.tr (by omega), rot_at hk hi, List.getElem?_map, List.getElem?_range hi]
      obtain ⟨a, ha, e⟩ := hat ((k + i) % l.length) (Nat.mod_lt _ hp)
      rw [ha]
      exact congrArg some e.symm
    · by_cases hi2 : i = l.length
      · subst hi2
        rw [List.getElem?_append_right (by simp)]
        have := hc.vs_last
        rw [hlen, h0] at this
        rw [at_get (c := vs S (Ku.rot l k)) (i := l.length) (by omega), this]
        simp
      · rw [List.getElem?_eq_none (by omega), List.getElem?_eq_none (by simp; omega)]
end Ku
end Go.Proofs.Ytdhaaodalchpkaa

/-
  Chains, pure: all of them, in the order of their least edges.
-/
namespace Go.Proofs.Ytdhaaodalchpkaa
namespace Ku
variable {S : Gs}

theorem ex_min (f : Nat → Nat) : ∀ {n : Nat}, 0 < n → ∃ k, k < n ∧ ∀ i, i < n → f k ≤ f i
  | 0, h => by omega
  | 1, _ => ⟨0, by omega, fun i hi => by obtain rfl : i = 0 := by omega
                                         exact Nat.le_refl _⟩
  | n + 2, _ => by
    obtain ⟨k, hk, h⟩ := ex_min f (n := n + 1) (by omega)
    by_cases hc : f k ≤ f (n + 1)
    · refine ⟨k, by omega, fun i hi => ?_⟩
      by_cases e : i = n + 1
      · rw [e]; exact hc
      · exact h i (by omega)
    · refine ⟨n + 1, by omega, fun i hi => ?_⟩
      by_cases e : i = n + 1
      · rw [e]; exact Nat.le_refl _
      · have := h i (by omega)
        omega

/-- Every edge lies on a chain. -/
theorem ex_chain {h0 : Nat} (hh : h0 < S.M) : ∃ l, Cn S l ∧ (h0 ∈ l ∨ S.tw h0 ∈ l) := by
  obtain ⟨_, _, lt, hd, _⟩ := all_spec (S := S.toSys) hh
  have h00 : h0 ∈ all S.toSys h0 := List.mem_of_mem_head? hd
  rcases all_cases (S := S.toSys) hh with ⟨c, hc0⟩ | ⟨_, _, he⟩
  · obtain ⟨k, hk, hmin⟩ := ex_min (fun i => at_ (vs S (all S.toSys h0)) i) (pos_of c.ne)
    obtain ⟨l, cl, ltl, ml, sub, _⟩ := c.turn lt hk hmin
    obtain ⟨l', cn, _, hin⟩ := cl.written ltl ml
    exact ⟨l', cn, hin h0 (sub h0 h00)⟩
  · obtain ⟨l, o, h1, ltl, _⟩ := both_ways hh he
    obtain ⟨l', cn, _, hin⟩ := o.written ltl
    exact ⟨l', cn, hin h0 h1⟩

section
variable {es : List (Int × Int)} {n : Int} {hv : Si.Val n es}

/-- It goes by edge e. -/
def By (l : List Nat) (e : Nat) : Prop := ∃ x ∈ l, x / 2 = e

theorem twin_half (h : Nat) : Cs.twin h / 2 = h / 2 := by unfold Cs.twin; split <;> omega

theorem ch_ok {e : Nat} (he : e < es.length) : Cn (gs es hv) (ch es hv e) ∧ By (ch es hv e) e := by
  obtain ⟨l, c, h⟩ := ex_chain (S := gs es hv) (h0 := 2 * e) (show 2 * e < 2 * es.length by omega)
  obtain ⟨x, hx, hxe⟩ : ∃ x, x ∈ l ∧ x / 2 = e := by
    rcases h with h | h
    · exact ⟨_, h, by omega⟩
    · exact ⟨_, h, by show Cs.twin (2 * e) / 2 = e; rw [twin_half]; omega⟩
  rw [ch_is c hx hxe]
  exact ⟨c, x, hx, hxe⟩
theorem ch_by {e e' : Nat} (he : e < es.length) (h : By (ch es hv e) e') : ch es hv e' = ch es hv e := by
  obtain ⟨x, hx, hxe⟩ := h
  exact ch_is (ch_ok he).1 hx hxe
theorem by_lt {e e' : Nat} (he : e < es.length) (h : By (ch es hv e) e') : e' < es.length := by
  obtain ⟨x, hx, hxe⟩ := h
  have : x < 2 * es.length := (ch_ok (hv := hv) he).1.lt x hx
  omega

/-- It is the least edge of its chain. -/
def First (es : List (Int × Int)) {n : Int} (hv : Si.Val n es) (e : Nat) : Prop := ∀ e', By (ch es hv e) e' → e ≤ e'

theorem first_of {e : Nat} (he : e < es.length) : ∃ e0, e0 ≤ e ∧ First es hv e0 ∧ By (ch es hv e0) e := by
  -- the least
  induction e using Nat.strongRecOn with
  | _ e ih =>
    by_cases h : First es hv e
    · exact ⟨e, Nat.le_refl _, h, (ch_ok he).2⟩
    · obtain ⟨e', h1, h2⟩ : ∃ e', By (ch es hv e) e' ∧ e' < e := by
        refine Classical.byContradiction fun hc => h fun e' he' => ?_
        refine Classical.byContradiction fun hlt => hc ⟨e', he', by omega⟩
      obtain ⟨e0, k1, k2, k3⟩ := ih e' h2 (by omega)
      refine ⟨e0, by omega, k2, ?_⟩
      have a1 := ch_by he h1
      have a2 := ch_by (by omega) k3
      rw [← a2, a1]
      exact (ch_ok he).2

open Classical in
/-- The chains whose least edge is below k. -/
noncomputable def chs (es : List (Int × Int)) {n : Int} (hv : Si.Val n es) : Nat → List (List Nat)
  | 0 => []
  | k + 1 => if First es hv k then chs es hv k ++ [ch es hv k] else chs es hv k

theorem mem_chs : ∀ {k : Nat} {l : List Nat}, l ∈ chs es hv k ↔ ∃ e, e < k ∧ First es hv e ∧ l = ch es hv e
  | 0, l => by simp [chs]
  | k + 1, l => by
    unfold chs
    split
    · rename_i hf
      rw [List.mem_append, mem_chs, List.mem_singleton]
      constructor
      · rintro (⟨e, h1, h2, h3⟩ | h)
        · exact ⟨e, by omega, h2, h3⟩
        · exact ⟨k, by omega, hf, h⟩
      · rintro ⟨e, h1, h2, h3⟩
        by_cases hk : e = k
        · subst hk; exact .inr h3
        · exact .inl ⟨e, by omega, h2, h3⟩
    · rename_i hf
      rw [mem_chs]
      constructor
      · rintro ⟨e, h1, h2, h3⟩
        exact ⟨e, by omega, h2, h3⟩
      · rintro ⟨e, h1, h2, h3⟩
        by_cases hk : e = k
        · subst hk; exact absurd h2 hf
        · exact ⟨e, by omega, h2, h3⟩
/-- An edge is on one of the chains so far just if it is not the least of its own. -/
theorem seen_iff {k : Nat} (hk : k < es.length) : (∃ l ∈ chs es hv k, By l k) ↔ ¬ First es hv k := by
  constructor
  · rintro ⟨l, hl, hb⟩ hf
    obtain ⟨e, h1, h2, rfl⟩ := mem_chs.1 hl
    have a1 := ch_by (by omega) hb
    have := hf e (by rw [a1]; exact (ch_ok (by omega)).2)
    omega
  · intro hf
    obtain ⟨e0, h1, h2, h3⟩ := first_of (hv := hv) hk
    have hne : e0 ≠ k := fun e => hf (e ▸ h2)
    exact ⟨_, mem_chs.2 ⟨e0, by omega, h2, rfl⟩, h3⟩
theorem chs_length (k : Nat) : (chs es hv k).length ≤ k := by
  induction k with
  | zero => simp [chs]
  | succ k ih =>
    unfold chs
    split
    · simp; omega
    · omega
end
end Ku
end Go.Proofs.Ytdhaaodalchpkaa

/-
  Chains, pure: the document's walk, step by step.
-/
namespace Go.Proofs.Ytdhaaodalchpkaa
namespace Ku

section
variable {S : Sys} {h0 j x k : Nat}
theorem all_len (hh : h0 < S.M) : 0 < (all S h0).length := by
  obtain ⟨_, _, _, hd, _⟩ := all_spec hh
  cases hA : all S h0 with
  | nil => rw [hA] at hd; cases hd
  | cons => simp
theorem all_zero (hh : h0 < S.M) : (all S h0)[0]? = some h0 := by
  obtain ⟨_, _, _, hd, _⟩ := all_spec hh
  rw [← List.head?_eq_getElem?]
  exact hd
theorem all_none (hh : h0 < S.M) (hx : (all S h0)[j]? = some x) (e : S.nx x = none) : j + 1 = (all S h0).length := by
  obtain ⟨t, _⟩ := all_spec hh
  have hj := (List.getElem?_eq_some_iff.1 hx).1
  refine Classical.byContradiction fun hc => ?_
  obtain ⟨y, hy⟩ : ∃ y, (all S h0)[j + 1]? = some y := ⟨_, List.getElem?_eq_getElem (by omega)⟩
  have := t j x y hx hy
  rw [e] at this
  cases this
theorem all_back (hh : h0 < S.M) (hx : (all S h0)[j]? = some x) (e : S.nx x = some h0) : j + 1 = (all S h0).length := by
  obtain ⟨t, nd, _⟩ := all_spec hh
  have hj := (List.getElem?_eq_some_iff.1 hx).1
  refine Classical.byContradiction fun hc => ?_
  obtain ⟨y, hy⟩ : ∃ y, (all S h0)[j + 1]? = some y := ⟨_, List.getElem?_eq_getElem (by omega)⟩
  have h1 := t j x y hx hy
  rw [e] at h1
  cases h1
  have h2 := all_zero hh
  obtain ⟨a1, a2⟩ := List.getElem?_eq_some_iff.1 hy
  obtain ⟨b1, b2⟩ := List.getElem?_eq_some_iff.1 h2
  have := (List.getElem_inj nd).1 (a2.trans b2.symm)
  omega
theorem all_go (hh : h0 < S.M) (hx : (all S h0)[j]? = some x) (e : S.nx x = some k) (hk : k ≠ h0) : (all S h0)[j + 1]? = some k := by
  obtain ⟨t, _, _, _, z, hz, he⟩ := all_spec hh
  have hj := (List.getElem?_eq_some_iff.1 hx).1
  by_cases hl : j + 1 < (all S h0).length
  · obtain ⟨y, hy⟩ : ∃ y, (all S h0)[j + 1]? = some y := ⟨_, List.getElem?_eq_getElem hl⟩
    have := t j x y hx hy
    rw [e] at this
    rw [hy, ← Option.some.inj this]
  · exfalso
    have : (all S h0)[(all S h0).length - 1]? = some z := by rw [← List.getLast?_eq_getElem?]; exact hz
    rw [show (all S h0).length - 1 = j by omega, hx] at this
    cases this
    rw [e] at he
    rcases he with he | he
    · cases he
    · exact hk (Option.some.inj he)
theorem all_twin (hh : h0 < S.M) (hx : (all S h0)[j]? = some x) (e : S.nx x = some k) : k ≠ S.tw h0 := by
  intro hk
  subst hk
  obtain ⟨t, _⟩ := all_spec hh
  have h1 := S.rev x _ e
  rw [S.tt] at h1
  have hxm := List.mem_of_getElem? hx
  by_cases hc : S.tw x = h0
  · -- x is the twin of the first
    have := t.no_twin hxm (List.mem_of_getElem? (all_zero hh))
    exact this (by rw [hc])
  · have h2 := all_go hh (all_zero hh) h1 hc
    exact t.no_twin hxm (List.mem_of_getElem? h2) rfl
end

section
variable {S : Gs}
theorem vs_snoc {l : List Nat} (hn : l ≠ []) (k : Nat) : vs S (l ++ [k]) = vs S l ++ [S.to k] := by
  cases l with
  | nil => exact absurd rfl hn
  | cons h l => simp [vs]
theorem take_next {l : List Nat} {j k : Nat} (h : l[j]? = some k) : l.take (j + 1) = l.take j ++ [k] := by
  rw [List.take_add_one, h]
  rfl
end

section
variable {es : List (Int × Int)} {n : Int}
open Cs

/-- A half-edge's edge, and its ends. -/
theorem half_at {h : Nat} (hh : h < 2 * es.length) : ∃ p, es[h / 2]? = some p := ⟨_, List.getElem?_eq_getElem (by omega)⟩
theorem half_ends (hv : Si.Val n es) {h : Nat} {p : Int × Int} (hp : es[h / 2]? = some p) : (p.1 = (fr es h : Int) ∧ p.2 = (to es h : Int)) ∨ (p.1 = (to es h : Int) ∧ p.2 = (fr es h : Int)) := by
  have hok := hv.each _ p hp
  unfold Si.ok at hok
  rcases Nat.mod_two_eq_zero_or_one h with e | e
  · have := fr_even hp
    rw [show 2 * (h / 2) = h by omega] at this
    left
    omega
  · have := fr_odd hp
    rw [show 2 * (h / 2) + 1 = h by omega] at this
    right
    omega
theorem other_end (hv : Si.Val n es) {h : Nat} (hh : h < 2 * es.length) {p : Int × Int} (hp : es[h / 2]? = some p) : (if p.1 = (fr es h : Int) then p.2 else p.1) = (to es h : Int) := by
  have hne := no_loop hv hh
  rcases half_ends hv hp with ⟨h1, h2⟩ | ⟨h1, h2⟩
  · rw [if_pos h1, h2]
  · rw [if_neg (by omega), h1]
/-- At a vertex of two edges the other one is who leads on. -/
theorem on_next (hv : Si.Val n es) {h k i : Nat} {p : Int × Int} (hk : nxt es h = some k) (hp : es[i]? = some p) (hi : i ≠ h / 2) (hin : p.1 = (to es h : Int) ∨ p.2 = (to es h : Int)) : i = k / 2 := by
  obtain ⟨e, _⟩ := nxt_some hk
  have hil := (List.getElem?_eq_some_iff.1 hp).1
  have hok := hv.each _ p hp
  unfold Si.ok at hok
  obtain ⟨x, hx, hxf, hxi⟩ : ∃ x, x < 2 * es.length ∧ fr es x = to es h ∧ x / 2 = i := by
    rcases hin with hin | hin
    · refine ⟨2 * i, by omega, ?_, by omega⟩
      have := (fr_even hp).1
      omega
    · refine ⟨2 * i + 1, by omega, ?_, by omega⟩
      have := (fr_odd hp).1
      omega
  have hm : x ∈ out es (to es h) (2 * es.length) := mem_out.2 ⟨hx, hxf⟩
  have ht := twin_half h
  rcases e with e | e <;> rw [e] at hm <;> simp only [List.mem_cons, List.not_mem_nil, or_false] at hm
  · rcases hm with rfl | rfl
    · omega
    · omega
  · rcases hm with rfl | rfl
    · omega
    · omega
theorem next_at (hv : Si.Val n es) {h k : Nat} (hk : nxt es h = some k) : ∃ p, es[k / 2]? = some p ∧ (p.1 = (to es h : Int) ∨ p.2 = (to es h : Int)) ∧ k / 2 ≠ h / 2 ∧ k < 2 * es.length ∧ fr es k = to es h := by
  obtain ⟨e, hne⟩ := nxt_some hk
  have hm : k ∈ out es (to es h) (2 * es.length) := by rcases e with e | e <;> rw [e] <;> simp
  obtain ⟨h1, h2⟩ := mem_out.1 hm
  obtain ⟨p, hp⟩ := half_at h1
  refine ⟨p, hp, ?_, fun hc => ?_, h1, h2⟩
  · rcases half_ends hv hp with ⟨a, b⟩ | ⟨a, b⟩
    · left; rw [a, h2]
    · right; rw [b, h2]
  · -- the same edge: its other half-edge
    have : k = h ∨ k = twin h := by
      unfold twin
      split <;> omega
    rcases this with rfl | h3
    · have hh : k < 2 * es.length := h1
      exact no_loop hv hh h2
    · exact hne h3
end
end Ku
end Go.Proofs.Ytdhaaodalchpkaa

/-
  Chains, pure: how the program comes by one: back from an edge as far as it leads, then along.
-/
namespace Go.Proofs.Ytdhaaodalchpkaa
namespace Ku

/-- A trail that begins on one that can't be made longer stays on it. -/
theorem Opn.follow {S : Sys} {o t : List Nat} (ho : Opn S o) (ht : Tr S t) {a : Nat} (h0 : t[0]? = some a) (ha : a ∈ o) : ∀ (i x : Nat), t[i]? = some x → x ∈ o
  | 0, x, hx => by rw [h0] at hx; cases hx; exact ha
  | i + 1, x, hx => by
    have hi := (List.getElem?_eq_some_iff.1 hx).1
    obtain ⟨y, hy⟩ : ∃ y, t[i]? = some y := ⟨_, List.getElem?_eq_getElem (by omega)⟩
    have hyo := ho.follow ht h0 ha i y hy
    obtain ⟨j, hj, ej⟩ := List.mem_iff_getElem.1 hyo
    have gj : o[j]? = some y := by rw [← ej]; exact List.getElem?_eq_getElem hj
    have hn := ht i y x hy hx
    by_cases hl : j + 1 < o.length
    · obtain ⟨z, hz⟩ : ∃ z, o[j + 1]? = some z := ⟨_, List.getElem?_eq_getElem hl⟩
      have := ho.tr j y z gj hz
      rw [hn] at this
      rw [Option.some.inj this]
      exact List.mem_of_getElem? hz
    · have := ho.lst y (by rw [show o.length - 1 = j by omega]; exact gj)
      rw [hn] at this
      cases this

theorem Opn.nodup {S : Sys} {c : List Nat} (o : Opn S c) : c.Nodup := o.tr.nodup fun i hi e => by
  have hp := pos_of o.ne
  obtain ⟨a, ha⟩ : ∃ a, c[0]? = some a := ⟨_, List.getElem?_eq_getElem hp⟩
  rw [ha] at e
  obtain ⟨b, hb⟩ : ∃ b, c[i - 1]? = some b := ⟨_, List.getElem?_eq_getElem (by have := (List.getElem?_eq_some_iff.1 e).1; omega)⟩
  have h1 := o.tr (i - 1) b a hb (by rw [show i - 1 + 1 = i by omega]; exact e)
  have h2 := S.rev b a h1
  rw [o.fst a ha] at h2
  cases h2

section
variable {S : Gs}
/-- Back from an edge that lies on no round: the way from there on goes by it. -/
theorem beg_open {h0 x : Nat} (hh : h0 < S.M) (hx : (all S.toSys (S.tw h0))[(all S.toSys (S.tw h0)).length - 1]? = some x) (he : S.nx x = none) :
    S.tw x < S.M ∧ Opn S.toSys (all S.toSys (S.tw x)) ∧ h0 ∈ all S.toSys (S.tw x) := by
  have hh' := S.tl h0 hh
  obtain ⟨t', _, lt', _, _⟩ := all_spec (S := S.toSys) hh'
  have hxM := lt' x (List.mem_of_getElem? hx)
  have htx := S.tl x hxM
  obtain ⟨_, _, lt, hd, _⟩ := all_spec (S := S.toSys) hh
  have h00 : h0 ∈ all S.toSys h0 := List.mem_of_mem_head? hd
  have hend : ∀ a, (all S.toSys h0)[(all S.toSys h0).length - 1]? = some a → S.nx a = none := by
    rcases all_cases (S := S.toSys) hh with ⟨c, hc0⟩ | ⟨_, _, h⟩
    · exfalso
      refine t'.not_cyc (fun a ha => ?_) c.rv (List.mem_of_getElem? (all_zero hh')) (mem_rv.2 (by rw [S.tt]; exact List.mem_of_getElem? hc0))
      rw [hx] at ha
      cases ha
      exact he
    · exact h
  obtain ⟨l, o, hl0, _⟩ := both_ways hh hend
  have hr : S.tw h0 ∈ rv S.toSys l := mem_rv.2 (by rw [S.tt]; exact hl0)
  have hxr := o.rv.follow t' (all_zero hh') hr _ x hx
  have hxl := mem_rv.1 hxr
  have hO : Opn S.toSys (all S.toSys (S.tw x)) := by
    rcases all_cases (S := S.toSys) htx with ⟨c, hc0⟩ | ⟨t, h0', h⟩
    · exfalso
      have hp := pos_of c.ne
      obtain ⟨p, hp'⟩ : ∃ p, (all S.toSys (S.tw x))[(all S.toSys (S.tw x)).length - 1]? = some p := ⟨_, List.getElem?_eq_getElem (by omega)⟩
      have h1 := S.rev p _ (c.rnd p _ hp' hc0)
      rw [S.tt, he] at h1
      cases h1
    · exact ⟨t, fun e => by rw [e] at h0'; simp at h0', fun a ha => by rw [h0'] at ha; cases ha; rw [S.tt]; exact he, h⟩
  refine ⟨htx, hO, ?_⟩
  rw [hO.unique o (List.mem_of_getElem? (all_zero htx)) hxl]
  exact hl0
/-- Back from an edge on a round one comes to it again; so one does from the edge on. -/
theorem beg_round {h0 x : Nat} (hh : h0 < S.M) (hx : (all S.toSys (S.tw h0))[(all S.toSys (S.tw h0)).length - 1]? = some x) (he : S.nx x = some (S.tw h0)) : Cyc S.toSys (all S.toSys h0) := by
  have hh' := S.tl h0 hh
  have c' : Cyc S.toSys (all S.toSys (S.tw h0)) := by
    rcases all_cases (S := S.toSys) hh' with ⟨c, _⟩ | ⟨_, _, h⟩
    · exact c
    · have := h x hx
      rw [he] at this
      cases this
  obtain ⟨t, _, _, _, _⟩ := all_spec (S := S.toSys) hh
  rcases all_cases (S := S.toSys) hh with ⟨c, _⟩ | ⟨t, h0', h⟩
  · exact c
  · exact (t.not_cyc h c'.rv (List.mem_of_getElem? h0') (mem_rv.2 (List.mem_of_getElem? (all_zero hh')))).elim

/-- Written in its one way it is the trail or the trail turned about. -/
theorem cn_trail {T l : List Nat} (t : Tr S.toSys T) (hn : T ≠ []) (lt : ∀ x ∈ T, x < S.M) (c : Cn S l) (e : vs S l = written (vs S T)) : l = T ∨ l = rv S.toSys T := by
  unfold Ku.written at e
  split at e
  · refine .inr (vs_inj c.tr t.rv c.lt (fun x hx => ?_) (by rw [e, vs_rv t hn]))
    have := S.tl _ (lt _ (mem_rv.1 hx))
    rw [S.tt] at this
    exact this
  · exact .inl (vs_inj c.tr t c.lt lt e)
end

section
variable {es : List (Int × Int)} {n : Int} {hv : Si.Val n es}
theorem by_rv {T : List Nat} {e : Nat} : By (rv (gs es hv).toSys T) e ↔ By T e := by
  constructor
  · rintro ⟨x, hx, h⟩
    exact ⟨_, mem_rv.1 hx, by show Cs.twin x / 2 = e; rw [twin_half]; exact h⟩
  · rintro ⟨x, hx, h⟩
    exact ⟨Cs.twin x, mem_rv.2 (by show Cs.twin (Cs.twin x) ∈ T; rw [twin_twin]; exact hx), by rw [twin_half]; exact h⟩

theorem fr_ge {e e' : Nat} (hv : Si.Val n es) (h : e ≤ e') (he' : e' < es.length) {x : Nat} (hx : x / 2 = e') : Cs.fr es (2 * e) ≤ Cs.fr es x := by
  obtain ⟨p, hp⟩ : ∃ p, es[e]? = some p := ⟨_, List.getElem?_eq_getElem (by omega)⟩
  obtain ⟨q, hq⟩ : ∃ q, es[e']? = some q := ⟨_, List.getElem?_eq_getElem he'⟩
  have ok1 := hv.each _ p hp
  have ok2 := hv.each _ q hq
  unfold Si.ok at ok1 ok2
  have hle : p.1 ≤ q.1 := by
    by_cases e1 : e = e'
    · subst e1
      rw [hp] at hq
      cases hq
      exact Int.le_refl _
    · have := hv.mono e' e p q (by omega) hp hq
      unfold Si.lt at this
      omega
  have f1 := (Cs.fr_even hp).1
  have f2 := (Cs.fr_even hq).1
  have f3 := (Cs.fr_odd hq).1
  rcases Nat.mod_two_eq_zero_or_one x with h2 | h2
  · rw [show x = 2 * e' by omega]
    omega
  · rw [show x = 2 * e' + 1 by omega]
    omega

/-- The program's way along is the chain, but for how it is written. -/
theorem along_is {e b : Nat} (hf : First es hv e) (hb : b < 2 * es.length) (hin : ∃ x ∈ all (gs es hv).toSys b, x / 2 = e) (hk : Opn (gs es hv).toSys (all (gs es hv).toSys b) ∨ (b = 2 * e ∧ Cyc (gs es hv).toSys (all (gs es hv).toSys b))) :
    vs (gs es hv) (ch es hv e) = written (vs (gs es hv) (all (gs es hv).toSys b)) ∧ ∀ e', By (ch es hv e) e' ↔ By (all (gs es hv).toSys b) e' := by
  obtain ⟨T, hT⟩ : ∃ T, T = all (gs es hv).toSys b := ⟨_, rfl⟩
  obtain ⟨t, nd, lt, _, _⟩ := all_spec (S := (gs es hv).toSys) hb
  rw [← hT] at hin hk t nd lt ⊢
  have key : ∀ l, Cn (gs es hv) l → vs (gs es hv) l = written (vs (gs es hv) T) → T ≠ [] → vs (gs es hv) (ch es hv e) = written (vs (gs es hv) T) ∧ ∀ e', By (ch es hv e) e' ↔ By T e' := fun l c e1 hn => by
    have hby : ∀ e', By l e' ↔ By T e' := fun e' => by
      rcases cn_trail t hn lt c e1 with rfl | rfl
      · exact Iff.rfl
      · exact by_rv
    obtain ⟨x, hx, hxe⟩ := (hby e).2 hin
    rw [ch_is c hx hxe]
    exact ⟨e1, hby⟩
  rcases hk with o | ⟨hb2, c⟩
  · obtain ⟨l, cn, e1, _⟩ := o.written lt
    exact key l cn e1 o.ne
  · have hm : ∀ x ∈ T, at_ (vs (gs es hv) T) 0 ≤ (gs es hv).fr x := fun x hx => by
      have h0 : T[0]? = some b := by rw [hT]; exact all_zero hb
      rw [vs_first h0, hb2]
      obtain ⟨k, hk, hmin⟩ := ex_min (fun i => at_ (vs (gs es hv) T) i) (pos_of c.ne)
      obtain ⟨l, cl, ltl, ml, sub, _⟩ := c.turn lt hk hmin
      obtain ⟨l', cn, _, hall⟩ := cl.written ltl ml
      have hby : ∀ y ∈ T, By l' (y / 2) := fun y hy => by
        rcases hall y (sub y hy) with h | h
        · exact ⟨y, h, rfl⟩
        · exact ⟨_, h, twin_half y⟩
      obtain ⟨y, hy, hye⟩ := hin
      obtain ⟨z, hz, hze⟩ := hby y hy
      have e1 := ch_is (hv := hv) (e := e) cn hz (by rw [hze, hye])
      have := hf (x / 2) (by rw [e1]; exact hby x hx)
      have hxl : x < 2 * es.length := lt x hx
      exact fr_ge hv this (by omega) rfl
    obtain ⟨l, cn, e1, _⟩ := c.written lt hm
    exact key l cn e1 c.ne
/-- What is first has no edge that an elder chain goes by. -/
theorem first_free {k e' : Nat} (hk : k < es.length) (hf : First es hv k) (h : By (ch es hv k) e') : ¬ ∃ l ∈ chs es hv k, By l e' := by
  rintro ⟨l, hl, hb⟩
  obtain ⟨e, h1, h2, rfl⟩ := mem_chs.1 hl
  have a1 := ch_by hk h
  have a2 := ch_by (by omega) hb
  have := hf e (by rw [← a1, a2]; exact (ch_ok (by omega)).2)
  omega
/-- Edges of a trail come once. -/
theorem trail_once {S : Sys} {T : List Nat} (t : Tr S T) (nd : T.Nodup) (htw : ∀ x y, x / 2 = y / 2 → x = y ∨ y = S.tw x) {i j x y : Nat} (hij : i < j) (hx : T[i]? = some x) (hy : T[j]? = some y) : x / 2 ≠ y / 2 := by
  intro e
  rcases htw x y e with rfl | h
  · obtain ⟨a1, a2⟩ := List.getElem?_eq_some_iff.1 hx
    obtain ⟨b1, b2⟩ := List.getElem?_eq_some_iff.1 hy
    have := (List.getElem_inj nd).1 (a2.trans b2.symm)
    omega
  · exact t.no_twin (List.mem_of_getElem? hx) (List.mem_of_getElem? hy) h
theorem half_two (x y : Nat) (e : x / 2 = y / 2) : x = y ∨ y = Cs.twin x := by
  unfold Cs.twin
  split <;> omega
end
end Ku
end Go.Proofs.Ytdhaaodalchpkaa
