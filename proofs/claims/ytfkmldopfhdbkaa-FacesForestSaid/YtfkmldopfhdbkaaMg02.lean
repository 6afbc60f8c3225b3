import Derived.Test.YtfkmldopfhdbkaaMg00
/-
  Simple graphs, pure: the order of edges, what a valid graph is, where an edge lies, what pairs make.
-/
namespace Go.Proofs.Ytfkmldopfhdbkaa
namespace Si

def lt (a b : Int × Int) : Prop := a.1 < b.1 ∨ (a.1 = b.1 ∧ a.2 < b.2)

instance (a b : Int × Int) : Decidable (lt a b) := by unfold lt; infer_instance

def cf (a b : Int × Int) : Int := if a.1 < b.1 then -1 else if b.1 < a.1 then 1 else if a.2 < b.2 then -1 else if b.2 < a.2 then 1 else 0

theorem cf_neg {a b : Int × Int} : cf a b < 0 ↔ lt a b := by
  unfold cf lt
  split
  · simp; omega
  · split
    · simp; omega
    · split
      · simp; omega
      · split
        · simp; omega
        · simp; omega

theorem cf_zero {a b : Int × Int} : cf a b = 0 ↔ a = b := by
  unfold cf
  obtain ⟨a1, a2⟩ := a
  obtain ⟨b1, b2⟩ := b
  simp only [Prod.mk.injEq]
  split
  · simp; omega
  · split
    · simp; omega
    · split
      · simp; omega
      · split
        · simp; omega
        · simp; omega

theorem lt_irrefl (a : Int × Int) : ¬ lt a a := by unfold lt; omega
theorem lt_trans {a b c : Int × Int} (h : lt a b) (k : lt b c) : lt a c := by unfold lt at *; omega
theorem lt_total (a b : Int × Int) : lt a b ∨ a = b ∨ lt b a := by
  unfold lt
  by_cases h : a = b
  · exact .inr (.inl h)
  · have : a.1 ≠ b.1 ∨ a.2 ≠ b.2 := by
      by_cases h1 : a.1 = b.1
      · exact .inr fun h2 => h (Prod.ext h1 h2)
      · exact .inl h1
    omega
theorem lt_asymm {a b : Int × Int} (h : lt a b) : ¬ lt b a := fun k => lt_irrefl a (lt_trans h k)
theorem lt_ne {a b : Int × Int} (h : lt a b) : a ≠ b := fun e => lt_irrefl a (by rw [e] at h ⊢; exact h)

def ok (n : Int) (e : Int × Int) : Prop := 0 ≤ e.1 ∧ e.1 < e.2 ∧ e.2 < n

/-- A graph in its one form. -/
structure Val (n : Int) (es : List (Int × Int)) : Prop where
  lo : 0 ≤ n
  hi : n ≤ 1048576
  few : es.length ≤ 4194304
  each : ∀ (j : Nat) (p : Int × Int), es[j]? = some p → ok n p
  up : ∀ (j : Nat) (p q : Int × Int), es[j]? = some p → es[j + 1]? = some q → lt p q

open Classical in
noncomputable def valid (n : Int) (es : List (Int × Int)) : Bool := decide (Val n es)

theorem valid_iff {n : Int} {es : List (Int × Int)} : valid n es = true ↔ Val n es := by unfold valid; exact @decide_eq_true_iff _ (Classical.propDecidable _)
theorem valid_no {n : Int} {es : List (Int × Int)} (h : ¬ Val n es) : valid n es = false := by
  cases hv : valid n es
  · rfl
  · exact absurd (valid_iff.1 hv) h

theorem Val.mono {n : Int} {es : List (Int × Int)} (h : Val n es) : ∀ (j i : Nat) (p q : Int × Int), i < j → es[i]? = some p → es[j]? = some q → lt p q
  | 0, _, _, _, hij, _, _ => by omega
  | j + 1, i, p, q, hij, hp, hq => by
    have hl : j + 1 < es.length := by
      rcases Nat.lt_or_ge (j + 1) es.length with hl | hl
      · exact hl
      · rw [List.getElem?_eq_none hl] at hq; cases hq
    have hr : es[j]? = some es[j] := List.getElem?_eq_getElem (by omega)
    have h1 := h.up j _ q hr hq
    by_cases hij' : i = j
    · subst hij'
      rw [hp] at hr
      cases hr
      exact h1
    · exact lt_trans (h.mono j i p _ (by omega) hp hr) h1

theorem Val.place {n : Int} {es : List (Int × Int)} (h : Val n es) {i j : Nat} {p : Int × Int} (hi : es[i]? = some p) (hj : es[j]? = some p) : i = j := by
  rcases Nat.lt_trichotomy i j with a | a | a
  · exact absurd (h.mono j i p p a hi hj) (lt_irrefl p)
  · exact a
  · exact absurd (h.mono i j p p a hj hi) (lt_irrefl p)

/-- r is the number of the edge e. -/
def IsFind (n : Int) (es : List (Int × Int)) (e : Int × Int) (r : Int) : Prop := (∃ k : Nat, Val n es ∧ es[k]? = some e ∧ r = k) ∨ (r = -1 ∧ ¬ (Val n es ∧ ∃ k : Nat, es[k]? = some e))

theorem IsFind.same {n : Int} {es : List (Int × Int)} {e : Int × Int} {r r' : Int} (h : IsFind n es e r) (h' : IsFind n es e r') : r = r' := by
  rcases h with ⟨k, hv, hk, rfl⟩ | ⟨rfl, hn⟩ <;> rcases h' with ⟨k', hv', hk', rfl⟩ | ⟨rfl, hn'⟩
  · rw [hv.place hk hk']
  · exact absurd ⟨hv, k, hk⟩ hn'
  · exact absurd ⟨hv', k', hk'⟩ hn
  · rfl

/-- Where a half-edge begins and ends. -/
noncomputable def ends (n : Int) (es : List (Int × Int)) (h : Int) : Int × Int × Bool :=
  if valid n es = true ∧ 0 ≤ h ∧ h < 2 * es.length then
    (if h % 2 = 1 then ((es.getD (h / 2).toNat (0, 0)).2, (es.getD (h / 2).toNat (0, 0)).1, true) else ((es.getD (h / 2).toNat (0, 0)).1, (es.getD (h / 2).toNat (0, 0)).2, true))
  else (0, 0, false)

def bump (l : List Int) (v : Int) : List Int := l.set v.toNat (l.getD v.toNat 0 + 1)
def degs (n : Int) : List (Int × Int) → List Int
  | es => es.foldl (fun l e => bump (bump l e.1) e.2) (List.replicate n.toNat 0)

def norm (p : Int × Int) : Int × Int := (min p.1 p.2, max p.1 p.2)

/-- l: the edges that the pairs say. -/
def IsMade (ps : List (Int × Int)) (l : List (Int × Int)) : Prop := l.Pairwise lt ∧ ∀ e, e ∈ l ↔ ∃ p ∈ ps, p.1 ≠ p.2 ∧ e = norm p

theorem sorted_ext : ∀ {l l' : List (Int × Int)}, l.Pairwise lt → l'.Pairwise lt → (∀ e, e ∈ l ↔ e ∈ l') → l = l'
  | [], [], _, _, _ => rfl
  | [], b :: l', _, _, h => by have := (h b).2 (by simp); simp at this
  | a :: l, [], _, _, h => by have := (h a).1 (by simp); simp at this
  | a :: l, b :: l', hs, hs', h => by
    rw [List.pairwise_cons] at hs hs'
    have hab : a = b := by
      have h1 := (h a).1 (by simp)
      have h2 := (h b).2 (by simp)
      rcases List.mem_cons.1 h1 with e | e
      · exact e
      · rcases List.mem_cons.1 h2 with e2 | e2
        · exact e2.symm
        · exact absurd (hs'.1 a e) (lt_asymm (hs.1 b e2))
    subst hab
    congr 1
    refine sorted_ext hs.2 hs'.2 fun e => ⟨fun he => ?_, fun he => ?_⟩
    · rcases List.mem_cons.1 ((h e).1 (List.mem_cons_of_mem _ he)) with e1 | e1
      · exact absurd e1.symm (lt_ne (hs.1 e he))
      · exact e1
    · rcases List.mem_cons.1 ((h e).2 (List.mem_cons_of_mem _ he)) with e1 | e1
      · exact absurd e1.symm (lt_ne (hs'.1 e he))
      · exact e1

theorem IsMade.same {ps l l' : List (Int × Int)} (h : IsMade ps l) (h' : IsMade ps l') : l = l' := sorted_ext h.1 h'.1 fun e => (h.2 e).trans (h'.2 e).symm

/-- The edges with one more. -/
def put : List (Int × Int) → Int × Int → List (Int × Int)
  | [], e => [e]
  | x :: l, e => if lt x e then x :: put l e else if x = e then x :: l else e :: x :: l

theorem mem_put : ∀ (l : List (Int × Int)) (e x : Int × Int), x ∈ put l e ↔ x = e ∨ x ∈ l
  | [], e, x => by simp [put]
  | y :: l, e, x => by
    unfold put
    split
    · rw [List.mem_cons, mem_put l e x, List.mem_cons]
      constructor
      · rintro (h | h | h)
        · exact .inr (.inl h)
        · exact .inl h
        · exact .inr (.inr h)
      · rintro (h | h | h)
        · exact .inr (.inl h)
        · exact .inl h
        · exact .inr (.inr h)
    · split
      · rename_i h
        subst h
        simp
      · rw [List.mem_cons]

theorem put_sorted : ∀ (l : List (Int × Int)) (e : Int × Int), l.Pairwise lt → (put l e).Pairwise lt
  | [], e, _ => by simp [put]
  | y :: l, e, h => by
    have h' := h
    rw [List.pairwise_cons] at h
    unfold put
    split
    · rename_i hye
      rw [List.pairwise_cons]
      refine ⟨fun z hz => ?_, put_sorted l e h.2⟩
      rcases (mem_put l e z).1 hz with rfl | hz
      · exact hye
      · exact h.1 z hz
    · split
      · exact h'
      · rename_i h1 h2
        rw [List.pairwise_cons]
        refine ⟨fun z hz => ?_, h'⟩
        have hey : lt e y := by
          rcases lt_total y e with a | a | a
          · exact absurd a h1
          · exact absurd a h2
          · exact a
        rcases List.mem_cons.1 hz with rfl | hz
        · exact hey
        · exact lt_trans hey (h.1 z hz)

theorem put_length : ∀ (l : List (Int × Int)) (e : Int × Int), l.length ≤ (put l e).length ∧ (put l e).length ≤ l.length + 1
  | [], e => by simp [put]
  | y :: l, e => by
    have := put_length l e
    unfold put
    split
    · simp; omega
    · split <;> simp

/-- Where it is put. -/
theorem put_at : ∀ (l : List (Int × Int)) (e : Int × Int) (i : Nat), i ≤ l.length → (∀ (j : Nat) (x : Int × Int), j < i → l[j]? = some x → lt x e) → (∀ x, l[i]? = some x → ¬ lt x e) →
    put l e = if l[i]? = some e then l else l.take i ++ e :: l.drop i
  | [], e, 0, _, _, _ => by simp [put]
  | [], e, i + 1, h, _, _ => by simp at h
  | y :: l, e, 0, _, _, h => by
    have := h y (by simp)
    unfold put
    rw [if_neg this]
    simp
  | y :: l, e, i + 1, hi, h1, h2 => by
    have hy := h1 0 y (by omega) (by simp)
    have ih := put_at l e i (by simpa using hi) (fun j x hj hx => h1 (j + 1) x (by omega) (by simpa using hx)) (fun x hx => h2 x (by simpa using hx))
    unfold put
    rw [if_pos hy, ih]
    simp only [List.getElem?_cons_succ, List.take_succ_cons, List.drop_succ_cons]
    split <;> simp

/-- The edges of pairs, one by one. -/
def made : List (Int × Int) → List (Int × Int) → List (Int × Int)
  | l, [] => l
  | l, p :: ps => made (if p.1 = p.2 then l else put l (norm p)) ps

theorem made_snoc : ∀ (ps l : List (Int × Int)) (p : Int × Int), made l (ps ++ [p]) = if p.1 = p.2 then made l ps else put (made l ps) (norm p)
  | [], l, p => by simp [made]
  | q :: ps, l, p => by simp only [List.cons_append, made]; exact made_snoc ps _ p

theorem made_is : ∀ (ps l : List (Int × Int)), l.Pairwise lt → (made l ps).Pairwise lt ∧ ∀ e, e ∈ made l ps ↔ e ∈ l ∨ ∃ p ∈ ps, p.1 ≠ p.2 ∧ e = norm p
  | [], l, h => ⟨h, fun e => by simp [made]⟩
  | p :: ps, l, h => by
    by_cases hp : p.1 = p.2
    · obtain ⟨h1, h2⟩ := made_is ps l h
      simp only [made, if_pos hp]
      refine ⟨h1, fun e => (h2 e).trans ?_⟩
      simp only [List.mem_cons, exists_eq_or_imp]
      constructor
      · rintro (a | a)
        · exact .inl a
        · exact .inr (.inr a)
      · rintro (a | a | a)
        · exact .inl a
        · exact absurd hp a.1
        · exact .inr a
    · obtain ⟨h1, h2⟩ := made_is ps (put l (norm p)) (put_sorted l _ h)
      simp only [made, if_neg hp]
      refine ⟨h1, fun e => (h2 e).trans ?_⟩
      rw [mem_put]
      simp only [List.mem_cons, exists_eq_or_imp]
      constructor
      · rintro ((a | a) | a)
        · exact .inr (.inl ⟨hp, a⟩)
        · exact .inl a
        · exact .inr (.inr a)
      · rintro (a | a | a)
        · exact .inl (.inr a)
        · exact .inl (.inl a.2)
        · exact .inr a

theorem made_made (ps : List (Int × Int)) : IsMade ps (made [] ps) := by
  obtain ⟨h1, h2⟩ := made_is ps [] List.Pairwise.nil
  exact ⟨h1, fun e => by rw [h2]; simp⟩

theorem made_length : ∀ (ps l : List (Int × Int)), l.length ≤ (made l ps).length ∧ (made l ps).length ≤ l.length + ps.length
  | [], l => by simp [made]
  | p :: ps, l => by
    simp only [made]
    split
    · have := made_length ps l
      simp; omega
    · have := made_length ps (put l (norm p))
      have := put_length l (norm p)
      simp; omega

theorem made_append : ∀ (ps qs l : List (Int × Int)), made l (ps ++ qs) = made (made l ps) qs
  | [], _, _ => rfl
  | p :: ps, qs, l => by simp only [List.cons_append, made]; exact made_append ps qs _

theorem made_take (ps : List (Int × Int)) (k : Nat) : (made [] (ps.take k)).length ≤ (made [] ps).length := by
  conv => rhs; rw [← List.take_append_drop k ps, made_append]
  exact (made_length _ _).1

/-- A list without doubles of just these is as long. -/
theorem nodup_length : ∀ {l l' : List (Int × Int)}, l.Nodup → l'.Nodup → (∀ e, e ∈ l ↔ e ∈ l') → l.length = l'.length
  | [], l', _, _, h => by
    cases l' with
    | nil => rfl
    | cons b l' => have := (h b).2 (by simp); simp at this
  | a :: l, l', hn, hn', h => by
    have ha : a ∈ l' := (h a).1 (by simp)
    obtain ⟨s, t, rfl⟩ := List.append_of_mem ha
    rw [List.nodup_cons] at hn
    have hn2 : a ∉ s ++ t ∧ (s ++ t).Nodup := by
      have := (List.perm_middle (a := a) (l₁ := s) (l₂ := t)).nodup_iff.1 hn'
      exact List.nodup_cons.1 this
    have := nodup_length (l := l) (l' := s ++ t) hn.2 hn2.2 fun e => by
      have he := h e
      simp only [List.mem_cons, List.mem_append] at he ⊢
      constructor
      · intro hl
        rcases he.1 (.inr hl) with a1 | a1 | a1
        · exact .inl a1
        · exact absurd (a1 ▸ hl) hn.1
        · exact .inr a1
      · intro hst
        rcases he.2 (by rcases hst with a1 | a1 <;> simp [a1]) with a1 | a1
        · exact absurd (by rw [List.mem_append]; exact a1 ▸ hst) hn2.1
        · exact a1
    simp at this ⊢
    omega

theorem sorted_nodup {l : List (Int × Int)} (h : l.Pairwise lt) : l.Nodup := h.imp fun hab => lt_ne hab

end Si
end Go.Proofs.Ytfkmldopfhdbkaa

/-
  Half-edges by vertices, pure: where they begin and lead, who leaves a vertex, in which order, and at which place.
-/
namespace Go.Proofs.Ytfkmldopfhdbkaa
namespace Cs

/-- Where half-edge i begins. -/
def fr (es : List (Int × Int)) (i : Nat) : Nat := (if i % 2 = 0 then (es.getD (i / 2) (0, 0)).1 else (es.getD (i / 2) (0, 0)).2).toNat
/-- Where it leads. -/
def to (es : List (Int × Int)) (i : Nat) : Nat := (if i % 2 = 0 then (es.getD (i / 2) (0, 0)).2 else (es.getD (i / 2) (0, 0)).1).toNat

/-- The half-edges below k that leave v. -/
def out (es : List (Int × Int)) (v : Nat) : Nat → List Nat
  | 0 => []
  | k + 1 => if fr es k = v then out es v k ++ [k] else out es v k

section
variable {es : List (Int × Int)} {u v i j k : Nat}

theorem out_len_le : ∀ k, (out es v k).length ≤ k
  | 0 => by simp [out]
  | k + 1 => by
    have := out_len_le k
    unfold out
    split <;> simp <;> omega

theorem out_len_succ (k : Nat) : (out es v (k + 1)).length = (out es v k).length + if fr es k = v then 1 else 0 := by
  conv => lhs; unfold out
  split <;> simp

theorem out_mono (h : i ≤ k) : (out es v i).length ≤ (out es v k).length := by
  induction k with
  | zero =>
    obtain rfl : i = 0 := by omega
    exact Nat.le_refl _
  | succ k ih =>
    by_cases hk : i = k + 1
    · subst hk; exact Nat.le_refl _
    · have := ih (by omega)
      rw [out_len_succ]
      omega

theorem out_lt (h : i < k) (hv : fr es i = v) : (out es v i).length < (out es v k).length := by
  have h1 := out_len_succ (es := es) (v := v) i
  rw [if_pos hv] at h1
  have h2 := out_mono (es := es) (v := v) (i := i + 1) (k := k) h
  omega

theorem out_at (h : i < k) (hv : fr es i = v) : (out es v k)[(out es v i).length]? = some i := by
  induction k with
  | zero => omega
  | succ k ih =>
    by_cases hk : i = k
    · subst hk
      conv => lhs; arg 1; unfold out
      rw [if_pos hv]
      simp
    · have h1 := ih (by omega)
      have h2 : (out es v i).length < (out es v k).length := out_lt (by omega) hv
      conv => lhs; arg 1; unfold out
      split
      · rw [List.getElem?_append_left h2]; exact h1
      · exact h1

theorem out_of (h : (out es v k)[j]? = some i) : i < k ∧ fr es i = v ∧ (out es v i).length = j := by
  induction k with
  | zero => simp [out] at h
  | succ k ih =>
    unfold out at h
    split at h
    · rename_i hv
      by_cases hj : j < (out es v k).length
      · rw [List.getElem?_append_left hj] at h
        have := ih h
        exact ⟨by omega, this.2⟩
      · rw [List.getElem?_append_right (by omega)] at h
        by_cases hj2 : j - (out es v k).length = 0
        · rw [hj2] at h
          simp at h
          subst h
          exact ⟨by omega, hv, by omega⟩
        · rw [List.getElem?_eq_none (by simp; omega)] at h
          cases h
    · have := ih h
      exact ⟨by omega, this.2⟩

/-- Those that leave v rise. -/
theorem out_rises {a b : Nat} (hij : i < j) (hi : (out es v k)[i]? = some a) (hj : (out es v k)[j]? = some b) : a < b := by
  have ha := out_of hi
  have hb := out_of hj
  rcases Nat.lt_or_ge a b with h | h
  · exact h
  · have := out_mono (es := es) (v := v) h
    omega

/-- How many leave the vertices below v. -/
def st (es : List (Int × Int)) (M : Nat) : Nat → Nat
  | 0 => 0
  | v + 1 => st es M v + (out es v M).length

theorem st_lt {M : Nat} (h : u < v) : st es M u + (out es u M).length ≤ st es M v := by
  induction v with
  | zero => omega
  | succ v ih =>
    have e : st es M (v + 1) = st es M v + (out es v M).length := rfl
    by_cases hu : u = v
    · subst hu; omega
    · have := ih (by omega)
      omega

theorem st_succ (M v : Nat) : st es (M + 1) v = st es M v + if fr es M < v then 1 else 0 := by
  induction v with
  | zero => simp [st]
  | succ v ih =>
    have e1 : st es (M + 1) (v + 1) = st es (M + 1) v + (out es v (M + 1)).length := rfl
    have e2 : st es M (v + 1) = st es M v + (out es v M).length := rfl
    rw [e1, e2, ih, out_len_succ]
    split <;> split <;> split <;> omega

theorem st_sum {n : Nat} (M : Nat) (h : ∀ i, i < M → fr es i < n) : st es M n = M := by
  induction M with
  | zero =>
    have : ∀ v, st es 0 v = 0 := fun v => by
      induction v with
      | zero => rfl
      | succ v ih => rw [show st es 0 (v + 1) = st es 0 v + (out es v 0).length from rfl, ih]; rfl
    exact this n
  | succ M ih =>
    rw [st_succ, ih (fun i hi => h i (by omega)), if_pos (h M (by omega))]

theorem st_le {n M : Nat} (h : ∀ i, i < M → fr es i < n) (hv : v < n) : st es M v + (out es v M).length ≤ M := by
  have := st_lt (es := es) (M := M) hv
  rw [st_sum M h] at this
  exact this

/-- The place of half-edge i. -/
def pos (es : List (Int × Int)) (M i : Nat) : Nat := st es M (fr es i) + (out es (fr es i) i).length

theorem pos_lt {n M : Nat} (h : ∀ i, i < M → fr es i < n) (hi : i < M) : pos es M i < M := by
  have h1 := st_le h (h i hi)
  have h2 := out_lt (es := es) (k := M) hi rfl
  unfold pos
  omega

theorem pos_ne {M : Nat} (hij : i < j) (hj : j < M) : pos es M i ≠ pos es M j := by
  unfold pos
  rcases Nat.lt_trichotomy (fr es i) (fr es j) with h | h | h
  · have h1 := st_lt (es := es) (M := M) h
    have h2 := out_lt (es := es) (i := i) (k := M) (by omega) rfl
    omega
  · rw [h]
    have h2 := out_lt (es := es) (i := i) (k := j) hij h
    omega
  · have h1 := st_lt (es := es) (M := M) h
    have h2 := out_lt (es := es) (i := j) (k := M) hj rfl
    omega

end

/-- What has been laid when k half-edges have come: halves, places, ends, the next free places. -/
structure Filled (es : List (Int × Int)) (n M k : Nat) (H Pl T F : List Int) : Prop where
  lH : H.length = M
  lP : Pl.length = M
  lT : T.length = M
  lF : F.length = n
  hT : ∀ i, i < k → T[i]? = some (to es i : Int)
  hP : ∀ i, i < k → Pl[i]? = some (pos es M i : Int)
  hH : ∀ i, i < k → H[pos es M i]? = some (i : Int)
  hF : ∀ v, v < n → F[v]? = some ((st es M v + (out es v k).length : Nat) : Int)

theorem Filled.at {es : List (Int × Int)} {n M k : Nat} {H Pl T F : List Int} (h : Filled es n M k H Pl T F) (hk : fr es k < n) : F[fr es k]? = some (pos es M k : Int) := h.hF _ hk

theorem Filled.step {es : List (Int × Int)} {n M k : Nat} {H Pl T F : List Int} (h : Filled es n M k H Pl T F) (hn : ∀ i, i < M → fr es i < n) (hk : k < M) :
    Filled es n M (k + 1) (H.set (pos es M k) k) (Pl.set k (pos es M k)) (T.set k (to es k)) (F.set (fr es k) ((pos es M k : Int) + 1)) := by
  have hp := pos_lt hn hk
  refine ⟨by simp [h.lH], by simp [h.lP], by simp [h.lT], by simp [h.lF], fun i hi => ?_, fun i hi => ?_, fun i hi => ?_, fun v hv => ?_⟩
  · rw [List.getElem?_set]
    by_cases e : k = i
    · subst e; rw [if_pos rfl, if_pos (by rw [h.lT]; exact hk)]
    · rw [if_neg e]; exact h.hT i (by omega)
  · rw [List.getElem?_set]
    by_cases e : k = i
    · subst e; rw [if_pos rfl, if_pos (by rw [h.lP]; exact hk)]
    · rw [if_neg e]; exact h.hP i (by omega)
  · rw [List.getElem?_set]
    by_cases e : k = i
    · subst e; rw [if_pos rfl, if_pos (by rw [h.lH]; exact hp)]
    · rw [if_neg (fun e2 => pos_ne (es := es) (M := M) (i := i) (j := k) (by omega) hk e2.symm)]; exact h.hH i (by omega)
  · rw [List.getElem?_set, out_len_succ]
    by_cases e : fr es k = v
    · subst e
      rw [if_pos rfl, if_pos (by rw [h.lF]; exact hv), if_pos rfl]
      unfold pos
      congr 1
    · rw [if_neg e, if_neg e]; exact h.hF v hv

/-- What leaves a number, be it a vertex or not. -/
def outI (n : Nat) (es : List (Int × Int)) (v : Int) : List Nat := if 0 ≤ v ∧ v < n then out es v.toNat (2 * es.length) else []

theorem outI_in {n : Nat} {es : List (Int × Int)} {v : Nat} (h : v < n) : outI n es v = out es v (2 * es.length) := by
  unfold outI
  rw [if_pos ⟨by omega, by omega⟩]
  simp
theorem outI_no {n : Nat} {es : List (Int × Int)} {v : Int} (h : ¬ (0 ≤ v ∧ v < n)) : outI n es v = [] := by
  unfold outI
  rw [if_neg h]
theorem outI_len_le {n : Nat} {es : List (Int × Int)} {v : Int} : (outI n es v).length ≤ 2 * es.length := by
  unfold outI
  split
  · exact out_len_le _
  · simp

/-- Of a valid graph. -/
theorem half_lt {n : Nat} {es : List (Int × Int)} (hv : Si.Val n es) {i : Nat} (hi : i < 2 * es.length) : fr es i < n ∧ to es i < n := by
  obtain ⟨p, hp⟩ : ∃ p, es[i / 2]? = some p := ⟨_, List.getElem?_eq_getElem (by omega)⟩
  have ho := hv.each _ p hp
  unfold Si.ok at ho
  unfold fr to
  rw [List.getD_eq_getElem?_getD, hp]
  dsimp only [Option.getD_some]
  split <;> omega

theorem fr_even {es : List (Int × Int)} {k : Nat} {p : Int × Int} (hp : es[k]? = some p) : fr es (2 * k) = p.1.toNat ∧ to es (2 * k) = p.2.toNat := by
  unfold fr to
  have e : 2 * k / 2 = k := by omega
  have e2 : 2 * k % 2 = 0 := by omega
  rw [e, e2, List.getD_eq_getElem?_getD, hp]
  exact ⟨rfl, rfl⟩
theorem fr_odd {es : List (Int × Int)} {k : Nat} {p : Int × Int} (hp : es[k]? = some p) : fr es (2 * k + 1) = p.2.toNat ∧ to es (2 * k + 1) = p.1.toNat := by
  unfold fr to
  have e : (2 * k + 1) / 2 = k := by omega
  have e2 : (2 * k + 1) % 2 = 1 := by omega
  rw [e, e2, List.getD_eq_getElem?_getD, hp]
  exact ⟨rfl, rfl⟩

/-- The half-edge the other way. -/
def twin (i : Nat) : Nat := if i % 2 = 0 then i + 1 else i - 1

theorem twin_lt {i m : Nat} (h : i < 2 * m) : twin i < 2 * m := by
  unfold twin
  split <;> omega
theorem to_twin (es : List (Int × Int)) (i : Nat) : to es (twin i) = fr es i := by
  unfold to fr twin
  by_cases h : i % 2 = 0
  · have e : (i + 1) / 2 = i / 2 := by omega
    have e2 : ¬ ((i + 1) % 2 = 0) := by omega
    rw [if_pos h, if_pos h, e, if_neg e2]
  · have e : (i - 1) / 2 = i / 2 := by omega
    have e2 : (i - 1) % 2 = 0 := by omega
    rw [if_neg h, if_neg h, e, if_pos e2]
theorem fr_twin (es : List (Int × Int)) (i : Nat) : fr es (twin i) = to es i := by
  unfold to fr twin
  by_cases h : i % 2 = 0
  · have e : (i + 1) / 2 = i / 2 := by omega
    have e2 : ¬ ((i + 1) % 2 = 0) := by omega
    rw [if_pos h, if_pos h, e, if_neg e2]
  · have e : (i - 1) / 2 = i / 2 := by omega
    have e2 : (i - 1) % 2 = 0 := by omega
    rw [if_neg h, if_neg h, e, if_pos e2]

/-- By the vertices that they lead to they rise. -/
theorem to_rises {n : Int} {es : List (Int × Int)} (hv : Si.Val n es) {i j : Nat} (hij : i < j) (hj : j < 2 * es.length) (hf : fr es i = fr es j) : to es i < to es j := by
  obtain ⟨p, hp⟩ : ∃ p, es[i / 2]? = some p := ⟨_, List.getElem?_eq_getElem (by omega)⟩
  obtain ⟨q, hq⟩ : ∃ q, es[j / 2]? = some q := ⟨_, List.getElem?_eq_getElem (by omega)⟩
  have hop := hv.each _ p hp
  have hoq := hv.each _ q hq
  unfold Si.ok at hop hoq
  have hl : i / 2 = j / 2 ∨ Si.lt p q := by
    by_cases h : i / 2 = j / 2
    · exact .inl h
    · exact .inr (hv.mono (j / 2) (i / 2) p q (by omega) hp hq)
  have hpq : i / 2 = j / 2 → p = q := fun h => by
    rw [h, hq] at hp
    cases hp
    rfl
  have gp : es.getD (i / 2) (0, 0) = p := by rw [List.getD_eq_getElem?_getD, hp]; rfl
  have gq : es.getD (j / 2) (0, 0) = q := by rw [List.getD_eq_getElem?_getD, hq]; rfl
  unfold fr at hf
  unfold to
  rw [gp, gq] at hf
  rw [gp, gq]
  rcases hl with hl | hl
  · have := hpq hl
    subst this
    have h1 : i % 2 = 0 := by omega
    have h2 : ¬ (j % 2 = 0) := by omega
    rw [if_pos h1, if_neg h2] at hf
    omega
  · unfold Si.lt at hl
    by_cases h1 : i % 2 = 0 <;> by_cases h2 : j % 2 = 0
    · rw [if_pos h1, if_pos h2] at hf ⊢
      omega
    · rw [if_pos h1, if_neg h2] at hf ⊢
      omega
    · rw [if_neg h1, if_pos h2] at hf ⊢
      omega
    · rw [if_neg h1, if_neg h2] at hf ⊢
      omega

end Cs
end Go.Proofs.Ytfkmldopfhdbkaa
