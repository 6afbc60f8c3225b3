import Derived.Deep.RegionHeld3
import Derived.Laws.AppendOwnNone
import Derived.Deep.AppendLies
import Derived.Test.YtfjgmbimapkabaaDoorMg08
/-
  Simple graphs, pure: the order of edges, what a valid graph is, where an edge lies, what pairs make.
-/
namespace Go.Proofs.YtfjgmbimapkabaaDoor
namespace Si

def lt (a b : Int × Int) : Prop := a.1 < b.1 ∨ (a.1 = b.1 ∧ a.2 < b.2)

instance (a b : Int × Int) : Decidable (lt a b) := by unfold lt; infer_instance

def cf (a b : Int × Int) : Int := if a.1 < b.1 then -1 else if b.1 < a.1 then 1 else if a.2 < b.2 then -1 else if b.2 < a.2 then 1 else 0

theorem cf_neg {a b : Int × Int} : cf a b < 0 ↔ lt a b := by
  unfold cf lt
  split
  · simp; omega
  · split
    · simp; omega
    · split
      · simp; omega
      · split
        · simp; omega
        · simp; omega

theorem cf_zero {a b : Int × Int} : cf a b = 0 ↔ a = b := by
  unfold cf
  obtain ⟨a1, a2⟩ := a
  obtain ⟨b1, b2⟩ := b
  simp only [Prod.mk.injEq]
  split
  · simp; omega
  · split
    · simp; omega
    · split
      · simp; omega
      · split
        · simp; omega
        · simp; omega

theorem lt_irrefl (a : Int × Int) : ¬ lt a a := by unfold lt; omega
theorem lt_trans {a b c : Int × Int} (h : lt a b) (k : lt b c) : lt a c := by unfold lt at *; omega
theorem lt_total (a b : Int × Int) : lt a b ∨ a = b ∨ lt b a := by
  unfold lt
  by_cases h : a = b
  · exact .inr (.inl h)
  · have : a.1 ≠ b.1 ∨ a.2 ≠ b.2 := by
      by_cases h1 : a.1 = b.1
      · exact .inr fun h2 => h (Prod.ext h1 h2)
      · exact .inl h1
    omega
theorem lt_asymm {a b : Int × Int} (h : lt a b) : ¬ lt b a := fun k => lt_irrefl a (lt_trans h k)
theorem lt_ne {a b : Int × Int} (h : lt a b) : a ≠ b := fun e => lt_irrefl a (by rw [e] at h ⊢; exact h)

def ok (n : Int) (e : Int × Int) : Prop := 0 ≤ e.1 ∧ e.1 < e.2 ∧ e.2 < n

/-- A graph in its one form. -/
structure Val (n : Int) (es : List (Int × Int)) : Prop where
  lo : 0 ≤ n
  hi : n ≤ 1048576
  few : es.length ≤ 4194304
  each : ∀ (j : Nat) (p : Int × Int), es[j]? = some p → ok n p
  up : ∀ (j : Nat) (p q : Int × Int), es[j]? = some p → es[j + 1]? = some q → lt p q

open Classical in
noncomputable def valid (n : Int) (es : List (Int × Int)) : Bool := decide (Val n es)

theorem valid_iff {n : Int} {es : List (Int × Int)} : valid n es = true ↔ Val n es := by unfold valid; exact @decide_eq_true_iff _ (Classical.propDecidable _)
theorem valid_no {n : Int} {es : List (Int × Int)} (h : ¬ Val n es) : valid n es = false := by
  cases hv : valid n es
  · rfl
  · exact absurd (valid_iff.1 hv) h

theorem Val.mono {n : Int} {es : List (Int × Int)} (h : Val n es) : ∀ (j i : Nat) (p q : Int × Int), i < j → es[i]? = some p → es[j]? = some q → lt p q
  | 0, _, _, _, hij, _, _ => by omega
  | j + 1, i, p, q, hij, hp, hq => by
    have hl : j + 1 < es.length := by
      rcases Nat.lt_or_ge (j + 1) es.length with hl | hl
      · exact hl
      · rw [List.getElem?_eq_none hl] at hq; cases hq
    have hr : es[j]? = some es[j] := List.getElem?_eq_getElem (by omega)
    have h1 := h.up j _ q hr hq
    by_cases hij' : i = j
    · subst hij'
      rw [hp] at hr
      cases hr
      exact h1
    · exact lt_trans (h.mono j i p _ (by omega) hp hr) h1

theorem Val.place {n : Int} {es : List (Int × Int)} (h : Val n es) {i j : Nat} {p : Int × Int} (hi : es[i]? = some p) (hj : es[j]? = some p) : i = j := by
  rcases Nat.lt_trichotomy i j with a | a | a
  · exact absurd (h.mono j i p p a hi hj) (lt_irrefl p)
  · exact a
  · exact absurd (h.mono i j p p a hj hi) (lt_irrefl p)

/-- r is the number of the edge e. -/
def IsFind (n : Int) (es : List (Int × Int)) (e : Int × Int) (r : Int) : Prop := (∃ k : Nat, Val n es ∧ es[k]? = some e ∧ r = k) ∨ (r = -1 ∧ ¬ (Val n es ∧ ∃ k : Nat, es[k]? = some e))

theorem IsFind.same {n : Int} {es : List (Int × Int)} {e : Int × Int} {r r' : Int} (h : IsFind n es e r) (h' : IsFind n es e r') : r = r' := by
  rcases h with ⟨k, hv, hk, rfl⟩ | ⟨rfl, hn⟩ <;> rcases h' with ⟨k', hv', hk', rfl⟩ | ⟨rfl, hn'⟩
  · rw [hv.place hk hk']
  · exact absurd ⟨hv, k, hk⟩ hn'
  · exact absurd ⟨hv', k', hk'⟩ hn
  · rfl

/-- Where a half-edge begins and ends. -/
noncomputable def ends (n : Int) (es : List (Int × Int)) (h : Int) : Int × Int × Bool :=
  if valid n es = true ∧ 0 ≤ h ∧ h < 2 * es.length then
    (if h % 2 = 1 then ((es.getD (h / 2).toNat (0, 0)).2, (es.getD (h / 2).toNat (0, 0)).1, true) else ((es.getD (h / 2).toNat (0, 0)).1, (es.getD (h / 2).toNat (0, 0)).2, true))
  else (0, 0, false)

def bump (l : List Int) (v : Int) : List Int := l.set v.toNat (l.getD v.toNat 0 + 1)
def degs (n : Int) : List (Int × Int) → List Int
  | es => es.foldl (fun l e => bump (bump l e.1) e.2) (List.replicate n.toNat 0)

def norm (p : Int × Int) : Int × Int := (min p.1 p.2, max p.1 p.2)

/-- l: the edges that the pairs say. -/
def IsMade (ps : List (Int × Int)) (l : List (Int × Int)) : Prop := l.Pairwise lt ∧ ∀ e, e ∈ l ↔ ∃ p ∈ ps, p.1 ≠ p.2 ∧ e = norm p

theorem sorted_ext : ∀ {l l' : List (Int × Int)}, l.Pairwise lt → l'.Pairwise lt → (∀ e, e ∈ l ↔ e ∈ l') → l = l'
  | [], [], _, _, _ => rfl
  | [], b :: l', _, _, h => by have := (h b).2 (by simp); simp at this
  | a :: l, [], _, _, h => by have := (h a).1 (by simp); simp at this
  | a :: l, b :: l', hs, hs', h => by
    rw [List.pairwise_cons] at hs hs'
    have hab : a = b := by
      have h1 := (h a).1 (by simp)
      have h2 := (h b).2 (by simp)
      rcases List.mem_cons.1 h1 with e | e
      · exact e
      · rcases List.mem_cons.1 h2 with e2 | e2
        · exact e2.symm
        · exact absurd (hs'.1 a e) (lt_asymm (hs.1 b e2))
    subst hab
    congr 1
    refine sorted_ext hs.2 hs'.2 fun e => ⟨fun he => ?_, fun he => ?_⟩
    · rcases List.mem_cons.1 ((h e).1 (List.mem_cons_of_mem _ he)) with e1 | e1
      · exact absurd e1.symm (lt_ne (hs.1 e he))
      · exact e1
    · rcases List.mem_cons.1 ((h e).2 (List.mem_cons_of_mem _ he)) with e1 | e1
      · exact absurd e1.symm (lt_ne (hs'.1 e he))
      · exact e1

theorem IsMade.same {ps l l' : List (Int × Int)} (h : IsMade ps l) (h' : IsMade ps l') : l = l' := sorted_ext h.1 h'.1 fun e => (h.2 e).trans (h'.2 e).symm

/-- The edges with one more. -/
def put : List (Int × Int) → Int × Int → List (Int × Int)
  | [], e => [e]
  | x :: l, e => if lt x e then x :: put l e else if x = e then x :: l else e :: x :: l

theorem mem_put : ∀ (l : List (Int × Int)) (e x : Int × Int), x ∈ put l e ↔ x = e ∨ x ∈ l
  | [], e, x => by simp [put]
  | y :: l, e, x => by
    unfold put
    split
    · rw [List.mem_cons, mem_put l e x, List.mem_cons]
      constructor
      · rintro (h | h | h)
        · exact .inr (.inl h)
        · exact .inl h
        · exact .inr (.inr h)
      · rintro (h | h | h)
        · exact .inr (.inl h)
        · exact .inl h
        · exact .inr (.inr h)
    · split
      · rename_i h
        subst h
        simp
      · rw [List.mem_cons]

theorem put_sorted : ∀ (l : List (Int × Int)) (e : Int × Int), l.Pairwise lt → (put l e).Pairwise lt
  | [], e, _ => by simp [put]
  | y :: l, e, h => by
    have h' := h
    rw [List.pairwise_cons] at h
    unfold put
    split
    · rename_i hye
      rw [List.pairwise_cons]
      refine ⟨fun z hz => ?_, put_sorted l e h.2⟩
      rcases (mem_put l e z).1 hz with rfl | hz
      · exact hye
      · exact h.1 z hz
    · split
      · exact h'
      · rename_i h1 h2
        rw [List.pairwise_cons]
        refine ⟨fun z hz => ?_, h'⟩
        have hey : lt e y := by
          rcases lt_total y e with a | a | a
          · exact absurd a h1
          · exact absurd a h2
          · exact a
        rcases List.mem_cons.1 hz with rfl | hz
        · exact hey
        · exact lt_trans hey (h.1 z hz)

theorem put_length : ∀ (l : List (Int × Int)) (e : Int × Int), l.length ≤ (put l e).length ∧ (put l e).length ≤ l.length + 1
  | [], e => by simp [put]
  | y :: l, e => by
    have := put_length l e
    unfold put
    split
    · simp; omega
    · split <;> simp

/-- Where it is put. -/
theorem put_at : ∀ (l : List (Int × Int)) (e : Int × Int) (i : Nat), i ≤ l.length → (∀ (j : Nat) (x : Int × Int), j < i → l[j]? = some x → lt x e) → (∀ x, l[i]? = some x → ¬ lt x e) →
    put l e = if l[i]? = some e then l else l.take i ++ e :: l.drop i
  | [], e, 0, _, _, _ => by simp [put]
  | [], e, i + 1, h, _, _ => by simp at h
  | y :: l, e, 0, _, _, h => by
    have := h y (by simp)
    unfold put
    rw [if_neg this]
    simp
  | y :: l, e, i + 1, hi, h1, h2 => by
    have hy := h1 0 y (by omega) (by simp)
    have ih := put_at l e i (by simpa using hi) (fun j x hj hx => h1 (j + 1) x (by omega) (by simpa using hx)) (fun x hx => h2 x (by simpa using hx))
    unfold put
    rw [if_pos hy, ih]
    simp only [List.getElem?_cons_succ, List.take_succ_cons, List.drop_succ_cons]
    split <;> simp

/-- The edges of pairs, one by one. -/
def made : List (Int × Int) → List (Int × Int) → List (Int × Int)
  | l, [] => l
  | l, p :: ps => made (if p.1 = p.2 then l else put l (norm p)) ps

theorem made_snoc : ∀ (ps l : List (Int × Int)) (p : Int × Int), made l (ps ++ [p]) = if p.1 = p.2 then made l ps else put (made l ps) (norm p)
  | [], l, p => by simp [made]
  | q :: ps, l, p => by simp only [List.cons_append, made]; exact made_snoc ps _ p

theorem made_is : ∀ (ps l : List (Int × Int)), l.Pairwise lt → (made l ps).Pairwise lt ∧ ∀ e, e ∈ made l ps ↔ e ∈ l ∨ ∃ p ∈ ps, p.1 ≠ p.2 ∧ e = norm p
  | [], l, h => ⟨h, fun e => by simp [made]⟩
  | p :: ps, l, h => by
    by_cases hp : p.1 = p.2
    · obtain ⟨h1, h2⟩ := made_is ps l h
      simp only [made, if_pos hp]
      refine ⟨h1, fun e => (h2 e).trans ?_⟩
      simp only [List.mem_cons, exists_eq_or_imp]
      constructor
      · rintro (a | a)
        · exact .inl a
        · exact .inr (.inr a)
      · rintro (a | a | a)
        · exact .inl a
        · exact absurd hp a.1
        · exact .inr a
    · obtain ⟨h1, h2⟩ := made_is ps (put l (norm p)) (put_sorted l _ h)
      simp only [made, if_neg hp]
      refine ⟨h1, fun e => (h2 e).trans ?_⟩
      rw [mem_put]
      simp only [List.mem_cons, exists_eq_or_imp]
      constructor
      · rintro ((a | a) | a)
        · exact .inr (.inl ⟨hp, a⟩)
        · exact .inl a
        · exact .inr (.inr a)
      · rintro (a | a | a)
        · exact .inl (.inr a)
        · exact .inl (.inl a.2)
        · exact .inr a

theorem made_made (ps : List (Int × Int)) : IsMade ps (made [] ps) := by
  obtain ⟨h1, h2⟩ := made_is ps [] List.Pairwise.nil
  exact ⟨h1, fun e => by rw [h2]; simp⟩

theorem made_length : ∀ (ps l : List (Int × Int)), l.length ≤ (made l ps).length ∧ (made l ps).length ≤ l.length + ps.length
  | [], l => by simp [made]
  | p :: ps, l => by
    simp only [made]
    split
    · have := made_length ps l
      simp; omega
    · have := made_length ps (put l (norm p))
      have := put_length l (norm p)
      simp; omega

theorem made_append : ∀ (ps qs l : List (Int × Int)), made l (ps ++ qs) = made (made l ps) qs
  | [], _, _ => rfl
  | p :: ps, qs, l => by simp only [List.cons_append, made]; exact made_append ps qs _

theorem made_take (ps : List (Int × Int)) (k : Nat) : (made [] (ps.take k)).length ≤ (made [] ps).length := by
  conv => rhs; rw [← List.take_append_drop k ps, made_append]
  exact (made_length _ _).1

/-- A list without doubles of just these is as long. -/
theorem nodup_length : ∀ {l l' : List (Int × Int)}, l.Nodup → l'.Nodup → (∀ e, e ∈ l ↔ e ∈ l') → l.length = l'.length
  | [], l', _, _, h => by
    cases l' with
    | nil => rfl
    | cons b l' => have := (h b).2 (by simp); simp at this
  | a :: l, l', hn, hn', h => by
    have ha : a ∈ l' := (h a).1 (by simp)
    obtain ⟨s, t, rfl⟩ := List.append_of_mem ha
    rw [List.nodup_cons] at hn
    have hn2 : a ∉ s ++ t ∧ (s ++ t).Nodup := by
      have := (List.perm_middle (a := a) (l₁ := s) (l₂ := t)).nodup_iff.1 hn'
      exact List.nodup_cons.1 this
    have := nodup_length (l := l) (l' := s ++ t) hn.2 hn2.2 fun e => by
      have he := h e
      simp only [List.mem_cons, List.mem_append] at he ⊢
      constructor
      · intro hl
        rcases he.1 (.inr hl) with a1 | a1 | a1
        · exact .inl a1
        · exact absurd (a1 ▸ hl) hn.1
        · exact .inr a1
      · intro hst
        rcases he.2 (by rcases hst with a1 | a1 <;> simp [a1]) with a1 | a1
        · exact absurd (by rw [List.mem_append]; exact a1 ▸ hst) hn2.1
        · exact a1
    simp at this ⊢
    omega

theorem sorted_nodup {l : List (Int × Int)} (h : l.Pairwise lt) : l.Nodup := h.imp fun hab => lt_ne hab

end Si
end Go.Proofs.YtfjgmbimapkabaaDoor
/-
  Small things about edges in memory, without the program.
-/
namespace Go.Proofs.YtfjgmbimapkabaaDoor
open Go.RowKit Go.Sort


/-- An edge as a value. -/
def edgeVal (e : Int × Int) : Value := .agg #[.int .i64 e.1, .int .i64 e.2]

theorem new2 (W : World) (k : Nat) (hk : W.heap.size = k) (x y : Value) (t : TypeId) : (W.alloc (.cells #[x, y] t)).cell? ⟨k, 0, none⟩ = some x ∧ (W.alloc (.cells #[x, y] t)).cell? ⟨k, 1, none⟩ = some y := by
  subst hk
  constructor <;> simp

theorem new2d (W : World) (k : Nat) (hk : W.heap.size = k) (x y : Value) (t : TypeId) : (W.alloc (.cells #[x, y] t)).drew.cell? ⟨k, 0, none⟩ = some x ∧ (W.alloc (.cells #[x, y] t)).drew.cell? ⟨k, 1, none⟩ = some y := new2 W k hk x y t

theorem size2 (W : World) (x y : Obj) : ((W.alloc x).alloc y).heap.size = W.heap.size + 1 + 1 := by simp

theorem grow_below (w : World) (q : Nat) (os : Array Obj) : Below w.heap.size w (grow (w.drewN q) os) := by
  refine ⟨rfl, rfl, rfl, by simp [grow], fun k hk => ?_⟩
  simp [grow, Array.getElem?_append_left hk]

end Go.Proofs.YtfjgmbimapkabaaDoor
/-
  Edges and graphs in memory.
-/
namespace Go.Proofs.YtfjgmbimapkabaaDoor
open Go.RowKit

/-- The edges es lie at ao. -/
def EdgesAt (w : World) (ao : Option Addr) (es : List (Int × Int)) : Prop :=
  ∀ (j : Nat) (p : Int × Int), es[j]? = some p → ∃ b o : Nat, ao = some ⟨b, o, none⟩ ∧ w.cell? ⟨b, o + j * 2, none⟩ = some (.int .i64 p.1) ∧ w.cell? ⟨b, o + j * 2 + 1, none⟩ = some (.int .i64 p.2)

theorem EdgesAt.later {w w' : World} {ao : Option Addr} {es : List (Int × Int)} (h : EdgesAt w ao es) (hb : Below w.heap.size w w') : EdgesAt w' ao es := fun j p hj => by
  obtain ⟨b, o, e, h0, h1⟩ := h j p hj
  exact ⟨b, o, e, (hb.cell (p := ⟨b, o + j * 2, none⟩) (block_lt_of_cell h0)).trans h0, (hb.cell (p := ⟨b, o + j * 2 + 1, none⟩) (block_lt_of_cell h1)).trans h1⟩

theorem EdgesAt.nil (w : World) (ao : Option Addr) : EdgesAt w ao [] := fun j p hj => by simp at hj

/-- A graph as a value. -/
def graphVal (n : Int) (ao : Option Addr) (len cap : Nat) : Value := .agg #[.int .i64 n, .slice ao len cap]

end Go.Proofs.YtfjgmbimapkabaaDoor
/-
  Lists of edges in memory that a call makes itself.
-/
namespace Go.Proofs.YtfjgmbimapkabaaDoor
open Go.RowKit

theorem Tryd.infoEdge : (Tryd.prog.info? 55).map (fun i => (i.zero, i.size, i.bytes)) = some (some (.agg #[.int .i64 0, .int .i64 0]), 2, 16) := by kernel_rfl

def flatE (ps : List (Int × Int)) : List Value := ps.flatMap fun p => [.int .i64 p.1, .int .i64 p.2]

theorem flatE_snoc (ps : List (Int × Int)) (p : Int × Int) : flatE (ps ++ [p]) = flatE ps ++ [.int .i64 p.1, .int .i64 p.2] := by simp [flatE]

theorem flatE_length : ∀ ps : List (Int × Int), (flatE ps).length = ps.length * 2
  | [] => rfl
  | p :: ps => by
    have := flatE_length ps
    simp [flatE] at this ⊢
    omega

theorem flatE_at : ∀ (ps : List (Int × Int)) (j : Nat) (p : Int × Int), ps[j]? = some p → (flatE ps)[j * 2]? = some (.int .i64 p.1) ∧ (flatE ps)[j * 2 + 1]? = some (.int .i64 p.2)
  | [], j, p, h => by simp at h
  | q :: ps, 0, p, h => by
    simp at h
    subst h
    simp [flatE]
  | q :: ps, j + 1, p, h => by
    simp at h
    have := flatE_at ps j p h
    have e : (j + 1) * 2 = j * 2 + 1 + 1 := by omega
    rw [e]
    simpa [flatE] using this

theorem addrE (g j : Nat) : ((⟨g, 0, none⟩ : Addr).add j) = ⟨g, j, none⟩ := by
  by_cases h : j = 0
  · simp [Addr.add, h]
  · simp [Addr.add, h]

/-- v is a slice of the edges es, laid since block B. -/
def OwnE (w : World) (B : Nat) (v : Value) (es : List (Int × Int)) : Prop := w.ownsRow B 55 2 v es.length (flatE es)

theorem OwnE.form {w : World} {B : Nat} {v : Value} {es : List (Int × Int)} (h : OwnE w B v es) : ∃ ao cap, v = .slice ao es.length cap ∧ es.length ≤ cap ∧ cap ≤ maxLen ∧ EdgesAt w ao es ∧ (∀ x, ao = some x → B ≤ x.block ∧ x.block < w.heap.size) := by
  have h' := h
  unfold OwnE at h'
  rcases h.2 with ⟨rfl, h0⟩ | ⟨g, cap, cur, rfl, hg, hh, hc, hm, _⟩
  · refine ⟨none, 0, by rw [h0], by omega, Nat.zero_le _, fun j p hj => ?_, fun x h => by cases h⟩
    rw [List.length_eq_zero_iff.1 h0] at hj
    simp at hj
  · refine ⟨_, cap, rfl, hc, hm, fun j p hj => ⟨g, 0, rfl, ?_⟩, fun x h => by cases h; exact ⟨hg, lt_of_block hh⟩⟩
    have hcl := World.ownsRow.cells h' (g := g) rfl
    simp only [addrE] at hcl
    obtain ⟨h0, h1⟩ := flatE_at es j p hj
    rw [Nat.zero_add]
    exact ⟨hcl _ _ h0, hcl _ _ h1⟩

theorem OwnE.below {w w' : World} {B A : Nat} {v : Value} {ps : List (Int × Int)} (h : OwnE w B v ps) (hb : Below A w w') (hA : w.heap.size ≤ A) : OwnE w' B v ps := by
  refine ⟨h.1, ?_⟩
  rcases h.2 with h | ⟨g, cap, cur, e, hgB, hh, hr⟩
  · exact .inl h
  · exact .inr ⟨g, cap, cur, e, hgB, (hb.block g (by have := lt_of_block hh; omega)).trans hh, hr⟩

theorem OwnE.alloc {w : World} {B : Nat} {v : Value} {ps : List (Int × Int)} (h : OwnE w B v ps) (o : Obj) : OwnE (w.alloc o) B v ps := World.ownsRow.alloc h o

theorem OwnE.some {w : World} {B : Nat} {v : Value} {es : List (Int × Int)} (h : OwnE w B v es) (hn : v ≠ .slice none 0 0) : ∃ g cap, v = .slice (some ⟨g, 0, none⟩) es.length cap := by
  rcases h.2 with ⟨rfl, _⟩ | ⟨g, cap, cur, rfl, _⟩
  · exact absurd rfl hn
  · exact ⟨g, cap, rfl⟩

theorem OwnE.far {w : World} {B b : Nat} {v : Value} {ps : List (Int × Int)} (h : OwnE w B v ps) (hb : b < B) : v.ownBlock ≠ Option.some b := by
  obtain ⟨ao, cap, rfl, _, _, _, hx⟩ := h.form
  cases ao with
  | none => simp [Value.ownBlock]
  | some x => have := hx x rfl; simp [Value.ownBlock]; omega

/-- Stores into another block leave it; it may be said of an earlier block. -/
theorem OwnE.set2 {w : World} {B A b : Nat} {v : Value} {ps : List (Int × Int)} (h : OwnE w B v ps) (hA : A ≤ b ∧ b < B) (x y : Value) : OwnE ((w.setCell ⟨b, 0, none⟩ x).setCell ⟨b, 1, none⟩ y) A v ps := by
  refine ⟨h.1, ?_⟩
  rcases h.2 with h | ⟨g, cap, cur, e, hgB, hh, hr⟩
  · exact .inl h
  · refine .inr ⟨g, cap, cur, e, by omega, ?_, hr⟩
    rw [heap_setCell_other _ ⟨b, 1, none⟩ g y (by simp; omega), heap_setCell_other _ ⟨b, 0, none⟩ g x (by simp; omega)]
    exact hh

theorem OwnE.lower {w : World} {B A : Nat} {v : Value} {ps : List (Int × Int)} (h : OwnE w B v ps) (hA : A ≤ B) : OwnE w A v ps := by
  refine ⟨h.1, ?_⟩
  rcases h.2 with h | ⟨g, cap, cur, e, hgB, hh, hr⟩
  · exact .inl h
  · exact .inr ⟨g, cap, cur, e, by omega, hh, hr⟩

theorem OwnE.nil (w : World) (B : Nat) : OwnE w B (.slice none 0 0) [] := World.ownsRow_nil _ _ _ _

theorem new_two_e (W : World) (k : Nat) (hk : W.heap.size = k) (a b : Value) (t : TypeId) : ∀ j u, [a, b][j]? = some u → (W.alloc (.cells #[a, b] t)).cell? ((⟨k, 0, none⟩ : Addr).add j) = some u := by
  subst hk
  exact World.news_of_block (cs := #[a, b]) (t := t) (fr := (0, 0)) (heap_alloc_new W _)

end Go.Proofs.YtfjgmbimapkabaaDoor
/-
  'append' of an edge to a list of edges of one's own, by its run.
-/
namespace Go.Proofs.YtfjgmbimapkabaaDoor
open Go.RowKit Go.Sort

/-- 'append(v, e)' of a list of edges, in a region or not. -/
theorem wp_pushEU {U : World} {o : Oper} {a : Act} {K : Act → World → Prop} {Q : Exit → Act → World → Prop} (s x : Operand) (ho : o.op = .call { callee := .builtin .append, args := #[s, x], argTypes := #[25, 25] })
    (B : Nat) (v : Value) (l : List (Int × Int)) (y z : Int) (hR : OwnE U B v l) (hB : B ≤ U.heap.size) (hs : a.eval s = v) (g : Nat) (hx : a.eval x = .slice (some ⟨g, 0, none⟩) 1 1) (hg : U.heap[g]? = some (.cells #[.int .i64 y, .int .i64 z] 55 (0, 0)))
    (hl : l.length ≤ 8796093022000) (h : ∀ v' w', OwnE w' B v' (l ++ [(y, z)]) → U.grownBy w' v.ownBlock → (v'.ownBlock = v.ownBlock ∨ v'.ownBlock = some U.heap.size) → K (a.put o.dst v') w') : o.wp Tryd.prog a U K Q := by
  obtain ⟨i1, hi1, hy0, hy1, hy2⟩ := info_parts Tryd.infoEdge
  obtain ⟨v', w', hr, h2, h3, _, h5⟩ := run_append_own_at (P := Tryd.prog) U B 25 o.type 55 i1 (.agg #[.int .i64 0, .int .i64 0]) 2 16 Tryd.underlying25 hi1 hy0 hy1 hy2 rfl (by decide) v l.length (flatE l) hR ⟨g, 0, none⟩ 1 1 [.int .i64 y, .int .i64 z] rfl (World.news_of_block hg) (by simp [Value.oneCell']) (by unfold maxLen; omega) (by omega) hB
  unfold Oper.wp execOp
  simp only [ho, resolve, invoke, builtin, Sem.run_bind, Sem.run_pure, Result.andThen_ok, List.map_toArray, List.map_cons, List.map_nil, hs, hx, hr]
  refine h v' w' ?_ h3 h5
  unfold OwnE
  rw [flatE_snoc, List.length_append]
  exact h2

/-- The same, by its run. -/
theorem run_pushE {U : World} (B : Nat) (v : Value) (l : List (Int × Int)) (y z : Int) (hR : OwnE U B v l) (hB : B ≤ U.heap.size) (g : Nat) (hg : U.heap[g]? = some (.cells #[.int .i64 y, .int .i64 z] 55 (0, 0))) (hl : l.length ≤ 8796093022000) :
    ∃ v' w', (∀ (o : Oper) (ev : Operand → Value) (s x : Operand), o.op = .call { callee := .builtin .append, args := #[s, x], argTypes := #[25, 25] } → o.type = 25 → ev s = v → ev x = .slice (some ⟨g, 0, none⟩) 1 1 → (execOp ev o).run Tryd.prog U = .ok (.value v') w') ∧ OwnE w' B v' (l ++ [(y, z)]) ∧ U.grownBy w' v.ownBlock := by
  obtain ⟨i1, hi1, hy0, hy1, hy2⟩ := info_parts Tryd.infoEdge
  obtain ⟨v', w', hr, h2, h3, _, h5⟩ := run_append_own_at (P := Tryd.prog) U B 25 25 55 i1 (.agg #[.int .i64 0, .int .i64 0]) 2 16 Tryd.underlying25 hi1 hy0 hy1 hy2 rfl (by decide) v l.length (flatE l) hR ⟨g, 0, none⟩ 1 1 [.int .i64 y, .int .i64 z] rfl (World.news_of_block hg) (by simp [Value.oneCell']) (by unfold maxLen; omega) (by omega) hB
  refine ⟨v', w', fun o ev s x ho ht hs hx => ?_, ?_, h3⟩
  · unfold execOp
    simp only [ho, ht, resolve, invoke, builtin, Sem.run_bind, Sem.run_pure, Result.andThen_ok, List.map_toArray, List.map_cons, List.map_nil, hs, hx, hr]
  · unfold OwnE
    rw [flatE_snoc, List.length_append]
    exact h2

end Go.Proofs.YtfjgmbimapkabaaDoor
