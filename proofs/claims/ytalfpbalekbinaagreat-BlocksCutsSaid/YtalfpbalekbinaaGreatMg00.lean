import Init
import Derived.Test.YtalfpbalekbinaaGreatProg
import Derived.WalkKit
import Derived.WalkSpells
import Derived.WalkLawsBesides
import Derived.Laws.OwnMore
/-
  The scanner of decimal numbers as plain functions on bytes, with no program in it: what passing, reading one token, and reading all tokens come to, and the small laws of these.
-/
namespace Go.Proofs.YtalfpbalekbinaaGreat
namespace Nu

def isBlank (c : Int) : Bool := c == 32 || (c == 9 || c == 13)
def isDigit (c : Int) : Bool := decide (48 ≤ c) && decide (c ≤ 57)

/-- q is the first place from p on (below n) whose byte f refuses, or n. -/
structure IsSkip (f : Int → Bool) (g : Nat → Int) (n p q : Nat) : Prop where
  lo : p ≤ q
  hi : q ≤ n
  all : ∀ i, p ≤ i → i < q → f (g i) = true
  stop : q < n → f (g q) = false

theorem IsSkip.uniq {f : Int → Bool} {g : Nat → Int} {n p q r : Nat} (h : IsSkip f g n p q) (k : IsSkip f g n p r) : q = r := by
  rcases Nat.lt_trichotomy q r with l | l | l
  · have := k.all q h.lo l
    rw [h.stop (Nat.lt_of_lt_of_le l k.hi)] at this
    cases this
  · exact l
  · have := h.all r k.lo l
    rw [k.stop (Nat.lt_of_lt_of_le l h.hi)] at this
    cases this

def skipF (f : Int → Bool) (g : Nat → Int) (n : Nat) : Nat → Nat → Nat
  | 0, p => p
  | k + 1, p => if p < n ∧ f (g p) = true then skipF f g n k (p + 1) else p

def skip (f : Int → Bool) (g : Nat → Int) (n p : Nat) : Nat := skipF f g n (n - p) p

theorem skipF_is (f : Int → Bool) (g : Nat → Int) (n : Nat) : ∀ k p, p ≤ n → n - p ≤ k → IsSkip f g n p (skipF f g n k p)
  | 0, p, hp, hk => ⟨Nat.le_refl _, hp, fun i h1 h2 => by simp [skipF] at h2; omega, fun h => by simp [skipF] at h; omega⟩
  | k + 1, p, hp, hk => by
    unfold skipF
    by_cases h : p < n ∧ f (g p) = true
    · rw [if_pos h]
      have ih := skipF_is f g n k (p + 1) (by omega) (by omega)
      refine ⟨by have := ih.lo; omega, ih.hi, fun i h1 h2 => ?_, ih.stop⟩
      by_cases e : i = p
      · subst e; exact h.2
      · exact ih.all i (by omega) h2
    · rw [if_neg h]
      refine ⟨Nat.le_refl _, hp, fun i h1 h2 => by omega, fun hn => ?_⟩
      cases hb : f (g p)
      · rfl
      · exact absurd ⟨hn, hb⟩ h

theorem skip_is (f : Int → Bool) (g : Nat → Int) (n p : Nat) (hp : p ≤ n) : IsSkip f g n p (skip f g n p) := skipF_is f g n (n - p) p hp (Nat.le_refl _)

theorem IsSkip.eq {f : Int → Bool} {g : Nat → Int} {n p q : Nat} (h : IsSkip f g n p q) : q = skip f g n p := h.uniq (skip_is f g n p (Nat.le_trans h.lo h.hi))

/-- The value of the k digits from place q on. -/
def val (g : Nat → Int) (q : Nat) : Nat → Int
  | 0 => 0
  | k + 1 => 10 * val g q k + (g (q + k) - 48)

def pow10 : Nat → Int
  | 0 => 1
  | k + 1 => 10 * pow10 k

theorem val_bound (g : Nat → Int) (q : Nat) : ∀ k, (∀ i, i < k → 48 ≤ g (q + i) ∧ g (q + i) ≤ 57) → 0 ≤ val g q k ∧ val g q k < pow10 k
  | 0, _ => by simp [val, pow10]
  | k + 1, h => by
    have ih := val_bound g q k (fun i hi => h i (by omega))
    have hk := h k (by omega)
    simp only [val, pow10]
    omega

theorem pow10_pos : ∀ k, 0 < pow10 k
  | 0 => by simp [pow10]
  | k + 1 => by have := pow10_pos k; simp only [pow10]; omega

theorem pow10_mono {a b : Nat} (h : a ≤ b) : pow10 a ≤ pow10 b := by
  induction b with
  | zero => have : a = 0 := by omega
            subst this; exact Int.le_refl _
  | succ b ih =>
    by_cases e : a = b + 1
    · subst e; exact Int.le_refl _
    · have := ih (by omega)
      have := pow10_pos b
      simp only [pow10]; omega

theorem val_lt_9 (g : Nat → Int) (q k : Nat) (hk : k ≤ 9) (h : ∀ i, i < k → 48 ≤ g (q + i) ∧ g (q + i) ≤ 57) : 0 ≤ val g q k ∧ val g q k < 1000000000 := by
  have h1 := val_bound g q k h
  have h2 : pow10 k ≤ pow10 9 := pow10_mono hk
  have h3 : pow10 9 = 1000000000 := by decide
  omega

/-- A token: its kind, its place, the place behind it, its number. -/
structure Tok where
  kind : Int
  at' : Int
  fin : Int
  num : Int

/-- The next token from place p on and where it ends, or the fault's place and number. -/
def next (g : Nat → Int) (n p : Nat) : Except (Nat × Int) (Tok × Nat) :=
  if skip isBlank g n p = n then .ok (⟨3, n, n, 0⟩, n)
  else if isDigit (g (skip isBlank g n p)) = true then
    if 9 < skip isDigit g n (skip isBlank g n p) - skip isBlank g n p ∨ (1 < skip isDigit g n (skip isBlank g n p) - skip isBlank g n p ∧ g (skip isBlank g n p) = 48) then .error (skip isBlank g n p, 12)
    else .ok (⟨1, skip isBlank g n p, skip isDigit g n (skip isBlank g n p), val g (skip isBlank g n p) (skip isDigit g n (skip isBlank g n p) - skip isBlank g n p)⟩, skip isDigit g n (skip isBlank g n p))
  else if g (skip isBlank g n p) = 10 then .ok (⟨2, skip isBlank g n p, skip isBlank g n p + 1, 0⟩, skip isBlank g n p + 1)
  else .error (skip isBlank g n p, 11)

theorem next_end {g : Nat → Int} {n p : Nat} (h : IsSkip isBlank g n p n) : next g n p = .ok (⟨3, n, n, 0⟩, n) := by
  unfold next; rw [← h.eq]; simp

theorem next_line {g : Nat → Int} {n p q : Nat} (h : IsSkip isBlank g n p q) (hq : q < n) (h10 : g q = 10) : next g n p = .ok (⟨2, q, q + 1, 0⟩, q + 1) := by
  unfold next
  rw [← h.eq, if_neg (by omega), if_neg (by rw [h10]; decide), if_pos h10]

theorem next_byte {g : Nat → Int} {n p q : Nat} (h : IsSkip isBlank g n p q) (hq : q < n) (hd : isDigit (g q) = false) (h10 : g q ≠ 10) : next g n p = .error (q, 11) := by
  unfold next
  rw [← h.eq, if_neg (by omega), if_neg (by rw [hd]; decide), if_neg h10]

theorem next_bad {g : Nat → Int} {n p q r : Nat} (h : IsSkip isBlank g n p q) (hq : q < n) (hd : isDigit (g q) = true) (hr : IsSkip isDigit g n q r) (hb : 9 < r - q ∨ (1 < r - q ∧ g q = 48)) : next g n p = .error (q, 12) := by
  unfold next
  rw [← h.eq, if_neg (by omega), if_pos hd, ← hr.eq, if_pos hb]

theorem next_num {g : Nat → Int} {n p q r : Nat} (h : IsSkip isBlank g n p q) (hq : q < n) (hd : isDigit (g q) = true) (hr : IsSkip isDigit g n q r) (hb : ¬ (9 < r - q ∨ (1 < r - q ∧ g q = 48))) : next g n p = .ok (⟨1, q, r, val g q (r - q)⟩, r) := by
  unfold next
  rw [← h.eq, if_neg (by omega), if_pos hd, ← hr.eq, if_neg hb]

/-- All tokens from place p on (k: how many more may come), or the first fault. -/
def scanF (g : Nat → Int) (n : Nat) : Nat → Nat → Except (Nat × Int) (List Tok)
  | 0, _ => .ok []
  | k + 1, p => match next g n p with
    | .error x => .error x
    | .ok (t, p') => if t.kind = 3 then .ok [t] else match scanF g n k p' with
      | .error x => .error x
      | .ok ts => .ok (t :: ts)

def scan (g : Nat → Int) (n : Nat) : Except (Nat × Int) (List Tok) := scanF g n (n + 1) 0

end Nu
end Go.Proofs.YtalfpbalekbinaaGreat

/-
  Memory: the words by which the walks say what lies where, and their small laws.
-/
namespace Go.Proofs.YtalfpbalekbinaaGreat
open Go.RowKit

theorem Nu.hid {p : Prop} (h : p) : Hid p := h

/-- The bytes g 0 .. g (n - 1) lie at ao. -/
def HasText (w : World) (ao : Option Addr) (n : Nat) (g : Nat → Int) : Prop :=
  ∀ i, i < n → (0 ≤ g i ∧ g i ≤ 255) ∧ ∃ tb to, ao = some ⟨tb, to, none⟩ ∧ w.cell? ⟨tb, to + i, none⟩ = some (.int .u8 (g i))

def Apart (ao : Option Addr) (b : Nat) : Prop := ∀ x, ao = some x → x.block ≠ b

section
variable {w w' : World} {b : Nat} {ao : Option Addr} {n cap p : Nat} {g : Nat → Int}

theorem grownBy_setCell {w0 : World} (h : w0.grownBy w (some b)) (i : Nat) (v : Value) : w0.grownBy (w.setCell ⟨b, i, none⟩ v) (some b) := by
  refine ⟨h.os, h.tape, h.output, by simpa using h.size, fun k hk hne => ?_⟩
  rw [heap_setCell_other w ⟨b, i, none⟩ k v (fun e => hne (by rw [e])), h.block k hk hne]
theorem grownBy_trans {w0 w1 w2 : World} {r : Option Nat} (h : w0.grownBy w1 r) (k : w1.grownBy w2 r) : w0.grownBy w2 r :=
  ⟨k.os.trans h.os, k.tape.trans h.tape, k.output.trans h.output, Nat.le_trans h.size k.size, fun i hi hne => (k.block i (Nat.lt_of_lt_of_le hi h.size) hne).trans (h.block i hi hne)⟩
theorem grownBy_drewN {w0 : World} {r : Option Nat} (h : w0.grownBy w r) (k : Nat) : w0.grownBy (w.drewN k) r := ⟨h.os, h.tape, h.output, h.size, h.block⟩
theorem grownBy_drew {w0 : World} {r : Option Nat} (h : w0.grownBy w r) : w0.grownBy w.drew r := ⟨h.os, h.tape, h.output, h.size, h.block⟩
theorem grownBy_alloc' {w0 : World} {r : Option Nat} (h : w0.grownBy w r) (o : Obj) : w0.grownBy (w.alloc o) r := grownBy_trans h (World.grownBy_alloc w o r)

/-- Four stores into block B. -/
def put4 (w : World) (B : Nat) (a b c d : Value) : World := (((w.setCell ⟨B, 0, none⟩ a).setCell ⟨B, 1, none⟩ b).setCell ⟨B, 2, none⟩ c).setCell ⟨B, 3, none⟩ d
theorem put4_heap {B : Nat} {t : TypeId} {x0 x1 x2 x3 : Value} (h : w.heap[B]? = some (.cells #[x0, x1, x2, x3] t (0, 0))) (a b c d : Value) : (put4 w B a b c d).heap[B]? = some (.cells #[a, b, c, d] t (0, 0)) := by
  have h1 := heap_setCell_same w B 0 _ t a h
  have h2 := heap_setCell_same _ B 1 _ t b h1
  have h3 := heap_setCell_same _ B 2 _ t c h2
  have h4 := heap_setCell_same _ B 3 _ t d h3
  unfold put4
  simpa using h4
theorem put4_other {B k : Nat} (hk : k ≠ B) (a b c d : Value) : (put4 w B a b c d).heap[k]? = w.heap[k]? := by
  unfold put4
  rw [heap_setCell_other _ ⟨B, 3, none⟩ k d hk, heap_setCell_other _ ⟨B, 2, none⟩ k c hk, heap_setCell_other _ ⟨B, 1, none⟩ k b hk, heap_setCell_other _ ⟨B, 0, none⟩ k a hk]
theorem put4_size (B : Nat) (a b c d : Value) : (put4 w B a b c d).heap.size = w.heap.size := by simp [put4]
theorem grownBy_put4 {w0 : World} {r : Option Nat} (h : w0.grownBy w r) {B : Nat} (hB : w0.heap.size ≤ B) (x0 x1 x2 x3 : Value) : w0.grownBy (put4 w B x0 x1 x2 x3) r :=
  ⟨h.os, h.tape, h.output, by rw [put4_size]; exact h.size, fun k hk hne => (put4_other (by omega) x0 x1 x2 x3).trans (h.block k hk hne)⟩

theorem HasText.grown (h : HasText w ao n g) (hg : w.grownBy w' (some b)) (ha : Apart ao b) : HasText w' ao n g := by
  intro i hi
  obtain ⟨hb, tb, to, e, hc⟩ := h i hi
  exact ⟨hb, tb, to, e, hg.cell hc (by simpa using ha _ e)⟩
theorem HasText.alloc (h : HasText w ao n g) (o : Obj) : HasText (w.alloc o) ao n g := by
  intro i hi
  obtain ⟨hb, tb, to, e, hc⟩ := h i hi
  exact ⟨hb, tb, to, e, (World.grownBy_alloc w o none).cell hc (by simp)⟩
theorem HasText.drewN (h : HasText w ao n g) (k : Nat) : HasText (w.drewN k) ao n g := h
theorem HasText.grown0 (h : HasText w ao n g) (hg : w.grownBy w' none) : HasText w' ao n g := by
  intro i hi
  obtain ⟨hb, tb, to, e, hc⟩ := h i hi
  exact ⟨hb, tb, to, e, hg.cell hc (by simp)⟩
theorem HasText.later (h : HasText w ao n g) (hg : Below w.heap.size w w') : HasText w' ao n g := by
  intro i hi
  obtain ⟨hb, tb, to, e, hc⟩ := h i hi
  exact ⟨hb, tb, to, e, (hg.cell (p := ⟨tb, to + i, none⟩) (block_lt_of_cell hc)).trans hc⟩
theorem HasText.below {B : Nat} (h : HasText w ao n g) (hg : Below B w w') (ha : ∀ x, ao = some x → x.block < B) : HasText w' ao n g := by
  intro i hi
  obtain ⟨hb, tb, to, e, hc⟩ := h i hi
  exact ⟨hb, tb, to, e, (hg.cell (p := ⟨tb, to + i, none⟩) (show tb < B from ha _ e)).trans hc⟩
end

end Go.Proofs.YtalfpbalekbinaaGreat

/-
  A block of numbers that a call makes.
-/
namespace Go.Proofs.YtalfpbalekbinaaGreat
open Go.RowKit

theorem Tryz.infoNum : (Tryz.prog.info? 3).map (fun i => (i.zero, i.size, i.bytes)) = some (some (.int .i64 0), 1, 8) := by kernel_rfl

/-- Block g holds just the numbers l. -/
def IntsBlk (w : World) (g : Nat) (l : List Int) : Prop := w.heap[g]? = some (.cells (l.map (Value.int .i64)).toArray 3 (0, 0))

section
variable {w w' : World} {g : Nat} {l : List Int}
theorem IntsBlk.lt (h : IntsBlk w g l) : g < w.heap.size := lt_of_block h
theorem IntsBlk.cell (h : IntsBlk w g l) {i : Nat} {x : Int} (hx : l[i]? = some x) : w.cell? ⟨g, i, none⟩ = some (.int .i64 x) := by
  unfold IntsBlk at h
  simp [World.cell?, h, hx]
theorem IntsBlk.free (h : IntsBlk w g l) (i : Nat) : w.frozen? ⟨g, i, none⟩ = false := by
  unfold IntsBlk at h
  simp [World.frozen?, h]
theorem IntsBlk.set (h : IntsBlk w g l) (i : Nat) (x : Int) : IntsBlk (w.setCell ⟨g, i, none⟩ (.int .i64 x)) g (l.set i x) := by
  unfold IntsBlk at h ⊢
  rw [heap_setCell_same w g i _ _ _ h]
  simp [List.map_set]
theorem IntsBlk.below {B : Nat} (h : IntsBlk w g l) (hb : Below B w w') (hB : g < B) : IntsBlk w' g l := (hb.block g hB).trans h
theorem IntsBlk.later (h : IntsBlk w g l) (hb : Below w.heap.size w w') : IntsBlk w' g l := (hb.block g h.lt).trans h
theorem IntsBlk.alloc (h : IntsBlk w g l) (o : Obj) : IntsBlk (w.alloc o) g l := (Below.heap_alloc w o g h.lt).trans h
end

theorem made_zeros (n : Nat) : (madeCells #[.int .i64 0] n).toList = (List.replicate n (0 : Int)).map (Value.int .i64) := by
  rw [toList_madeCells_one, List.map_replicate]

/-- A list that was made at its full length. -/
theorem ints_of_row {w : World} {B g n : Nat} {xs : List Int} (h : w.ownsRow B 3 1 (.slice (some ⟨g, 0, none⟩) n n) n (xs.map (Value.int .i64))) : IntsBlk w g xs := by
  rcases h.2 with ⟨h, _⟩ | ⟨g', cap, cur, e, _, hh, _, _, hs, ht⟩
  · cases h
  cases e
  have e1 : cur.toList = xs.map (Value.int .i64) := by
    rw [← ht]
    exact (List.take_of_length_le (by simp; omega)).symm
  unfold IntsBlk
  rw [hh, ← e1]

end Go.Proofs.YtalfpbalekbinaaGreat

/-
  Numbers that lie at an address.
-/
namespace Go.Proofs.YtalfpbalekbinaaGreat
open Go.RowKit

/-- The numbers l lie at ao. -/
def IntsAt (w : World) (ao : Option Addr) (l : List Int) : Prop := ∀ (j : Nat) (x : Int), l[j]? = some x → ∃ b o : Nat, ao = some ⟨b, o, none⟩ ∧ w.cell? ⟨b, o + j, none⟩ = some (.int .i64 x)

theorem IntsAt.later {w w' : World} {ao : Option Addr} {l : List Int} (h : IntsAt w ao l) (hb : Below w.heap.size w w') : IntsAt w' ao l := fun j x hj => by
  obtain ⟨b, o, e, h0⟩ := h j x hj
  exact ⟨b, o, e, (hb.cell (p := ⟨b, o + j, none⟩) (block_lt_of_cell h0)).trans h0⟩

theorem IntsAt.nil (w : World) (ao : Option Addr) : IntsAt w ao [] := fun j p hj => by simp at hj

theorem IntsBlk.at {w : World} {g : Nat} {l : List Int} (h : IntsBlk w g l) : IntsAt w (some ⟨g, 0, none⟩) l := fun j x hj => ⟨g, 0, rfl, by rw [Nat.zero_add]; exact h.cell hj⟩

end Go.Proofs.YtalfpbalekbinaaGreat

/-
  Simple graphs, pure: the order of edges, what a valid graph is, where an edge lies, what pairs make.
-/
namespace Go.Proofs.YtalfpbalekbinaaGreat
namespace Si

def lt (a b : Int × Int) : Prop := a.1 < b.1 ∨ (a.1 = b.1 ∧ a.2 < b.2)

instance (a b : Int × Int) : Decidable (lt a b) := by unfold lt; infer_instance

def cf (a b : Int × Int) : Int := if a.1 < b.1 then -1 else if b.1 < a.1 then 1 else if a.2 < b.2 then -1 else if b.2 < a.2 then 1 else 0

theorem cf_neg {a b : Int × Int} : cf a b < 0 ↔ lt a b := by
  unfold cf lt
  split
  · simp; omega
  · split
    · simp; omega
    · split
      · simp; omega
      · split
        · simp; omega
        · simp; omega

theorem cf_zero {a b : Int × Int} : cf a b = 0 ↔ a = b := by
  unfold cf
  obtain ⟨a1, a2⟩ := a
  obtain ⟨b1, b2⟩ := b
  simp only [Prod.mk.injEq]
  split
  · simp; omega
  · split
    · simp; omega
    · split
      · simp; omega
      · split
        · simp; omega
        · simp; omega

theorem lt_irrefl (a : Int × Int) : ¬ lt a a := by unfold lt; omega
theorem lt_trans {a b c : Int × Int} (h : lt a b) (k : lt b c) : lt a c := by unfold lt at *; omega
theorem lt_total (a b : Int × Int) : lt a b ∨ a = b ∨ lt b a := by
  unfold lt
  by_cases h : a = b
  · exact .inr (.inl h)
  · have : a.1 ≠ b.1 ∨ a.2 ≠ b.2 := by
      by_cases h1 : a.1 = b.1
      · exact .inr fun h2 => h (Prod.ext h1 h2)
      · exact .inl h1
    omega
theorem lt_asymm {a b : Int × Int} (h : lt a b) : ¬ lt b a := fun k => lt_irrefl a (lt_trans h k)
theorem lt_ne {a b : Int × Int} (h : lt a b) : a ≠ b := fun e => lt_irrefl a (by rw [e] at h ⊢; exact h)

def ok (n : Int) (e : Int × Int) : Prop := 0 ≤ e.1 ∧ e.1 < e.2 ∧ e.2 < n

/-- A graph in its one form. -/
structure Val (n : Int) (es : List (Int × Int)) : Prop where
  lo : 0 ≤ n
  hi : n ≤ 1048576
  few : es.length ≤ 4194304
  each : ∀ (j : Nat) (p : Int × Int), es[j]? = some p → ok n p
  up : ∀ (j : Nat) (p q : Int × Int), es[j]? = some p → es[j + 1]? = some q → lt p q

open Classical in
noncomputable def valid (n : Int) (es : List (Int × Int)) : Bool := decide (Val n es)

theorem valid_iff {n : Int} {es : List (Int × Int)} : valid n es = true ↔ Val n es := by unfold valid; exact @decide_eq_true_iff _ (Classical.propDecidable _)
theorem valid_no {n : Int} {es : List (Int × Int)} (h : ¬ Val n es) : valid n es = false := by
  cases hv : valid n es
  · rfl
  · exact absurd (valid_iff.1 hv) h

theorem Val.mono {n : Int} {es : List (Int × Int)} (h : Val n es) : ∀ (j i : Nat) (p q : Int × Int), i < j → es[i]? = some p → es[j]? = some q → lt p q
  | 0, _, _, _, hij, _, _ => by omega
  | j + 1, i, p, q, hij, hp, hq => by
    have hl : j + 1 < es.length := by
      rcases Nat.lt_or_ge (j + 1) es.length with hl | hl
      · exact hl
      · rw [List.getElem?_eq_none hl] at hq; cases hq
    have hr : es[j]? = some es[j] := List.getElem?_eq_getElem (by omega)
    have h1 := h.up j _ q hr hq
    by_cases hij' : i = j
    · subst hij'
      rw [hp] at hr
      cases hr
      exact h1
    · exact lt_trans (h.mono j i p _ (by omega) hp hr) h1

theorem Val.place {n : Int} {es : List (Int × Int)} (h : Val n es) {i j : Nat} {p : Int × Int} (hi : es[i]? = some p) (hj : es[j]? = some p) : i = j := by
  rcases Nat.lt_trichotomy i j with a | a | a
  · exact absurd (h.mono j i p p a hi hj) (lt_irrefl p)
  · exact a
  · exact absurd (h.mono i j p p a hj hi) (lt_irrefl p)

/-- r is the number of the edge e. -/
def IsFind (n : Int) (es : List (Int × Int)) (e : Int × Int) (r : Int) : Prop := (∃ k : Nat, Val n es ∧ es[k]? = some e ∧ r = k) ∨ (r = -1 ∧ ¬ (Val n es ∧ ∃ k : Nat, es[k]? = some e))

theorem IsFind.same {n : Int} {es : List (Int × Int)} {e : Int × Int} {r r' : Int} (h : IsFind n es e r) (h' : IsFind n es e r') : r = r' := by
  rcases h with ⟨k, hv, hk, rfl⟩ | ⟨rfl, hn⟩ <;> rcases h' with ⟨k', hv', hk', rfl⟩ | ⟨rfl, hn'⟩
  · rw [hv.place hk hk']
  · exact absurd ⟨hv, k, hk⟩ hn'
  · exact absurd ⟨hv', k', hk'⟩ hn
  · rfl

/-- Where a half-edge begins and ends. -/
noncomputable def ends (n : Int) (es : List (Int × Int)) (h : Int) : Int × Int × Bool :=
  if valid n es = true ∧ 0 ≤ h ∧ h < 2 * es.length then
    (if h % 2 = 1 then ((es.getD (h / 2).toNat (0, 0)).2, (es.getD (h / 2).toNat (0, 0)).1, true) else ((es.getD (h / 2).toNat (0, 0)).1, (es.getD (h / 2).toNat (0, 0)).2, true))
  else (0, 0, false)

def bump (l : List Int) (v : Int) : List Int := l.set v.toNat (l.getD v.toNat 0 + 1)
def degs (n : Int) : List (Int × Int) → List Int
  | es => es.foldl (fun l e => bump (bump l e.1) e.2) (List.replicate n.toNat 0)

def norm (p : Int × Int) : Int × Int := (min p.1 p.2, max p.1 p.2)

/-- l: the edges that the pairs say. -/
def IsMade (ps : List (Int × Int)) (l : List (Int × Int)) : Prop := l.Pairwise lt ∧ ∀ e, e ∈ l ↔ ∃ p ∈ ps, p.1 ≠ p.2 ∧ e = norm p

theorem sorted_ext : ∀ {l l' : List (Int × Int)}, l.Pairwise lt → l'.Pairwise lt → (∀ e, e ∈ l ↔ e ∈ l') → l = l'
  | [], [], _, _, _ => rfl
  | [], b :: l', _, _, h => by have := (h b).2 (by simp); simp at this
  | a :: l, [], _, _, h => by have := (h a).1 (by simp); simp at this
  | a :: l, b :: l', hs, hs', h => by
    rw [List.pairwise_cons] at hs hs'
    have hab : a = b := by
      have h1 := (h a).1 (by simp)
      have h2 := (h b).2 (by simp)
      rcases List.mem_cons.1 h1 with e | e
      · exact e
      · rcases List.mem_cons.1 h2 with e2 | e2
        · exact e2.symm
        · exact absurd (hs'.1 a e) (lt_asymm (hs.1 b e2))
    subst hab
    congr 1
    refine sorted_ext hs.2 hs'.2 fun e => ⟨fun he => ?_, fun he => ?_⟩
    · rcases List.mem_cons.1 ((h e).1 (List.mem_cons_of_mem _ he)) with e1 | e1
      · exact absurd e1.symm (lt_ne (hs.1 e he))
      · exact e1
    · rcases List.mem_cons.1 ((h e).2 (List.mem_cons_of_mem _ he)) with e1 | e1
      · exact absurd e1.symm (lt_ne (hs'.1 e he))
      · exact e1

theorem IsMade.same {ps l l' : List (Int × Int)} (h : IsMade ps l) (h' : IsMade ps l') : l = l' := sorted_ext h.1 h'.1 fun e => (h.2 e).trans (h'.2 e).symm

/-- The edges with one more. -/
def put : List (Int × Int) → Int × Int → List (Int × Int)
  | [], e => [e]
  | x :: l, e => if lt x e then x :: put l e else if x = e then x :: l else e :: x :: l

theorem mem_put : ∀ (l : List (Int × Int)) (e x : Int × Int), x ∈ put l e ↔ x = e ∨ x ∈ l
  | [], e, x => by simp [put]
  | y :: l, e, x => by
    unfold put
    split
    · rw [List.mem_cons, mem_put l e x, List.mem_cons]
      constructor
      · rintro (h | h | h)
        · exact .inr (.inl h)
        · exact .inl h
        · exact .inr (.inr h)
      · rintro (h | h | h)
        · exact .inr (.inl h)
        · exact .inl h
        · exact .inr (.inr h)
    · split
      · rename_i h
        subst h
        simp
      · rw [List.mem_cons]

theorem put_sorted : ∀ (l : List (Int × Int)) (e : Int × Int), l.Pairwise lt → (put l e).Pairwise lt
  | [], e, _ => by simp [put]
  | y :: l, e, h => by
    have h' := h
    rw [List.pairwise_cons] at h
    unfold put
    split
    · rename_i hye
      rw [List.pairwise_cons]
      refine ⟨fun z hz => ?_, put_sorted l e h.2⟩
      rcases (mem_put l e z).1 hz with rfl | hz
      · exact hye
      · exact h.1 z hz
    · split
      · exact h'
      · rename_i h1 h2
        rw [List.pairwise_cons]
        refine ⟨fun z hz => ?_, h'⟩
        have hey : lt e y := by
          rcases lt_total y e with a | a | a
          · exact absurd a h1
          · exact absurd a h2
          · exact a
        rcases List.mem_cons.1 hz with rfl | hz
        · exact hey
        · exact lt_trans hey (h.1 z hz)

theorem put_length : ∀ (l : List (Int × Int)) (e : Int × Int), l.length ≤ (put l e).length ∧ (put l e).length ≤ l.length + 1
  | [], e => by simp [put]
  | y :: l, e => by
    have := put_length l e
    unfold put
    split
    · simp; omega
    · split <;> simp

/-- Where it is put. -/
theorem put_at : ∀ (l : List (Int × Int)) (e : Int × Int) (i : Nat), i ≤ l.length → (∀ (j : Nat) (x : Int × Int), j < i → l[j]? = some x → lt x e) → (∀ x, l[i]? = some x → ¬ lt x e) →
    put l e = if l[i]? = some e then l else l.take i ++ e :: l.drop i
  | [], e, 0, _, _, _ => by simp [put]
  | [], e, i + 1, h, _, _ => by simp at h
  | y :: l, e, 0, _, _, h => by
    have := h y (by simp)
    unfold put
    rw [if_neg this]
    simp
  | y :: l, e, i + 1, hi, h1, h2 => by
    have hy := h1 0 y (by omega) (by simp)
    have ih := put_at l e i (by simpa using hi) (fun j x hj hx => h1 (j + 1) x (by omega) (by simpa using hx)) (fun x hx => h2 x (by simpa using hx))
    unfold put
    rw [if_pos hy, ih]
    simp only [List.getElem?_cons_succ, List.take_succ_cons, List.drop_succ_cons]
    split <;> simp

/-- The edges of pairs, one by one. -/
def made : List (Int × Int) → List (Int × Int) → List (Int × Int)
  | l, [] => l
  | l, p :: ps => made (if p.1 = p.2 then l else put l (norm p)) ps

theorem made_snoc : ∀ (ps l : List (Int × Int)) (p : Int × Int), made l (ps ++ [p]) = if p.1 = p.2 then made l ps else put (made l ps) (norm p)
  | [], l, p => by simp [made]
  | q :: ps, l, p => by simp only [List.cons_append, made]; exact made_snoc ps _ p

theorem made_is : ∀ (ps l : List (Int × Int)), l.Pairwise lt → (made l ps).Pairwise lt ∧ ∀ e, e ∈ made l ps ↔ e ∈ l ∨ ∃ p ∈ ps, p.1 ≠ p.2 ∧ e = norm p
  | [], l, h => ⟨h, fun e => by simp [made]⟩
  | p :: ps, l, h => by
    by_cases hp : p.1 = p.2
    · obtain ⟨h1, h2⟩ := made_is ps l h
      simp only [made, if_pos hp]
      refine ⟨h1, fun e => (h2 e).trans ?_⟩
      simp only [List.mem_cons, exists_eq_or_imp]
      constructor
      · rintro (a | a)
        · exact .inl a
        · exact .inr (.inr a)
      · rintro (a | a | a)
        · exact .inl a
        · exact absurd hp a.1
        · exact .inr a
    · obtain ⟨h1, h2⟩ := made_is ps (put l (norm p)) (put_sorted l _ h)
      simp only [made, if_neg hp]
      refine ⟨h1, fun e => (h2 e).trans ?_⟩
      rw [mem_put]
      simp only [List.mem_cons, exists_eq_or_imp]
      constructor
      · rintro ((a | a) | a)
        · exact .inr (.inl ⟨hp, a⟩)
        · exact .inl a
        · exact .inr (.inr a)
      · rintro (a | a | a)
        · exact .inl (.inr a)
        · exact .inl (.inl a.2)
        · exact .inr a

theorem made_made (ps : List (Int × Int)) : IsMade ps (made [] ps) := by
  obtain ⟨h1, h2⟩ := made_is ps [] List.Pairwise.nil
  exact ⟨h1, fun e => by rw [h2]; simp⟩

theorem made_length : ∀ (ps l : List (Int × Int)), l.length ≤ (made l ps).length ∧ (made l ps).length ≤ l.length + ps.length
  | [], l => by simp [made]
  | p :: ps, l => by
    simp only [made]
    split
    · have := made_length ps l
      simp; omega
    · have := made_length ps (put l (norm p))
      have := put_length l (norm p)
      simp; omega

theorem made_append : ∀ (ps qs l : List (Int × Int)), made l (ps ++ qs) = made (made l ps) qs
  | [], _, _ => rfl
  | p :: ps, qs, l => by simp only [List.cons_append, made]; exact made_append ps qs _

theorem made_take (ps : List (Int × Int)) (k : Nat) : (made [] (ps.take k)).length ≤ (made [] ps).length := by
  conv => rhs; rw [← List.take_append_drop k ps, made_append]
  exact (made_length _ _).1

/-- A list without doubles of just these is as long. -/
theorem nodup_length : ∀ {l l' : List (Int × Int)}, l.Nodup → l'.Nodup → (∀ e, e ∈ l ↔ e ∈ l') → l.length = l'.length
  | [], l', _, _, h => by
    cases l' with
    | nil => rfl
    | cons b l' => have := (h b).2 (by simp); simp at this
  | a :: l, l', hn, hn', h => by
    have ha : a ∈ l' := (h a).1 (by simp)
    obtain ⟨s, t, rfl⟩ := List.append_of_mem ha
    rw [List.nodup_cons] at hn
    have hn2 : a ∉ s ++ t ∧ (s ++ t).Nodup := by
      have := (List.perm_middle (a := a) (l₁ := s) (l₂ := t)).nodup_iff.1 hn'
      exact List.nodup_cons.1 this
    have := nodup_length (l := l) (l' := s ++ t) hn.2 hn2.2 fun e => by
      have he := h e
      simp only [List.mem_cons, List.mem_append] at he ⊢
      constructor
      · intro hl
        rcases he.1 (.inr hl) with a1 | a1 | a1
        · exact .inl a1
        · exact absurd (a1 ▸ hl) hn.1
        · exact .inr a1
      · intro hst
        rcases he.2 (by rcases hst with a1 | a1 <;> simp [a1]) with a1 | a1
        · exact absurd (by rw [List.mem_append]; exact a1 ▸ hst) hn2.1
        · exact a1
    simp at this ⊢
    omega

theorem sorted_nodup {l : List (Int × Int)} (h : l.Pairwise lt) : l.Nodup := h.imp fun hab => lt_ne hab

end Si
end Go.Proofs.YtalfpbalekbinaaGreat
