import Init
import Derived.Test.YtodlejemkihjnaaDoorProg
import Derived.WalkKit
import Derived.WalkSpells
import Derived.WalkLawsBesides
import Derived.Test.YtodlejemkihjnaaDoorRows
import Derived.ProofKit
import Derived.OpenShut
import Derived.SizedLaws
import Derived.Deep.DeepHandedRow
import Derived.Lib.LaidTab
import Derived.Laws.AppendOwnNone
/-
  The scanner of decimal numbers as plain functions on bytes, with no program in it: what passing, reading one token, and reading all tokens come to, and the small laws of these.
-/
namespace Go.Proofs.YtodlejemkihjnaaDoor
namespace Nu

def isBlank (c : Int) : Bool := c == 32 || (c == 9 || c == 13)
def isDigit (c : Int) : Bool := decide (48 ≤ c) && decide (c ≤ 57)

/-- q is the first place from p on (below n) whose byte f refuses, or n. -/
structure IsSkip (f : Int → Bool) (g : Nat → Int) (n p q : Nat) : Prop where
  lo : p ≤ q
  hi : q ≤ n
  all : ∀ i, p ≤ i → i < q → f (g i) = true
  stop : q < n → f (g q) = false

theorem IsSkip.uniq {f : Int → Bool} {g : Nat → Int} {n p q r : Nat} (h : IsSkip f g n p q) (k : IsSkip f g n p r) : q = r := by
  rcases Nat.lt_trichotomy q r with l | l | l
  · have := k.all q h.lo l
    rw [h.stop (Nat.lt_of_lt_of_le l k.hi)] at this
    cases this
  · exact l
  · have := h.all r k.lo l
    rw [k.stop (Nat.lt_of_lt_of_le l h.hi)] at this
    cases this

def skipF (f : Int → Bool) (g : Nat → Int) (n : Nat) : Nat → Nat → Nat
  | 0, p => p
  | k + 1, p => if p < n ∧ f (g p) = true then skipF f g n k (p + 1) else p

def skip (f : Int → Bool) (g : Nat → Int) (n p : Nat) : Nat := skipF f g n (n - p) p

theorem skipF_is (f : Int → Bool) (g : Nat → Int) (n : Nat) : ∀ k p, p ≤ n → n - p ≤ k → IsSkip f g n p (skipF f g n k p)
  | 0, p, hp, hk => ⟨Nat.le_refl _, hp, fun i h1 h2 => by simp [skipF] at h2; omega, fun h => by simp [skipF] at h; omega⟩
  | k + 1, p, hp, hk => by
    unfold skipF
    by_cases h : p < n ∧ f (g p) = true
    · rw [if_pos h]
      have ih := skipF_is f g n k (p + 1) (by omega) (by omega)
      refine ⟨by have := ih.lo; omega, ih.hi, fun i h1 h2 => ?_, ih.stop⟩
      by_cases e : i = p
      · subst e; exact h.2
      · exact ih.all i (by omega) h2
    · rw [if_neg h]
      refine ⟨Nat.le_refl _, hp, fun i h1 h2 => by omega, fun hn => ?_⟩
      cases hb : f (g p)
      · rfl
      · exact absurd ⟨hn, hb⟩ h

theorem skip_is (f : Int → Bool) (g : Nat → Int) (n p : Nat) (hp : p ≤ n) : IsSkip f g n p (skip f g n p) := skipF_is f g n (n - p) p hp (Nat.le_refl _)

theorem IsSkip.eq {f : Int → Bool} {g : Nat → Int} {n p q : Nat} (h : IsSkip f g n p q) : q = skip f g n p := h.uniq (skip_is f g n p (Nat.le_trans h.lo h.hi))

/-- The value of the k digits from place q on. -/
def val (g : Nat → Int) (q : Nat) : Nat → Int
  | 0 => 0
  | k + 1 => 10 * val g q k + (g (q + k) - 48)

def pow10 : Nat → Int
  | 0 => 1
  | k + 1 => 10 * pow10 k

theorem val_bound (g : Nat → Int) (q : Nat) : ∀ k, (∀ i, i < k → 48 ≤ g (q + i) ∧ g (q + i) ≤ 57) → 0 ≤ val g q k ∧ val g q k < pow10 k
  | 0, _ => by simp [val, pow10]
  | k + 1, h => by
    have ih := val_bound g q k (fun i hi => h i (by omega))
    have hk := h k (by omega)
    simp only [val, pow10]
    omega

theorem pow10_pos : ∀ k, 0 < pow10 k
  | 0 => by simp [pow10]
  | k + 1 => by have := pow10_pos k; simp only [pow10]; omega

theorem pow10_mono {a b : Nat} (h : a ≤ b) : pow10 a ≤ pow10 b := by
  induction b with
  | zero => have : a = 0 := by omega
            subst this; exact Int.le_refl _
  | succ b ih =>
    by_cases e : a = b + 1
    · subst e; exact Int.le_refl _
    · have := ih (by omega)
      have := pow10_pos b
      simp only [pow10]; omega

theorem val_lt_9 (g : Nat → Int) (q k : Nat) (hk : k ≤ 9) (h : ∀ i, i < k → 48 ≤ g (q + i) ∧ g (q + i) ≤ 57) : 0 ≤ val g q k ∧ val g q k < 1000000000 := by
  have h1 := val_bound g q k h
  have h2 : pow10 k ≤ pow10 9 := pow10_mono hk
  have h3 : pow10 9 = 1000000000 := by decide
  omega

/-- A token: its kind, its place, the place behind it, its number. -/
structure Tok where
  kind : Int
  at' : Int
  fin : Int
  num : Int

/-- The next token from place p on and where it ends, or the fault's place and number. -/
def next (g : Nat → Int) (n p : Nat) : Except (Nat × Int) (Tok × Nat) :=
  if skip isBlank g n p = n then .ok (⟨3, n, n, 0⟩, n)
  else if isDigit (g (skip isBlank g n p)) = true then
    if 9 < skip isDigit g n (skip isBlank g n p) - skip isBlank g n p ∨ (1 < skip isDigit g n (skip isBlank g n p) - skip isBlank g n p ∧ g (skip isBlank g n p) = 48) then .error (skip isBlank g n p, 12)
    else .ok (⟨1, skip isBlank g n p, skip isDigit g n (skip isBlank g n p), val g (skip isBlank g n p) (skip isDigit g n (skip isBlank g n p) - skip isBlank g n p)⟩, skip isDigit g n (skip isBlank g n p))
  else if g (skip isBlank g n p) = 10 then .ok (⟨2, skip isBlank g n p, skip isBlank g n p + 1, 0⟩, skip isBlank g n p + 1)
  else .error (skip isBlank g n p, 11)

theorem next_end {g : Nat → Int} {n p : Nat} (h : IsSkip isBlank g n p n) : next g n p = .ok (⟨3, n, n, 0⟩, n) := by
  unfold next; rw [← h.eq]; simp

theorem next_line {g : Nat → Int} {n p q : Nat} (h : IsSkip isBlank g n p q) (hq : q < n) (h10 : g q = 10) : next g n p = .ok (⟨2, q, q + 1, 0⟩, q + 1) := by
  unfold next
  rw [← h.eq, if_neg (by omega), if_neg (by rw [h10]; decide), if_pos h10]

theorem next_byte {g : Nat → Int} {n p q : Nat} (h : IsSkip isBlank g n p q) (hq : q < n) (hd : isDigit (g q) = false) (h10 : g q ≠ 10) : next g n p = .error (q, 11) := by
  unfold next
  rw [← h.eq, if_neg (by omega), if_neg (by rw [hd]; decide), if_neg h10]

theorem next_bad {g : Nat → Int} {n p q r : Nat} (h : IsSkip isBlank g n p q) (hq : q < n) (hd : isDigit (g q) = true) (hr : IsSkip isDigit g n q r) (hb : 9 < r - q ∨ (1 < r - q ∧ g q = 48)) : next g n p = .error (q, 12) := by
  unfold next
  rw [← h.eq, if_neg (by omega), if_pos hd, ← hr.eq, if_pos hb]

theorem next_num {g : Nat → Int} {n p q r : Nat} (h : IsSkip isBlank g n p q) (hq : q < n) (hd : isDigit (g q) = true) (hr : IsSkip isDigit g n q r) (hb : ¬ (9 < r - q ∨ (1 < r - q ∧ g q = 48))) : next g n p = .ok (⟨1, q, r, val g q (r - q)⟩, r) := by
  unfold next
  rw [← h.eq, if_neg (by omega), if_pos hd, ← hr.eq, if_neg hb]

/-- All tokens from place p on (k: how many more may come), or the first fault. -/
def scanF (g : Nat → Int) (n : Nat) : Nat → Nat → Except (Nat × Int) (List Tok)
  | 0, _ => .ok []
  | k + 1, p => match next g n p with
    | .error x => .error x
    | .ok (t, p') => if t.kind = 3 then .ok [t] else match scanF g n k p' with
      | .error x => .error x
      | .ok ts => .ok (t :: ts)

def scan (g : Nat → Int) (n : Nat) : Except (Nat × Int) (List Tok) := scanF g n (n + 1) 0

end Nu
end Go.Proofs.YtodlejemkihjnaaDoor

/-
  Memory: the words by which the walks say what lies where, and their small laws.
-/
namespace Go.Proofs.YtodlejemkihjnaaDoor
open Go.RowKit

theorem Nu.hid {p : Prop} (h : p) : Hid p := h

/-- The bytes g 0 .. g (n - 1) lie at ao. -/
def HasText (w : World) (ao : Option Addr) (n : Nat) (g : Nat → Int) : Prop :=
  ∀ i, i < n → (0 ≤ g i ∧ g i ≤ 255) ∧ ∃ tb to, ao = some ⟨tb, to, none⟩ ∧ w.cell? ⟨tb, to + i, none⟩ = some (.int .u8 (g i))

def Apart (ao : Option Addr) (b : Nat) : Prop := ∀ x, ao = some x → x.block ≠ b

section
variable {w w' : World} {b : Nat} {ao : Option Addr} {n cap p : Nat} {g : Nat → Int}

theorem grownBy_setCell {w0 : World} (h : w0.grownBy w (some b)) (i : Nat) (v : Value) : w0.grownBy (w.setCell ⟨b, i, none⟩ v) (some b) := by
  refine ⟨h.os, h.tape, h.output, by simpa using h.size, fun k hk hne => ?_⟩
  rw [heap_setCell_other w ⟨b, i, none⟩ k v (fun e => hne (by rw [e])), h.block k hk hne]
theorem grownBy_trans {w0 w1 w2 : World} {r : Option Nat} (h : w0.grownBy w1 r) (k : w1.grownBy w2 r) : w0.grownBy w2 r :=
  ⟨k.os.trans h.os, k.tape.trans h.tape, k.output.trans h.output, Nat.le_trans h.size k.size, fun i hi hne => (k.block i (Nat.lt_of_lt_of_le hi h.size) hne).trans (h.block i hi hne)⟩
theorem grownBy_drewN {w0 : World} {r : Option Nat} (h : w0.grownBy w r) (k : Nat) : w0.grownBy (w.drewN k) r := ⟨h.os, h.tape, h.output, h.size, h.block⟩
theorem grownBy_drew {w0 : World} {r : Option Nat} (h : w0.grownBy w r) : w0.grownBy w.drew r := ⟨h.os, h.tape, h.output, h.size, h.block⟩
theorem grownBy_alloc' {w0 : World} {r : Option Nat} (h : w0.grownBy w r) (o : Obj) : w0.grownBy (w.alloc o) r := grownBy_trans h (World.grownBy_alloc w o r)

/-- Four stores into block B. -/
def put4 (w : World) (B : Nat) (a b c d : Value) : World := (((w.setCell ⟨B, 0, none⟩ a).setCell ⟨B, 1, none⟩ b).setCell ⟨B, 2, none⟩ c).setCell ⟨B, 3, none⟩ d
theorem put4_heap {B : Nat} {t : TypeId} {x0 x1 x2 x3 : Value} (h : w.heap[B]? = some (.cells #[x0, x1, x2, x3] t (0, 0))) (a b c d : Value) : (put4 w B a b c d).heap[B]? = some (.cells #[a, b, c, d] t (0, 0)) := by
  have h1 := heap_setCell_same w B 0 _ t a h
  have h2 := heap_setCell_same _ B 1 _ t b h1
  have h3 := heap_setCell_same _ B 2 _ t c h2
  have h4 := heap_setCell_same _ B 3 _ t d h3
  unfold put4
  simpa using h4
theorem put4_other {B k : Nat} (hk : k ≠ B) (a b c d : Value) : (put4 w B a b c d).heap[k]? = w.heap[k]? := by
  unfold put4
  rw [heap_setCell_other _ ⟨B, 3, none⟩ k d hk, heap_setCell_other _ ⟨B, 2, none⟩ k c hk, heap_setCell_other _ ⟨B, 1, none⟩ k b hk, heap_setCell_other _ ⟨B, 0, none⟩ k a hk]
theorem put4_size (B : Nat) (a b c d : Value) : (put4 w B a b c d).heap.size = w.heap.size := by simp [put4]
theorem grownBy_put4 {w0 : World} {r : Option Nat} (h : w0.grownBy w r) {B : Nat} (hB : w0.heap.size ≤ B) (x0 x1 x2 x3 : Value) : w0.grownBy (put4 w B x0 x1 x2 x3) r :=
  ⟨h.os, h.tape, h.output, by rw [put4_size]; exact h.size, fun k hk hne => (put4_other (by omega) x0 x1 x2 x3).trans (h.block k hk hne)⟩

theorem HasText.grown (h : HasText w ao n g) (hg : w.grownBy w' (some b)) (ha : Apart ao b) : HasText w' ao n g := by
  intro i hi
  obtain ⟨hb, tb, to, e, hc⟩ := h i hi
  exact ⟨hb, tb, to, e, hg.cell hc (by simpa using ha _ e)⟩
theorem HasText.alloc (h : HasText w ao n g) (o : Obj) : HasText (w.alloc o) ao n g := by
  intro i hi
  obtain ⟨hb, tb, to, e, hc⟩ := h i hi
  exact ⟨hb, tb, to, e, (World.grownBy_alloc w o none).cell hc (by simp)⟩
theorem HasText.drewN (h : HasText w ao n g) (k : Nat) : HasText (w.drewN k) ao n g := h
theorem HasText.grown0 (h : HasText w ao n g) (hg : w.grownBy w' none) : HasText w' ao n g := by
  intro i hi
  obtain ⟨hb, tb, to, e, hc⟩ := h i hi
  exact ⟨hb, tb, to, e, hg.cell hc (by simp)⟩
theorem HasText.later (h : HasText w ao n g) (hg : Below w.heap.size w w') : HasText w' ao n g := by
  intro i hi
  obtain ⟨hb, tb, to, e, hc⟩ := h i hi
  exact ⟨hb, tb, to, e, (hg.cell (p := ⟨tb, to + i, none⟩) (block_lt_of_cell hc)).trans hc⟩
theorem HasText.below {B : Nat} (h : HasText w ao n g) (hg : Below B w w') (ha : ∀ x, ao = some x → x.block < B) : HasText w' ao n g := by
  intro i hi
  obtain ⟨hb, tb, to, e, hc⟩ := h i hi
  exact ⟨hb, tb, to, e, (hg.cell (p := ⟨tb, to + i, none⟩) (show tb < B from ha _ e)).trans hc⟩
end

end Go.Proofs.YtodlejemkihjnaaDoor

/-
  What the rows have in common: a slice of integers that came in, copies of it in new memory, and the small closed facts.
-/
namespace Go.Proofs.YtodlejemkihjnaaDoor
open Go.ChangeShapes Go.WideShapes Go.ChangeAt Go.RowKit

theorem own : ownKnob Tryd.prog.godebug = none := by kernel_rfl
theorem laidOut : laidOutB Tryd.prog = true := by kernel_rfl
theorem cellsU8 : Tryd.prog.cellsOf 5 = 1 := by kernel_rfl
theorem cellsInt : Tryd.prog.cellsOf 3 = 1 := by kernel_rfl
theorem bytesU8 : Tryd.prog.bytesOf 5 = 1 := by kernel_rfl
theorem bytesInt : Tryd.prog.bytesOf 3 = 8 := by kernel_rfl
theorem Tryd.infoU8 : (Tryd.prog.info? 5).map (fun i => (i.zero, i.size, i.bytes)) = some (some (.int .u8 0), 1, 1) := by kernel_rfl

/-- A world for the witness. -/
noncomputable def settled (os : Os) : World := World.holding Tryd.prog os ⟨#[], #[], []⟩

/-- A slice of integers that came in: nil, or cap cells, the numbers zs, the first len of which are its elements; it takes at most the reach. -/
def IsRow (k : IntKind) (bytes : Nat) (w : World) (a : Option Addr) (len cap : Nat) (zs : List Int) : Prop :=
  (a = none ∧ len = 0 ∧ cap = 0 ∧ zs = []) ∨
  ∃ x, a = some x ∧ len ≤ cap ∧ cap * bytes ≤ 140737488351232 ∧ zs.length = cap ∧ (∀ i, i < zs.length → w.cell? (x.add i) = some (.int k (zs.getD i 0))) ∧ ∀ n ∈ zs, (Lit.int k n).wf = true

theorem IsRow.of_trod {H : Type} {enc : TypeId × Value → H} {W : World} {t e : TypeId} {k : IntKind} {a : Option Addr} {len cap : Nat} {d : DataW H} {p : List MemPlace} {ts : List TypeId} {ds : List (DataW H)} {j bytes : Nat}
    (ht : Tryd.prog.underlying t = some (.slice e)) (he : Tryd.prog.underlying e = some (.int k)) (hc : Tryd.prog.cellsOf e = 1) (hby : Tryd.prog.bytesOf e = bytes)
    (h : DataW.Trod enc Tryd.prog W 0 (fun _ => true) true t (.slice a len cap) d p) (hsz : (DataW.weightsEach Tryd.prog ts ds).all (· ≤ reachBytes) = true) (hts : ts[j]? = some t) (hds : ds[j]? = some d) :
    ∃ zs, IsRow k bytes W a len cap zs := by
  obtain ⟨fuel, hf⟩ := h
  rcases open_ints ht he hc hf with ⟨hcs, _⟩ | ⟨x, l, c, zs, hcs, _, hl, hm, hz, hx, hcell, hwz⟩
  · simp [Value.cells] at hcs
    obtain ⟨rfl, rfl, rfl⟩ := hcs
    exact ⟨[], .inl ⟨rfl, rfl, rfl, rfl⟩⟩
  · simp [Value.cells] at hcs
    obtain ⟨rfl, rfl, rfl⟩ := hcs
    simp only [Prod.mk.injEq] at hx
    obtain ⟨rfl, _⟩ := hx
    have hw := sized_slice hsz hts hds ht
    have hz' : zs.length = cap := by simpa using hz
    rw [hby] at hw
    simp only [lits, List.length_map, List.length_take, List.length_drop, reachBytes] at hw
    have e1 : min len zs.length + (zs.length - len) = cap := by omega
    rw [e1] at hw
    exact ⟨zs, .inr ⟨_, rfl, hl, hw, hz', hcell, hwz⟩⟩

theorem IsRow.take {k : IntKind} {bytes : Nat} {w : World} {a : Option Addr} {len cap : Nat} {zs : List Int} (h : IsRow k bytes w a len cap zs) : (zs.take len).length = len := by
  rcases h with ⟨_, rfl, _, rfl⟩ | ⟨_, _, hl, _, hz, _⟩
  · rfl
  · simp; omega

theorem IsRow.small {k : IntKind} {bytes : Nat} {w : World} {a : Option Addr} {len cap : Nat} {zs : List Int} (h : IsRow k bytes w a len cap zs) : len * bytes ≤ 140737488351232 := by
  rcases h with ⟨_, rfl, _, rfl⟩ | ⟨_, _, hl, hm, _⟩
  · simp
  · exact Nat.le_trans (Nat.mul_le_mul_right bytes hl) hm

theorem IsRow.later {k : IntKind} {bytes : Nat} {w w' : World} {a : Option Addr} {len cap : Nat} {zs : List Int} (h : IsRow k bytes w a len cap zs) (hb : Below w.heap.size w w') : IsRow k bytes w' a len cap zs := by
  rcases h with h | ⟨x, rfl, hl, hm, hz, hc, hw⟩
  · exact .inl h
  · refine .inr ⟨x, rfl, hl, hm, hz, fun i hi => ?_, hw⟩
    exact (hb.cell (p := x.add i) (block_lt_of_cell (hc i hi))).trans (hc i hi)

theorem wf_u8 {n : Int} (h : (Lit.int .u8 n).wf = true) : 0 ≤ n ∧ n ≤ 255 := by simpa using bounds_u8 h

theorem IsRow.text {w : World} {a : Option Addr} {len cap : Nat} {zs : List Int} (h : IsRow .u8 1 w a len cap zs) : HasText w a len (fun i => zs.getD i 0) := by
  intro i hi
  rcases h with ⟨_, rfl, _⟩ | ⟨x, rfl, hl, hm, hz, hc, hw⟩
  · omega
  · have hlt : i < zs.length := by omega
    have hci := hc i hlt
    obtain ⟨b, o, sp⟩ := x
    have hsp : sp = none := by simpa [Addr.add] using World.cell?_spot (hc 0 (by omega))
    subst hsp
    refine ⟨?_, b, o, rfl, ?_⟩
    · have hm : zs.getD i 0 ∈ zs := by rw [List.getD_eq_getElem?_getD, List.getElem?_eq_getElem hlt]; simp
      exact wf_u8 (hw _ hm)
    · have e : ((⟨b, o, none⟩ : Addr).add i) = ⟨b, o + i, none⟩ := by
        by_cases h0 : i = 0 <;> simp [Addr.add, h0]
      rw [e] at hci
      exact hci

/-- What an owned row of bytes is as a text. -/
theorem own_text {w : World} {B gb c len : Nat} {zs : List Int} (hz : (zs.take len).length = len) (hb : ∀ i, i < len → 0 ≤ zs.getD i 0 ∧ zs.getD i 0 ≤ 255) (h : w.ownsRow B 5 1 (.slice (some ⟨gb, 0, none⟩) len c) len ((zs.take len).map (Value.int .u8))) : HasText w (some ⟨gb, 0, none⟩) len (fun i => zs.getD i 0) := by
  intro i hi
  refine ⟨hb i hi, gb, 0, rfl, ?_⟩
  have hl : i < zs.length := by simp at hz; omega
  have hc := World.ownsRow.cells h (g := gb) rfl i (.int .u8 (zs.getD i 0)) (by
    rw [List.getElem?_map, List.getElem?_take, if_pos hi, List.getElem?_eq_getElem hl]
    simp [List.getD_eq_getElem?_getD, List.getElem?_eq_getElem hl])
  have e : ((⟨gb, 0, none⟩ : Addr).add i) = ⟨gb, 0 + i, none⟩ := by
    by_cases h0 : i = 0 <;> simp [Addr.add, h0]
  rw [e] at hc
  exact hc

/-- 'append(v, xs...)', v a row of the call's own that is not nil, xs a slice that came in. -/
theorem wpList_grow {ops : Array Oper} {rest : List Oper} {o : Oper} {a : Act} {Q : Exit → Act → World → Prop} (hgd : o.guard = none) (s x : Operand) (t : TypeId)
    (ho : o.op = .call { callee := .builtin .append, args := #[s, x], argTypes := #[t, t] }) (e : TypeId) (k : IntKind) (i0 : TypeInfo) (bytes : Nat) (hu : Tryd.prog.underlying t = some (.slice e)) (hi : Tryd.prog.info? e = some i0)
    (hz0 : i0.zero = some (.int k 0)) (hz1 : i0.size = 1) (hz2 : i0.bytes = bytes) (W : World) (B n : Nat) (g0 c0 : Nat) (xs : List Value) (hown : W.ownsRow B e 1 (.slice (some ⟨g0, 0, none⟩) n c0) n xs) (hB : B ≤ W.heap.size)
    (ao : Option Addr) (len cap : Nat) (zs : List Int) (hs : a.eval s = .slice (some ⟨g0, 0, none⟩) n c0) (hx : a.eval x = .slice ao len cap) (hrow : IsRow k bytes W ao len cap zs) (h63 : n + len ≤ maxLen) (hbytes : (n + len) * bytes ≤ 140737488355328)
    (h : ∀ gb c w', w'.ownsRow B e 1 (.slice (some ⟨gb, 0, none⟩) (n + len) c) (n + len) (xs ++ (zs.take len).map (Value.int k)) → B ≤ gb → gb < w'.heap.size → n + len ≤ c → Below B W w' → wpList Tryd.prog ops Q rest (a.put o.dst (.slice (some ⟨gb, 0, none⟩) (n + len) c)) w') :
    wpList Tryd.prog ops Q (o :: rest) a W := by
  have htk := hrow.take
  have hlt0 := World.ownsRow.lt hown g0 rfl
  rcases hrow with ⟨rfl, rfl, rfl, rfl⟩ | ⟨y, rfl, hl, hm, hz, hc, hw⟩
  · refine wpList_append_own_none hgd s x t ho B e i0 1 hu hi _ n xs hs hown hx ?_
    have hc0 : n ≤ c0 := by
      rcases hown.2 with ⟨hnil, _⟩ | ⟨gb, c, cur, e', _, _, hlc, _⟩
      · cases hnil
      · cases e'; exact hlc
    exact h g0 c0 W (by simpa using hown) hlt0.1 hlt0.2 (by simpa using hc0) (Below.refl _ _)
  · refine wpList_append_own _ hgd s x t ho B e i0 (.int k 0) 1 bytes hu hi hz0 hz1 hz2 rfl (by decide) _ n xs hs hown y len cap ((zs.take len).map (Value.int k)) hx (by rw [List.length_map, htk]; omega) ?_ (ints_oneCell k _) h63 hbytes hB ?_
    · intro j u hj
      rw [List.getElem?_map, List.getElem?_take] at hj
      by_cases hjl : j < len
      · rw [if_pos hjl] at hj
        have hlt : j < zs.length := by omega
        rw [List.getElem?_eq_getElem hlt] at hj
        simp at hj
        subst hj
        have hcj := hc j hlt
        rw [List.getD_eq_getElem?_getD, List.getElem?_eq_getElem hlt] at hcj
        exact hcj
      · rw [if_neg hjl] at hj
        simp at hj
    · intro v' w' hown' hg hiff
      rcases hown'.2 with ⟨hnil, _⟩ | ⟨gb, c, cur, rfl, hgb, hh, hlc, _⟩
      · have := (hiff.1 hnil).1
        cases this
      · exact h gb c w' hown' hgb (lt_of_block hh) hlc ((Below.refl B W).grown hg hB (fun q hq => by cases hq; exact hlt0.1))

/-- 'append(v, xs...)' once more, at a single operation. -/
theorem wp_grow {o : Oper} {a : Act} {K : Act → World → Prop} {Q : Exit → Act → World → Prop} (s x : Operand) (t : TypeId)
    (ho : o.op = .call { callee := .builtin .append, args := #[s, x], argTypes := #[t, t] }) (e : TypeId) (k : IntKind) (i0 : TypeInfo) (bytes : Nat) (hu : Tryd.prog.underlying t = some (.slice e)) (hi : Tryd.prog.info? e = some i0)
    (hz0 : i0.zero = some (.int k 0)) (hz1 : i0.size = 1) (hz2 : i0.bytes = bytes) (W : World) (B n : Nat) (g0 c0 : Nat) (xs : List Value) (hown : W.ownsRow B e 1 (.slice (some ⟨g0, 0, none⟩) n c0) n xs) (hB : B ≤ W.heap.size)
    (ao : Option Addr) (len cap : Nat) (zs : List Int) (hs : a.eval s = .slice (some ⟨g0, 0, none⟩) n c0) (hx : a.eval x = .slice ao len cap) (hrow : IsRow k bytes W ao len cap zs) (h63 : n + len ≤ maxLen) (hbytes : (n + len) * bytes ≤ 140737488355328)
    (h : ∀ gb c w', w'.ownsRow B e 1 (.slice (some ⟨gb, 0, none⟩) (n + len) c) (n + len) (xs ++ (zs.take len).map (Value.int k)) → B ≤ gb → gb < w'.heap.size → n + len ≤ c → Below B W w' → K (a.put o.dst (.slice (some ⟨gb, 0, none⟩) (n + len) c)) w') :
    o.wp Tryd.prog a W K Q := by
  have htk := hrow.take
  have hlt0 := World.ownsRow.lt hown g0 rfl
  rcases hrow with ⟨rfl, rfl, rfl, rfl⟩ | ⟨y, rfl, hl, hm, hz, hc, hw⟩
  · have hc0 : n ≤ c0 := by
      rcases hown.2 with ⟨hnil, _⟩ | ⟨gb, c, cur, e', _, _, hlc, _⟩
      · cases hnil
      · cases e'; exact hlc
    have hrun := run_append_owned_none (P := Tryd.prog) (w := W) B t o.type e i0 1 hu hi _ n xs hown
    unfold Oper.wp
    simp [execOp, ho, resolve, invoke, builtin, hs, hx, hrun, Result.andThen]
    exact h g0 c0 W (by simpa using hown) hlt0.1 hlt0.2 (by simpa using hc0) (Below.refl _ _)
  · refine wp_append_own W s x t ho B e i0 (.int k 0) 1 bytes hu hi hz0 hz1 hz2 rfl (by decide) _ n xs hs hown y len cap ((zs.take len).map (Value.int k)) hx (by rw [List.length_map, htk]; omega) ?_ (ints_oneCell k _) h63 hbytes hB ?_
    · intro j u hj
      rw [List.getElem?_map, List.getElem?_take] at hj
      by_cases hjl : j < len
      · rw [if_pos hjl] at hj
        have hlt : j < zs.length := by omega
        rw [List.getElem?_eq_getElem hlt] at hj
        simp at hj
        subst hj
        have hcj := hc j hlt
        rw [List.getD_eq_getElem?_getD, List.getElem?_eq_getElem hlt] at hcj
        exact hcj
      · rw [if_neg hjl] at hj
        simp at hj
    · intro v' w' hown' hg hiff
      rcases hown'.2 with ⟨hnil, _⟩ | ⟨gb, c, cur, rfl, hgb, hh, hlc, _⟩
      · have := (hiff.1 hnil).1
        cases this
      · exact h gb c w' hown' hgb (lt_of_block hh) hlc ((Below.refl B W).grown hg hB (fun q hq => by cases hq; exact hlt0.1))

/-- 'append([]T{}, xs...)': a copy in new memory. -/
theorem wpList_copy {ops : Array Oper} {rest : List Oper} {o : Oper} {a : Act} {Q : Exit → Act → World → Prop} (hgd : o.guard = none) (s x : Operand) (t : TypeId)
    (ho : o.op = .call { callee := .builtin .append, args := #[s, x], argTypes := #[t, t] }) (e : TypeId) (k : IntKind) (i0 : TypeInfo) (bytes : Nat) (hu : Tryd.prog.underlying t = some (.slice e)) (hi : Tryd.prog.info? e = some i0)
    (hz0 : i0.zero = some (.int k 0)) (hz1 : i0.size = 1) (hz2 : i0.bytes = bytes) (hpos : 0 < bytes) (W : World) (ao : Option Addr) (len cap : Nat) (zs : List Int) (hs : a.eval s = .slice (some ⟨W.heap.size, 0, none⟩) 0 0) (hx : a.eval x = .slice ao len cap)
    (hrow : IsRow k bytes W ao len cap zs)
    (h : ∀ gb c w', w'.ownsRow W.heap.size e 1 (.slice (some ⟨gb, 0, none⟩) len c) len ((zs.take len).map (Value.int k)) → W.heap.size ≤ gb → gb < w'.heap.size → len ≤ c → Below W.heap.size W w' → wpList Tryd.prog ops Q rest (a.put o.dst (.slice (some ⟨gb, 0, none⟩) len c)) w') :
    wpList Tryd.prog ops Q (o :: rest) a (W.alloc (.cells #[] e)) := by
  have hown0 : (W.alloc (.cells #[] e)).ownsRow W.heap.size e 1 (.slice (some ⟨W.heap.size, 0, none⟩) 0 0) 0 [] := World.ownsRow_made W #[] 0 (Nat.le_refl _) (Nat.zero_le _) rfl
  have hb0 : Below W.heap.size W (W.alloc (.cells #[] e)) := (Below.refl _ _).alloc (Nat.le_refl _) _
  have htk := hrow.take
  have hsm := hrow.small
  rcases hrow with ⟨rfl, rfl, rfl, rfl⟩ | ⟨y, rfl, hl, hm, hz, hc, hw⟩
  · refine wpList_append_own_none hgd s x t ho W.heap.size e i0 1 hu hi _ 0 [] hs hown0 hx ?_
    exact h _ _ _ hown0 (Nat.le_refl _) (by simp) (Nat.le_refl _) hb0
  · have hlb : len ≤ 140737488351232 := Nat.le_trans (Nat.le_mul_of_pos_right len hpos) hsm
    refine wpList_append_own _ hgd s x t ho W.heap.size e i0 (.int k 0) 1 bytes hu hi hz0 hz1 hz2 rfl (by decide) _ 0 [] hs hown0 y len cap ((zs.take len).map (Value.int k)) hx (by rw [List.length_map, htk]; omega) ?_ (ints_oneCell k _) (by unfold maxLen; omega) (by rw [Nat.zero_add]; omega) (by simp) ?_
    · intro j u hj
      rw [List.getElem?_map, List.getElem?_take] at hj
      by_cases hjl : j < len
      · rw [if_pos hjl] at hj
        have hlt : j < zs.length := by omega
        rw [List.getElem?_eq_getElem hlt] at hj
        simp at hj
        subst hj
        have hcj := hc j hlt
        rw [List.getD_eq_getElem?_getD, List.getElem?_eq_getElem hlt] at hcj
        exact (World.grownBy_alloc W _ none).cell hcj (by simp)
      · rw [if_neg hjl] at hj
        simp at hj
    · intro v' w' hown' hg hiff
      rw [Nat.zero_add, List.nil_append] at hown'
      rcases hown'.2 with ⟨hnil, _⟩ | ⟨gb, c, cur, rfl, hgb, hh, hlc, _⟩
      · have := (hiff.1 hnil).1
        cases this
      · exact h gb c w' hown' hgb (lt_of_block hh) hlc (hb0.grown hg (by simp) (fun q hq => by cases hq; exact Nat.le_refl _))

end Go.Proofs.YtodlejemkihjnaaDoor

/-
  Slices of ints that came in, and what the second form's bound gives.
-/
namespace Go.Proofs.YtodlejemkihjnaaDoor
open Go.ChangeShapes Go.WideShapes Go.ChangeAt Go.RowKit

theorem wf_i64 {n : Int} (h : (Lit.int .i64 n).wf = true) : -9223372036854775808 ≤ n ∧ n ≤ 9223372036854775807 := by simpa using bounds_i64 h

theorem IsRow.wf {k : IntKind} {bytes : Nat} {w : World} {a : Option Addr} {len cap : Nat} {zs : List Int} (h : IsRow k bytes w a len cap zs) {i : Nat} (hi : i < len) : (Lit.int k (zs.getD i 0)).wf = true := by
  rcases h with ⟨_, rfl, _⟩ | ⟨x, rfl, hl, hm, hz, hc, hw⟩
  · omega
  · have hlt : i < zs.length := by omega
    have hm : zs.getD i 0 ∈ zs := by rw [List.getD_eq_getElem?_getD, List.getElem?_eq_getElem hlt]; simp
    exact hw _ hm

theorem IsRow.int_at {w : World} {a : Option Addr} {len cap : Nat} {zs : List Int} (h : IsRow .i64 8 w a len cap zs) {i : Nat} (hi : i < len) : ∃ b o, a = some ⟨b, o, none⟩ ∧ w.cell? ⟨b, o + i, none⟩ = some (.int .i64 (zs.getD i 0)) ∧ -9223372036854775808 ≤ zs.getD i 0 ∧ zs.getD i 0 ≤ 9223372036854775807 := by
  have hw := wf_i64 (h.wf hi)
  rcases h with ⟨_, rfl, _⟩ | ⟨x, rfl, hl, hm, hz, hc, _⟩
  · omega
  · have hlt : i < zs.length := by omega
    have hci := hc i hlt
    obtain ⟨b, o, sp⟩ := x
    have hsp : sp = none := by simpa [Addr.add] using World.cell?_spot (hc 0 (by omega))
    subst hsp
    refine ⟨b, o, rfl, ?_, hw⟩
    have e : ((⟨b, o, none⟩ : Addr).add i) = ⟨b, o + i, none⟩ := by
      by_cases h0 : i = 0 <;> simp [Addr.add, h0]
    rw [e] at hci
    exact hci

theorem bulk_one {H : Type} (d : DataW H) : 1 ≤ Rows.uptoBulk d := by
  cases d with
  | lit l => cases l <;> simp [Rows.uptoBulk]
  | nil => simp [Rows.uptoBulk]
  | ptr d => simp [Rows.uptoBulk]
  | slice elems spare => simp [Rows.uptoBulk]
  | agg parts => simp [Rows.uptoBulk]
  | iface t d => simp [Rows.uptoBulk]
  | map entries => simp [Rows.uptoBulk]
  | held h => simp [Rows.uptoBulk]

theorem bulk_part {H : Type} {d : DataW H} {l : List (DataW H)} (h : d ∈ l) : Rows.uptoBulk d ≤ Rows.uptoBulkAll l := by
  induction l with
  | nil => cases h
  | cons x r ih =>
    simp only [Rows.uptoBulkAll]
    cases List.mem_cons.1 h with
    | inl e => subst e; omega
    | inr e => have := ih e; omega

theorem bulk_length {H : Type} (l : List (DataW H)) : l.length ≤ Rows.uptoBulkAll l := by
  induction l with
  | nil => simp [Rows.uptoBulkAll]
  | cons x r ih => have := bulk_one x; simp only [Rows.uptoBulkAll, List.length_cons]; omega

theorem IsRow.upto {H : Type} {enc : TypeId × Value → H} {W : World} {t e : TypeId} {k : IntKind} {a : Option Addr} {len cap : Nat} {d : DataW H} {p : List MemPlace} {ds : List (DataW H)} (hk : Rows.uptoSmall H ds = true) {j : Nat}
    (ht : Tryd.prog.underlying t = some (.slice e)) (he : Tryd.prog.underlying e = some (.int k)) (hc : Tryd.prog.cellsOf e = 1)
    (h : DataW.Trod enc Tryd.prog W 0 (fun _ => true) true t (.slice a len cap) d p) (hds : ds[j]? = some d) : len ≤ 1048576 := by
  have hb := of_decide_eq_true hk
  have hp := bulk_part (List.mem_of_getElem? hds)
  obtain ⟨fuel, hf⟩ := h
  rcases open_ints ht he hc hf with ⟨hcs, _⟩ | ⟨x, l, c, zs, hcs, _, hl, hm, hz, hx, hcell, hwz⟩
  · simp [Value.cells] at hcs
    omega
  · simp [Value.cells] at hcs
    obtain ⟨rfl, rfl, rfl⟩ := hcs
    simp only [Prod.mk.injEq] at hx
    obtain ⟨rfl, _⟩ := hx
    have hz' : zs.length = cap := by simpa using hz
    have h1 := bulk_length (H := H) (lits k (zs.take len))
    simp only [Rows.uptoBulk] at hp
    simp only [lits, List.length_map, List.length_take] at h1
    simp only [lits] at hp
    omega

end Go.Proofs.YtodlejemkihjnaaDoor
