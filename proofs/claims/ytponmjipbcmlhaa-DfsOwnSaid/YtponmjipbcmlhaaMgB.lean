import Derived.Test.YtponmjipbcmlhaaProg
import Derived.Test.YtponmjipbcmlhaaMgA
import Derived.WalkKit
import Derived.WalkSpells
import Derived.WalkLawsBesides
import Derived.Sort.Grow
import Derived.Deep.RegionHeld3
import Derived.Laws.OwnMore
/-
  Memory: the words by which the walks say what lies where, and their small laws.
-/
namespace Go.Proofs.Ytponmjipbcmlhaa
open Go.RowKit

theorem Nu.hid {p : Prop} (h : p) : Hid p := h

/-- The bytes g 0 .. g (n - 1) lie at ao. -/
def HasText (w : World) (ao : Option Addr) (n : Nat) (g : Nat → Int) : Prop :=
  ∀ i, i < n → (0 ≤ g i ∧ g i ≤ 255) ∧ ∃ tb to, ao = some ⟨tb, to, none⟩ ∧ w.cell? ⟨tb, to + i, none⟩ = some (.int .u8 (g i))

def Apart (ao : Option Addr) (b : Nat) : Prop := ∀ x, ao = some x → x.block ≠ b

section
variable {w w' : World} {b : Nat} {ao : Option Addr} {n cap p : Nat} {g : Nat → Int}

theorem grownBy_setCell {w0 : World} (h : w0.grownBy w (some b)) (i : Nat) (v : Value) : w0.grownBy (w.setCell ⟨b, i, none⟩ v) (some b) := by
  refine ⟨h.os, h.tape, h.output, by simpa using h.size, fun k hk hne => ?_⟩
  rw [heap_setCell_other w ⟨b, i, none⟩ k v (fun e => hne (by rw [e])), h.block k hk hne]
theorem grownBy_trans {w0 w1 w2 : World} {r : Option Nat} (h : w0.grownBy w1 r) (k : w1.grownBy w2 r) : w0.grownBy w2 r :=
  ⟨k.os.trans h.os, k.tape.trans h.tape, k.output.trans h.output, Nat.le_trans h.size k.size, fun i hi hne => (k.block i (Nat.lt_of_lt_of_le hi h.size) hne).trans (h.block i hi hne)⟩
theorem grownBy_drewN {w0 : World} {r : Option Nat} (h : w0.grownBy w r) (k : Nat) : w0.grownBy (w.drewN k) r := ⟨h.os, h.tape, h.output, h.size, h.block⟩
theorem grownBy_drew {w0 : World} {r : Option Nat} (h : w0.grownBy w r) : w0.grownBy w.drew r := ⟨h.os, h.tape, h.output, h.size, h.block⟩
theorem grownBy_alloc' {w0 : World} {r : Option Nat} (h : w0.grownBy w r) (o : Obj) : w0.grownBy (w.alloc o) r := grownBy_trans h (World.grownBy_alloc w o r)

/-- Four stores into block B. -/
def put4 (w : World) (B : Nat) (a b c d : Value) : World := (((w.setCell ⟨B, 0, none⟩ a).setCell ⟨B, 1, none⟩ b).setCell ⟨B, 2, none⟩ c).setCell ⟨B, 3, none⟩ d
theorem put4_heap {B : Nat} {t : TypeId} {x0 x1 x2 x3 : Value} (h : w.heap[B]? = some (.cells #[x0, x1, x2, x3] t (0, 0))) (a b c d : Value) : (put4 w B a b c d).heap[B]? = some (.cells #[a, b, c, d] t (0, 0)) := by
  have h1 := heap_setCell_same w B 0 _ t a h
  have h2 := heap_setCell_same _ B 1 _ t b h1
  have h3 := heap_setCell_same _ B 2 _ t c h2
  have h4 := heap_setCell_same _ B 3 _ t d h3
  unfold put4
  simpa using h4
theorem put4_other {B k : Nat} (hk : k ≠ B) (a b c d : Value) : (put4 w B a b c d).heap[k]? = w.heap[k]? := by
  unfold put4
  rw [heap_setCell_other _ ⟨B, 3, none⟩ k d hk, heap_setCell_other _ ⟨B, 2, none⟩ k c hk, heap_setCell_other _ ⟨B, 1, none⟩ k b hk, heap_setCell_other _ ⟨B, 0, none⟩ k a hk]
theorem put4_size (B : Nat) (a b c d : Value) : (put4 w B a b c d).heap.size = w.heap.size := by simp [put4]
theorem grownBy_put4 {w0 : World} {r : Option Nat} (h : w0.grownBy w r) {B : Nat} (hB : w0.heap.size ≤ B) (x0 x1 x2 x3 : Value) : w0.grownBy (put4 w B x0 x1 x2 x3) r :=
  ⟨h.os, h.tape, h.output, by rw [put4_size]; exact h.size, fun k hk hne => (put4_other (by omega) x0 x1 x2 x3).trans (h.block k hk hne)⟩

theorem HasText.grown (h : HasText w ao n g) (hg : w.grownBy w' (some b)) (ha : Apart ao b) : HasText w' ao n g := by
  intro i hi
  obtain ⟨hb, tb, to, e, hc⟩ := h i hi
  exact ⟨hb, tb, to, e, hg.cell hc (by simpa using ha _ e)⟩
theorem HasText.alloc (h : HasText w ao n g) (o : Obj) : HasText (w.alloc o) ao n g := by
  intro i hi
  obtain ⟨hb, tb, to, e, hc⟩ := h i hi
  exact ⟨hb, tb, to, e, (World.grownBy_alloc w o none).cell hc (by simp)⟩
theorem HasText.drewN (h : HasText w ao n g) (k : Nat) : HasText (w.drewN k) ao n g := h
theorem HasText.grown0 (h : HasText w ao n g) (hg : w.grownBy w' none) : HasText w' ao n g := by
  intro i hi
  obtain ⟨hb, tb, to, e, hc⟩ := h i hi
  exact ⟨hb, tb, to, e, hg.cell hc (by simp)⟩
theorem HasText.later (h : HasText w ao n g) (hg : Below w.heap.size w w') : HasText w' ao n g := by
  intro i hi
  obtain ⟨hb, tb, to, e, hc⟩ := h i hi
  exact ⟨hb, tb, to, e, (hg.cell (p := ⟨tb, to + i, none⟩) (block_lt_of_cell hc)).trans hc⟩
theorem HasText.below {B : Nat} (h : HasText w ao n g) (hg : Below B w w') (ha : ∀ x, ao = some x → x.block < B) : HasText w' ao n g := by
  intro i hi
  obtain ⟨hb, tb, to, e, hc⟩ := h i hi
  exact ⟨hb, tb, to, e, (hg.cell (p := ⟨tb, to + i, none⟩) (show tb < B from ha _ e)).trans hc⟩
end

end Go.Proofs.Ytponmjipbcmlhaa

/-
  The order of edges as the program asks it: cmp.Compare, cmp.Or, compare; as the document does: Less.
-/
namespace Go.Proofs.Ytponmjipbcmlhaa
open Go.RowKit Go.Sort

/-- An edge as a value. -/
def edgeVal (e : Int × Int) : Value := .agg #[.int .i64 e.1, .int .i64 e.2]

theorem new2 (W : World) (k : Nat) (hk : W.heap.size = k) (x y : Value) (t : TypeId) : (W.alloc (.cells #[x, y] t)).cell? ⟨k, 0, none⟩ = some x ∧ (W.alloc (.cells #[x, y] t)).cell? ⟨k, 1, none⟩ = some y := by
  subst hk
  constructor <;> simp

theorem new2d (W : World) (k : Nat) (hk : W.heap.size = k) (x y : Value) (t : TypeId) : (W.alloc (.cells #[x, y] t)).drew.cell? ⟨k, 0, none⟩ = some x ∧ (W.alloc (.cells #[x, y] t)).drew.cell? ⟨k, 1, none⟩ = some y := new2 W k hk x y t

theorem size2 (W : World) (x y : Obj) : ((W.alloc x).alloc y).heap.size = W.heap.size + 1 + 1 := by simp

def Si.cmpInt (x y : Int) : Int := if x < y then -1 else if y < x then 1 else 0

set_option maxHeartbeats 400000 in
theorem cmpInt_any (x y : Int) (w : World) : Calls Try.prog 75 #[.int .i64 x, .int .i64 y] w fun e w' => e = .returned (.int .i64 (Si.cmpInt x y)) ∧ w' = w := by
  unfold Si.cmpInt
  by_cases h1 : x < y
  · rw [if_pos h1]
    go_enter Try.func75, Try.ntmps75
    go_wp2
    go_ret
    exact ⟨rfl, rfl⟩
  · rw [if_neg h1]
    by_cases h2 : y < x
    · rw [if_pos h2]
      go_enter Try.func75, Try.ntmps75
      go_wp2
      go_ret
      exact ⟨rfl, rfl⟩
    · rw [if_neg h2]
      go_enter Try.func75, Try.ntmps75
      go_wp2
      go_ret
      exact ⟨rfl, rfl⟩

def Si.orInt (p q : Int) : Int := if p ≠ 0 then p else q

theorem cf_or (a b : Int × Int) : Si.cf a b = Si.orInt (Si.cmpInt a.1 b.1) (Si.cmpInt a.2 b.2) := by
  unfold Si.cf Si.cmpInt Si.orInt
  by_cases h1 : a.1 < b.1
  · simp [h1]
  · by_cases h2 : b.1 < a.1
    · simp [h1, h2]
    · simp [h1, h2]

set_option maxHeartbeats 1000000 in
theorem or_any (p q : Int) (W : World) (b : Nat) (h0 : W.cell? ⟨b, 0, none⟩ = some (.int .i64 p)) (h1 : W.cell? ⟨b, 1, none⟩ = some (.int .i64 q)) : Calls Try.prog 74 #[.slice (some ⟨b, 0, none⟩) 2 2] W fun e w' => e = .returned (.int .i64 (Si.orInt p q)) ∧ w' = W := by
  unfold Si.orInt
  by_cases hp : p = 0
  · subst hp
    rw [if_neg (by simp)]
    by_cases hq : q = 0
    · subst hq
      go_enter Try.func74, Try.ntmps74
      go_wp2
      refine wp_loop_rounds 3 ?_
      rw [rounds_succ]
      go_wp2
      rw [rounds_succ]
      go_wp2
      rw [rounds_succ]
      go_wp2
      go_ret
      exact ⟨rfl, rfl⟩
    · go_enter Try.func74, Try.ntmps74
      go_wp2
      refine wp_loop_rounds 3 ?_
      rw [rounds_succ]
      go_wp2
      rw [rounds_succ]
      go_wp2
      go_ret
      exact ⟨rfl, rfl⟩
  · rw [if_pos hp]
    go_enter Try.func74, Try.ntmps74
    go_wp2
    refine wp_loop_rounds 3 ?_
    rw [rounds_succ]
    go_wp2
    go_ret
    exact ⟨rfl, rfl⟩

set_option maxRecDepth 100000 in
set_option maxHeartbeats 4000000 in
theorem compare_any (a b : Int × Int) (w : World) : Calls Try.prog 72 #[edgeVal a, edgeVal b] w fun e w' => e = .returned (.int .i64 (Si.cf a b)) ∧ ∃ q os', w' = grow (w.drewN q) os' := by
  rw [cf_or]
  unfold edgeVal
  go_enter Try.func72, Try.ntmps72
  go_wp2
  go_region_held3 (fun w' => w'.cell? ⟨w.heap.size, 0, none⟩ = some (.int .i64 a.1) ∧ w'.cell? ⟨w.heap.size, 1, none⟩ = some (.int .i64 a.2) ∧ w'.cell? ⟨w.heap.size + 1, 0, none⟩ = some (.int .i64 b.1) ∧ w'.cell? ⟨w.heap.size + 1, 1, none⟩ = some (.int .i64 b.2))
    (go_keep)
    (first
      | (go_at_call 75; refine (cmpInt_any _ _ _).mono ?_; rintro e w' ⟨rfl, rfl⟩)
      | (go_at_call 74; refine (or_any (Si.cmpInt a.1 b.1) (Si.cmpInt a.2 b.2) _ _ (new2d _ _ (size2 _ _ _) _ _ _).1 (new2d _ _ (size2 _ _ _) _ _ _).2).mono ?_; rintro e w' ⟨rfl, rfl⟩))
  go_wp2
  go_ret
  exact ⟨rfl, 1, _, by rw [alloc_eq_grow, alloc_eq_grow, grow_grow, alloc_eq_grow, grow_grow]; rfl⟩

theorem grow_below (w : World) (q : Nat) (os : Array Obj) : Below w.heap.size w (grow (w.drewN q) os) := by
  refine ⟨rfl, rfl, rfl, by simp [grow], fun k hk => ?_⟩
  simp [grow, Array.getElem?_append_left hk]

end Go.Proofs.Ytponmjipbcmlhaa

/-
  Edges and graphs in memory.
-/
namespace Go.Proofs.Ytponmjipbcmlhaa
open Go.RowKit

/-- The edges es lie at ao. -/
def EdgesAt (w : World) (ao : Option Addr) (es : List (Int × Int)) : Prop :=
  ∀ (j : Nat) (p : Int × Int), es[j]? = some p → ∃ b o : Nat, ao = some ⟨b, o, none⟩ ∧ w.cell? ⟨b, o + j * 2, none⟩ = some (.int .i64 p.1) ∧ w.cell? ⟨b, o + j * 2 + 1, none⟩ = some (.int .i64 p.2)

theorem EdgesAt.later {w w' : World} {ao : Option Addr} {es : List (Int × Int)} (h : EdgesAt w ao es) (hb : Below w.heap.size w w') : EdgesAt w' ao es := fun j p hj => by
  obtain ⟨b, o, e, h0, h1⟩ := h j p hj
  exact ⟨b, o, e, (hb.cell (p := ⟨b, o + j * 2, none⟩) (block_lt_of_cell h0)).trans h0, (hb.cell (p := ⟨b, o + j * 2 + 1, none⟩) (block_lt_of_cell h1)).trans h1⟩

theorem EdgesAt.nil (w : World) (ao : Option Addr) : EdgesAt w ao [] := fun j p hj => by simp at hj

/-- A graph as a value. -/
def graphVal (n : Int) (ao : Option Addr) (len cap : Nat) : Value := .agg #[.int .i64 n, .slice ao len cap]

end Go.Proofs.Ytponmjipbcmlhaa

/-
  A block of numbers that a call makes.
-/
namespace Go.Proofs.Ytponmjipbcmlhaa
open Go.RowKit

theorem Try.infoNum : (Try.prog.info? 3).map (fun i => (i.zero, i.size, i.bytes)) = some (some (.int .i64 0), 1, 8) := by kernel_rfl

/-- Block g holds just the numbers l. -/
def IntsBlk (w : World) (g : Nat) (l : List Int) : Prop := w.heap[g]? = some (.cells (l.map (Value.int .i64)).toArray 3 (0, 0))

section
variable {w w' : World} {g : Nat} {l : List Int}
theorem IntsBlk.lt (h : IntsBlk w g l) : g < w.heap.size := lt_of_block h
theorem IntsBlk.cell (h : IntsBlk w g l) {i : Nat} {x : Int} (hx : l[i]? = some x) : w.cell? ⟨g, i, none⟩ = some (.int .i64 x) := by
  unfold IntsBlk at h
  simp [World.cell?, h, hx]
theorem IntsBlk.free (h : IntsBlk w g l) (i : Nat) : w.frozen? ⟨g, i, none⟩ = false := by
  unfold IntsBlk at h
  simp [World.frozen?, h]
theorem IntsBlk.set (h : IntsBlk w g l) (i : Nat) (x : Int) : IntsBlk (w.setCell ⟨g, i, none⟩ (.int .i64 x)) g (l.set i x) := by
  unfold IntsBlk at h ⊢
  rw [heap_setCell_same w g i _ _ _ h]
  simp [List.map_set]
theorem IntsBlk.below {B : Nat} (h : IntsBlk w g l) (hb : Below B w w') (hB : g < B) : IntsBlk w' g l := (hb.block g hB).trans h
theorem IntsBlk.later (h : IntsBlk w g l) (hb : Below w.heap.size w w') : IntsBlk w' g l := (hb.block g h.lt).trans h
theorem IntsBlk.alloc (h : IntsBlk w g l) (o : Obj) : IntsBlk (w.alloc o) g l := (Below.heap_alloc w o g h.lt).trans h
end

theorem made_zeros (n : Nat) : (madeCells #[.int .i64 0] n).toList = (List.replicate n (0 : Int)).map (Value.int .i64) := by
  rw [toList_madeCells_one, List.map_replicate]

/-- A list that was made at its full length. -/
theorem ints_of_row {w : World} {B g n : Nat} {xs : List Int} (h : w.ownsRow B 3 1 (.slice (some ⟨g, 0, none⟩) n n) n (xs.map (Value.int .i64))) : IntsBlk w g xs := by
  rcases h.2 with ⟨h, _⟩ | ⟨g', cap, cur, e, _, hh, _, _, hs, ht⟩
  · cases h
  cases e
  have e1 : cur.toList = xs.map (Value.int .i64) := by
    rw [← ht]
    exact (List.take_of_length_le (by simp; omega)).symm
  unfold IntsBlk
  rw [hh, ← e1]

end Go.Proofs.Ytponmjipbcmlhaa

/-
  Lists of ints in blocks of their own; which blocks a call writes.
-/
namespace Go.Proofs.Ytponmjipbcmlhaa
open Go.RowKit

/-- Block g begins with the numbers l. -/
def IntsIn (w : World) (g : Nat) (l : List Int) : Prop := ∃ rest : List Value, w.heap[g]? = some (.cells (l.map (Value.int .i64) ++ rest).toArray 3 (0, 0))

section
variable {w w' : World} {g : Nat} {l : List Int}
theorem IntsIn.lt (h : IntsIn w g l) : g < w.heap.size := by
  obtain ⟨rest, h⟩ := h
  exact lt_of_block h
theorem IntsIn.cell (h : IntsIn w g l) {i : Nat} {x : Int} (hx : l[i]? = some x) : w.cell? ⟨g, i, none⟩ = some (.int .i64 x) := by
  obtain ⟨rest, h⟩ := h
  have hl := (List.getElem?_eq_some_iff.1 hx).1
  have : (l.map (Value.int .i64) ++ rest)[i]? = some (.int .i64 x) := by
    rw [List.getElem?_append_left (by simpa using hl), List.getElem?_map, hx]
    rfl
  simp [World.cell?, h]
  simpa using this
theorem IntsIn.free (h : IntsIn w g l) (i : Nat) : w.frozen? ⟨g, i, none⟩ = false := by
  obtain ⟨rest, h⟩ := h
  simp [World.frozen?, h]
theorem IntsIn.set (h : IntsIn w g l) {i : Nat} (hi : i < l.length) (x : Int) : IntsIn (w.setCell ⟨g, i, none⟩ (.int .i64 x)) g (l.set i x) := by
  obtain ⟨rest, h⟩ := h
  refine ⟨rest, ?_⟩
  rw [heap_setCell_same w g i _ _ _ h]
  have e : ((l.map (Value.int .i64) ++ rest).toArray.setIfInBounds i (.int .i64 x)) = ((l.set i x).map (Value.int .i64) ++ rest).toArray := by
    rw [List.setIfInBounds_toArray, List.set_append_left _ _ (by simpa using hi), List.map_set]
  rw [e]
theorem IntsIn.other (h : IntsIn w g l) {b i : Nat} (hb : g ≠ b) (x : Value) : IntsIn (w.setCell ⟨b, i, none⟩ x) g l := by
  obtain ⟨rest, h⟩ := h
  exact ⟨rest, (heap_setCell_other w ⟨b, i, none⟩ g x hb).trans h⟩
theorem IntsIn.later (h : IntsIn w g l) (hb : Below w.heap.size w w') : IntsIn w' g l := by
  have hl := h.lt
  obtain ⟨rest, h⟩ := h
  exact ⟨rest, (hb.block g hl).trans h⟩
theorem IntsIn.alloc (h : IntsIn w g l) (o : Obj) : IntsIn (w.alloc o) g l := by
  have hl := h.lt
  obtain ⟨rest, h⟩ := h
  exact ⟨rest, (Below.heap_alloc w o g hl).trans h⟩
theorem IntsIn.drew (h : IntsIn w g l) : IntsIn w.drew g l := h
theorem IntsIn.drewN (h : IntsIn w g l) (k : Nat) : IntsIn (w.drewN k) g l := h
theorem IntsBlk.ins (h : IntsBlk w g l) : IntsIn w g l := ⟨[], by rw [List.append_nil]; exact h⟩
end

/-- A row of one's own as a block of ints. -/
theorem ints_in_row {w : World} {B g n c : Nat} {xs : List Int} (h : w.ownsRow B 3 1 (.slice (some ⟨g, 0, none⟩) n c) n (xs.map (Value.int .i64))) : IntsIn w g xs := by
  rcases h.2 with ⟨h, _⟩ | ⟨g', cap, cur, e, _, hh, _, _, hs, ht⟩
  · cases h
  cases e
  refine ⟨cur.toList.drop (n * 1), ?_⟩
  rw [← ht, List.take_append_drop]
  exact hh

/-- Only blocks of S are written, and new ones. -/
structure Wrote (S : Nat → Prop) (w w' : World) : Prop where
  os : w'.os = w.os
  tape : w'.tape = w.tape
  output : w'.output = w.output
  size : w.heap.size ≤ w'.heap.size
  block : ∀ k, k < w.heap.size → ¬ S k → w'.heap[k]? = w.heap[k]?

section
variable {S : Nat → Prop} {w w' w0 : World}
theorem Wrote.refl (S : Nat → Prop) (w : World) : Wrote S w w := ⟨rfl, rfl, rfl, Nat.le_refl _, fun _ _ _ => rfl⟩
theorem Wrote.trans (h : Wrote S w0 w) (k : Wrote S w w') : Wrote S w0 w' :=
  ⟨k.os.trans h.os, k.tape.trans h.tape, k.output.trans h.output, Nat.le_trans h.size k.size, fun i hi hn => (k.block i (Nat.lt_of_lt_of_le hi h.size) hn).trans (h.block i hi hn)⟩
theorem Wrote.setCell (h : Wrote S w0 w) {b i : Nat} (hb : S b) (x : Value) : Wrote S w0 (w.setCell ⟨b, i, none⟩ x) :=
  ⟨h.os, h.tape, h.output, by simpa using h.size, fun k hk hn => (heap_setCell_other w ⟨b, i, none⟩ k x (fun e => hn (by rw [e]; exact hb))).trans (h.block k hk hn)⟩
theorem Wrote.drew (h : Wrote S w0 w) : Wrote S w0 w.drew := ⟨h.os, h.tape, h.output, h.size, h.block⟩
theorem Wrote.drewN (h : Wrote S w0 w) (k : Nat) : Wrote S w0 (w.drewN k) := ⟨h.os, h.tape, h.output, h.size, h.block⟩
theorem Wrote.later (h : Wrote S w0 w) (hb : Below w.heap.size w w') : Wrote S w0 w' :=
  ⟨hb.os.trans h.os, hb.tape.trans h.tape, hb.output.trans h.output, Nat.le_trans h.size hb.size, fun k hk hn => (hb.block k (Nat.lt_of_lt_of_le hk h.size)).trans (h.block k hk hn)⟩
theorem Wrote.alloc (h : Wrote S w0 w) (o : Obj) : Wrote S w0 (w.alloc o) := h.later ((Below.refl _ _).alloc (Nat.le_refl _) o)
theorem Wrote.below {B : Nat} (h : Wrote S w w') (hB : B ≤ w.heap.size) (hS : ∀ k, S k → B ≤ k) : Below B w w' :=
  ⟨h.os, h.tape, h.output, h.size, fun k hk => h.block k (Nat.lt_of_lt_of_le hk hB) (fun hs => by have := hS k hs; omega)⟩
theorem Wrote.ints {g : Nat} {l : List Int} (h : Wrote S w w') (hi : IntsIn w g l) (hg : ¬ S g) : IntsIn w' g l := by
  have hl := hi.lt
  obtain ⟨rest, hi⟩ := hi
  exact ⟨rest, (h.block g hl hg).trans hi⟩
theorem Wrote.mono {S' : Nat → Prop} (h : Wrote S w w') (hS : ∀ k, k < w.heap.size → S k → S' k) : Wrote S' w w' :=
  ⟨h.os, h.tape, h.output, h.size, fun k hk hn => h.block k hk (fun hs => hn (hS k hk hs))⟩
end

end Go.Proofs.Ytponmjipbcmlhaa

/-
  An Adj in memory.
-/
namespace Go.Proofs.Ytponmjipbcmlhaa
open Go.RowKit

/-- A slice that is the whole of a block. -/
abbrev sl (g n : Nat) : Value := .slice (some ⟨g, 0, none⟩) n n

/-- Block p is an Adj over these blocks. -/
def AdjBlk (w : World) (p gd gs gh gp gt n M : Nat) : Prop := w.heap[p]? = some (.cells #[sl gd n, sl gs n, sl gh M, sl gp M, sl gt M] 81 (0, 0))

section
variable {w w' : World} {p gd gs gh gp gt n M : Nat}
theorem AdjBlk.lt (h : AdjBlk w p gd gs gh gp gt n M) : p < w.heap.size := lt_of_block h
theorem AdjBlk.later (h : AdjBlk w p gd gs gh gp gt n M) (hb : Below w.heap.size w w') : AdjBlk w' p gd gs gh gp gt n M := (hb.block p h.lt).trans h
theorem AdjBlk.other (h : AdjBlk w p gd gs gh gp gt n M) {b i : Nat} (hb : p ≠ b) (x : Value) : AdjBlk (w.setCell ⟨b, i, none⟩ x) p gd gs gh gp gt n M := (heap_setCell_other w ⟨b, i, none⟩ p x hb).trans h
theorem AdjBlk.wrote {S : Nat → Prop} (h : AdjBlk w p gd gs gh gp gt n M) (hw : Wrote S w w') (hp : ¬ S p) : AdjBlk w' p gd gs gh gp gt n M := (hw.block p h.lt hp).trans h
theorem AdjBlk.c0 (h : AdjBlk w p gd gs gh gp gt n M) : w.cell? ⟨p, 0, none⟩ = some (.slice (some ⟨gd, 0, none⟩) n n) := by unfold AdjBlk at h; simp [World.cell?, h]
theorem AdjBlk.c1 (h : AdjBlk w p gd gs gh gp gt n M) : w.cell? ⟨p, 1, none⟩ = some (.slice (some ⟨gs, 0, none⟩) n n) := by unfold AdjBlk at h; simp [World.cell?, h]
theorem AdjBlk.c2 (h : AdjBlk w p gd gs gh gp gt n M) : w.cell? ⟨p, 2, none⟩ = some (.slice (some ⟨gh, 0, none⟩) M M) := by unfold AdjBlk at h; simp [World.cell?, h]
theorem AdjBlk.c3 (h : AdjBlk w p gd gs gh gp gt n M) : w.cell? ⟨p, 3, none⟩ = some (.slice (some ⟨gp, 0, none⟩) M M) := by unfold AdjBlk at h; simp [World.cell?, h]
theorem AdjBlk.c4 (h : AdjBlk w p gd gs gh gp gt n M) : w.cell? ⟨p, 4, none⟩ = some (.slice (some ⟨gt, 0, none⟩) M M) := by unfold AdjBlk at h; simp [World.cell?, h]
end

end Go.Proofs.Ytponmjipbcmlhaa
