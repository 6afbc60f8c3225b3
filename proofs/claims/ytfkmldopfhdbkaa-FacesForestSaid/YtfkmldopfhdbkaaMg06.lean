import Derived.Test.YtfkmldopfhdbkaaMg04
import Derived.Test.YtfkmldopfhdbkaaMg01
import Derived.BigQuiet
import Derived.Deep.QuietTactic
/-
  Lists of ints in blocks of their own; which blocks a call writes.
-/
namespace Go.Proofs.Ytfkmldopfhdbkaa
open Go.RowKit

/-- Block g begins with the numbers l. -/
def IntsIn (w : World) (g : Nat) (l : List Int) : Prop := ∃ rest : List Value, w.heap[g]? = some (.cells (l.map (Value.int .i64) ++ rest).toArray 3 (0, 0))

section
variable {w w' : World} {g : Nat} {l : List Int}
theorem IntsIn.lt (h : IntsIn w g l) : g < w.heap.size := by
  obtain ⟨rest, h⟩ := h
  exact lt_of_block h
theorem IntsIn.cell (h : IntsIn w g l) {i : Nat} {x : Int} (hx : l[i]? = some x) : w.cell? ⟨g, i, none⟩ = some (.int .i64 x) := by
  obtain ⟨rest, h⟩ := h
  have hl := (List.getElem?_eq_some_iff.1 hx).1
  have : (l.map (Value.int .i64) ++ rest)[i]? = some (.int .i64 x) := by
    rw [List.getElem?_append_left (by simpa using hl), List.getElem?_map, hx]
    rfl
  simp [World.cell?, h]
  simpa using this
theorem IntsIn.free (h : IntsIn w g l) (i : Nat) : w.frozen? ⟨g, i, none⟩ = false := by
  obtain ⟨rest, h⟩ := h
  simp [World.frozen?, h]
theorem IntsIn.set (h : IntsIn w g l) {i : Nat} (hi : i < l.length) (x : Int) : IntsIn (w.setCell ⟨g, i, none⟩ (.int .i64 x)) g (l.set i x) := by
  obtain ⟨rest, h⟩ := h
  refine ⟨rest, ?_⟩
  rw [heap_setCell_same w g i _ _ _ h]
  have e : ((l.map (Value.int .i64) ++ rest).toArray.setIfInBounds i (.int .i64 x)) = ((l.set i x).map (Value.int .i64) ++ rest).toArray := by
    rw [List.setIfInBounds_toArray, List.set_append_left _ _ (by simpa using hi), List.map_set]
  rw [e]
theorem IntsIn.other (h : IntsIn w g l) {b i : Nat} (hb : g ≠ b) (x : Value) : IntsIn (w.setCell ⟨b, i, none⟩ x) g l := by
  obtain ⟨rest, h⟩ := h
  exact ⟨rest, (heap_setCell_other w ⟨b, i, none⟩ g x hb).trans h⟩
theorem IntsIn.later (h : IntsIn w g l) (hb : Below w.heap.size w w') : IntsIn w' g l := by
  have hl := h.lt
  obtain ⟨rest, h⟩ := h
  exact ⟨rest, (hb.block g hl).trans h⟩
theorem IntsIn.alloc (h : IntsIn w g l) (o : Obj) : IntsIn (w.alloc o) g l := by
  have hl := h.lt
  obtain ⟨rest, h⟩ := h
  exact ⟨rest, (Below.heap_alloc w o g hl).trans h⟩
theorem IntsIn.drew (h : IntsIn w g l) : IntsIn w.drew g l := h
theorem IntsIn.drewN (h : IntsIn w g l) (k : Nat) : IntsIn (w.drewN k) g l := h
theorem IntsBlk.ins (h : IntsBlk w g l) : IntsIn w g l := ⟨[], by rw [List.append_nil]; exact h⟩
end

/-- A row of one's own as a block of ints. -/
theorem ints_in_row {w : World} {B g n c : Nat} {xs : List Int} (h : w.ownsRow B 3 1 (.slice (some ⟨g, 0, none⟩) n c) n (xs.map (Value.int .i64))) : IntsIn w g xs := by
  rcases h.2 with ⟨h, _⟩ | ⟨g', cap, cur, e, _, hh, _, _, hs, ht⟩
  · cases h
  cases e
  refine ⟨cur.toList.drop (n * 1), ?_⟩
  rw [← ht, List.take_append_drop]
  exact hh

/-- Only blocks of S are written, and new ones. -/
structure Wrote (S : Nat → Prop) (w w' : World) : Prop where
  os : w'.os = w.os
  tape : w'.tape = w.tape
  output : w'.output = w.output
  size : w.heap.size ≤ w'.heap.size
  block : ∀ k, k < w.heap.size → ¬ S k → w'.heap[k]? = w.heap[k]?

section
variable {S : Nat → Prop} {w w' w0 : World}
theorem Wrote.refl (S : Nat → Prop) (w : World) : Wrote S w w := ⟨rfl, rfl, rfl, Nat.le_refl _, fun _ _ _ => rfl⟩
theorem Wrote.trans (h : Wrote S w0 w) (k : Wrote S w w') : Wrote S w0 w' :=
  ⟨k.os.trans h.os, k.tape.trans h.tape, k.output.trans h.output, Nat.le_trans h.size k.size, fun i hi hn => (k.block i (Nat.lt_of_lt_of_le hi h.size) hn).trans (h.block i hi hn)⟩
theorem Wrote.setCell (h : Wrote S w0 w) {b i : Nat} (hb : S b) (x : Value) : Wrote S w0 (w.setCell ⟨b, i, none⟩ x) :=
  ⟨h.os, h.tape, h.output, by simpa using h.size, fun k hk hn => (heap_setCell_other w ⟨b, i, none⟩ k x (fun e => hn (by rw [e]; exact hb))).trans (h.block k hk hn)⟩
theorem Wrote.drew (h : Wrote S w0 w) : Wrote S w0 w.drew := ⟨h.os, h.tape, h.output, h.size, h.block⟩
theorem Wrote.drewN (h : Wrote S w0 w) (k : Nat) : Wrote S w0 (w.drewN k) := ⟨h.os, h.tape, h.output, h.size, h.block⟩
theorem Wrote.later (h : Wrote S w0 w) (hb : Below w.heap.size w w') : Wrote S w0 w' :=
  ⟨hb.os.trans h.os, hb.tape.trans h.tape, hb.output.trans h.output, Nat.le_trans h.size hb.size, fun k hk hn => (hb.block k (Nat.lt_of_lt_of_le hk h.size)).trans (h.block k hk hn)⟩
theorem Wrote.alloc (h : Wrote S w0 w) (o : Obj) : Wrote S w0 (w.alloc o) := h.later ((Below.refl _ _).alloc (Nat.le_refl _) o)
theorem Wrote.below {B : Nat} (h : Wrote S w w') (hB : B ≤ w.heap.size) (hS : ∀ k, S k → B ≤ k) : Below B w w' :=
  ⟨h.os, h.tape, h.output, h.size, fun k hk => h.block k (Nat.lt_of_lt_of_le hk hB) (fun hs => by have := hS k hs; omega)⟩
theorem Wrote.ints {g : Nat} {l : List Int} (h : Wrote S w w') (hi : IntsIn w g l) (hg : ¬ S g) : IntsIn w' g l := by
  have hl := hi.lt
  obtain ⟨rest, hi⟩ := hi
  exact ⟨rest, (h.block g hl hg).trans hi⟩
theorem Wrote.mono {S' : Nat → Prop} (h : Wrote S w w') (hS : ∀ k, k < w.heap.size → S k → S' k) : Wrote S' w w' :=
  ⟨h.os, h.tape, h.output, h.size, fun k hk hn => h.block k hk (fun hs => hn (hS k hk hs))⟩
end

end Go.Proofs.Ytfkmldopfhdbkaa

/-
  A Sets in memory; its root, holds, has, Count, Least, Size, Same.
-/
namespace Go.Proofs.Ytfkmldopfhdbkaa
open Go.RowKit

namespace Co
/-- The first n values of a function, as ints. -/
def ints (n : Nat) (f : Nat → Nat) : List Int := (List.range n).map fun i => (f i : Int)
theorem ints_length (n : Nat) (f : Nat → Nat) : (ints n f).length = n := by simp [ints]
theorem ints_at {n i : Nat} {f : Nat → Nat} (h : i < n) : (ints n f)[i]? = some (f i : Int) := by
  unfold ints
  rw [List.getElem?_map, List.getElem?_range h]
  rfl
theorem ints_congr {n : Nat} {f g : Nat → Nat} (h : ∀ i, i < n → f i = g i) : ints n f = ints n g := by
  unfold ints
  exact List.map_congr_left fun i hi => by rw [h i (List.mem_range.1 hi)]
theorem ints_set {n i : Nat} {f : Nat → Nat} (x : Nat) (_ : i < n) : (ints n f).set i (x : Int) = ints n (upd f i x) := by
  refine List.ext_getElem? fun j => ?_
  rw [List.getElem?_set, ints_length]
  by_cases hj : j < n
  · rw [ints_at hj, ints_at hj]
    by_cases e : i = j
    · subst e
      rw [if_pos rfl, if_pos hj, upd_same]
    · rw [if_neg e, upd_other _ (Ne.symm e)]
  · rw [List.getElem?_eq_none (by rw [ints_length]; omega), List.getElem?_eq_none (by rw [ints_length]; omega)]
    by_cases e : i = j
    · rw [if_pos e, if_neg (by omega)]
    · rw [if_neg e]
theorem ints_zero (n : Nat) : ints n (fun _ => 0) = List.replicate n 0 := by
  refine List.ext_getElem? fun j => ?_
  rw [List.getElem?_replicate]
  by_cases hj : j < n
  · rw [ints_at hj, if_pos hj]; rfl
  · rw [List.getElem?_eq_none (by rw [ints_length]; omega), if_neg hj]
end Co

/-- Block g holds n trees: sizes S, least numbers L. -/
def TreesIn (w : World) (g n : Nat) (S L : Nat → Nat) : Prop := ∃ cs : List Value, w.heap[g]? = some (.cells cs.toArray 97 (0, 0)) ∧ cs.length = n * 2 ∧ ∀ i, i < n → cs[i * 2]? = some (.int .i64 (S i : Int)) ∧ cs[i * 2 + 1]? = some (.int .i64 (L i : Int))

section
variable {w w' : World} {g n : Nat} {S L : Nat → Nat}
theorem TreesIn.lt (h : TreesIn w g n S L) : g < w.heap.size := by
  obtain ⟨cs, h, _⟩ := h
  exact lt_of_block h
theorem TreesIn.cell (h : TreesIn w g n S L) {i : Nat} (hi : i < n) : w.cell? ⟨g, i * 2, none⟩ = some (.int .i64 (S i : Int)) ∧ w.cell? ⟨g, i * 2 + 1, none⟩ = some (.int .i64 (L i : Int)) := by
  obtain ⟨cs, h, hl, hc⟩ := h
  obtain ⟨h1, h2⟩ := hc i hi
  simp [World.cell?, h, h1, h2]
theorem TreesIn.free (h : TreesIn w g n S L) (i : Nat) : w.frozen? ⟨g, i, none⟩ = false := by
  obtain ⟨cs, h, _⟩ := h
  simp [World.frozen?, h]
theorem TreesIn.same (h : TreesIn w g n S L) (hb : w'.heap[g]? = w.heap[g]?) : TreesIn w' g n S L := by
  obtain ⟨cs, h, hr⟩ := h
  exact ⟨cs, hb.trans h, hr⟩
theorem TreesIn.congr {S' L' : Nat → Nat} (h : TreesIn w g n S L) (h1 : ∀ i, i < n → S i = S' i) (h2 : ∀ i, i < n → L i = L' i) : TreesIn w g n S' L' := by
  obtain ⟨cs, h, hl, hc⟩ := h
  exact ⟨cs, h, hl, fun i hi => by rw [← h1 i hi, ← h2 i hi]; exact hc i hi⟩
theorem TreesIn.put (h : TreesIn w g n S L) {i : Nat} (hi : i < n) (s l : Nat) :
    TreesIn ((w.setCell ⟨g, i * 2, none⟩ (.int .i64 (s : Int))).setCell ⟨g, i * 2 + 1, none⟩ (.int .i64 (l : Int))) g n (Co.upd S i s) (Co.upd L i l) ∧ (w.setCell ⟨g, i * 2, none⟩ (.int .i64 (s : Int))).cell? ⟨g, i * 2 + 1, none⟩ = some (.int .i64 (L i : Int)) ∧ (w.setCell ⟨g, i * 2, none⟩ (.int .i64 (s : Int))).frozen? ⟨g, i * 2 + 1, none⟩ = false := by
  obtain ⟨cs, h, hl, hc⟩ := h
  have h1 := heap_setCell_same w g (i * 2) _ _ (.int .i64 (s : Int)) h
  have h2 := heap_setCell_same _ g (i * 2 + 1) _ _ (.int .i64 (l : Int)) h1
  rw [List.setIfInBounds_toArray] at h1
  rw [List.setIfInBounds_toArray, List.setIfInBounds_toArray] at h2
  refine ⟨⟨_, h2, by simp [hl], fun j hj => ?_⟩, ?_, by simp [World.frozen?, h1]⟩
  · obtain ⟨c1, c2⟩ := hc j hj
    by_cases e : j = i
    · subst e
      rw [Co.upd_same, Co.upd_same]
      constructor
      · rw [List.getElem?_set, if_neg (by omega), List.getElem?_set, if_pos rfl, if_pos (by omega)]
      · rw [List.getElem?_set, if_pos rfl, if_pos (by simp; omega)]
    · rw [Co.upd_other _ e, Co.upd_other _ e]
      constructor
      · rw [List.getElem?_set, if_neg (by omega), List.getElem?_set, if_neg (by omega)]; exact c1
      · rw [List.getElem?_set, if_neg (by omega), List.getElem?_set, if_neg (by omega)]; exact c2
  · have : (cs.set (i * 2) (.int .i64 (s : Int)))[i * 2 + 1]? = some (.int .i64 (L i : Int)) := by
      rw [List.getElem?_set, if_neg (by omega)]
      exact (hc i hi).2
    simp [World.cell?, h1, this]
end

/-- What the blocks of a Sets hold. -/
structure SetsHolds (w : World) (p gp gt n c : Nat) (P S L : Nat → Nat) : Prop where
  blk : w.heap[p]? = some (.cells #[.slice (some ⟨gp, 0, none⟩) n n, .slice (some ⟨gt, 0, none⟩) n n, .int .i64 (c : Int)] 95 (0, 0))
  par : IntsIn w gp (Co.ints n P)
  tre : TreesIn w gt n S L
  d1 : p ≠ gp
  d2 : p ≠ gt
  d3 : gp ≠ gt

/-- Block p is a Sets of n numbers with the sets m, over the blocks gp and gt. -/
def SetsOf (w : World) (p gp gt n : Nat) (m : Nat → Nat) : Prop := n ≤ 1048576 ∧ ∃ P S L r d, SetsHolds w p gp gt n (Co.cnt n m) P S L ∧ Co.Forest n P S L m r d

/-- v is a Sets of n numbers with the sets m: nil for none. -/
def IsSets (w : World) (v : Option Addr) (n : Nat) (m : Nat → Nat) : Prop := (v = none ∧ n = 0) ∨ ∃ p gp gt, v = some ⟨p, 0, none⟩ ∧ SetsOf w p gp gt n m

section
variable {w w' : World} {p gp gt n c : Nat} {P S L : Nat → Nat}
theorem SetsHolds.lt (h : SetsHolds w p gp gt n c P S L) : p < w.heap.size := lt_of_block h.blk
theorem SetsHolds.same (h : SetsHolds w p gp gt n c P S L) (hk : ∀ k, (k = p ∨ k = gp ∨ k = gt) → k < w.heap.size → w'.heap[k]? = w.heap[k]?) : SetsHolds w' p gp gt n c P S L := by
  have hl := h.par.lt
  obtain ⟨rest, hp⟩ := h.par
  exact ⟨(hk p (.inl rfl) h.lt).trans h.blk, ⟨rest, (hk gp (.inr (.inl rfl)) hl).trans hp⟩, h.tre.same (hk gt (.inr (.inr rfl)) h.tre.lt), h.d1, h.d2, h.d3⟩
theorem SetsHolds.c0 (h : SetsHolds w p gp gt n c P S L) : w.cell? ⟨p, 0, none⟩ = some (.slice (some ⟨gp, 0, none⟩) n n) := by simp [World.cell?, h.blk]
theorem SetsHolds.c1 (h : SetsHolds w p gp gt n c P S L) : w.cell? ⟨p, 1, none⟩ = some (.slice (some ⟨gt, 0, none⟩) n n) := by simp [World.cell?, h.blk]
theorem SetsHolds.c2 (h : SetsHolds w p gp gt n c P S L) : w.cell? ⟨p, 2, none⟩ = some (.int .i64 (c : Int)) := by simp [World.cell?, h.blk]
theorem SetsHolds.free (h : SetsHolds w p gp gt n c P S L) (i : Nat) : w.frozen? ⟨p, i, none⟩ = false := by simp [World.frozen?, h.blk]
end

section
variable {w w' : World} {p gp gt n : Nat} {m : Nat → Nat} {v : Option Addr}
theorem SetsOf.same (h : SetsOf w p gp gt n m) (hk : ∀ k, (k = p ∨ k = gp ∨ k = gt) → k < w.heap.size → w'.heap[k]? = w.heap[k]?) : SetsOf w' p gp gt n m := by
  obtain ⟨hn, P, S, L, r, d, h, hf⟩ := h
  exact ⟨hn, P, S, L, r, d, h.same hk, hf⟩
theorem SetsOf.later (h : SetsOf w p gp gt n m) (hb : Below w.heap.size w w') : SetsOf w' p gp gt n m := h.same fun k _ h2 => hb.block k h2
theorem SetsOf.wrote {R : Nat → Prop} (h : SetsOf w p gp gt n m) (hb : Wrote R w w') (h1 : ¬ R p) (h2 : ¬ R gp) (h3 : ¬ R gt) : SetsOf w' p gp gt n m := h.same fun k hk hl => hb.block k hl (by rcases hk with rfl | rfl | rfl <;> assumption)
theorem SetsOf.lts (h : SetsOf w p gp gt n m) : p < w.heap.size ∧ gp < w.heap.size ∧ gt < w.heap.size := by
  obtain ⟨_, _, _, _, _, _, h, _⟩ := h
  exact ⟨h.lt, h.par.lt, h.tre.lt⟩
theorem SetsOf.norm (h : SetsOf w p gp gt n m) : Co.Norm n m := by
  obtain ⟨_, _, _, _, _, _, _, hf⟩ := h
  exact hf.norm
theorem SetsOf.congr {m' : Nat → Nat} (h : SetsOf w p gp gt n m) (e : ∀ x, x < n → m x = m' x) : SetsOf w p gp gt n m' := by
  obtain ⟨hn, P, S, L, r, d, h, hf⟩ := h
  have hc : Co.cnt n m = Co.cnt n m' := Co.cntTo_congr n fun i hi => by rw [e i hi]
  have hs : ∀ x, x < n → Co.size n m x = Co.size n m' x := fun x hx => Co.cntTo_congr n fun i hi => by rw [e i hi, e x hx]
  rw [hc] at h
  refine ⟨hn, P, S, L, r, d, h, ⟨⟨fun x hx => by rw [← e x hx]; exact hf.norm.le x hx, fun x hx => ?_⟩, hf.lt, hf.rt, hf.top, hf.up, hf.self, hf.deep, fun x y hx hy => by rw [← e x hx, ← e y hy]; exact hf.same x y hx hy, fun x hx => by rw [← hs x hx]; exact hf.sz x hx, fun x hx => by rw [← e x hx]; exact hf.ls x hx⟩⟩
  have := hf.norm.lt hx
  rw [← e x hx, ← e _ this]
  exact hf.norm.idem x hx
theorem IsSets.later (h : IsSets w v n m) (hb : Below w.heap.size w w') : IsSets w' v n m := by
  rcases h with h | ⟨p, gp, gt, h1, h3⟩
  · exact .inl h
  · exact .inr ⟨p, gp, gt, h1, h3.later hb⟩
theorem IsSets.drewN (h : IsSets w v n m) (k : Nat) : IsSets (w.drewN k) v n m := h.later (below_drewN (Below.refl _ _) k)
theorem IsSets.bound (h : IsSets w v n m) : n ≤ 1048576 := by
  rcases h with ⟨_, rfl⟩ | ⟨p, gp, gt, _, h, _⟩
  · omega
  · exact h
theorem IsSets.norm (h : IsSets w v n m) : Co.Norm n m := by
  rcases h with ⟨_, rfl⟩ | ⟨p, gp, gt, _, h⟩
  · exact ⟨fun x hx => by omega, fun x hx => by omega⟩
  · exact h.norm
end

set_option maxRecDepth 100000 in
set_option maxHeartbeats 1000000 in
theorem root_any (gp n : Nat) (P r d : Nat → Nat) (a : Nat) (w : World) (hp : IntsIn w gp (Co.ints n P)) (lt : ∀ x, x < n → P x < n) (self : ∀ x, x < n → P x = x → r x = x) (up : ∀ x, x < n → r (P x) = r x) (deep : ∀ x, x < n → P x ≠ x → d (P x) < d x) (ha : a < n) :
    Calls Try.prog 59 #[.slice (some ⟨gp, 0, none⟩) n n, .int .i64 (a : Int)] w fun e w' => e = .returned (.int .i64 (r a : Int)) ∧ w' = w := by
  have HP := Nu.hid hp
  have HLT := Nu.hid lt
  have HSELF := Nu.hid self
  have HUP := Nu.hid up
  have HDEEP := Nu.hid deep
  clear hp lt self up deep
  go_enter Try.func59, Try.ntmps59
  go_wp2
  go_loopw [1] (fun c wr => ∃ x : Nat, x < n ∧ c = .int .i64 (x : Int) ∧ r x = r a ∧ wr = w) (fun c _ => d (intOf c).toNat)
  case atStart => exact ⟨a, ha, rfl, rfl, rfl⟩
  case round =>
    obtain ⟨x, hx, rfl, hr, rfl⟩ := hrel
    have c0 := HP.out.cell (Co.ints_at (f := P) hx)
    have x0 : (0 : Int) ≤ (x : Int) := by omega
    have x1 : (x : Int) < (n : Int) := by omega
    have HR := Nu.hid hr
    clear hr
    by_cases e : P x = x
    · have hd : ((P x : Int) != (x : Int)) = false := by simp [e]
      have hs := HSELF.out x hx e
      have HS := Nu.hid (hs.symm.trans HR.out)
      clear hs e
      go_wp2
      go_ret
      exact ⟨by rw [← HS.out]; rfl, rfl⟩
    · have hd : ((P x : Int) != (x : Int)) = true := by simp; omega
      have HE := Nu.hid e
      clear e
      go_wp2
      go_roundw
      case rel => exact ⟨P x, HLT.out x hx, rfl, (HUP.out x hx).trans HR.out, by first | rfl | trivial⟩
      case measure => exact HDEEP.out x hx HE.out

set_option maxRecDepth 100000 in
set_option maxHeartbeats 1000000 in
theorem holds_any (ao : Option Addr) (n c : Nat) (x : Int) (w : World) : Calls Try.prog 75 #[.slice ao n c, .int .i64 x] w fun e w' => e = .returned (.bool (decide (Co.isIn n x))) ∧ w' = w := by
  by_cases h1 : 0 ≤ x
  · by_cases h2 : x < (n : Int)
    · rw [decide_eq_true (show Co.isIn n x from ⟨h1, h2⟩)]
      go_enter Try.func75, Try.ntmps75
      go_wp2
      go_ret
      exact ⟨rfl, rfl⟩
    · rw [decide_eq_false (fun h : Co.isIn n x => h2 h.2)]
      go_enter Try.func75, Try.ntmps75
      go_wp2
      go_ret
      exact ⟨rfl, rfl⟩
  · rw [decide_eq_false (fun h : Co.isIn n x => h1 h.1)]
    go_enter Try.func75, Try.ntmps75
    go_wp2
    go_ret
    exact ⟨rfl, rfl⟩

set_option maxRecDepth 100000 in
set_option maxHeartbeats 1000000 in
theorem has_any (v : Option Addr) (n : Nat) (m : Nat → Nat) (x : Int) (w : World) (h : IsSets w v n m) : Calls Try.prog 58 #[.pointer v, .int .i64 x] w fun e w' => e = .returned (.bool (decide (Co.isIn n x))) ∧ w' = w := by
  rcases h with ⟨rfl, rfl⟩ | ⟨p, gp, gt, rfl, hn, P, S, L, r, d, h, hf⟩
  · rw [decide_eq_false (fun h : Co.isIn 0 x => by unfold Co.isIn at h; omega)]
    go_enter Try.func58, Try.ntmps58
    go_wp2
    go_ret
    exact ⟨rfl, rfl⟩
  · have c0 := h.c0
    have HH := Nu.hid (holds_any (some ⟨gp, 0, none⟩) n n x w)
    clear h hf
    go_enter Try.func58, Try.ntmps58
    go_wp2_with (go_at_call 75; refine HH.out.mono ?_; rintro e w1 ⟨rfl, rfl⟩)
    go_ret
    exact ⟨rfl, rfl⟩

set_option maxRecDepth 100000 in
set_option maxHeartbeats 1000000 in
theorem count_any (v : Option Addr) (n : Nat) (m : Nat → Nat) (w : World) (h : IsSets w v n m) : Calls Try.prog 43 #[.pointer v] w fun e w' => e = .returned (.int .i64 (Co.cnt n m : Int)) ∧ w' = w := by
  rcases h with ⟨rfl, rfl⟩ | ⟨p, gp, gt, rfl, hn, P, S, L, r, d, h, hf⟩
  · go_enter Try.func43, Try.ntmps43
    go_wp2
    go_ret
    exact ⟨rfl, rfl⟩
  · have c0 := h.c2
    clear h hf
    go_enter Try.func43, Try.ntmps43
    go_wp2
    go_ret
    exact ⟨rfl, rfl⟩

theorem root_of {w : World} {p gp gt n c : Nat} {P S L m r d : Nat → Nat} (h : SetsHolds w p gp gt n c P S L) (hf : Co.Forest n P S L m r d) {a : Nat} (ha : a < n) (k : Nat) :
    Calls Try.prog 59 #[.slice (some ⟨gp, 0, none⟩) n n, .int .i64 (a : Int)] (w.drewN k) fun e w' => e = .returned (.int .i64 (r a : Int)) ∧ w' = w.drewN k :=
  root_any gp n P r d a _ h.par hf.lt hf.self hf.up hf.deep ha

set_option maxRecDepth 100000 in
set_option maxHeartbeats 1000000 in
theorem least_any (v : Option Addr) (n : Nat) (m : Nat → Nat) (x : Int) (w : World) (h : IsSets w v n m) : Calls Try.prog 62 #[.pointer v, .int .i64 x] w fun e w' => e = .returned (.int .i64 (Co.leastI n m x)) ∧ ∃ k, w' = w.drewN k := by
  have HV := Nu.hid (has_any v n m x w h)
  by_cases hx : Co.isIn n x
  · rw [decide_eq_true hx] at HV
    unfold Co.leastI
    rw [if_pos hx]
    have hxl := Co.isIn_lt hx
    rcases h with ⟨rfl, rfl⟩ | ⟨p, gp, gt, rfl, hn, P, S, L, r, d, h, hf⟩
    · omega
    · obtain ⟨u, rfl⟩ : ∃ u : Nat, x = (u : Int) := ⟨x.toNat, by unfold Co.isIn at hx; omega⟩
      rw [Int.toNat_natCast] at hxl ⊢
      have HR := Nu.hid (fun k => root_of h hf hxl k)
      have c0 := h.c0
      have c1 := h.c1
      have hrl := hf.rt u hxl
      have d0 := (h.tre.cell hrl).2
      rw [hf.ls u hxl] at d0
      have r0 : (0 : Int) ≤ (r u : Int) := by omega
      have r1 : (r u : Int) < (n : Int) := by omega
      clear h hf hx
      go_enter Try.func62, Try.ntmps62
      go_wp2_with (go_at_call 58; refine HV.out.mono ?_; rintro e w1 ⟨rfl, rfl⟩)
      go_quiet ((go_at_call 59; exact Calls.quiet_of_same (HR.out _)))
      go_wp2
      go_ret
      exact ⟨rfl, nq, rfl⟩
  · rw [decide_eq_false hx] at HV
    unfold Co.leastI
    rw [if_neg hx]
    clear h hx
    go_enter Try.func62, Try.ntmps62
    go_wp2_with (go_at_call 58; refine HV.out.mono ?_; rintro e w1 ⟨rfl, rfl⟩)
    go_ret
    exact ⟨rfl, 0, rfl⟩

end Go.Proofs.Ytfkmldopfhdbkaa

/-
  The calls of a Sets that write: hang, with, Join; New.
-/
namespace Go.Proofs.Ytfkmldopfhdbkaa
open Go.RowKit

set_option maxRecDepth 100000 in
set_option maxHeartbeats 1000000 in
theorem hang_any (gp n : Nat) (P : Nat → Nat) (b a : Nat) (w : World) (hp : IntsIn w gp (Co.ints n P)) (hb : b < n) :
    Calls Try.prog 60 #[.slice (some ⟨gp, 0, none⟩) n n, .int .i64 (b : Int), .int .i64 (a : Int)] w fun e w' => e = .returned (.tuple #[]) ∧ IntsIn w' gp (Co.ints n (Co.upd P b a)) ∧ w' = w.setCell ⟨gp, b, none⟩ (.int .i64 (a : Int)) := by
  have c0 := hp.cell (Co.ints_at (f := P) hb)
  have cf := hp.free
  have n1 := hp.set (i := b) (by rw [Co.ints_length]; exact hb) (a : Int)
  rw [Co.ints_set a hb] at n1
  have N1 := Nu.hid n1
  have b0 : (0 : Int) ≤ (b : Int) := by omega
  have b1 : (b : Int) < (n : Int) := by omega
  clear hp n1
  go_enter Try.func60, Try.ntmps60
  go_wp2
  go_end0
  exact ⟨rfl, N1.out, rfl⟩

set_option maxRecDepth 100000 in
set_option maxHeartbeats 1000000 in
theorem with_any (s l s' l' : Nat) (w : World) (h1 : s ≤ 1048576) (h2 : s' ≤ 1048576) :
    Calls Try.prog 61 #[.agg #[.int .i64 (s : Int), .int .i64 (l : Int)], .agg #[.int .i64 (s' : Int), .int .i64 (l' : Int)]] w fun e w' => e = .returned (.agg #[.int .i64 ((s + s' : Nat) : Int), .int .i64 ((min l l' : Nat) : Int)]) ∧ Below w.heap.size w w' := by
  have hb0 : ∀ o1 o2 o3, Below w.heap.size w (((w.alloc o1).alloc o2).alloc o3) := fun o1 o2 o3 => (((Below.refl _ _).alloc (Nat.le_refl _) _).alloc (by simp) _).alloc (by simp; omega) _
  have HB := Nu.hid hb0
  clear hb0
  rcases Nat.le_total l l' with hl | hl
  · rw [Nat.min_eq_left hl]
    have e1 : min (l : Int) (l' : Int) = (l : Int) := by omega
    have e2 : ((s + s' : Nat) : Int) = (s : Int) + (s' : Int) := by omega
    have e3 : (l : Int) ≤ (l' : Int) := by omega
    rw [e2]
    clear e2 hl
    go_enter Try.func61, Try.ntmps61
    go_wp2
    refine bodyPost_ret (v := .agg #[.int .i64 ((s : Int) + (s' : Int)), .int .i64 (l : Int)]) (by simp [results, Try.results61, go_sem]) rfl ?_
    exact ⟨rfl, HB.out _ _ _⟩
  · rw [Nat.min_eq_right hl]
    have e2 : ((s + s' : Nat) : Int) = (s : Int) + (s' : Int) := by omega
    rw [e2]
    clear e2
    by_cases he : l' = l
    · subst he
      have e1 : min (l' : Int) (l' : Int) = (l' : Int) := by omega
      clear hl
      go_enter Try.func61, Try.ntmps61
      go_wp2
      refine bodyPost_ret (v := .agg #[.int .i64 ((s : Int) + (s' : Int)), .int .i64 (l' : Int)]) (by simp [results, Try.results61, go_sem]) rfl ?_
      exact ⟨rfl, HB.out _ _ _⟩
    · have e1 : min (l : Int) (l' : Int) = (l' : Int) := by omega
      have e3 : ¬ ((l : Int) ≤ (l' : Int)) := by omega
      have e4 : (l' : Int) < (l : Int) := by omega
      clear hl he
      go_enter Try.func61, Try.ntmps61
      go_wp2
      refine bodyPost_ret (v := .agg #[.int .i64 ((s : Int) + (s' : Int)), .int .i64 (l' : Int)]) (by simp [results, Try.results61, go_sem]) rfl ?_
      exact ⟨rfl, HB.out _ _ _⟩

/-- A Sets by its blocks; nil for none. -/
def SetsQ (w : World) (q : Option (Nat × Nat × Nat)) (n : Nat) (m : Nat → Nat) : Prop :=
  match q with
  | none => n = 0
  | some (p, gp, gt) => SetsOf w p gp gt n m

def ptrQ : Option (Nat × Nat × Nat) → Option Addr
  | none => none
  | some (p, _, _) => some ⟨p, 0, none⟩

def inQ : Option (Nat × Nat × Nat) → Nat → Prop
  | none, _ => False
  | some (p, gp, gt), b => b = p ∨ b = gp ∨ b = gt

section
variable {w w' : World} {q : Option (Nat × Nat × Nat)} {n : Nat} {m : Nat → Nat}
theorem SetsQ.is (h : SetsQ w q n m) : IsSets w (ptrQ q) n m := by
  rcases q with _ | ⟨p, gp, gt⟩
  · exact .inl ⟨rfl, h⟩
  · exact .inr ⟨p, gp, gt, rfl, h⟩
theorem SetsQ.later (h : SetsQ w q n m) (hb : Below w.heap.size w w') : SetsQ w' q n m := by
  rcases q with _ | ⟨p, gp, gt⟩
  · exact h
  · exact SetsOf.later h hb
theorem SetsQ.wrote {R : Nat → Prop} (h : SetsQ w q n m) (hb : Wrote R w w') (h1 : ∀ b, inQ q b → ¬ R b) : SetsQ w' q n m := by
  rcases q with _ | ⟨p, gp, gt⟩
  · exact h
  · exact SetsOf.wrote h hb (h1 p (.inl rfl)) (h1 gp (.inr (.inl rfl))) (h1 gt (.inr (.inr rfl)))
theorem SetsQ.lt (h : SetsQ w q n m) {b : Nat} (hb : inQ q b) : b < w.heap.size := by
  rcases q with _ | ⟨p, gp, gt⟩
  · cases hb
  · obtain ⟨h1, h2, h3⟩ := SetsOf.lts h
    rcases hb with rfl | rfl | rfl <;> assumption
theorem SetsQ.congr {m' : Nat → Nat} (h : SetsQ w q n m) (e : ∀ x, x < n → m x = m' x) : SetsQ w q n m' := by
  rcases q with _ | ⟨p, gp, gt⟩
  · exact h
  · exact SetsOf.congr h e
end

def JoinPost (q : Option (Nat × Nat × Nat)) (n : Nat) (m : Nat → Nat) (x y : Int) (w : World) (e : Ending) (w' : World) : Prop :=
  e = .returned (.bool (Co.apart n m x y)) ∧ SetsQ w' q n (Co.joinI n m x y) ∧ Wrote (inQ q) w w'

/-- The blocks behind the stores of a Join. -/
theorem joined_blocks {w W V1 : World} {p gp gt n c : Nat} {P S L : Nat → Nat} (h : SetsHolds w p gp gt n (c + 1) P S L) {A C : Nat} (hC : C < n) (hA : A < n) (s l : Nat) (hW : W = w.setCell ⟨gp, C, none⟩ (.int .i64 (A : Int))) (hV : Below W.heap.size W V1) :
    SetsHolds (((V1.setCell ⟨gt, A * 2, none⟩ (.int .i64 (s : Int))).setCell ⟨gt, A * 2 + 1, none⟩ (.int .i64 (l : Int))).setCell ⟨p, 2, none⟩ (.int .i64 (c : Int))) p gp gt n c (Co.upd P C A) (Co.upd S A s) (Co.upd L A l) ∧
    Wrote (fun b => b = p ∨ b = gp ∨ b = gt) w (((V1.setCell ⟨gt, A * 2, none⟩ (.int .i64 (s : Int))).setCell ⟨gt, A * 2 + 1, none⟩ (.int .i64 (l : Int))).setCell ⟨p, 2, none⟩ (.int .i64 (c : Int))) ∧
    SetsHolds V1 p gp gt n (c + 1) (Co.upd P C A) S L := by
  have hp := (h.par.set (i := C) (by rw [Co.ints_length]; exact hC) (A : Int))
  rw [Co.ints_set A hC, ← hW] at hp
  have hb : W.heap[p]? = w.heap[p]? := by rw [hW]; exact heap_setCell_other w ⟨gp, C, none⟩ p _ h.d1
  have ht : W.heap[gt]? = w.heap[gt]? := by rw [hW]; exact heap_setCell_other w ⟨gp, C, none⟩ gt _ (Ne.symm h.d3)
  have hsz : W.heap.size = w.heap.size := by rw [hW]; simp
  have p1 := hp.later hV
  have b1 : V1.heap[p]? = w.heap[p]? := (hV.block p (by rw [hsz]; exact h.lt)).trans hb
  have t1 : V1.heap[gt]? = w.heap[gt]? := (hV.block gt (by rw [hsz]; exact h.tre.lt)).trans ht
  have T1 := h.tre.same t1
  have T2 := (T1.put hA s l).1
  have p2 := ((p1.other (i := A * 2) h.d3 (.int .i64 (s : Int))).other (i := A * 2 + 1) h.d3 (.int .i64 (l : Int))).other (i := 2) (Ne.symm h.d1) (.int .i64 (c : Int))
  have W1 : Wrote (fun b => b = p ∨ b = gp ∨ b = gt) w V1 := by
    have : Wrote (fun b => b = p ∨ b = gp ∨ b = gt) w W := by rw [hW]; exact (Wrote.refl _ w).setCell (.inr (.inl rfl)) _
    exact this.later hV
  refine ⟨⟨?_, p2, T2.same (heap_setCell_other _ ⟨p, 2, none⟩ gt _ (Ne.symm h.d2)), h.d1, h.d2, h.d3⟩, ((W1.setCell (.inr (.inr rfl)) _).setCell (.inr (.inr rfl)) _).setCell (.inl rfl) _, ⟨b1.trans h.blk, p1, T1, h.d1, h.d2, h.d3⟩⟩
  have b3 : (((V1.setCell ⟨gt, A * 2, none⟩ (.int .i64 (s : Int))).setCell ⟨gt, A * 2 + 1, none⟩ (.int .i64 (l : Int)))).heap[p]? = some (.cells #[.slice (some ⟨gp, 0, none⟩) n n, .slice (some ⟨gt, 0, none⟩) n n, .int .i64 ((c + 1 : Nat) : Int)] 95 (0, 0)) := by
    rw [heap_setCell_other _ ⟨gt, A * 2 + 1, none⟩ p _ h.d2, heap_setCell_other _ ⟨gt, A * 2, none⟩ p _ h.d2, b1]
    exact h.blk
  rw [heap_setCell_same _ p 2 _ _ _ b3]
  simp

/-- What a Join's last regions find, and what they leave. -/
theorem join_mid {w W V1 : World} {p gp gt n c : Nat} {P S L : Nat → Nat} (h : SetsHolds w p gp gt n (c + 1) P S L) {A C : Nat} (hC : C < n) (hA : A < n) (s l : Nat) (hW : W = w.setCell ⟨gp, C, none⟩ (.int .i64 (A : Int))) (hV : Below W.heap.size W V1) :
    (V1.cell? ⟨p, 1, none⟩ = some (.slice (some ⟨gt, 0, none⟩) n n) ∧ V1.cell? ⟨gt, A * 2, none⟩ = some (.int .i64 (S A : Int)) ∧ V1.cell? ⟨gt, A * 2 + 1, none⟩ = some (.int .i64 (L A : Int)) ∧ V1.cell? ⟨gt, C * 2, none⟩ = some (.int .i64 (S C : Int)) ∧ V1.cell? ⟨gt, C * 2 + 1, none⟩ = some (.int .i64 (L C : Int)) ∧ (∀ i, V1.frozen? ⟨gt, i, none⟩ = false)) ∧
    ((V1.setCell ⟨gt, A * 2, none⟩ (.int .i64 (s : Int))).cell? ⟨gt, A * 2 + 1, none⟩ = some (.int .i64 (L A : Int)) ∧ (V1.setCell ⟨gt, A * 2, none⟩ (.int .i64 (s : Int))).frozen? ⟨gt, A * 2 + 1, none⟩ = false) ∧
    (((V1.setCell ⟨gt, A * 2, none⟩ (.int .i64 (s : Int))).setCell ⟨gt, A * 2 + 1, none⟩ (.int .i64 (l : Int))).cell? ⟨p, 1, none⟩ = some (.slice (some ⟨gt, 0, none⟩) n n) ∧ ((V1.setCell ⟨gt, A * 2, none⟩ (.int .i64 (s : Int))).setCell ⟨gt, A * 2 + 1, none⟩ (.int .i64 (l : Int))).cell? ⟨p, 2, none⟩ = some (.int .i64 ((c : Int) + 1)) ∧ ((V1.setCell ⟨gt, A * 2, none⟩ (.int .i64 (s : Int))).setCell ⟨gt, A * 2 + 1, none⟩ (.int .i64 (l : Int))).frozen? ⟨p, 2, none⟩ = false) := by
  obtain ⟨-, -, hv⟩ := joined_blocks h hC hA s l hW hV
  obtain ⟨a1, a2⟩ := hv.tre.cell hA
  obtain ⟨b1, b2⟩ := hv.tre.cell hC
  obtain ⟨-, q1, q2⟩ := hv.tre.put hA s l
  have hb : ((V1.setCell ⟨gt, A * 2, none⟩ (.int .i64 (s : Int))).setCell ⟨gt, A * 2 + 1, none⟩ (.int .i64 (l : Int))).heap[p]? = some (.cells #[.slice (some ⟨gp, 0, none⟩) n n, .slice (some ⟨gt, 0, none⟩) n n, .int .i64 ((c + 1 : Nat) : Int)] 95 (0, 0)) := by
    rw [heap_setCell_other _ ⟨gt, A * 2 + 1, none⟩ p _ h.d2, heap_setCell_other _ ⟨gt, A * 2, none⟩ p _ h.d2]
    exact hv.blk
  exact ⟨⟨hv.c1, a1, a2, b1, b2, hv.tre.free⟩, ⟨q1, q2⟩, by simp [World.cell?, hb], by simp [World.cell?, hb], by simp [World.frozen?, hb]⟩

end Go.Proofs.Ytfkmldopfhdbkaa
